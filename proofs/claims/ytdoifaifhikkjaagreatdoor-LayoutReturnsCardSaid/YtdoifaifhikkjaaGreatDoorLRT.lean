/-
  Stage 9, plain: a valid layout is read as it is written.
-/
import Derived.Test.YtdoifaifhikkjaaGreatDoorLRLine
set_option linter.unusedSimpArgs false
set_option linter.unusedVariables false
namespace Go.Proofs.YtdoifaifhikkjaaGreatDoor
open Go.RowKit Go.Lib

instance (c : UInt8) : Decidable (wch c) := by unfold wch; infer_instance
def wrd (w : List UInt8) : Prop := w ≠ [] ∧ ∀ c ∈ w, wch c
theorem wch_of {c : UInt8} (h : 33 ≤ c.toNat ∧ c.toNat < 128) : wch c := by
  refine ⟨h.2, fun e => ?_, fun e => ?_⟩ <;> subst e
  · have : (32 : UInt8).toNat = 32 := rfl
    omega
  · have : (10 : UInt8).toNat = 10 := rfl
    omega
theorem wrd_nameR {s : ByteArray} (h : nameS s = true) : wrd s.data.toList := by
  have hz := nameS_size h
  refine ⟨fun e => ?_, fun c hc => ?_⟩
  · have : s.data.toList.length = s.size := rfl
    rw [e] at this
    simp at this
    omega
  · unfold nameS at h
    rw [Bool.and_eq_true] at h
    have := List.all_eq_true.1 h.2 c hc
    unfold nmc at this
    have := of_decide_eq_true this
    exact wch_of (by omega)
theorem wrd_itoa (z : Int) : wrd (Lib.itoa z) := by
  have key : ∀ u, wrd (Lib.decDigits u) := fun u => ⟨dec_ne u, fun c hc => wch_of (by have := dgc_bd (dec_dig u c hc); omega)⟩
  unfold Lib.itoa
  split
  · refine ⟨by simp, fun c hc => ?_⟩
    rcases List.mem_cons.1 hc with rfl | hc
    · decide
    · exact (key _).2 c hc
  · exact key _
theorem nd_le : ∀ (f u : Nat), u < 10 ^ (f + 1) → Lib.nDigits u ≤ f + 1
  | 0, u, h => by
    rw [Lib.nDigits, dif_pos (by simpa using h)]; omega
  | f + 1, u, h => by
    rw [Lib.nDigits]
    split
    · omega
    · have := nd_le f (u / 10) (by rw [Nat.pow_succ] at h; omega)
      omega
theorem itoa_len11 {z : Int} (h : -1000000000 ≤ z ∧ z ≤ 1000000000) : (Lib.itoa z).length ≤ 11 := by
  by_cases h0 : z < 0
  · obtain ⟨u, rfl⟩ : ∃ u : Nat, z = -(u : Int) := ⟨z.natAbs, by omega⟩
    rw [Lib.itoa_neg u (by omega), List.length_cons, Lib.decDigits_length]
    have := nd_le 9 u (by omega)
    omega
  · obtain ⟨u, rfl⟩ : ∃ u : Nat, z = (u : Int) := ⟨z.toNat, by omega⟩
    rw [Lib.itoa_nonneg, Lib.decDigits_length]
    have := nd_le 9 u (by omega)
    omega
abbrev wlE (x : El) (l : List El) : List (List UInt8) := (wofE x l).map (·.data.toList)
/-- What is in a line's words. -/
theorem words_of {l : List El} {k : Nat} {x : El} (hv : validE l = 0) (hk : l[k]? = some x) : (∀ w ∈ wlE x l, wrd w) ∧ wlE x l ≠ [] ∧ (Lib.join (wlE x l) [32]).length ≤ 127 := by
  have hst := vlE_zero (valid_vl hv) hk
  rw [List.nil_append] at hst
  obtain ⟨s1, s2, s3, s4⟩ := stepE_parts hst
  have O := okW_of hv (List.mem_of_getElem? hk)
  have hnm := soundE_name s1
  have hn12 := (nameS_size hnm).2
  have par : x.kind ≠ 0 → wrd (parW x l).data.toList ∧ (parW x l).data.toList.length ≤ 18 := fun h0 => by
    obtain ⟨p1, p2, _⟩ := placeE_parts s4 h0
    have hlt : x.par.toNat < (l.take k).length := by omega
    obtain ⟨y, hy⟩ : ∃ y, (l.take k)[x.par.toNat]? = some y := ⟨_, List.getElem?_eq_getElem hlt⟩
    have hy2 : l[x.par.toNat]? = some y := by
      rw [List.getElem?_take] at hy
      split at hy
      · exact hy
      · cases hy
    have e : l.getD x.par.toNat zeroE = y := by rw [List.getD_eq_getElem?_getD, hy2]; rfl
    have hst2 := vlE_zero (valid_vl hv) hy2
    have hny := soundE_name (stepE_parts hst2).1
    have hny2 := (nameS_size hny).2
    have hs := O.s
    unfold parW
    rw [e, ByteArray.data_append, Array.toList_append]
    have hsx : (∀ c ∈ sxL.getD x.side.toNat [], wch c) ∧ (sxL.getD x.side.toNat []).length ≤ 6 := by
      rcases (by omega : x.side.toNat = 0 ∨ x.side.toNat = 1 ∨ x.side.toNat = 2) with h | h | h <;> rw [h] <;> exact ⟨by decide, by decide⟩
    refine ⟨⟨fun g => (wrd_nameR hny).1 (List.append_eq_nil_iff.1 g).1, fun c hc => ?_⟩, ?_⟩
    · rcases List.mem_append.1 hc with hc | hc
      · exact (wrd_nameR hny).2 c hc
      · exact hsx.1 c hc
    · rw [List.length_append]
      have : y.name.data.toList.length = y.name.size := rfl
      have := hsx.2
      show _ + (sxL.getD x.side.toNat []).length ≤ 18
      omega
  have hK := O.k
  have hN := O.n
  have wn := wrd_nameR hnm
  have ln : x.name.data.toList.length ≤ 12 := hn12
  clear s1 s2 s3 s4 hst O hnm hn12
  obtain ⟨ki, nm, pa, si, le, gr, cu, po⟩ := x
  simp only at hK hN wn ln par
  obtain ⟨b1, b2, b3, b4⟩ := hN
  have l1 := itoa_len11 b1
  have l2 := itoa_len11 b2
  have l3 := itoa_len11 b3
  have l4 := itoa_len11 b4
  have w1 := wrd_itoa le
  have w2 := wrd_itoa gr
  have w3 := wrd_itoa cu
  have w4 := wrd_itoa po
  have kw : ∀ K, K < 5 → wrd (kwL.getD K []) ∧ (kwL.getD K []).length ≤ 8 := fun K h => by
    rcases (by omega : K = 0 ∨ K = 1 ∨ K = 2 ∨ K = 3 ∨ K = 4) with rfl | rfl | rfl | rfl | rfl <;> exact ⟨⟨by decide, by decide⟩, by decide⟩
  rcases (by omega : ki = 0 ∨ ki = 1 ∨ ki = 2 ∨ ki = 3 ∨ ki = 4) with rfl | rfl | rfl | rfl | rfl
  · have hw : wlE ⟨0, nm, pa, si, le, gr, cu, po⟩ l = [kwL.getD 0 [], nm.data.toList] := rfl
    rw [hw]
    have := kw 0 (by omega)
    refine ⟨fun w hm => ?_, by simp, ?_⟩
    · simp only [List.mem_cons, List.not_mem_nil, or_false] at hm
      rcases hm with rfl | rfl
      · exact this.1
      · exact wn
    · rw [Lib.join_cons]
      simp only [Lib.joinTail, List.map_cons, List.map_nil, List.flatten_cons, List.flatten_nil, List.length_append, List.length_cons, List.length_nil]
      omega
  · have hw : wlE ⟨1, nm, pa, si, le, gr, cu, po⟩ l = [kwL.getD 1 [], nm.data.toList, (parW ⟨1, nm, pa, si, le, gr, cu, po⟩ l).data.toList, Lib.itoa le, Lib.itoa gr, Lib.itoa cu] := rfl
    rw [hw]
    have := kw 1 (by omega)
    obtain ⟨wp, lp⟩ := par (by decide)
    refine ⟨fun w hm => ?_, by simp, ?_⟩
    · simp only [List.mem_cons, List.not_mem_nil, or_false] at hm
      rcases hm with rfl | rfl | rfl | rfl | rfl | rfl
      · exact this.1
      · exact wn
      · exact wp
      · exact w1
      · exact w2
      · exact w3
    · rw [Lib.join_cons]
      simp only [Lib.joinTail, List.map_cons, List.map_nil, List.flatten_cons, List.flatten_nil, List.length_append, List.length_cons, List.length_nil]
      omega
  · have hw : wlE ⟨2, nm, pa, si, le, gr, cu, po⟩ l = [kwL.getD 2 [], nm.data.toList, (parW ⟨2, nm, pa, si, le, gr, cu, po⟩ l).data.toList, Lib.itoa le, Lib.itoa gr, Lib.itoa cu, Lib.itoa po] := rfl
    rw [hw]
    have := kw 2 (by omega)
    obtain ⟨wp, lp⟩ := par (by decide)
    refine ⟨fun w hm => ?_, by simp, ?_⟩
    · simp only [List.mem_cons, List.not_mem_nil, or_false] at hm
      rcases hm with rfl | rfl | rfl | rfl | rfl | rfl | rfl
      · exact this.1
      · exact wn
      · exact wp
      · exact w1
      · exact w2
      · exact w3
      · exact w4
    · rw [Lib.join_cons]
      simp only [Lib.joinTail, List.map_cons, List.map_nil, List.flatten_cons, List.flatten_nil, List.length_append, List.length_cons, List.length_nil]
      omega
  · have hw : wlE ⟨3, nm, pa, si, le, gr, cu, po⟩ l = [kwL.getD 3 [], nm.data.toList, (parW ⟨3, nm, pa, si, le, gr, cu, po⟩ l).data.toList, Lib.itoa le, Lib.itoa gr, Lib.itoa cu] := rfl
    rw [hw]
    have := kw 3 (by omega)
    obtain ⟨wp, lp⟩ := par (by decide)
    refine ⟨fun w hm => ?_, by simp, ?_⟩
    · simp only [List.mem_cons, List.not_mem_nil, or_false] at hm
      rcases hm with rfl | rfl | rfl | rfl | rfl | rfl
      · exact this.1
      · exact wn
      · exact wp
      · exact w1
      · exact w2
      · exact w3
    · rw [Lib.join_cons]
      simp only [Lib.joinTail, List.map_cons, List.map_nil, List.flatten_cons, List.flatten_nil, List.length_append, List.length_cons, List.length_nil]
      omega
  · have hw : wlE ⟨4, nm, pa, si, le, gr, cu, po⟩ l = [kwL.getD 4 [], nm.data.toList, (parW ⟨4, nm, pa, si, le, gr, cu, po⟩ l).data.toList, Lib.itoa le, Lib.itoa gr, Lib.itoa cu] := rfl
    rw [hw]
    have := kw 4 (by omega)
    obtain ⟨wp, lp⟩ := par (by decide)
    refine ⟨fun w hm => ?_, by simp, ?_⟩
    · simp only [List.mem_cons, List.not_mem_nil, or_false] at hm
      rcases hm with rfl | rfl | rfl | rfl | rfl | rfl
      · exact this.1
      · exact wn
      · exact wp
      · exact w1
      · exact w2
      · exact w3
    · rw [Lib.join_cons]
      simp only [Lib.joinTail, List.map_cons, List.map_nil, List.flatten_cons, List.flatten_nil, List.length_append, List.length_cons, List.length_nil]
      omega
/-- A valid layout is read as it is written. -/
theorem round_trip : RoundT := by
  intro l hv
  have hlen : l.length ≤ 128 := by
    unfold validE at hv
    split at hv
    · cases hv
    · omega
  have hf : (fmtE l).1 = bs (textE l l.length) := by unfold fmtE; rw [if_pos hv]
  have htx : textE l l.length = ((l.map fun x => Lib.join (wlE x l) [32]).map (· ++ [10])).flatten := by
    unfold textE
    rw [List.take_length, List.map_map]
    rfl
  have hsz : ∀ k, k ≤ l.length → (textE l k).length ≤ k * 128 := by
    intro k
    induction k with
    | zero => intro _; simp [textE]
    | succ k ih =>
      intro h
      obtain ⟨x, hx, _, ht⟩ := drop_ex (l := l) (k := k) (by omega)
      have := (words_of hv hx).2.2
      rw [textE_snoc ht, List.length_append]
      have ih := ih (by omega)
      unfold lineT
      rw [List.length_append]
      simp only [List.length_cons, List.length_nil]
      show _ + ((Lib.join (wlE x l) [32]).length + (0 + 1)) ≤ _
      omega
  have hs1 := hsz l.length (Nat.le_refl _)
  have hlines : lnsB (bs (textE l l.length)) = (l.map fun x => bs (Lib.join (wlE x l) [32])) ++ [bs []] := by
    rw [htx, lns_flat]
    · rw [List.map_map]; rfl
    · intro a ha hm
      obtain ⟨x, hx, rfl⟩ := List.mem_map.1 ha
      obtain ⟨k, hk⟩ := List.mem_iff_getElem?.1 hx
      obtain ⟨h1, h2, _⟩ := words_of hv hk
      generalize wlE x l = ws at h1 h2 hm
      cases ws with
      | nil => exact h2 rfl
      | cons w r =>
        rw [Lib.join_cons] at hm
        rcases List.mem_append.1 hm with hm | hm
        · exact ((h1 w (by simp)).2 10 hm).2.2 rfl
        · unfold Lib.joinTail at hm
          obtain ⟨q, hq, hm⟩ := List.mem_flatten.1 hm
          obtain ⟨y, hy, rfl⟩ := List.mem_map.1 hq
          rcases List.mem_append.1 hm with hm | hm
          · exact absurd hm (by decide)
          · exact ((h1 y (List.mem_cons_of_mem _ hy)).2 10 hm).2.2 rfl
  have hwords : ∀ (k : Nat) (x : El), l[k]? = some x → wdsB (bs (Lib.join (wlE x l) [32])) = wofE x l := by
    intro k x hk
    obtain ⟨h1, h2, _⟩ := words_of hv hk
    have hb : (wlE x l).map bs = wofE x l := by
      rw [List.map_map]
      have : (bs ∘ fun (x : ByteArray) => x.data.toList) = id := by funext s; exact bs_list s
      rw [this, List.map_id]
    generalize wlE x l = ws at h1 h2 hb ⊢
    cases ws with
    | nil => exact absurd rfl h2
    | cons w r =>
      rw [wds_join (h1 w (by simp)).1 (h1 w (by simp)).2 (fun y hy => h1 y (List.mem_cons_of_mem _ hy)), ← hb]
      rfl
  have hend : ∀ es f n, linesE es f n [bs []] = (es, 0, 0) := by
    intro es f n
    have hw : wdsB (bs []) = [] := rfl
    have hl : lineE f (wdsB (bs [])) = (0, none) := by rw [hw]; exact lineE_com rfl
    rw [linesE_ok (by rw [hl]), hl]
    show ((es ++ []), (0 : Int), (0 : Int)) = _
    rw [List.append_nil]
  have main : ∀ (m k : Nat) (f : Idx), k + m = l.length → IdxOk f (l.take k) → linesE (l.take k) f k ((l.drop k).map (fun x => bs (Lib.join (wlE x l) [32])) ++ [bs []]) = (l, 0, 0) := by
    intro m
    induction m with
    | zero =>
      intro k f hk F
      have hk' : k = l.length := by omega
      subst hk'
      rw [List.drop_length, List.take_length, List.map_nil, List.nil_append]
      exact hend _ _ _
    | succ m ih =>
      intro k f hk F
      obtain ⟨x, hx, hd, ht⟩ := drop_ex (l := l) (k := k) (by omega)
      rw [hd, List.map_cons, List.cons_append]
      have hl : lineE f (wdsB (bs (Lib.join (wlE x l) [32]))) = (0, some x) := by
        rw [hwords k x hx]; exact line_of hv hx F
      rw [linesE_ok (by rw [hl]), hl]
      have hst := vlE_zero (valid_vl hv) hx
      rw [List.nil_append] at hst
      obtain ⟨s1, _, s3, _⟩ := stepE_parts hst
      have F2 := F.snoc (soundE_name s1) s3
      have hlk : (l.take k).length = k := by rw [List.length_take]; omega
      have := ih (k + 1) (updI f x.name (l.take k).length) (by omega) (by rw [ht]; exact F2)
      rw [ht] at this
      exact this
  have hm := main l.length 0 (fun _ => none) (by omega) IdxOk.start
  rw [List.drop_zero, List.take_zero] at hm
  have hm2 : linesE [] (fun _ => none) 0 (lnsB (bs (textE l l.length))) = (l, 0, 0) := by rw [hlines]; exact hm
  rw [hf]
  unfold parseE
  rw [hm2, if_neg (by show ¬ 16384 < (textE l l.length).length; omega), if_neg (by simp), if_neg (by simp only [hv]; decide)]
end Go.Proofs.YtdoifaifhikkjaaGreatDoor
