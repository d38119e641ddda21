/-
  Stage 9: a text (the program).
-/
import Derived.Test.YtdoifaifhikkjaaGreatDoorLRead
import Derived.Lib.SplitLaws
set_option linter.unusedSimpArgs false
set_option linter.unusedVariables false
namespace Go.Proofs.YtdoifaifhikkjaaGreatDoor
open Go.RowKit Go.Lib

theorem ROwn.plain {T : TypeId} {w : World} {base n c : Nat} {A : Option Addr} {l : List El} (h : ROwn ER T w base (.slice A n c) l) : PlainA A := by
  rcases h.2 with ⟨e, _⟩ | ⟨g, cap, cur, e, _⟩
  · injection e with e _ _
    subst e; exact PlainA.none
  · injection e with e _ _
    subst e; exact PlainA.some _ _
/-- The lines of a text. -/
def lnsB (s : ByteArray) : List ByteArray := Lib.splitB ⟨#[10]⟩ 0 (Lib.countB s ⟨#[10]⟩) s
/-- What the lines say: the elements, the line of the first error, the error. -/
def linesE (es : List El) (f : Idx) (n : Nat) : List ByteArray → List El × Int × Int
  | [] => (es, 0, 0)
  | s :: t => if (lineE f (wdsB s)).1 = 0 then linesE (es ++ (lineE f (wdsB s)).2.toList) (nextI f es.length (lineE f (wdsB s)).2) (n + 1) t else ([], (n : Int) + 1, (lineE f (wdsB s)).1)
/-- What a text says. -/
def parseE (s : ByteArray) : List El × Int × Int :=
  if 16384 < s.size then ([], 0, 3)
  else if (linesE [] (fun _ => none) 0 (lnsB s)).2.2 ≠ 0 then ([], (linesE [] (fun _ => none) 0 (lnsB s)).2)
  else if validE (linesE [] (fun _ => none) 0 (lnsB s)).1 ≠ 0 then ([], 0, validE (linesE [] (fun _ => none) 0 (lnsB s)).1)
  else ((linesE [] (fun _ => none) 0 (lnsB s)).1, 0, 0)
theorem lns_len (s : ByteArray) : (lnsB s).length = Lib.countB s ⟨#[10]⟩ + 1 := Lib.splitB_all ⟨#[10]⟩ (by decide) 0 _ s rfl
theorem linesE_bad {es : List El} {f : Idx} {n : Nat} {s : ByteArray} {t : List ByteArray} (h : (lineE f (wdsB s)).1 ≠ 0) : linesE es f n (s :: t) = ([], (n : Int) + 1, (lineE f (wdsB s)).1) := by
  show (if _ then _ else _) = _
  rw [if_neg h]
theorem linesE_ok {es : List El} {f : Idx} {n : Nat} {s : ByteArray} {t : List ByteArray} (h : (lineE f (wdsB s)).1 = 0) : linesE es f n (s :: t) = linesE (es ++ (lineE f (wdsB s)).2.toList) (nextI f es.length (lineE f (wdsB s)).2) (n + 1) t := by
  show (if _ then _ else _) = _
  rw [if_pos h]
theorem splitB_sub (sep : ByteArray) : ∀ (k : Nat) (s : ByteArray), ∀ t ∈ Lib.splitB sep 0 k s, t.size ≤ s.size
  | 0, s, t, h => by
    have : t = s := by simpa [Lib.splitB] using h
    rw [this]; exact Nat.le_refl _
  | k + 1, s, t, h => by
    unfold Lib.splitB at h
    split at h
    · have : t = s := by simpa using h
      rw [this]; exact Nat.le_refl _
    · rcases List.mem_cons.1 h with h | h
      · rw [h, ByteArray.size_extract]; omega
      · have := splitB_sub sep k _ t h
        rw [ByteArray.size_extract] at this
        omega
theorem lines_sub (s : ByteArray) : ∀ t ∈ lnsB s, t.size ≤ s.size := splitB_sub _ _ s
theorem words_sub (s : ByteArray) : ∀ t ∈ wdsB s, t.size ≤ s.size := by
  intro t h
  unfold wdsB Lib.goFieldsP at h
  obtain ⟨x, _, rfl⟩ := List.mem_map.1 h
  rw [ByteArray.size_extract]; omega
theorem lns_few (s : ByteArray) : (lnsB s).length ≤ s.size + 1 := by
  have := Lib.countB_le ⟨#[10]⟩ (by decide) s.size s (Nat.le_refl _)
  rw [show (lnsB s).length = Lib.countB s ⟨#[10]⟩ + 1 from Lib.splitB_all ⟨#[10]⟩ (by decide) 0 _ s rfl]
  omega
theorem drop_exB {l : List ByteArray} {k : Nat} (hk : k < l.length) : ∃ x, l[k]? = some x ∧ l.drop k = x :: l.drop (k + 1) :=
  ⟨l[k], List.getElem?_eq_getElem hk, List.drop_eq_getElem_cons hk⟩
/-- Names that have been read are short. -/
def ShE (l : List El) : Prop := ∀ x ∈ l, nameS x.name = true
theorem lineE_name {f : Idx} {ws : List ByteArray} : ShE (lineE f ws).2.toList := by
  intro x hx
  unfold lineE at hx
  split at hx
  · simp at hx
  · split at hx
    · simp at hx
    · split at hx
      · simp at hx
      · split at hx
        · simp at hx
        · split at hx
          · simp at hx
          · rename_i hn
            have hn' : nameS (nth ws 1) = true := by simpa using hn
            split at hx
            · simp at hx; subst hx; exact hn'
            · split at hx
              · simp at hx
              · simp at hx; subst hx; exact hn'
/-- What a call of Parse leaves. -/
def PsPost (s : ByteArray) (w : World) (e : Ending) (w' : World) : Prop :=
  ∃ v, e = .returned (.tuple #[v, .int .i64 (parseE s).2.1, .int .i64 (parseE s).2.2]) ∧ ROwn ER 39 w' w.heap.size v (parseE s).1 ∧ Below w.heap.size w w'
/-- The world behind the cutting of the lines. -/
def w1w (w : World) (s : ByteArray) : World := ((w.alloc (.map #[] 0)).alloc (.cells #[.slice none 0 0, .map (some w.heap.size)] 61)).alloc (.cells ((lnsB s).map Value.string).toArray 9)
def w1b (w : World) (s : ByteArray) : Nat := (w1w w s).heap.size
theorem w1b_eq (w : World) (s : ByteArray) : w1b w s = w.heap.size + 3 := by unfold w1b w1w; simp
set_option maxRecDepth 100000 in
set_option maxHeartbeats 3200000 in
theorem parse_any (s : ByteArray) (w : World) (hs : s.size ≤ 1000000000) (D : Dor w) :
    Calls Tryz.prog 7 #[.string s] w (PsPost s w) := by
  by_cases hbig : 16384 < s.size
  · have HP := Lib.hid (show parseE s = ([], 0, 3) by unfold parseE; rw [if_pos hbig])
    have hb : (16384 : Int) < (s.size : Int) := by omega
    clear D hbig
    go_enter Tryz.func7, Tryz.ntmps7
    go_wp2_with fail
    go_ret3
    exact ⟨_, by rw [HP.out]; rfl, by rw [HP.out]; exact ROwn.nil, Below.refl _ _⟩
  · have hb : ¬ (16384 : Int) < (s.size : Int) := by omega
    obtain ⟨m, hm⟩ := D.ml
    have hmm : ∀ w, (Instr.makeMap 59 none).run Tryz.prog w = .ok (.map (some w.heap.size)) (w.alloc (.map #[] 0)) := fun w => by
      simp [Instr.makeMap, run_underlying Tryz.underlying59, Result.andThen, asInt, asIntOf]
    have HSP := Lib.hid (fun (W : World) (hb : Below w.heap.size w W) => (show Calls Tryz.prog 20 #[.string s, .string ⟨#[10]⟩] W (fun e w' => e = .returned (.slice (some ⟨W.heap.size, 0, none⟩) (Lib.countB s ⟨#[10]⟩ + 1) (Lib.countB s ⟨#[10]⟩ + 1)) ∧ w' = W.alloc (.cells ((lnsB s).map Value.string).toArray 9)) from by
      exact Any.strings_Split { splitS with } splitS.i9 s ⟨#[10]⟩ m W (by omega) ((hb.cell (lt_of_cell hm)).trans hm) (by decide)))
    clear hm
    go_enter Tryz.func7, Tryz.ntmps7
    go_wp2_with fail
    have HLN := lns_len s
    rw [← HLN] at HSP
    have b2 : Below w.heap.size w ((w.alloc (.map #[] 0)).alloc (.cells #[.slice none 0 0, .map (some w.heap.size)] 61)) := ((Below.refl _ _).alloc (Nat.le_refl _) _).alloc (by simp) _
    refine (HSP.out _ b2).mono ?_
    rintro e w' ⟨rfl, rfl⟩
    obtain ⟨L, hL⟩ : ∃ L, L = (lnsB s).length := ⟨_, rfl⟩
    have HL := Lib.hid hL
    have hlf := lns_few s
    rw [← hL] at hlf ⊢
    have HD := Lib.hid D
    have R0 : Rdr ((w.alloc (.map #[] 0)).alloc (.cells #[.slice none 0 0, .map (some w.heap.size)] 61)) (w1b w s) (w.heap.size + 1) w.heap.size 0 (.slice none 0 0) [] (fun _ => none) := by
      have e1 : (w.alloc (.map #[] 0)).heap.size = w.heap.size + 1 := by simp
      refine ⟨?_, ?_, ?_, ROwn.nil, (IMap.made w).alloc _, (fun e => by cases e), (fun e => by cases e)⟩
      · rw [← e1, cell_new]; rfl
      · rw [← e1, cell_new]; rfl
      · rw [← e1]; exact fz_new _ _ _ 0
    have R1 := R0.below ((Below.refl _ _).alloc (Nat.le_refl _) (.cells ((lnsB s).map Value.string).toArray 9))
    have B1 : Below w.heap.size w (((w.alloc (.map #[] 0)).alloc (.cells #[.slice none 0 0, .map (some w.heap.size)] 61)).alloc (.cells ((lnsB s).map Value.string).toArray 9)) := b2.alloc b2.size _
    have S1 : SRow (((w.alloc (.map #[] 0)).alloc (.cells #[.slice none 0 0, .map (some w.heap.size)] 61)).alloc (.cells ((lnsB s).map Value.string).toArray 9)) (some ⟨((w.alloc (.map #[] 0)).alloc (.cells #[.slice none 0 0, .map (some w.heap.size)] 61)).heap.size, 0, none⟩) (lnsB s) := by
      refine ⟨fun j u hj => ⟨_, rfl, by simp, ?_⟩, by rw [← hL]; unfold maxLen; omega⟩
      rw [add_own, cell_new]; simpa using hj
    obtain ⟨g, hg⟩ : ∃ g, g = ((w.alloc (.map #[] 0)).alloc (.cells #[.slice none 0 0, .map (some w.heap.size)] 61)).heap.size := ⟨_, rfl⟩
    have hg2 : g = w.heap.size + 2 := by rw [hg]; simp
    rw [← hg] at S1 ⊢
    have hbs := w1b_eq w s
    have hbw : w1b w s = (((w.alloc (.map #[] 0)).alloc (.cells #[.slice none 0 0, .map (some w.heap.size)] 61)).alloc (.cells ((lnsB s).map Value.string).toArray 9)).heap.size := rfl
    generalize ((w.alloc (.map #[] 0)).alloc (.cells #[.slice none 0 0, .map (some w.heap.size)] 61)).alloc (.cells ((lnsB s).map Value.string).toArray 9) = w1 at R1 S1 B1 hbw ⊢
    generalize w1b w s = base at R1 hbs hbw
    have HR1 := Lib.hid R1
    have HS1 := Lib.hid S1
    have HB1 := Lib.hid B1
    have HG := Lib.hid hg2
    have HBS := Lib.hid hbs
    have HBW := Lib.hid hbw
    clear hg2 hbs hbw
    have HPE := Lib.hid (show parseE s = (if (linesE [] (fun _ => none) 0 (lnsB s)).2.2 ≠ 0 then ([], (linesE [] (fun _ => none) 0 (lnsB s)).2) else if validE (linesE [] (fun _ => none) 0 (lnsB s)).1 ≠ 0 then ([], 0, validE (linesE [] (fun _ => none) 0 (lnsB s)).1) else ((linesE [] (fun _ => none) 0 (lnsB s)).1, 0, 0)) by unfold parseE; rw [if_neg hbig])
    have HSS := Lib.hid (show s.size ≤ 16384 by omega)
    clear HSP HLN b2 R0 R1 S1 B1 hg hL D hbig
    generalize hlf0 : s.size = sz at hb hlf ⊢
    clear hlf0
    go_upto_region 5 with fail
    go_loopw [18] (fun i wr => ∃ (k nm : Nat) (es : List El) (f : Idx) (v : Value), k ≤ L ∧ i = .int .i64 k ∧ nm ≤ k ∧ es.length ≤ k ∧ Hid (linesE [] (fun _ => none) 0 (lnsB s) = linesE es f k ((lnsB s).drop k)) ∧ Hid (Rdr wr base (w.heap.size + 1) w.heap.size nm v es f) ∧ Hid (KeepB base (w.heap.size + 1) w.heap.size w1 wr) ∧ Hid (ShE es)) (fun i _ => L - (intOf i).toNat)
    case atStart => exact ⟨0, 0, [], _, _, by omega, rfl, Nat.le_refl _, Nat.le_refl _, Lib.hid rfl, HR1, Lib.hid (KeepB.of (Below.refl _ _) (by rw [HBW.out]; exact Nat.le_refl _)), Lib.hid (fun x hx => by cases hx)⟩
    case round =>
      obtain ⟨k, nm, es, f, v, hk, rfl, hnm, hes, LE, RR, KB, SE⟩ := hrel
      have BW := Lib.hid (show Below w.heap.size w wr from HB1.out.trans (KB.out.below (by rw [HBS.out]; omega) (by omega) (Nat.le_refl _)))
      by_cases hlt : k < L
      · obtain ⟨t, ht, hd⟩ := drop_exB (l := lnsB s) (k := k) (by rw [← HL.out]; exact hlt)
        have hs2 := HS1.out.keepB KB.out (by rw [HG.out, HBS.out]; omega) (by rw [HG.out]; omega) (by rw [HG.out]; omega)
        obtain ⟨ad, e, _, hc⟩ := hs2.at_ ht
        injection e with e
        subst e
        rw [add_own] at hc
        have hts : t.size ≤ 16384 := Nat.le_trans (lines_sub s t (List.mem_of_getElem? ht)) HSS.out
        have HRA := Lib.hid (read_any t base (w.heap.size + 1) w.heap.size nm v es f wr hts RR.out (by have := KB.out.size; rw [HBW.out]; exact this) (HD.out.below BW.out) (by omega) (by omega) (fun u hu => Nat.le_trans (words_sub t u hu) (by omega)))
        have HLE := Lib.hid LE.out
        have HDR := Lib.hid hd
        clear ht hd hs2 hts LE
        go_wp2_with fail
        refine HRA.out.mono ?_
        rintro e w2 ⟨rfl, K2, S2, F2⟩
        have HK2 := Lib.hid (KB.out.trans K2)
        have HF2 := Lib.hid F2
        clear HRA K2 S2 F2 hc
        obtain ⟨le, hle⟩ : ∃ le, le = (lineE f (wdsB t)).1 := ⟨_, rfl⟩
        have HE := Lib.hid hle
        rw [← hle]
        by_cases h0 : le = 0
        · have ee : (le != 0) = false := by rw [h0]; rfl
          have HLE2 := Lib.hid (HLE.out.trans (by rw [HDR.out, linesE_ok (by rw [← hle]; exact h0)]))
          obtain ⟨v', nm', hn2, R2⟩ := HF2.out (by rw [← hle]; exact h0)
          have HR2 := Lib.hid R2
          have hl2 : (es ++ (lineE f (wdsB t)).2.toList).length ≤ k + 1 := by
            rw [List.length_append]
            cases (lineE f (wdsB t)).2 <;> simp <;> omega
          have HSE := Lib.hid (show ShE (es ++ (lineE f (wdsB t)).2.toList) from fun x hx => by
            rcases List.mem_append.1 hx with hx | hx
            · exact SE.out x hx
            · exact lineE_name x hx)
          clear hle h0 R2 HF2
          go_wp2_with fail
          go_roundw
          case rel => exact ⟨k + 1, nm', _, _, v', by omega, by go_num, by omega, hl2, HLE2, HR2, HK2, HSE⟩
          case measure => simp [intOf]; omega
        · have ee : (le != 0) = true := bne_iff_ne.2 h0
          have HLE2 := Lib.hid (HLE.out.trans (by rw [HDR.out, linesE_bad (by rw [← hle]; exact h0), ← hle]))
          have HPV := Lib.hid (show parseE s = ([], (k : Int) + 1, le) by rw [HPE.out, HLE2.out, if_pos (show (([], (k : Int) + 1, le) : List El × Int × Int).2.2 ≠ 0 from h0)])
          have BF := Lib.hid (show Below w.heap.size w w2 from HB1.out.trans (HK2.out.below (by rw [HBS.out]; omega) (by omega) (Nat.le_refl _)))
          clear hle h0 HF2 HLE2 HLE
          go_wp2_with fail
          go_ret3
          exact ⟨_, by rw [HPV.out]; rfl, by rw [HPV.out]; exact ROwn.nil, BF.out⟩
      · obtain rfl : k = L := by omega
        have hle := LE.out
        rw [HL.out, List.drop_length] at hle
        have HLE := Lib.hid (show linesE [] (fun _ => none) 0 (lnsB s) = (es, 0, 0) from hle)
        obtain ⟨A0, cc, rfl, RW, hlc, hcm, hA0, hA1⟩ := RR.out.own.full
        have r0 := RR.out.c0
        have HVA := Lib.hid (valid_any es A0 cc wr RW RR.out.own.plain hlc (HD.out.below BW.out) (fun x hx => by have := (nameS_size (SE.out x hx)).2; unfold maxLen; omega))
        obtain ⟨ve, hve⟩ : ∃ ve, ve = validE es := ⟨_, rfl⟩
        have HVE := Lib.hid hve
        clear hle RW hlc hcm hA0 hA1 hve hlt
        go_wp2_with fail
        refine HVA.out.mono ?_
        rintro e w2 ⟨rfl, B2⟩
        have r2 := (B2.cell (p := ⟨w.heap.size + 1, 0, none⟩) (lt_of_cell r0)).trans r0
        have BF := Lib.hid (BW.out.trans (B2.mono BW.out.size))
        have OF := Lib.hid ((RR.out.own.below B2).base (base' := w.heap.size) (by rw [HBS.out]; omega))
        rw [← HVE.out]
        clear HVA B2 r0
        by_cases h0 : ve = 0
        · have ee : (ve != 0) = false := by rw [h0]; rfl
          have HPV := Lib.hid (show parseE s = (es, 0, 0) by rw [HPE.out, HLE.out]; simp only; rw [if_neg (fun g => g rfl), if_neg (by rw [← HVE.out]; exact fun g => g h0)])
          clear h0
          go_wp2_with fail
          go_ret3
          exact ⟨_, by rw [HPV.out]; rfl, by rw [HPV.out]; exact OF.out, BF.out⟩
        · have ee : (ve != 0) = true := bne_iff_ne.2 h0
          have HPV := Lib.hid (show parseE s = ([], 0, ve) by rw [HPE.out, HLE.out]; simp only; rw [if_neg (fun g => g rfl), if_pos (by rw [← HVE.out]; exact h0), ← HVE.out])
          clear h0
          go_wp2_with fail
          go_ret3
          exact ⟨_, by rw [HPV.out]; rfl, by rw [HPV.out]; exact ROwn.nil, BF.out⟩
end Go.Proofs.YtdoifaifhikkjaaGreatDoor
