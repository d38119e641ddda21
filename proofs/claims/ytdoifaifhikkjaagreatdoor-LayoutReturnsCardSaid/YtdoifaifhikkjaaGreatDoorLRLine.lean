/-
  Stage 9, plain: a line is read as it is written.
-/
import Derived.Test.YtdoifaifhikkjaaGreatDoorLRPar
set_option linter.unusedSimpArgs false
set_option linter.unusedVariables false
namespace Go.Proofs.YtdoifaifhikkjaaGreatDoor
open Go.RowKit Go.Lib

theorem nums_ok {zs : List Int} (h : ∀ z ∈ zs, -1000000000 ≤ z ∧ z ≤ 1000000000) : numsE (zs.map itoB) = 0 := by
  have h1 : (zs.map itoB).all (fun s => isNumL s.data.toList) = true := List.all_eq_true.2 fun s hs => by
    obtain ⟨z, hz, rfl⟩ := List.mem_map.1 hs
    exact num_itoa
  have h2 : (zs.map itoB).all (fun s => (goodNum s.data.toList).isSome) = true := List.all_eq_true.2 fun s hs => by
    obtain ⟨z, hz, rfl⟩ := List.mem_map.1 hs
    show (goodNum (Lib.itoa z)).isSome = true
    rw [good_itoa (h z hz)]; rfl
  unfold numsE
  rw [h1, h2]
  rfl
theorem numsR_at {zs : List Int} (h : ∀ z ∈ zs, -1000000000 ≤ z ∧ z ≤ 1000000000) (j : Nat) : numsR (zs.map itoB) j = (zs[j]?).getD 0 := by
  unfold numsR
  rw [if_pos (nums_ok h)]
  unfold numV
  rw [List.getElem?_map]
  cases hz : zs[j]? with
  | none => rfl
  | some z =>
    show ((goodNum (Lib.itoa z))).getD 0 = z
    rw [good_itoa (h z (List.mem_of_getElem? hz))]; rfl
theorem valid_vl {l : List El} (hv : validE l = 0) : vlE [] l = 0 := by
  unfold validE at hv
  split at hv
  · cases hv
  · split at hv
    · cases hv
    · split at hv
      · assumption
      · exact hv
theorem line_of {l : List El} {k : Nat} {x : El} {f : Idx} (hv : validE l = 0) (hk : l[k]? = some x) (F : IdxOk f (l.take k)) : lineE f (wofE x l) = (0, some x) := by
  have hst := vlE_zero (valid_vl hv) hk
  rw [List.nil_append] at hst
  obtain ⟨s1, s2, s3, s4⟩ := stepE_parts hst
  have O := okW_of hv (List.mem_of_getElem? hk)
  have hnm := soundE_name s1
  have par : x.kind ≠ 0 → ∃ y, (l.take k)[x.par.toNat]? = some y ∧ parV f (parW x l).data.toList = (x.par, x.side, true) := fun h0 => by
    obtain ⟨p1, p2, _⟩ := placeE_parts s4 h0
    have hlt : x.par.toNat < (l.take k).length := by omega
    obtain ⟨y, hy⟩ : ∃ y, (l.take k)[x.par.toNat]? = some y := ⟨_, List.getElem?_eq_getElem hlt⟩
    have hy2 : l[x.par.toNat]? = some y := by
      rw [List.getElem?_take] at hy
      split at hy
      · exact hy
      · cases hy
    refine ⟨y, hy, ?_⟩
    unfold parW
    have e : l.getD x.par.toNat zeroE = y := by rw [List.getD_eq_getElem?_getD, hy2]; rfl
    have hs := O.s
    rw [e, par_of F hy (sd := x.side.toNat) (by omega)]
    rw [show ((x.par.toNat : Nat) : Int) = x.par by omega, show ((x.side.toNat : Nat) : Int) = x.side by omega]
  have hK := O.k
  clear s2 s3 s4 hst
  obtain ⟨ki, nm, pa, si, le, gr, cu, po⟩ := x
  simp only at hK hnm par
  rcases (by omega : ki = 0 ∨ ki = 1 ∨ ki = 2 ∨ ki = 3 ∨ ki = 4) with rfl | rfl | rfl | rfl | rfl
  · have hw : wofE ⟨0, nm, pa, si, le, gr, cu, po⟩ l = [bs (kwL.getD 0 []), nm] := rfl
    have hc : pa = -1 ∧ si = 0 ∧ le = 0 ∧ gr = 0 ∧ cu = 0 ∧ po = 0 := by
      unfold soundE at s1
      rw [if_pos rfl, Bool.and_eq_true] at s1
      exact of_decide_eq_true s1.2
    obtain ⟨rfl, rfl, rfl, rfl, rfl, rfl⟩ := hc
    rw [hw, lineE_num (ws := [bs (kwL.getD 0 []), nm]) (k := 0) rfl (show kindI (kwL.getD 0 []) = some 0 by decide) rfl]
    have ht : tailN [bs (kwL.getD 0 []), nm] 0 = ([] : List Int).map itoB := rfl
    have hz : ∀ z ∈ ([] : List Int), -1000000000 ≤ z ∧ z ≤ 1000000000 := fun z hz => by cases hz
    have hn1 : nth [bs (kwL.getD 0 []), nm] 1 = nm := rfl
    have n0 := numsR_at hz 0
    have n1 := numsR_at hz 1
    have n2 := numsR_at hz 2
    have n3 := numsR_at hz 3
    rw [ht, nums_ok hz, if_neg (by decide), hn1, if_neg (by rw [hnm]; exact fun g => by cases g), if_pos rfl]
    unfold elC
    rw [ht, hn1, n0, n1, n2, n3]
    rfl
  · have hw : wofE ⟨1, nm, pa, si, le, gr, cu, po⟩ l = [bs (kwL.getD 1 []), nm, parW ⟨1, nm, pa, si, le, gr, cu, po⟩ l] ++ ([le, gr, cu] : List Int).map itoB := rfl
    have hz : ∀ z ∈ ([le, gr, cu] : List Int), -1000000000 ≤ z ∧ z ≤ 1000000000 := by
      obtain ⟨a1, a2, a3, a4⟩ := O.n
      intro z hz
      simp only [List.mem_cons, List.not_mem_nil, or_false] at hz
      rcases hz with rfl | rfl | rfl <;> assumption
    have hpo : po = 0 := by unfold soundE at s1; simpa using (show _ ∧ _ by simpa [Bool.and_eq_true] using s1).2
    obtain ⟨y, hy, hp⟩ := par (by simp)
    have ht : tailN ([bs (kwL.getD 1 []), nm, parW ⟨1, nm, pa, si, le, gr, cu, po⟩ l] ++ ([le, gr, cu] : List Int).map itoB) 1 = ([le, gr, cu] : List Int).map itoB := rfl
    have n0 := numsR_at hz 0
    have n1 := numsR_at hz 1
    have n2 := numsR_at hz 2
    have n3 := numsR_at hz 3
    have hne := nums_ok hz
    rw [hw, lineE_num (ws := [bs (kwL.getD 1 []), nm, parW ⟨1, nm, pa, si, le, gr, cu, po⟩ l] ++ ([le, gr, cu] : List Int).map itoB) (k := 1) rfl (show kindI (kwL.getD 1 []) = some 1 by decide) rfl, ht, hne, if_neg (by decide)]
    have hn1 : nth ([bs (kwL.getD 1 []), nm, parW ⟨1, nm, pa, si, le, gr, cu, po⟩ l] ++ ([le, gr, cu] : List Int).map itoB) 1 = nm := rfl
    have hn2 : nth ([bs (kwL.getD 1 []), nm, parW ⟨1, nm, pa, si, le, gr, cu, po⟩ l] ++ ([le, gr, cu] : List Int).map itoB) 2 = parW ⟨1, nm, pa, si, le, gr, cu, po⟩ l := rfl
    rw [hn1, hn2, if_neg (by rw [hnm]; exact fun g => by cases g), if_neg (by decide), hp, if_neg (by simp)]
    unfold elP
    rw [ht, hn1, n0, n1, n2, n3]
    rw [hpo]; rfl
  · have hw : wofE ⟨2, nm, pa, si, le, gr, cu, po⟩ l = [bs (kwL.getD 2 []), nm, parW ⟨2, nm, pa, si, le, gr, cu, po⟩ l] ++ ([le, gr, cu, po] : List Int).map itoB := rfl
    have hz : ∀ z ∈ ([le, gr, cu, po] : List Int), -1000000000 ≤ z ∧ z ≤ 1000000000 := by
      obtain ⟨a1, a2, a3, a4⟩ := O.n
      intro z hz
      simp only [List.mem_cons, List.not_mem_nil, or_false] at hz
      rcases hz with rfl | rfl | rfl | rfl <;> assumption
    have hpo : True := trivial
    obtain ⟨y, hy, hp⟩ := par (by simp)
    have ht : tailN ([bs (kwL.getD 2 []), nm, parW ⟨2, nm, pa, si, le, gr, cu, po⟩ l] ++ ([le, gr, cu, po] : List Int).map itoB) 2 = ([le, gr, cu, po] : List Int).map itoB := rfl
    have n0 := numsR_at hz 0
    have n1 := numsR_at hz 1
    have n2 := numsR_at hz 2
    have n3 := numsR_at hz 3
    have hne := nums_ok hz
    rw [hw, lineE_num (ws := [bs (kwL.getD 2 []), nm, parW ⟨2, nm, pa, si, le, gr, cu, po⟩ l] ++ ([le, gr, cu, po] : List Int).map itoB) (k := 2) rfl (show kindI (kwL.getD 2 []) = some 2 by decide) rfl, ht, hne, if_neg (by decide)]
    have hn1 : nth ([bs (kwL.getD 2 []), nm, parW ⟨2, nm, pa, si, le, gr, cu, po⟩ l] ++ ([le, gr, cu, po] : List Int).map itoB) 1 = nm := rfl
    have hn2 : nth ([bs (kwL.getD 2 []), nm, parW ⟨2, nm, pa, si, le, gr, cu, po⟩ l] ++ ([le, gr, cu, po] : List Int).map itoB) 2 = parW ⟨2, nm, pa, si, le, gr, cu, po⟩ l := rfl
    rw [hn1, hn2, if_neg (by rw [hnm]; exact fun g => by cases g), if_neg (by decide), hp, if_neg (by simp)]
    unfold elP
    rw [ht, hn1, n0, n1, n2, n3]
    rfl
  · have hw : wofE ⟨3, nm, pa, si, le, gr, cu, po⟩ l = [bs (kwL.getD 3 []), nm, parW ⟨3, nm, pa, si, le, gr, cu, po⟩ l] ++ ([le, gr, cu] : List Int).map itoB := rfl
    have hz : ∀ z ∈ ([le, gr, cu] : List Int), -1000000000 ≤ z ∧ z ≤ 1000000000 := by
      obtain ⟨a1, a2, a3, a4⟩ := O.n
      intro z hz
      simp only [List.mem_cons, List.not_mem_nil, or_false] at hz
      rcases hz with rfl | rfl | rfl <;> assumption
    have hpo : po = 0 := by unfold soundE at s1; simpa using (show _ ∧ _ by simpa [Bool.and_eq_true] using s1).2
    obtain ⟨y, hy, hp⟩ := par (by simp)
    have ht : tailN ([bs (kwL.getD 3 []), nm, parW ⟨3, nm, pa, si, le, gr, cu, po⟩ l] ++ ([le, gr, cu] : List Int).map itoB) 3 = ([le, gr, cu] : List Int).map itoB := rfl
    have n0 := numsR_at hz 0
    have n1 := numsR_at hz 1
    have n2 := numsR_at hz 2
    have n3 := numsR_at hz 3
    have hne := nums_ok hz
    rw [hw, lineE_num (ws := [bs (kwL.getD 3 []), nm, parW ⟨3, nm, pa, si, le, gr, cu, po⟩ l] ++ ([le, gr, cu] : List Int).map itoB) (k := 3) rfl (show kindI (kwL.getD 3 []) = some 3 by decide) rfl, ht, hne, if_neg (by decide)]
    have hn1 : nth ([bs (kwL.getD 3 []), nm, parW ⟨3, nm, pa, si, le, gr, cu, po⟩ l] ++ ([le, gr, cu] : List Int).map itoB) 1 = nm := rfl
    have hn2 : nth ([bs (kwL.getD 3 []), nm, parW ⟨3, nm, pa, si, le, gr, cu, po⟩ l] ++ ([le, gr, cu] : List Int).map itoB) 2 = parW ⟨3, nm, pa, si, le, gr, cu, po⟩ l := rfl
    rw [hn1, hn2, if_neg (by rw [hnm]; exact fun g => by cases g), if_neg (by decide), hp, if_neg (by simp)]
    unfold elP
    rw [ht, hn1, n0, n1, n2, n3]
    rw [hpo]; rfl
  · have hw : wofE ⟨4, nm, pa, si, le, gr, cu, po⟩ l = [bs (kwL.getD 4 []), nm, parW ⟨4, nm, pa, si, le, gr, cu, po⟩ l] ++ ([le, gr, cu] : List Int).map itoB := rfl
    have hz : ∀ z ∈ ([le, gr, cu] : List Int), -1000000000 ≤ z ∧ z ≤ 1000000000 := by
      obtain ⟨a1, a2, a3, a4⟩ := O.n
      intro z hz
      simp only [List.mem_cons, List.not_mem_nil, or_false] at hz
      rcases hz with rfl | rfl | rfl <;> assumption
    have hpo : po = 0 := by unfold soundE at s1; simpa using (show _ ∧ _ by simpa [Bool.and_eq_true] using s1).2
    obtain ⟨y, hy, hp⟩ := par (by simp)
    have ht : tailN ([bs (kwL.getD 4 []), nm, parW ⟨4, nm, pa, si, le, gr, cu, po⟩ l] ++ ([le, gr, cu] : List Int).map itoB) 4 = ([le, gr, cu] : List Int).map itoB := rfl
    have n0 := numsR_at hz 0
    have n1 := numsR_at hz 1
    have n2 := numsR_at hz 2
    have n3 := numsR_at hz 3
    have hne := nums_ok hz
    rw [hw, lineE_num (ws := [bs (kwL.getD 4 []), nm, parW ⟨4, nm, pa, si, le, gr, cu, po⟩ l] ++ ([le, gr, cu] : List Int).map itoB) (k := 4) rfl (show kindI (kwL.getD 4 []) = some 4 by decide) rfl, ht, hne, if_neg (by decide)]
    have hn1 : nth ([bs (kwL.getD 4 []), nm, parW ⟨4, nm, pa, si, le, gr, cu, po⟩ l] ++ ([le, gr, cu] : List Int).map itoB) 1 = nm := rfl
    have hn2 : nth ([bs (kwL.getD 4 []), nm, parW ⟨4, nm, pa, si, le, gr, cu, po⟩ l] ++ ([le, gr, cu] : List Int).map itoB) 2 = parW ⟨4, nm, pa, si, le, gr, cu, po⟩ l := rfl
    rw [hn1, hn2, if_neg (by rw [hnm]; exact fun g => by cases g), if_neg (by decide), hp, if_neg (by simp)]
    unfold elP
    rw [ht, hn1, n0, n1, n2, n3]
    rw [hpo]; rfl
end Go.Proofs.YtdoifaifhikkjaaGreatDoor
