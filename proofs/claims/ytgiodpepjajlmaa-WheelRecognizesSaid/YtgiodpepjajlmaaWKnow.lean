/-
  Stage 7, plain: a train is divided into its wagons.
-/
import Derived.Test.YtgiodpepjajlmaaWMea2
import Derived.Test.YtgiodpepjajlmaaWRec
set_option linter.unusedSimpArgs false
set_option linter.unusedVariables false
namespace Go.Proofs.Ytgiodpepjajlmaa
open Go.RowKit

/-- The patterns of the first k wagons. -/
def paK (l : List Wag) : Nat → List (List Int)
  | 0 => []
  | k + 1 => paK l k ++ [dfs (offW (wgAt l k))]
theorem paK_len (l : List Wag) (k : Nat) : (paK l k).length = k := by
  induction k with
  | zero => rfl
  | succ k ih => show (paK l k ++ _).length = _; rw [List.length_append, ih]; rfl
theorem paK_at (l : List Wag) (k j : Nat) (h : j < k) : (paK l k).getD j [] = dfs (offW (wgAt l j)) := by
  induction k with
  | zero => omega
  | succ k ih =>
    show (paK l k ++ [_]).getD j [] = _
    rw [List.getD_eq_getElem?_getD]
    by_cases e : j = k
    · subst e
      rw [List.getElem?_append_right (by rw [paK_len]; omega), paK_len, Nat.sub_self]; rfl
    · rw [List.getElem?_append_left (by rw [paK_len]; omega), ← List.getD_eq_getElem?_getD]
      exact ih (by omega)
theorem cmpK_near {d p : List Int} {tol δ : Int} (h0 : 0 ≤ δ) (ht : δ ≤ tol) (m : Nat) (h : ∀ j, j < m → ab (d.getD j 0) (p.getD j 0) ≤ δ) : ∃ c, cmpK d p tol m = some c ∧ c ≤ δ * (m : Int) := by
  induction m with
  | zero => exact ⟨0, rfl, by simp⟩
  | succ m ih =>
    obtain ⟨c, hc, hle⟩ := ih (fun j hj => h j (by omega))
    have hm := h m (by omega)
    refine ⟨_, cmpK_good hc (by omega), ?_⟩
    have e2 : δ * ((m + 1 : Nat) : Int) = δ * m + δ := by rw [Int.natCast_succ, Int.mul_add, Int.mul_one]
    omega
/-- Distances that are near those of a train. -/
structure Near (l : List Wag) (d' : List Int) (δ : Int) : Prop where
  len : d'.length + 1 = (plK l l.length).length
  near : ∀ j, j < d'.length → ab (d'.getD j 0) ((dfs (plK l l.length)).getD j 0) ≤ δ
theorem plK_pre {l : List Wag} {k n : Nat} (h : k ≤ n) (j : Nat) (hj : j < (plK l k).length) : (plK l n).getD j 0 = (plK l k).getD j 0 ∧ (plK l k).length ≤ (plK l n).length := by
  induction n with
  | zero => obtain rfl : k = 0 := by omega
            exact ⟨rfl, Nat.le_refl _⟩
  | succ n ih =>
    by_cases e : k = n + 1
    · subst e; exact ⟨rfl, Nat.le_refl _⟩
    · obtain ⟨h1, h2⟩ := ih (by omega)
      refine ⟨?_, ?_⟩
      · show (plK l n ++ _).getD j 0 = _
        rw [getD_app_left (by omega)]; exact h1
      · show _ ≤ (plK l n ++ _).length
        rw [List.length_append]; omega
theorem plK_len (l : List Wag) (k : Nat) : (plK l (k + 1)).length = (plK l k).length + (offW (wgAt l k)).length := by
  show (plK l k ++ _).length = _
  rw [List.length_append, List.length_map]
theorem plK_in {l : List Wag} {k n : Nat} (h : k < n) (j : Nat) (hj : j < (offW (wgAt l k)).length) : (plK l n).getD ((plK l k).length + j) 0 = frK l k + (offW (wgAt l k)).getD j 0 := by
  have h1 := plK_pre (l := l) (k := k + 1) (n := n) (by omega) ((plK l k).length + j) (by rw [plK_len]; omega)
  rw [h1.1]
  show (plK l k ++ _).getD _ 0 = _
  rw [getD_app_right (by omega), getD_map_add _ _ _ (by omega)]
  congr 2
  omega
theorem plK_mono {l : List Wag} {k n : Nat} (h : k ≤ n) : (plK l k).length ≤ (plK l n).length := by
  induction n with
  | zero => obtain rfl : k = 0 := by omega
            exact Nat.le_refl _
  | succ n ih =>
    by_cases e : k = n + 1
    · subst e; exact Nat.le_refl _
    · have := ih (by omega)
      rw [plK_len]; omega
theorem near_cmp {l : List Wag} {d' : List Int} {δ tol : Int} (hv : ∀ x ∈ l, validW x = 0) (N : Near l d' δ) (h0 : 0 ≤ δ) (ht : δ ≤ tol) {k : Nat} (hk : k < l.length) :
    ∃ c, cmpV (d'.drop (plK l k).length) ((paK l l.length).getD k []) tol = some c ∧ c ≤ δ * (((offW (wgAt l k)).length : Int) - 1) := by
  obtain ⟨_, _, h2, h6⟩ := offW_asc (made_at hv k hk)
  have hm := plK_mono (l := l) (k := k + 1) (n := l.length) (by omega)
  rw [plK_len] at hm
  have hl := N.len
  rw [paK_at l _ k hk]
  have hpl : (dfs (offW (wgAt l k))).length = (offW (wgAt l k)).length - 1 := dfs_len _
  obtain ⟨c, hc, hle⟩ := cmpK_near (d := d'.drop (plK l k).length) (p := dfs (offW (wgAt l k))) h0 ht (dfs (offW (wgAt l k))).length (fun j hj => by
    rw [hpl] at hj
    rw [getD_drop]
    have h1 := N.near ((plK l k).length + j) (by omega)
    have e1 : (dfs (plK l l.length)).getD ((plK l k).length + j) 0 = (dfs (offW (wgAt l k))).getD j 0 := by
      unfold dfs
      rw [dfK_at _ _ _ (by omega), dfK_at _ _ _ (by omega), Nat.add_assoc, plK_in hk (j + 1) (by omega), plK_in hk j (by omega)]
      omega
    rwa [e1] at h1)
  refine ⟨c, ?_, ?_⟩
  · rw [cmpV_at (by rw [hpl, List.length_drop]; omega)]
    exact hc
  · rw [hpl] at hle
    have : (((offW (wgAt l k)).length - 1 : Nat) : Int) = ((offW (wgAt l k)).length : Int) - 1 := by omega
    rwa [this] at hle
theorem near_dvc {l : List Wag} {d' : List Int} {δ tol : Int} (hv : ∀ x ∈ l, validW x = 0) (N : Near l d' δ) (h0 : 0 ≤ δ) (ht : δ ≤ tol) (r : Nat) :
    ∀ k, k + r = l.length → ∃ c, dvc d' (paK l l.length) tol (List.range' k r) (plK l k).length = some c ∧ c ≤ δ * ((d'.length : Int) + 1 - ((plK l k).length : Int) - r) := by
  induction r with
  | zero =>
    intro k hk
    obtain rfl : k = l.length := by omega
    refine ⟨0, ?_, ?_⟩
    · show (if _ then _ else _) = _
      rw [if_pos N.len.symm]
    · have := N.len
      have e : (d'.length : Int) + 1 - ((plK l l.length).length : Int) - ((0 : Nat) : Int) = 0 := by omega
      rw [e, Int.mul_zero]
      exact Int.le_refl _
  | succ r ih =>
    intro k hk
    have hkl : k < l.length := by omega
    obtain ⟨c, hc, hle⟩ := near_cmp hv N h0 ht hkl
    obtain ⟨s, hs, hle2⟩ := ih (k + 1) (by omega)
    obtain ⟨_, _, h2, h6⟩ := offW_asc (made_at hv k hkl)
    have hm := plK_mono (l := l) (k := k + 1) (n := l.length) (by omega)
    have hl := N.len
    have hpl : ((paK l l.length).getD k []).length = (offW (wgAt l k)).length - 1 := by rw [paK_at l _ k hkl, dfs_len]
    rw [plK_len] at hm hs hle2
    refine ⟨c + s, dvc_cons.2 ⟨⟨by rw [paK_len]; exact hkl, by omega⟩, c, s, hc, ?_, rfl⟩, ?_⟩
    · rw [hpl, show (plK l k).length + 1 + ((offW (wgAt l k)).length - 1) = (plK l k).length + (offW (wgAt l k)).length by omega]
      exact hs
    · have e : (d'.length : Int) + 1 - ((plK l k).length : Int) - ((r + 1 : Nat) : Int) = (((offW (wgAt l k)).length : Int) - 1) + ((d'.length : Int) + 1 - (((plK l k).length + (offW (wgAt l k)).length : Nat) : Int) - (r : Int)) := by omega
      rw [e, Int.mul_add]
      omega
/-- What Recognize answers to them. -/
theorem near_tb {l : List Wag} {d' : List Int} {δ tol : Int} (hv : ∀ x ∈ l, validW x = 0) (hl : 0 < l.length) (N : Near l d' δ) (h0 : 0 ≤ δ) (ht : δ ≤ tol) :
    ∃ z, (tb (paK l l.length) tol d').getD 0 none = some z ∧ 0 ≤ z.1 ∧ z.1 ≤ δ * (d'.length : Int) := by
  obtain ⟨c, hc, hle⟩ := near_dvc hv N h0 ht l.length 0 (by omega)
  have e0 : (plK l 0).length = 0 := rfl
  rw [e0] at hc hle
  obtain ⟨z, hz, hz2⟩ := tb_le hc
  have h2 : δ * ((d'.length : Int) + 1 - ((0 : Nat) : Int) - (l.length : Int)) ≤ δ * (d'.length : Int) := Int.mul_le_mul_of_nonneg_left (by omega) h0
  have hd := pth_dvc (d := d') (ps := paK l l.length) (tol := tol) (d'.length + 1) 0 z (by omega) (by omega) hz
  exact ⟨z, hz, dvc_nn hd, by omega⟩
theorem tol_mono {l : List Wag} {d' : List Int} {ps : List (List Int)} {t1 t2 : Int} {z : Int × Nat} (h : (tb ps t1 d').getD 0 none = some z) (ht : t1 ≤ t2) : ∃ y, (tb ps t2 d').getD 0 none = some y ∧ y.1 ≤ z.1 := by
  have hd := pth_dvc (d := d') (ps := ps) (tol := t1) (d'.length + 1) 0 z (by omega) (by omega) h
  exact tb_le (dvc_mono hd ht)
theorem path_axl {d' : List Int} {ps : List (List Int)} {tol : Int} {z : Int × Nat} (h : (tb ps tol d').getD 0 none = some z) : axl ps (recPath d' ps tol) = d'.length + 1 ∧ ∀ k ∈ recPath d' ps tol, k < ps.length := by
  have hd := pth_dvc (d := d') (ps := ps) (tol := tol) (d'.length + 1) 0 z (by omega) (by omega) h
  have := dvc_axl hd
  exact ⟨by have := this.1; unfold recPath; omega, this.2⟩
theorem known_err {l : List Wag} {d' : List Int} {tol : Int} (hv : ∀ x ∈ l, validW x = 0) (h8 : l.length ≤ 8) (hd : okD d' = true) (hl : d'.length ≤ 48) (t0 : 0 ≤ tol) (t1 : tol ≤ 10000) : recErr d' (paK l l.length) tol = 0 := by
  have hp : ∀ p ∈ paK l l.length, p.length ≤ 5 ∧ okD p = true := fun p hp => by
    obtain ⟨k, hk⟩ := List.mem_iff_getElem?.1 hp
    have hkl : k < l.length := by have := (List.getElem?_eq_some_iff.1 hk).1; rwa [paK_len] at this
    have e := paK_at l l.length k hkl
    rw [List.getD_eq_getElem?_getD, hk] at e
    have e : p = dfs (offW (wgAt l k)) := e
    subst e
    obtain ⟨ha, _, h2, h6⟩ := offW_asc (made_at hv k hkl)
    obtain ⟨x1, x2, _, _⟩ := validW_len (made_at hv k hkl)
    refine ⟨by rw [dfs_len]; omega, List.all_eq_true.2 fun z hz => decide_eq_true ?_⟩
    obtain ⟨j, hj⟩ := List.mem_iff_getElem?.1 hz
    have hjl := (List.getElem?_eq_some_iff.1 hj).1
    have e : (dfs (offW (wgAt l k))).getD j 0 = z := by rw [List.getD_eq_getElem?_getD, hj]; rfl
    rw [dfs_len] at hjl
    unfold dfs at e
    rw [dfK_at _ _ _ (by omega)] at e
    have u1 := ha.up j (by omega)
    have u2 := ha.pos j (by omega)
    have u3 := ha.pos (j + 1) (by omega)
    omega
  unfold recErr
  rw [if_neg, if_pos]
  · exact ⟨hd, ⟨t0, t1⟩, List.all_eq_true.2 fun p hpp => (hp p hpp).2⟩
  · rintro (g | g | g)
    · omega
    · rw [paK_len] at g; omega
    · obtain ⟨p, hpp, g⟩ := List.any_eq_true.1 g
      have := (hp p hpp).1
      have := of_decide_eq_true g
      omega
end Go.Proofs.Ytgiodpepjajlmaa
