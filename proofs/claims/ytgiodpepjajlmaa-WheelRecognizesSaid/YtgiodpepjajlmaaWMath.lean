/-
  Stage 7, plain: the offsets of a wagon, the places and distances of a train, measured distances.
-/
import Derived.Test.YtgiodpepjajlmaaCWag
import Derived.Test.YtgiodpepjajlmaaCValid
set_option linter.unusedSimpArgs false
set_option linter.unusedVariables false
namespace Go.Proofs.Ytgiodpepjajlmaa
open Go.RowKit

/-- The front half; all offsets of a wagon of kind k, n cm long. -/
def frontK (k n : Int) : List Int := if k = 1 then [130, 330] else if k = 2 then [n / 4] else if k = 3 then [120, 280, 440] else [150, 330]
def offK (k n : Int) : List Int := if k = 1 then [130, 330, n - 330, n - 130] else if k = 2 then [n / 4, n - n / 4] else if k = 3 then [120, 280, 440, n - 440, n - 280, n - 120] else [150, 330, n - 330, n - 150]
/-- The list while it grows: the front half, and r numbers of the other. -/
def backK (k n : Int) (r : Nat) : List Int := ((frontK k n).reverse.take r).map fun z => n - z
theorem offK_two (k n : Int) : offK k n = frontK k n ++ backK k n (frontK k n).length := by
  unfold backK offK frontK
  split
  · rfl
  · split
    · rfl
    · split <;> rfl
theorem front_len (k n : Int) : 1 ≤ (frontK k n).length ∧ (frontK k n).length ≤ 3 := by
  unfold frontK; split
  · exact ⟨by simp, by simp⟩
  · split
    · exact ⟨by simp, by simp⟩
    · split <;> exact ⟨by simp, by simp⟩
theorem front_bd {k n z : Int} (hn : 0 ≤ n) (h : z ∈ frontK k n) : 0 ≤ z ∧ z ≤ n + 440 := by
  unfold frontK at h
  split at h
  · simp at h; omega
  · split at h
    · simp at h; omega
    · split at h <;> (simp at h; omega)
theorem backK_step {k n : Int} {r : Nat} (hr : r < (frontK k n).length) : backK k n (r + 1) = backK k n r ++ [n - (frontK k n).getD ((frontK k n).length - 1 - r) 0] := by
  unfold backK
  rw [List.take_succ_eq_append_getElem (by simpa using hr), List.map_append]
  congr 1
  simp only [List.map_cons, List.map_nil]
  rw [List.getElem_reverse, List.getD_eq_getElem?_getD, List.getElem?_eq_getElem (by omega), Option.getD_some]
theorem backK_len {k n : Int} {r : Nat} (hr : r ≤ (frontK k n).length) : (backK k n r).length = r := by
  unfold backK; simp; omega
abbrev knW (x : Wag) : Int := (kindR x.num).1
def offW (x : Wag) : List Int := offK (knW x) (10 * x.len)
def offR (x : Wag) : List Int × Int := if validW x = 0 then (offW x, 0) else ([], validW x)
theorem validW_len {x : Wag} (h : validW x = 0) : 80 ≤ x.len ∧ x.len ≤ 400 ∧ (knW x = 3 → 120 ≤ x.len) ∧ x.axl = axlK (knW x) := by
  obtain ⟨h0, h1, h2, h3⟩ := validW_parts h
  have e : kindR x.num = (knd (x.num.data.toList.getD 4 48), 0) := by unfold kindR; rw [if_pos h0]
  have ek : knW x = knd (x.num.data.toList.getD 4 48) := by show (kindR x.num).1 = _; rw [e]
  rw [ek]
  obtain ⟨r1, r2, _⟩ := h2
  have h80 : 80 ≤ leastK (knd (x.num.data.toList.getD 4 48)) := by unfold leastK; split <;> decide
  refine ⟨by omega, r2, fun g => ?_, h1⟩
  rw [g] at r1
  exact r1
theorem offK_len (k n : Int) : (offK k n).length = (axlK k).toNat := by
  unfold offK axlK
  by_cases h1 : k = 1
  · subst h1; rfl
  · rw [if_neg h1]
    by_cases h2 : k = 2
    · subst h2; rfl
    · rw [if_neg h2, if_neg h2]
      by_cases h3 : k = 3
      · subst h3; rfl
      · rw [if_neg h3, if_neg h3]; rfl
theorem axlK_bd (k : Int) : 2 ≤ axlK k ∧ axlK k ≤ 6 := by unfold axlK; split <;> (try split) <;> decide
/-- Offsets ascend, lie within the wagon, and are the same from the other end. -/
structure Asc (n : Int) (o : List Int) : Prop where
  pos : ∀ j, j < o.length → 0 < o.getD j 0 ∧ o.getD j 0 < n
  up : ∀ j, j + 1 < o.length → o.getD j 0 < o.getD (j + 1) 0
  sym : ∀ j, j < o.length → o.getD j 0 + o.getD (o.length - 1 - j) 0 = n
theorem offK_asc {k n : Int} (h : 800 ≤ n) (h3 : k = 3 → 1200 ≤ n) : Asc n (offK k n) := by
  unfold offK
  split
  · refine ⟨fun j hj => ?_, fun j hj => ?_, fun j hj => ?_⟩ <;> simp at hj
    · rcases (by omega : j = 0 ∨ j = 1 ∨ j = 2 ∨ j = 3) with rfl | rfl | rfl | rfl <;> simp <;> omega
    · rcases (by omega : j = 0 ∨ j = 1 ∨ j = 2) with rfl | rfl | rfl <;> simp <;> omega
    · rcases (by omega : j = 0 ∨ j = 1 ∨ j = 2 ∨ j = 3) with rfl | rfl | rfl | rfl <;> simp <;> omega
  · split
    · refine ⟨fun j hj => ?_, fun j hj => ?_, fun j hj => ?_⟩ <;> simp at hj
      · rcases (by omega : j = 0 ∨ j = 1) with rfl | rfl <;> simp <;> omega
      · obtain rfl : j = 0 := by omega
        simp; omega
      · rcases (by omega : j = 0 ∨ j = 1) with rfl | rfl <;> simp <;> omega
    · split
      · have := h3 (by assumption)
        refine ⟨fun j hj => ?_, fun j hj => ?_, fun j hj => ?_⟩ <;> simp at hj
        · rcases (by omega : j = 0 ∨ j = 1 ∨ j = 2 ∨ j = 3 ∨ j = 4 ∨ j = 5) with rfl | rfl | rfl | rfl | rfl | rfl <;> simp <;> omega
        · rcases (by omega : j = 0 ∨ j = 1 ∨ j = 2 ∨ j = 3 ∨ j = 4) with rfl | rfl | rfl | rfl | rfl <;> simp <;> omega
        · rcases (by omega : j = 0 ∨ j = 1 ∨ j = 2 ∨ j = 3 ∨ j = 4 ∨ j = 5) with rfl | rfl | rfl | rfl | rfl | rfl <;> simp <;> omega
      · refine ⟨fun j hj => ?_, fun j hj => ?_, fun j hj => ?_⟩ <;> simp at hj
        · rcases (by omega : j = 0 ∨ j = 1 ∨ j = 2 ∨ j = 3) with rfl | rfl | rfl | rfl <;> simp <;> omega
        · rcases (by omega : j = 0 ∨ j = 1 ∨ j = 2) with rfl | rfl | rfl <;> simp <;> omega
        · rcases (by omega : j = 0 ∨ j = 1 ∨ j = 2 ∨ j = 3) with rfl | rfl | rfl | rfl <;> simp <;> omega
theorem offW_asc {x : Wag} (h : validW x = 0) : Asc (10 * x.len) (offW x) ∧ (offW x).length = x.axl.toNat ∧ 2 ≤ (offW x).length ∧ (offW x).length ≤ 6 := by
  obtain ⟨h1, h2, h3, h4⟩ := validW_len h
  have hl := offK_len (knW x) (10 * x.len)
  have := axlK_bd (knW x)
  refine ⟨offK_asc (by omega) (fun g => by have := h3 g; omega), ?_, ?_, ?_⟩
  · show (offK _ _).length = _; rw [hl, h4]
  · show _ ≤ (offK _ _).length; omega
  · show (offK _ _).length ≤ _; omega

/-- The front ends and the places of the axles of the first k wagons. -/
def wgAt (l : List Wag) (k : Nat) : Wag := l.getD k ⟨⟨#[]⟩, 0, 0, 0, 0, 0, false, ⟨#[]⟩⟩
theorem wgAt_get {l : List Wag} {k : Nat} {x : Wag} (h : l[k]? = some x) : wgAt l k = x := by unfold wgAt; rw [List.getD_eq_getElem?_getD, h]; rfl
def frK (l : List Wag) : Nat → Int
  | 0 => 0
  | k + 1 => frK l k + 10 * (wgAt l k).len
def plK (l : List Wag) : Nat → List Int
  | 0 => []
  | k + 1 => plK l k ++ (offW (wgAt l k)).map (fun z => frK l k + z)
/-- The differences of neighbours: the first k. -/
def dfK (zs : List Int) : Nat → List Int
  | 0 => []
  | k + 1 => dfK zs k ++ [zs.getD (k + 1) 0 - zs.getD k 0]
def dfs (zs : List Int) : List Int := dfK zs (zs.length - 1)
theorem dfK_len (zs : List Int) (k : Nat) : (dfK zs k).length = k := by
  induction k with
  | zero => rfl
  | succ k ih => show (dfK zs k ++ _).length = _; rw [List.length_append, ih]; rfl
theorem dfK_at (zs : List Int) (k j : Nat) (h : j < k) : (dfK zs k).getD j 0 = zs.getD (j + 1) 0 - zs.getD j 0 := by
  induction k with
  | zero => omega
  | succ k ih =>
    show (dfK zs k ++ [_]).getD j 0 = _
    rw [List.getD_eq_getElem?_getD]
    by_cases e : j = k
    · subst e
      rw [List.getElem?_append_right (by rw [dfK_len]; omega), dfK_len]
      simp
    · rw [List.getElem?_append_left (by rw [dfK_len]; omega), ← List.getD_eq_getElem?_getD]
      exact ih (by omega)
theorem dfs_len (zs : List Int) : (dfs zs).length = zs.length - 1 := dfK_len _ _
theorem getD_app_left {zs ys : List Int} {j : Nat} (h : j < zs.length) : (zs ++ ys).getD j 0 = zs.getD j 0 := by
  rw [List.getD_eq_getElem?_getD, List.getElem?_append_left h, ← List.getD_eq_getElem?_getD]
theorem getD_app_right {zs ys : List Int} {j : Nat} (h : zs.length ≤ j) : (zs ++ ys).getD j 0 = ys.getD (j - zs.length) 0 := by
  rw [List.getD_eq_getElem?_getD, List.getElem?_append_right h, ← List.getD_eq_getElem?_getD]
theorem dfK_app (zs ys : List Int) (k : Nat) (h : k + 1 ≤ zs.length) : dfK (zs ++ ys) k = dfK zs k := by
  induction k with
  | zero => rfl
  | succ k ih =>
    show dfK (zs ++ ys) k ++ [_] = dfK zs k ++ [_]
    rw [ih (by omega), getD_app_left (by omega), getD_app_left (by omega)]
theorem dfs_snoc (zs : List Int) (b : Int) : dfs (zs ++ [b]) = if zs = [] then [] else dfs zs ++ [b - zs.getD (zs.length - 1) 0] := by
  unfold dfs
  cases zs with
  | nil => rfl
  | cons a l =>
    rw [if_neg (by simp)]
    have e : (a :: l ++ [b]).length - 1 = l.length + 1 := by simp
    rw [e]
    show dfK (a :: l ++ [b]) l.length ++ [_] = _
    rw [dfK_app _ _ _ (by simp), getD_app_right (by simp), getD_app_left (by simp)]
    simp
def errK : List Wag → Int
  | [] => 0
  | x :: l => if validW x = 0 then errK l else validW x
def distR (l : List Wag) : List Int × Int := if 96 < l.length then ([], 3) else if errK l = 0 then (dfs (plK l l.length), 0) else ([], errK l)
theorem errK_zero {l : List Wag} : errK l = 0 ↔ ∀ x ∈ l, validW x = 0 := by
  induction l with
  | nil => exact ⟨fun _ x h => (by cases h), fun _ => rfl⟩
  | cons x l ih =>
    show (if validW x = 0 then errK l else validW x) = 0 ↔ _
    by_cases h : validW x = 0
    · rw [if_pos h, ih]
      exact ⟨fun g y hy => by rcases List.mem_cons.1 hy with rfl | hy; exact h; exact g y hy, fun g y hy => g y (List.mem_cons_of_mem _ hy)⟩
    · rw [if_neg h]
      exact ⟨fun g => absurd g h, fun g => g x (List.mem_cons_self)⟩
theorem errK_drop {l : List Wag} {k : Nat} {x : Wag} (h : l.drop k = x :: l.drop (k + 1)) (hv : validW x = 0) : errK (l.drop k) = errK (l.drop (k + 1)) := by
  rw [h]; exact if_pos hv
theorem errK_bad {l : List Wag} {k : Nat} {x : Wag} (h : l.drop k = x :: l.drop (k + 1)) (hv : validW x ≠ 0) : errK (l.drop k) = validW x := by
  rw [h]; exact if_neg hv
/-- Bounds, while all wagons so far are valid. -/
structure Placed (l : List Wag) (k : Nat) : Prop where
  fr : 800 * (k : Int) ≤ frK l k ∧ frK l k ≤ 4000 * (k : Int)
  len : 2 * k ≤ (plK l k).length ∧ (plK l k).length ≤ 6 * k
  bd : ∀ j, j < (plK l k).length → 0 < (plK l k).getD j 0 ∧ (plK l k).getD j 0 < frK l k
  up : ∀ j, j + 1 < (plK l k).length → (plK l k).getD j 0 < (plK l k).getD (j + 1) 0 ∧ (plK l k).getD (j + 1) 0 ≤ (plK l k).getD j 0 + 8000
theorem getD_map_add (f : Int) (o : List Int) (j : Nat) (h : j < o.length) : (o.map (fun z => f + z)).getD j 0 = f + o.getD j 0 := by
  rw [List.getD_eq_getElem?_getD, List.getElem?_map, List.getElem?_eq_getElem h, List.getD_eq_getElem?_getD, List.getElem?_eq_getElem h]; rfl
theorem frK_up {l : List Wag} {n k : Nat} (h : ∀ j, j < n → validW (wgAt l j) = 0) (hk : k ≤ n) : 800 * (k : Int) ≤ frK l k ∧ frK l k ≤ 4000 * (k : Int) := by
  induction k with
  | zero => exact ⟨by simp [frK], by simp [frK]⟩
  | succ k ih =>
    have := ih (by omega)
    obtain ⟨h1, h2, _⟩ := validW_len (h k (by omega))
    show _ ≤ frK l k + 10 * (wgAt l k).len ∧ frK l k + 10 * (wgAt l k).len ≤ _
    omega
/-- The last place of each part lies in the last wagon. -/
theorem pl_last {l : List Wag} {k : Nat} (h : validW (wgAt l k) = 0) : (plK l (k + 1)).getD ((plK l (k + 1)).length - 1) 0 > frK l k := by
  obtain ⟨ha, _, h2, _⟩ := offW_asc h
  show ((plK l k ++ (offW (wgAt l k)).map _)).getD _ 0 > _
  have hm : ((offW (wgAt l k)).map (fun z => frK l k + z)).length = (offW (wgAt l k)).length := by simp
  have e : (plK l (k + 1)).length = (plK l k).length + (offW (wgAt l k)).length := by
    show (plK l k ++ _).length = _; rw [List.length_append, hm]
  rw [e, getD_app_right (by omega), getD_map_add _ _ _ (by omega)]
  have := (ha.pos ((plK l k).length + (offW (wgAt l k)).length - 1 - (plK l k).length) (by omega)).1
  omega
theorem placed {l : List Wag} {n : Nat} (h : ∀ j, j < n → validW (wgAt l j) = 0) : ∀ k, k ≤ n → Placed l k := by
  intro k hk
  induction k with
  | zero => exact ⟨by simp [frK], by simp [plK], fun j hj => by simp [plK] at hj, fun j hj => by simp [plK] at hj⟩
  | succ k ih =>
    have P := ih (by omega)
    have hv := h k (by omega)
    obtain ⟨ha, _, h2, h6⟩ := offW_asc hv
    obtain ⟨v1, v2, _⟩ := validW_len hv
    have hm : ((offW (wgAt l k)).map (fun z => frK l k + z)).length = (offW (wgAt l k)).length := by simp
    have e : (plK l (k + 1)).length = (plK l k).length + (offW (wgAt l k)).length := by
      show (plK l k ++ _).length = _; rw [List.length_append, hm]
    have ef : frK l (k + 1) = frK l k + 10 * (wgAt l k).len := rfl
    have hfr := frK_up h hk
    have lo : ∀ j, j < (plK l k).length → (plK l (k + 1)).getD j 0 = (plK l k).getD j 0 := fun j hj => getD_app_left hj
    have hi : ∀ j, (plK l k).length ≤ j → j < (plK l (k + 1)).length → (plK l (k + 1)).getD j 0 = frK l k + (offW (wgAt l k)).getD (j - (plK l k).length) 0 := fun j hj hj2 =>
      (getD_app_right hj).trans (getD_map_add _ _ _ (by omega))
    have hf0 := P.fr.1
    refine ⟨hfr, ?_, ?_, ?_⟩
    · have := P.len; omega
    · intro j hj
      by_cases c : j < (plK l k).length
      · rw [lo j c]
        have := P.bd j c
        omega
      · rw [hi j (by omega) hj]
        have := ha.pos (j - (plK l k).length) (by omega)
        omega
    · intro j hj
      by_cases c : j + 1 < (plK l k).length
      · rw [lo j (by omega), lo (j + 1) c]
        exact P.up j c
      · by_cases c2 : j < (plK l k).length
        · rw [lo j c2, hi (j + 1) (by omega) hj]
          have hj1 : j + 1 - (plK l k).length = 0 := by omega
          rw [hj1]
          have b1 := P.bd j c2
          have b2 := ha.pos 0 (by omega)
          cases k with
          | zero => simp [plK] at c2
          | succ k =>
            have hl := pl_last (l := l) (k := k) (h k (by omega))
            have ej : j = (plK l (k + 1)).length - 1 := by omega
            rw [← ej] at hl
            obtain ⟨u1, u2, _⟩ := validW_len (h k (by omega))
            have e2 : frK l (k + 1) = frK l k + 10 * (wgAt l k).len := rfl
            omega
        · rw [hi j (by omega) (by omega), hi (j + 1) (by omega) hj]
          have hj1 : j + 1 - (plK l k).length = j - (plK l k).length + 1 := by omega
          rw [hj1]
          have b0 := ha.up (j - (plK l k).length) (by omega)
          have b1 := ha.pos (j - (plK l k).length) (by omega)
          have b2 := ha.pos (j - (plK l k).length + 1) (by omega)
          omega

/-- Measured distances: the first k; the times of the first k axles are possible. -/
def meK (f s : List Int) (b : Int) : Nat → List Int
  | 0 => []
  | k + 1 => meK f s b k ++ [(f.getD (k + 1) 0 - f.getD k 0) * b / (s.getD k 0 - f.getD k 0)]
theorem meK_len (f s : List Int) (b : Int) (k : Nat) : (meK f s b k).length = k := by
  induction k with
  | zero => rfl
  | succ k ih => show (meK f s b k ++ _).length = _; rw [List.length_append, ih]; rfl
def bef (f : List Int) : Nat → Int
  | 0 => -1
  | k + 1 => f.getD k 0
def okAt (f s : List Int) (k : Nat) : Prop := bef f k < f.getD k 0 ∧ f.getD k 0 < s.getD k 0 ∧ s.getD k 0 ≤ 1000000000
instance (f s : List Int) (k : Nat) : Decidable (okAt f s k) := by unfold okAt; infer_instance
def okT (f s : List Int) : Nat → Bool
  | 0 => true
  | k + 1 => okT f s k && decide (okAt f s k)
theorem okT_false {f s : List Int} {k m : Nat} (h : ¬ okAt f s k) (hm : k < m) : okT f s m = false := by
  induction m with
  | zero => omega
  | succ m ih =>
    show (okT f s m && decide (okAt f s m)) = false
    by_cases e : k = m
    · subst e; rw [decide_eq_false h, Bool.and_false]
    · rw [ih (by omega)]; rfl
theorem okT_true {f s : List Int} {m : Nat} (h : okT f s m = true) : ∀ k, k < m → okAt f s k := by
  intro k hk
  by_cases g : okAt f s k
  · exact g
  · rw [okT_false g hk] at h; cases h
theorem okT_all {f s : List Int} {m : Nat} (h : ∀ k, k < m → okAt f s k) : okT f s m = true := by
  induction m with
  | zero => rfl
  | succ m ih =>
    show (okT f s m && decide (okAt f s m)) = true
    rw [ih (fun k hk => h k (by omega)), decide_eq_true (h m (by omega))]; rfl
theorem bef_nn {f s : List Int} {m : Nat} (h : okT f s m = true) : ∀ k, k ≤ m → -1 ≤ bef f k := by
  intro k hk
  induction k with
  | zero => exact Int.le_refl _
  | succ k ih =>
    have := (okT_true h k (by omega)).1
    have := ih (by omega)
    show _ ≤ f.getD k 0
    omega
def meaR (f s : List Int) (b : Int) : List Int × Int :=
  if b < 1 ∨ 10000 < b then ([], 2) else
  if f.length = s.length ∧ okT f s f.length = true then (if 768 < f.length then ([], 3) else (meK f s b (f.length - 1), 0)) else ([], 1)
end Go.Proofs.Ytgiodpepjajlmaa
