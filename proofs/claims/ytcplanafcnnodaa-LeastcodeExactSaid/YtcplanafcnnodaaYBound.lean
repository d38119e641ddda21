/-
  Stage 13: the program's isChain and Bound.
-/
import Derived.Test.YtcplanafcnnodaaYChain
set_option linter.unusedSimpArgs false
set_option linter.unusedVariables false
namespace Go.Proofs.Ytcplanafcnnodaa
open Go.RowKit Go.Lib

/-- Each element is an index of the job, and comes before the next one. -/
def chB (l : List It) : Option Nat → List Int → Bool
  | _, [] => true
  | p, x :: c => if 0 ≤ x ∧ x < (l.length : Int) then (if ((match p with | none => 1 | some q => rel l q x.toNat) : Int) = 0 then false else chB l (some x.toNat) c) else false
theorem chB_bad {l : List It} {p : Option Nat} {x : Int} {c : List Int} (h : ¬ (0 ≤ x ∧ x < (l.length : Int))) : chB l p (x :: c) = false := by
  unfold chB; rw [if_neg h]
theorem chB_none {l : List It} {x : Nat} {c : List Int} (h : x < l.length) : chB l none ((x : Int) :: c) = chB l (some x) c := by
  show (if 0 ≤ (x : Int) ∧ (x : Int) < (l.length : Int) then (if (1 : Int) = 0 then false else chB l (some ((x : Int)).toNat) c) else false) = _
  rw [if_pos (by omega), if_neg (by omega)]; rfl
theorem chB_some {l : List It} {q x : Nat} {c : List Int} (h : x < l.length) : chB l (some q) ((x : Int) :: c) = if rel l q x = 0 then false else chB l (some x) c := by
  show (if 0 ≤ (x : Int) ∧ (x : Int) < (l.length : Int) then (if rel l q ((x : Int)).toNat = 0 then false else chB l (some ((x : Int)).toNat) c) else false) = _
  rw [if_pos (by omega)]; rfl
theorem chB_iff {l : List It} : ∀ {c : List Int} {p : Option Nat}, chB l p c = true ↔ ∃ d, c = toZ d ∧ chn l p d := by
  intro c
  induction c with
  | nil =>
    intro p
    refine ⟨fun _ => ⟨[], rfl, by cases p <;> trivial⟩, fun _ => by cases p <;> rfl⟩
  | cons x c ih =>
    intro p
    by_cases hx : 0 ≤ x ∧ x < (l.length : Int)
    · obtain ⟨X, rfl⟩ := Int.eq_ofNat_of_zero_le hx.1
      have hX : X < l.length := by omega
      cases p with
      | none =>
        rw [chB_none hX, ih]
        constructor
        · rintro ⟨d, rfl, h⟩; exact ⟨X :: d, rfl, hX, fun x e => (by cases e), h⟩
        · rintro ⟨d, e, h⟩
          cases d with
          | nil => cases e
          | cons y d =>
            have e1 : (X : Int) = (y : Int) := by injection e
            have e2 : c = toZ d := by injection e
            obtain rfl : X = y := by omega
            exact ⟨d, e2, h.2.2⟩
      | some q =>
        rw [chB_some hX]
        by_cases hr : rel l q X = 0
        · rw [if_pos hr]
          refine ⟨fun h => (by cases h), ?_⟩
          rintro ⟨d, e, h⟩
          cases d with
          | nil => cases e
          | cons y d =>
            have e1 : (X : Int) = (y : Int) := by injection e
            obtain rfl : X = y := by omega
            exact absurd hr (h.2.1 q rfl)
        · rw [if_neg hr, ih]
          constructor
          · rintro ⟨d, rfl, h⟩; exact ⟨X :: d, rfl, hX, fun x e => (by injection e with e; subst e; exact hr), h⟩
          · rintro ⟨d, e, h⟩
            cases d with
            | nil => cases e
            | cons y d =>
              have e1 : (X : Int) = (y : Int) := by injection e
              have e2 : c = toZ d := by injection e
              obtain rfl : X = y := by omega
              exact ⟨d, e2, h.2.2⟩
    · rw [chB_bad hx]
      refine ⟨fun h => (by cases h), ?_⟩
      rintro ⟨d, e, h⟩
      cases d with
      | nil => cases e
      | cons y d =>
        have e1 : x = (y : Int) := by injection e
        exact absurd ⟨by omega, by have := h.1; omega⟩ hx
/-- What Bound answers. -/
def boundE (l : List It) (wt : Int) (c : List Int) : Int × Int :=
  if validR l wt ≠ 0 then (0, validR l wt) else if chB l none c = true then bnd l wt none 0 (c.map Int.toNat) else (0, 1)
theorem map_toZ (d : List Nat) : (toZ d).map Int.toNat = d := by
  unfold toZ
  rw [List.map_map]
  conv => rhs; rw [← List.map_id d]
  exact List.map_congr_left (fun x _ => by simp)
theorem chn_at {l : List It} : ∀ {d : List Nat} {p : Option Nat}, chn l p d → ∀ k, k < d.length → d.getD k 0 < l.length ∧ (0 < k → rel l (d.getD (k - 1) 0) (d.getD k 0) ≠ 0) := by
  intro d
  induction d with
  | nil => intro p _ k hk; cases hk
  | cons y d ih =>
    intro p h k hk
    cases k with
    | zero => exact ⟨h.1, fun g => absurd g (Nat.lt_irrefl _)⟩
    | succ k =>
      obtain ⟨i1, i2⟩ := ih h.2.2 k (by simp at hk; omega)
      refine ⟨i1, fun _ => ?_⟩
      cases k with
      | zero =>
        cases d with
        | nil => simp at hk
        | cons z d => exact h.2.2.2.1 y rfl
      | succ k => exact i2 (by omega)
/-- The element ahead of number k. -/
def prv (d : List Nat) : Nat → Option Nat
  | 0 => none
  | k + 1 => some (d.getD k 0)
theorem drop_N {d : List Nat} {k : Nat} (hk : k < d.length) : d.drop k = d.getD k 0 :: d.drop (k + 1) := by
  rw [List.drop_eq_getElem_cons hk, List.getD_eq_getElem?_getD, List.getElem?_eq_getElem hk]; rfl
theorem drop_I {d : List Int} {k : Nat} (hk : k < d.length) : d.drop k = d.getD k 0 :: d.drop (k + 1) := by
  rw [List.drop_eq_getElem_cons hk, List.getD_eq_getElem?_getD, List.getElem?_eq_getElem hk]; rfl
/-- A step of the bound. -/
theorem bnd_step {l : List It} {wt : Int} {d : List Nat} {k : Nat} {m : Int} (hk : k < d.length) (h0 : k = 0 → m = 0) {m' : Int} (hm : m' = if k = 0 then 0 else vk (rel l (d.getD (k - 1) 0) (d.getD k 0)) m) (hr : 0 < k → rel l (d.getD (k - 1) 0) (d.getD k 0) ≠ 0) :
    bnd l wt (prv d k) m (d.drop k) = if (nextZ m' (rnd l (d.getD k 0)) wt).2 = 0 then bnd l wt (prv d (k + 1)) (nextZ m' (rnd l (d.getD k 0)) wt).1 (d.drop (k + 1)) else (0, (nextZ m' (rnd l (d.getD k 0)) wt).2) := by
  rw [drop_N hk]
  cases k with
  | zero =>
    rw [if_pos rfl] at hm
    subst hm
    rw [h0 rfl]
    exact bnd_one l wt 0 _ _
  | succ k =>
    have e : m' = if rel l (d.getD k 0) (d.getD (k + 1) 0) = 2 then m + 1 else m := by
      rw [hm, if_neg (by omega)]
      have := hr (by omega)
      show vk (rel l (d.getD k 0) (d.getD (k + 1) 0)) m = _
      unfold vk
      by_cases g : rel l (d.getD k 0) (d.getD (k + 1) 0) = 2
      · rw [if_pos g, if_pos g]
      · rw [if_neg g, if_neg g, if_pos (by rcases rel_cases l (d.getD k 0) (d.getD (k + 1) 0) with c | c | c; exact absurd c this; exact c; exact absurd c g)]
    rw [e]
    exact bnd_two l wt _ m _ _
set_option maxRecDepth 100000 in
set_option maxHeartbeats 3200000 in
theorem isChain_any (l : List It) (A C : Option Addr) (c cc L n : Nat) (wt : Int) (hL : L = l.length) (hval : validR l wt = 0) (cs : List Int) (hn : n = cs.length) (hm : n ≤ maxLen) (w : World) (hi : IRow w A l) (hc : Row .i64 w w.heap.size C cs) :
    Calls Try.prog 51 #[jv A L c wt, .slice C n cc] w fun e w' => e = .returned (.bool (chB l none cs)) ∧ Below w.heap.size w w' := by
  have hm' : n ≤ 9223372036854775807 := hm
  have hL96 : L ≤ 96 := by have := (valid_ok hval).1; omega
  have HI := Lib.hid hi
  have HC := Lib.hid hc
  have HL := Lib.hid hL
  have HN := Lib.hid hn
  have HRL := Lib.hid (fun (x y : Nat) (hx : x < L) (hy : y < L) (W : World) (h2 : IRow W A l) => yrel_any l A c L wt hL hval x y hx hy W h2)
  have J0 := Lib.hid (JBox.new (w := w) (A := A) (n := L) (c := c) (wt := wt) w.heap.size rfl)
  have B0 := Lib.hid ((Below.refl w.heap.size w).alloc (Nat.le_refl _) (.cells #[.slice A L c, .int .i64 wt] 24))
  obtain ⟨b, hb⟩ : ∃ b, b = w.heap.size := ⟨_, rfl⟩
  clear hi hc hL hn hm hval
  go_enter Try.func51, Try.ntmps51
  go_upto_region 1 with fail
  rw [← hb] at J0 ⊢
  generalize w.alloc (.cells #[.slice A L c, .int .i64 wt] 24) = w1 at *
  clear hb
  go_wp2_with fail
  go_loopw [9] (fun iv wr => ∃ k : Nat, k ≤ n ∧ iv = .int .i64 (k : Int) ∧ Hid (∃ p, chB l none cs = chB l p (cs.drop k) ∧ (k = 0 → p = none) ∧ (0 < k → ∃ q : Nat, p = some q ∧ q < L ∧ cs.getD (k - 1) 0 = (q : Int))) ∧ Hid (Below w1.heap.size w1 wr)) (fun iv _ => n - (intOf iv).toNat)
  case atStart => exact ⟨0, by omega, rfl, Lib.hid ⟨none, rfl, fun _ => rfl, fun h => absurd h (Nat.lt_irrefl _)⟩, Lib.hid (Below.refl _ _)⟩
  case round =>
    obtain ⟨k, hk, rfl, P, BR⟩ := hrel
    by_cases hlt : k < n
    · have BW := Lib.hid (B0.out.trans (BR.out.mono B0.out.size))
      obtain ⟨ad, rfl, _, ck⟩ := (HC.out.below BW.out) k (by rw [← HN.out]; exact hlt)
      obtain ⟨x, hx⟩ : ∃ x, x = cs.getD k 0 := ⟨_, rfl⟩
      have hd := drop_I (d := cs) (k := k) (by rw [← HN.out]; exact hlt)
      rw [← hx] at ck hd
      have HD := Lib.hid hd
      have HX := Lib.hid hx
      obtain ⟨j0, j1, jl⟩ := (J0.out.below BR.out J0.out.lt)
      have hki : (k : Int) < (n : Int) := by omega
      clear hd hx
      by_cases hx0 : x < 0
      · obtain ⟨p, hp, _⟩ := P.out
        have HF := Lib.hid (show false = chB l none cs by rw [hp, HD.out, chB_bad (by omega)])
        clear hp
        go_wp2_with fail
        go_ret
        exact ⟨ret_bool HF.out, BW.out⟩
      · by_cases hx1 : x < (L : Int)
        · obtain ⟨X, rfl⟩ := Int.eq_ofNat_of_zero_le (show 0 ≤ x by omega)
          have hX : X < L := by omega
          have hx1' : ¬ (L : Int) ≤ (X : Int) := by omega
          cases k with
          | zero =>
            have HP2 := Lib.hid (show ∃ p, chB l none cs = chB l p (cs.drop 1) ∧ ((1 : Nat) = 0 → p = none) ∧ (0 < 1 → ∃ q : Nat, p = some q ∧ q < L ∧ cs.getD (1 - 1) 0 = (q : Int)) by
              obtain ⟨p, hp, h0, _⟩ := P.out
              rw [h0 rfl, HD.out, chB_none (by rw [← HL.out]; exact hX)] at hp
              exact ⟨_, hp, (fun h => by omega), fun _ => ⟨X, rfl, hX, HX.out.symm⟩⟩)
            have ck0 : wr.cell? ad = some (.int .i64 (X : Int)) := by
              have e0 : ad.add 0 = ad := by unfold Addr.add; rw [if_pos rfl]
              rw [← e0]; exact ck
            clear P HD ck
            go_wp2_with fail
            go_quiet (fail)
            go_wp2_with fail
            go_roundw
            case rel => exact ⟨1, by omega, by go_num, HP2, Lib.hid (bdn BR.out)⟩
            case measure => simp [intOf]; omega
          | succ k =>
            obtain ⟨p, hp, _, h1⟩ := P.out
            obtain ⟨q, rfl, hq, hcq⟩ := h1 (by omega)
            rw [HD.out, chB_some (by rw [← HL.out]; exact hX)] at hp
            have HP := Lib.hid hp
            obtain ⟨ad', e', _, cq⟩ := (HC.out.below BW.out) k (by rw [← HN.out]; omega)
            obtain rfl : ad = ad' := by injection e'
            have hcq' : cs.getD k 0 = (q : Int) := hcq
            rw [hcq'] at cq
            have HR := Lib.hid (fun W kb => HRL.out q X hq hX W kb)
            obtain ⟨r, hr⟩ : ∃ r, r = rel l q X := ⟨_, rfl⟩
            rw [← hr] at HR
            have HRR := Lib.hid hr
            have ltq := lt_of_cell cq
            have HPS := Lib.hid (fun (Y : World) (hY : Below wr.heap.size wr Y) => (show Y.cell? ⟨b, 0, none⟩ = some (.slice A L c) ∧ Y.cell? ⟨b, 1, none⟩ = some (.int .i64 wt) ∧ Y.cell? (ad.add k) = some (.int .i64 (q : Int)) from
              ⟨(hY.cell (p := ⟨b, 0, none⟩) jl).trans j0, (hY.cell (p := ⟨b, 1, none⟩) jl).trans j1, (hY.cell ltq).trans cq⟩))
            rw [add_sc] at ck
            clear P HD hp h1 e' hcq hcq' hr ltq cq
            have hk1 : (k : Int) + 1 - 1 = (k : Int) := by omega
            have hwr : IntKind.i64.wrap ((k : Int) + 1 - 1) = (k : Int) := by rw [IntWalk.i64_in _ (by omega)]; omega
            have hkn : (k : Int) < (n : Int) := by omega
            have hwk : IntKind.i64.wrap (k : Int) = (k : Int) := IntWalk.i64_in _ (by omega)
            go_upto_region 6 with fail
            clear ck j0 j1
            obtain ⟨q0, e0⟩ : ∃ x, x = wr.drew := ⟨_, rfl⟩
            have K0 := Lib.hid (show Below wr.heap.size wr q0 from by rw [e0]; exact (Below.refl _ _).drew)
            have F0 := HPS.out q0 K0.out
            have HE0 := Lib.hid e0
            clear e0
            refine AnyT.begin_at tlN (fun Y => Y.cell? ⟨b, 0, none⟩ = some (.slice A L c) ∧ Y.cell? ⟨b, 1, none⟩ = some (.int .i64 wt) ∧ Y.cell? (ad.add k) = some (.int .i64 (q : Int))) (by kernel_rfl) HE0.out F0 ?_
            clear F0
            intro F0
-- TAKES C6
            refine AnyT.takeD (i := 0) (d := some 23) (v := .int .i64 ((k : Int) + 1)) rfl rfl (by kernel_rfl) (by kernel_rfl) (by kernel_rfl) (by kernel_rfl) (fun _ _ _ h => h) (Or.inl ⟨by rfl, fun wz _ => by go_simp⟩) F0 ?_
            simp only [Act.put, List.setIfInBounds_toArray, List.set_cons_zero, List.set_cons_succ]
            refine AnyT.takeD (i := 1) (d := some 24) (v := .bool true) rfl rfl (by kernel_rfl) (by kernel_rfl) (by kernel_rfl) (by kernel_rfl) (fun _ _ _ h => h) (Or.inl ⟨by rfl, fun wz _ => by go_simp⟩) F0 ?_
            simp only [Act.put, List.setIfInBounds_toArray, List.set_cons_zero, List.set_cons_succ]
            refine AnyT.takeD (i := 2) (d := some 25) (v := .bool true) rfl rfl (by kernel_rfl) (by kernel_rfl) (by kernel_rfl) (by kernel_rfl) (fun _ _ _ h => h) (Or.inl ⟨by rfl, fun wz _ => by go_simp⟩) F0 ?_
            simp only [Act.put, List.setIfInBounds_toArray, List.set_cons_zero, List.set_cons_succ]
            refine AnyT.takeD (i := 3) (d := some 26) (v := jv A L c wt) rfl rfl (by kernel_rfl) (by kernel_rfl) (by kernel_rfl) (by kernel_rfl) (fun _ _ _ h => h) (Or.inl ⟨by rfl, fun wz hz => by obtain ⟨z0, z1, z2⟩ := hz; go_simp⟩) F0 ?_
            simp only [Act.put, List.setIfInBounds_toArray, List.set_cons_zero, List.set_cons_succ]
            refine AnyT.takeD (i := 4) (d := some 27) (v := .slice (some ad) n cc) rfl rfl (by kernel_rfl) (by kernel_rfl) (by kernel_rfl) (by kernel_rfl) (fun _ _ _ h => h) (Or.inl ⟨by rfl, fun wz _ => by go_simp⟩) F0 ?_
            simp only [Act.put, List.setIfInBounds_toArray, List.set_cons_zero, List.set_cons_succ]
            refine AnyT.takeD (i := 5) (d := some 28) (v := .int .i64 ((k : Int) + 1)) rfl rfl (by kernel_rfl) (by kernel_rfl) (by kernel_rfl) (by kernel_rfl) (fun _ _ _ h => h) (Or.inl ⟨by rfl, fun wz _ => by go_simp⟩) F0 ?_
            simp only [Act.put, List.setIfInBounds_toArray, List.set_cons_zero, List.set_cons_succ]
            refine AnyT.takeD (i := 6) (d := some 29) (v := .int .i64 (k : Int)) rfl rfl (by kernel_rfl) (by kernel_rfl) (by kernel_rfl) (by kernel_rfl) (fun _ _ _ h => h) (Or.inl ⟨by rfl, fun wz _ => by go_simp⟩) F0 ?_
            simp only [Act.put, List.setIfInBounds_toArray, List.set_cons_zero, List.set_cons_succ]
            refine AnyT.takeD (i := 7) (d := some 30) (v := .pointer (some (ad.add k))) rfl rfl (by kernel_rfl) (by kernel_rfl) (by kernel_rfl) (by kernel_rfl) (fun _ _ _ h => h) (Or.inl ⟨by rfl, fun wz _ => by go_simp⟩) F0 ?_
            simp only [Act.put, List.setIfInBounds_toArray, List.set_cons_zero, List.set_cons_succ]
            refine AnyT.takeD (i := 8) (d := some 31) (v := .int .i64 (q : Int)) rfl rfl (by kernel_rfl) (by kernel_rfl) (by kernel_rfl) (by kernel_rfl) (fun _ _ _ h => h) (Or.inl ⟨by rfl, fun wz hz => by obtain ⟨z0, z1, z2⟩ := hz; go_simp⟩) F0 ?_
            simp only [Act.put, List.setIfInBounds_toArray, List.set_cons_zero, List.set_cons_succ]
            refine AnyT.takeD (i := 9) (d := some 32) (v := .int .i64 (X : Int)) rfl rfl (by kernel_rfl) (by kernel_rfl) (by kernel_rfl) (by kernel_rfl) (fun _ _ _ h => h) (Or.inl ⟨by rfl, fun wz _ => by go_simp⟩) F0 ?_
            simp only [Act.put, List.setIfInBounds_toArray, List.set_cons_zero, List.set_cons_succ]
            -- TAKEN C6
            refine AnyT.branch (rs := [10]) (by kernel_rfl) (by simp) ?_
            refine all_cons (?_) all_nil
            refine AnyT.enterG (i := 10) (d := some 33) (f := 65) (args := #[jv A L c wt, .int .i64 (q : Int), .int .i64 (X : Int)]) rfl (by rfl) rfl (by go_simp) (HR.out q0 (HI.out.below (BW.out.trans (K0.out.mono BW.out.size)))) ?_
            rintro e q1 ⟨rfl, hB1⟩
            have K1 := Lib.hid (K0.out.trans (hB1.mono K0.out.size))
            have F1 := HPS.out q1 K1.out
            refine ⟨_, rfl, fun _ => F1, ?_⟩
            clear hB1 F0
            simp only [Act.put, List.setIfInBounds_toArray, List.set_cons_zero, List.set_cons_succ]
            refine AnyT.takeD (i := 11) (d := some 34) (v := .bool (r == 0)) rfl rfl (by kernel_rfl) (by kernel_rfl) (by kernel_rfl) (by kernel_rfl) (fun _ _ _ h => h) (Or.inl ⟨by rfl, fun wz _ => by go_simp⟩) F1 ?_
            simp only [Act.put, List.setIfInBounds_toArray, List.set_cons_zero, List.set_cons_succ]
            refine AnyT.takeD (i := 12) (d := some 35) (v := .bool (r == 0)) rfl rfl (by kernel_rfl) (by kernel_rfl) (by kernel_rfl) (by kernel_rfl) (fun _ _ _ h => h) (Or.inl ⟨by rfl, fun wz _ => by go_simp⟩) F1 ?_
            simp only [Act.put, List.setIfInBounds_toArray, List.set_cons_zero, List.set_cons_succ]
            refine AnyT.done_ (by kernel_rfl) ?_ _
            have BR1 := Lib.hid (BR.out.trans (K1.out.mono BR.out.size))
            have BW1 := Lib.hid (B0.out.trans (BR1.out.mono B0.out.size))
            clear F1 HPS HE0 K0 K1 HR
            by_cases hr0 : r = 0
            · have HF := Lib.hid (show false = chB l none cs by rw [HP.out, if_pos (by rw [← HRR.out]; exact hr0)])
              have hb : (r == 0) = true := by rw [hr0]; rfl
              rw [hb]
              clear hr0 hb
              go_wp2_with fail
              go_ret
              exact ⟨ret_bool HF.out, BW1.out⟩
            · have hb : (r == 0) = false := beq_eq_false_iff_ne.2 hr0
              have HP2 := Lib.hid (show ∃ p, chB l none cs = chB l p (cs.drop (k + 1 + 1)) ∧ (k + 1 + 1 = 0 → p = none) ∧ (0 < k + 1 + 1 → ∃ q : Nat, p = some q ∧ q < L ∧ cs.getD (k + 1 + 1 - 1) 0 = (q : Int)) from by
                have hp := HP.out
                rw [if_neg (by rw [← HRR.out]; exact hr0)] at hp
                exact ⟨_, hp, (fun h => by omega), fun _ => ⟨X, rfl, hX, HX.out.symm⟩⟩)
              rw [hb]
              clear hr0 hb
              go_wp2_with fail
              go_roundw
              case rel => exact ⟨k + 1 + 1, by omega, by go_num, HP2, BR1⟩
              case measure => simp [intOf]; omega
        · obtain ⟨p, hp, _⟩ := P.out
          have HF := Lib.hid (show false = chB l none cs by rw [hp, HD.out, chB_bad (by rw [← HL.out]; omega)])
          clear hp
          go_wp2_with fail
          go_ret
          exact ⟨ret_bool HF.out, BW.out⟩
    · have hkn : k = n := by omega
      subst hkn
      obtain ⟨p, hp, _⟩ := P.out
      have HF := Lib.hid (show true = chB l none cs by rw [hp, HN.out, List.drop_length]; cases p <;> rfl)
      have BW := Lib.hid (B0.out.trans (BR.out.mono B0.out.size))
      clear hp P
      go_wp2_with fail
      go_ret
      exact ⟨ret_bool HF.out, BW.out⟩
end Go.Proofs.Ytcplanafcnnodaa
