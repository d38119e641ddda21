/-
  Stage 4: a base, a pulse, the next mark are read.
-/
import Derived.Test.YtbpgbdnfoofnaaaDoorDEnc
set_option linter.unusedSimpArgs false
set_option linter.unusedVariables false
namespace Go.Proofs.YtbpgbdnfoofnaaaDoor
open Go.RowKit

/-- The number of the values of a base. -/
def bsF (t : Int) : List Int → Option Int
  | [] => some t
  | v :: l => if small v = true then bsF (t * 1024 + v) l else none
theorem bsF_yes {t v : Int} {l : List Int} (h : small v = true) : bsF t (v :: l) = bsF (t * 1024 + v) l := by
  show (if small v = true then bsF (t * 1024 + v) l else none) = _
  rw [if_pos h]
theorem bsF_no {t v : Int} {l : List Int} (h : small v = false) : bsF t (v :: l) = none := by
  show (if small v = true then bsF (t * 1024 + v) l else none) = _
  rw [if_neg (by rw [h]; decide)]
def bsR (vs : List Int) : Int × Bool := match bsF 0 vs with
  | some t => (t, true)
  | none => (0, false)
theorem bsR_some {vs : List Int} {t : Int} (h : bsF 0 vs = some t) : bsR vs = (t, true) := by unfold bsR; rw [h]
theorem bsR_none {vs : List Int} (h : bsF 0 vs = none) : bsR vs = (0, false) := by unfold bsR; rw [h]
theorem or_1024 (T V : Nat) (hT : T ≤ 1073741824) (hV : V < 1024) : bits .or .i64 ((T : Int) * 1024) (V : Int) = (T : Int) * 1024 + (V : Int) := by
  have e := orI (T * 1024) V (by omega) (by omega)
  rw [nat_join 10 (T * 1024) V (by omega) (by omega)] at e
  rw [show ((T : Int) * 1024) = ((T * 1024 : Nat) : Int) by omega, e]; omega
theorem dropZ {l : List Int} {k : Nat} (hk : k < l.length) : l.drop k = l.getD k 0 :: l.drop (k + 1) := by
  rw [List.drop_eq_getElem_cons hk, List.getD_eq_getElem?_getD, List.getElem?_eq_getElem hk]; rfl
theorem pow_next {T k x : Nat} (hT : T < 1024 ^ k) (hx : x < 1024) : T * 1024 + x < 1024 ^ (k + 1) := by
  rw [Nat.pow_succ]; omega
abbrev RB (t : Int × Bool) : Value := .tuple #[.int .i64 t.1, .bool t.2]
theorem ret_rb {u : Int × Bool} {a : Int} {b : Bool} (h : u = (a, b)) : Ending.returned (.tuple #[.int .i64 a, .bool b]) = .returned (RB u) := by rw [h]
set_option maxHeartbeats 800000 in
theorem rbase_any (vs : List Int) (A : Option Addr) (c : Nat) (w : World) (h : RowB .i64 w A vs) (h3 : vs.length ≤ 3) :
    Calls Tryd.prog 40 #[.slice A vs.length c] w fun e w' => e = .returned (RB (bsR vs)) ∧ w = w' := by
  have H := Lib.hid h
  obtain ⟨L, hL⟩ : ∃ n, n = vs.length := ⟨_, rfl⟩
  have HL := Lib.hid hL
  rw [← hL] at h3 ⊢
  clear h hL
  go_enter Tryd.func40, Tryd.ntmps40
  go_wp2_with fail
  go_loopw [2, 8] (fun t i wr => ∃ (k T : Nat), k ≤ L ∧ i = .int .i64 k ∧ t = .int .i64 T ∧ T < 1024 ^ k ∧ Hid (bsF 0 vs = bsF T (vs.drop k)) ∧ w = wr) (fun _ i _ => L - (intOf i).toNat)
  case atStart => exact ⟨0, 0, by omega, rfl, rfl, by decide, Lib.hid rfl, rfl⟩
  case round =>
    obtain ⟨k, T, hk, rfl, rfl, hT, V, rfl⟩ := hrel
    have hT2 : T < 1073741824 := by
      have : 1024 ^ k ≤ 1024 ^ 3 := Nat.pow_le_pow_right (by decide) (by omega)
      omega
    by_cases hlt : k < L
    · obtain ⟨ad, rfl, _, hc⟩ := H.out.1 k (by rw [← HL.out]; exact hlt)
      have hd := dropZ (l := vs) (k := k) (by rw [← HL.out]; exact hlt)
      obtain ⟨v, hv⟩ : ∃ v, v = vs.getD k 0 := ⟨_, rfl⟩
      rw [← hv] at hc hd
      have e := V.out
      rw [hd] at e
      have E := Lib.hid e
      clear hv hd e V
      by_cases hs : small v = true
      · obtain ⟨x, rfl⟩ : ∃ x : Nat, v = x := ⟨v.toNat, by have := of_decide_eq_true hs; omega⟩
        have hx : x < 1024 := by have := of_decide_eq_true hs; omega
        have E2 := Lib.hid (E.out.trans (bsF_yes hs))
        have hT3 : T < 1048576 := by
          have : 1024 ^ k ≤ 1024 ^ 2 := Nat.pow_le_pow_right (by decide) (by omega)
          omega
        have ho := or_1024 T x (by omega) hx
        have hw : IntKind.i64.wrap ((T : Int) * 1024) = (T : Int) * 1024 := IntWalk.i64_in _ (by omega)
        have HS := Lib.hid hs
        have HT := Lib.hid hT
        clear hs hT
        go_wp2_with fail
        refine (isDigit_any _ _).mono ?_
        rintro e w' ⟨rfl, rfl⟩
        rw [HS.out]
        go_wp2_with fail
        go_roundw
        case rel => exact ⟨k + 1, T * 1024 + x, by omega, by go_num, by go_num, pow_next HT.out hx, Lib.hid (by rw [E2.out]; congr 1), trivial⟩
        case measure => simp [intOf]; omega
      · have hs' : small v = false := by simpa using hs
        have E2 := Lib.hid (bsR_none (E.out.trans (bsF_no hs')))
        have HS := Lib.hid hs'
        clear hs hs' hT
        go_wp2_with fail
        refine (isDigit_any _ _).mono ?_
        rintro e w' ⟨rfl, rfl⟩
        rw [HS.out]
        go_wp2_with fail
        go_ret2
        exact ⟨ret_rb E2.out, rfl⟩
    · obtain rfl : k = L := by omega
      have e := V.out
      rw [HL.out, List.drop_length] at e
      have E2 := Lib.hid (bsR_some e)
      clear hT e hlt hk V
      go_wp2_with fail
      go_ret2
      exact ⟨ret_rb E2.out, rfl⟩
theorem pass_yes {v : Int} {l : List Int} (h : mark v = true) : pass (v :: l) = 0 := by rw [pass_cons, if_pos h]
theorem pass_no {v : Int} {l : List Int} (h : mark v = false) : pass (v :: l) = pass l + 1 := by rw [pass_cons, if_neg (by rw [h]; decide)]
set_option maxHeartbeats 800000 in
theorem next_mark (vs : List Int) (A : Option Addr) (c n : Nat) (w : World) (h : RowB .i64 w A vs) (hn : n ≤ vs.length) :
    Calls Tryd.prog 32 #[.slice A vs.length c, .int .i64 n] w fun e w' => e = .returned (.int .i64 ((n + pass (vs.drop n) : Nat) : Int)) ∧ w = w' := by
  have hl : vs.length ≤ 9223372036854775807 := h.2
  have H := Lib.hid h
  obtain ⟨L, hL⟩ : ∃ n, n = vs.length := ⟨_, rfl⟩
  have HL := Lib.hid hL
  rw [← hL] at hl hn ⊢
  clear h hL
  go_enter Tryd.func32, Tryd.ntmps32
  go_wp2_with fail
  go_loopw [1] (fun i wr => ∃ (k : Nat), k ≤ L ∧ i = .int .i64 k ∧ Hid (n + pass (vs.drop n) = k + pass (vs.drop k)) ∧ w = wr) (fun i _ => L - (intOf i).toNat)
  case atStart => exact ⟨n, hn, rfl, Lib.hid rfl, rfl⟩
  case round =>
    obtain ⟨k, hk, rfl, V, rfl⟩ := hrel
    by_cases hlt : k < L
    · obtain ⟨ad, rfl, _, hc⟩ := H.out.1 k (by rw [← HL.out]; exact hlt)
      have hd := dropZ (l := vs) (k := k) (by rw [← HL.out]; exact hlt)
      obtain ⟨v, hv⟩ : ∃ v, v = vs.getD k 0 := ⟨_, rfl⟩
      rw [← hv] at hc hd
      have e := V.out
      rw [hd] at e
      have E := Lib.hid e
      clear hv hd e V
      cases hs : mark v with
      | true =>
        have E2 := Lib.hid (E.out.trans (by rw [pass_yes hs]))
        have HS := Lib.hid hs
        clear hs
        go_wp2_with fail
        refine (isMark_any _ _).mono ?_
        rintro e w' ⟨rfl, rfl⟩
        rw [HS.out]
        go_wp2_with fail
        go_ret
        exact ⟨ret_int (by rw [E2.out]; simp), rfl⟩
      | false =>
        have E2 := Lib.hid (E.out.trans (by rw [pass_no hs]))
        have HS := Lib.hid hs
        clear hs
        go_wp2_with fail
        refine (isMark_any _ _).mono ?_
        rintro e w' ⟨rfl, rfl⟩
        rw [HS.out]
        go_wp2_with fail
        go_roundw
        case rel => exact ⟨k + 1, by omega, by go_num, Lib.hid (by rw [E2.out]; omega), trivial⟩
        case measure => simp [intOf]; omega
    · obtain rfl : k = L := by omega
      have e := V.out
      rw [HL.out, List.drop_length] at e
      have E2 := Lib.hid e
      clear e hlt hk V
      go_wp2_with fail
      go_ret
      exact ⟨ret_int (by rw [E2.out, HL.out]; rfl), rfl⟩

/-- What readPulse answers. -/
def rpR (v d t : Int) : Pul × Bool :=
  if 1024 ≤ v ∧ small d = true then (((v - 1024) / 2, t + d, if v % 2 = 1 then 1 else -1), decide (okP ((v - 1024) / 2, t + d, if v % 2 = 1 then 1 else -1))) else ((0, 0, 0), false)
abbrev RP (u : Pul × Bool) : Value := .tuple #[pul u.1, .bool u.2]
/-- A block of three cells that may be written. -/
structure Frz3 (w : World) (b : Nat) : Prop where
  f0 : w.frozen? ⟨b, 0, none⟩ = false
  f1 : w.frozen? ⟨b, 1, none⟩ = false
  f2 : w.frozen? ⟨b, 2, none⟩ = false
  lt : b < w.heap.size
theorem Frz3.below {w w' : World} {b : Nat} (h : Frz3 w b) (k : Below w.heap.size w w') : Frz3 w' b :=
  ⟨(k.frozen (p := ⟨b, 0, none⟩) h.lt).trans h.f0, (k.frozen (p := ⟨b, 1, none⟩) h.lt).trans h.f1, (k.frozen (p := ⟨b, 2, none⟩) h.lt).trans h.f2, Nat.lt_of_lt_of_le h.lt k.size⟩
theorem Frz3.new {w : World} {cs : Array Value} {T : TypeId} (b : Nat) (hb : b = w.heap.size) : Frz3 (w.alloc (.cells cs T)) b := by
  subst hb
  have e : (w.alloc (.cells cs T)).heap[w.heap.size]? = some (.cells cs T) := by
    show (w.heap.push _)[w.heap.size]? = _
    rw [Array.getElem?_push, if_pos rfl]
  exact ⟨by unfold World.frozen?; rw [e]; rfl, by unfold World.frozen?; rw [e]; rfl, by unfold World.frozen?; rw [e]; rfl, by simp⟩
theorem Frz3.drewN {w : World} {b : Nat} (h : Frz3 w b) (n : Nat) : Frz3 (w.drewN n) b := ⟨h.f0, h.f1, h.f2, h.lt⟩
theorem Frz3.dr {w : World} {b : Nat} (h : Frz3 w b) : Frz3 w.drew b := ⟨h.f0, h.f1, h.f2, h.lt⟩
theorem Pl.dr {w : World} {b : Nat} {p : Pul} (h : Pl w b p) : Pl w.drew b p := ⟨h.c0, h.c1, h.c2, h.lt⟩
theorem held6 {w w' : World} {b : Nat} {p : Pul} (h : Pl w b p) (f : Frz3 w b) (k : Below w.heap.size w w') :
    w'.cell? ⟨b, 0, none⟩ = some (.int .i64 p.1) ∧ w'.cell? ⟨b, 1, none⟩ = some (.int .i64 p.2.1) ∧ w'.cell? ⟨b, 2, none⟩ = some (.int .i64 p.2.2) ∧ w'.frozen? ⟨b, 0, none⟩ = false ∧ w'.frozen? ⟨b, 1, none⟩ = false ∧ w'.frozen? ⟨b, 2, none⟩ = false :=
  ⟨(h.below k).c0, (h.below k).c1, (h.below k).c2, (f.below k).f0, (f.below k).f1, (f.below k).f2⟩
set_option maxHeartbeats 1600000 in
theorem rpulse_any (v d t : Int) (w : World) (h1 : -1 ≤ v ∧ v ≤ 2047) (h2 : -1 ≤ d ∧ d ≤ 2047) (h3 : 0 ≤ t ∧ t ≤ 1073741823) :
    Calls Tryd.prog 41 #[.int .i64 v, .int .i64 d, .int .i64 t] w fun e w' => e = .returned (RP (rpR v d t)) ∧ Below w.heap.size w w' := by
  by_cases hv : v < 1024
  · have HP := Lib.hid (show rpR v d t = ((0, 0, 0), false) by unfold rpR; rw [if_neg (by omega)])
    go_enter Tryd.func41, Tryd.ntmps41
    go_wp2_with fail
    exact bodyPost_ret (v := RP ((0, 0, 0), false)) (by simp [results, Tryd.results41, go_sem]) rfl ⟨by rw [HP.out], (Below.refl _ _).alloc (Nat.le_refl _) _⟩
  · cases hs : small d with
    | false =>
      have HP := Lib.hid (show rpR v d t = ((0, 0, 0), false) by unfold rpR; rw [if_neg (by rw [hs]; simp)])
      have HS := Lib.hid hs
      clear hs
      go_enter Tryd.func41, Tryd.ntmps41
      go_wp2_with fail
      refine (isDigit_any _ _).mono ?_
      rintro e w' ⟨rfl, rfl⟩
      rw [HS.out]
      go_wp2_with fail
      exact bodyPost_ret (v := RP ((0, 0, 0), false)) (by simp [results, Tryd.results41, go_sem]) rfl ⟨by rw [HP.out], (Below.refl _ _).alloc (Nat.le_refl _) _⟩
    | true =>
      have hv2 : 1024 ≤ v := by omega
      have HP := Lib.hid (show rpR v d t = (((v - 1024) / 2, t + d, if v % 2 = 1 then 1 else -1), decide (okP ((v - 1024) / 2, t + d, if v % 2 = 1 then 1 else -1))) by unfold rpR; rw [if_pos ⟨hv2, hs⟩])
      have hd := of_decide_eq_true hs
      have HS := Lib.hid hs
      clear hs
      obtain ⟨q, hq⟩ : ∃ q, q = (v - 1024) / 2 := ⟨_, rfl⟩
      obtain ⟨y, hy⟩ : ∃ y, y = t + d := ⟨_, rfl⟩
      rw [← hq, ← hy] at HP
      by_cases hp : v % 2 = 1
      · rw [if_pos hp] at HP
        go_enter Tryd.func41, Tryd.ntmps41
        go_wp2_with fail
        refine (isDigit_any _ _).mono ?_
        rintro e w' ⟨rfl, rfl⟩
        rw [HS.out]
        go_wp2_with fail
        rw [← hq, ← hy]
        have P1 := Pl.new (w := w) (p := (q, y, 1)) (T := 28) w.heap.size rfl
        have F1 := Frz3.new (w := w) (cs := #[.int .i64 q, .int .i64 y, .int .i64 1]) (T := 28) w.heap.size rfl
        have B1 := (Below.refl w.heap.size w).alloc (Nat.le_refl _) (.cells #[.int .i64 q, .int .i64 y, .int .i64 1] 28)
        simp only at P1
        obtain ⟨w1, e1⟩ : ∃ w1, w1 = w.alloc (.cells #[.int .i64 q, .int .i64 y, .int .i64 1] 28) := ⟨_, rfl⟩
        rw [← e1] at P1 F1 B1 ⊢
        obtain ⟨b, eb⟩ : ∃ b, b = w.heap.size := ⟨_, rfl⟩
        rw [← eb] at P1 F1 B1 ⊢
        have PX := Lib.hid P1
        have FX := Lib.hid F1
        have BX := Lib.hid B1
        have EB := Lib.hid eb
        have HQ := Lib.hid hq
        have HY := Lib.hid hy
        obtain ⟨c0, c1, c2, clt⟩ := P1
        obtain ⟨f0, f1, f2, _⟩ := F1
        clear B1 e1 eb hq hy
        go_region_with (first | (go_at_call 29; refine (inRange_any q y 1 _).mono ?_; rintro e w3 ⟨rfl, k3⟩; have P3 := held6 (Pl.dr PX.out) (Frz3.dr FX.out) k3; obtain ⟨d0, d1, d2, g0, g1, g2⟩ := P3; have dlt := (Pl.below (Pl.dr PX.out) k3).lt))
        all_goals
          go_wp2_with fail
          refine bodyPost_ret (v := RP ((q, y, 1), decide (okP (q, y, 1)))) (by simp [results, Tryd.results41, go_sem, d0, d1, d2, dlt, g0, g1, g2]) rfl ⟨by rw [HP.out], ?_⟩
          rw [← EB.out]
          have BB := BX.out.drew.trans (k3.mono (by rw [EB.out]; exact BX.out.size))
          exact ((BB.setCell (Nat.le_refl _) _).setCell (Nat.le_refl _) _).setCell (Nat.le_refl _) _
      · rw [if_neg hp] at HP
        have hp' : (v % 2 == 1) = false := by rw [beq_eq_false_iff_ne]; exact hp
        go_enter Tryd.func41, Tryd.ntmps41
        go_wp2_with fail
        refine (isDigit_any _ _).mono ?_
        rintro e w' ⟨rfl, rfl⟩
        rw [HS.out]
        go_wp2_with fail
        rw [← hq, ← hy]
        have P1 := Pl.new (w := w) (p := (q, y, -1)) (T := 28) w.heap.size rfl
        have F1 := Frz3.new (w := w) (cs := #[.int .i64 q, .int .i64 y, .int .i64 (-1)]) (T := 28) w.heap.size rfl
        have B1 := (Below.refl w.heap.size w).alloc (Nat.le_refl _) (.cells #[.int .i64 q, .int .i64 y, .int .i64 (-1)] 28)
        simp only at P1
        obtain ⟨w1, e1⟩ : ∃ w1, w1 = w.alloc (.cells #[.int .i64 q, .int .i64 y, .int .i64 (-1)] 28) := ⟨_, rfl⟩
        rw [← e1] at P1 F1 B1 ⊢
        obtain ⟨b, eb⟩ : ∃ b, b = w.heap.size := ⟨_, rfl⟩
        rw [← eb] at P1 F1 B1 ⊢
        have PX := Lib.hid P1
        have FX := Lib.hid F1
        have BX := Lib.hid B1
        have EB := Lib.hid eb
        have HQ := Lib.hid hq
        have HY := Lib.hid hy
        obtain ⟨c0, c1, c2, clt⟩ := P1
        obtain ⟨f0, f1, f2, _⟩ := F1
        clear B1 e1 eb hq hy
        go_region_with (first | (go_at_call 29; refine (inRange_any q y (-1) _).mono ?_; rintro e w3 ⟨rfl, k3⟩; have P3 := held6 (Pl.dr PX.out) (Frz3.dr FX.out) k3; obtain ⟨d0, d1, d2, g0, g1, g2⟩ := P3; have dlt := (Pl.below (Pl.dr PX.out) k3).lt))
        all_goals
          go_wp2_with fail
          refine bodyPost_ret (v := RP ((q, y, -1), decide (okP (q, y, -1)))) (by simp [results, Tryd.results41, go_sem, d0, d1, d2, dlt, g0, g1, g2]) rfl ⟨by rw [HP.out], ?_⟩
          rw [← EB.out]
          have BB := BX.out.drew.trans (k3.mono (by rw [EB.out]; exact BX.out.size))
          exact ((BB.setCell (Nat.le_refl _) _).setCell (Nat.le_refl _) _).setCell (Nat.le_refl _) _
end Go.Proofs.YtbpgbdnfoofnaaaDoor
