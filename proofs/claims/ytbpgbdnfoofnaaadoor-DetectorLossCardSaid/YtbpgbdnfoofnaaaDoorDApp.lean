/-
  Stage 4: the values of a group are appended.
-/
import Derived.Test.YtbpgbdnfoofnaaaDoorDGlen
set_option linter.unusedSimpArgs false
set_option linter.unusedVariables false
namespace Go.Proofs.YtbpgbdnfoofnaaaDoor
open Go.RowKit

/-- The slice from A on reads as the pulses l, and lies below block B. -/
structure PRowU (w : World) (B : Nat) (A : Option Addr) (l : List Pul) : Prop where
  row : Row .i64 w B A (flatP l)
  len : l.length ≤ maxLen
theorem PRow.u {w : World} {A : Option Addr} {l : List Pul} (h : PRow w A l) : PRowU w w.heap.size A l := ⟨h.row, h.len⟩
theorem PRowU.under {w w' : World} {B : Nat} {A : Option Addr} {l : List Pul} (h : PRowU w B A l) (b : Below B w w') : PRowU w' B A l := ⟨h.row.under b, h.len⟩
theorem PRowU.p {w : World} {B : Nat} {A : Option Addr} {l : List Pul} (h : PRowU w B A l) (b : B ≤ w.heap.size) : PRow w A l := ⟨h.row.more b, h.len⟩

/-- The time before the element k of a list that stands behind the time t. -/
def bfr (t : Int) (l : List Pul) : Nat → Int
  | 0 => t
  | k + 1 => (l.getD k (0, 0, 0)).2.1
def vp (p : Pul) : Int := 1024 + 2 * p.1 + if p.2.2 = 1 then 1 else 0
theorem pv_cons (t : Int) (p : Pul) (l : List Pul) : pv t (p :: l) = vp p :: (p.2.1 - t) :: pv p.2.1 l := rfl
theorem pv_succ (t : Int) (l : List Pul) (k : Nat) (hk : k < l.length) : pv t (l.take (k + 1)) = pv t (l.take k) ++ [vp (l.getD k (0, 0, 0)), (l.getD k (0, 0, 0)).2.1 - bfr t l k] := by
  induction l generalizing t k with
  | nil => simp at hk
  | cons p l ih =>
    cases k with
    | zero => rfl
    | succ k =>
      rw [List.take_succ_cons, List.take_succ_cons, pv_cons, pv_cons, ih p.2.1 k (by simpa using hk)]
      have : bfr p.2.1 l k = bfr t (p :: l) (k + 1) := by cases k <;> rfl
      rw [this]; rfl
theorem vp_one {d t s : Int} (h : s = 1) : vp (d, t, s) = 1024 + 2 * d + 1 := by unfold vp; rw [if_pos h]
theorem vp_two {d t s : Int} (h : ¬ s = 1) : vp (d, t, s) = 1024 + 2 * d := by unfold vp; rw [if_neg h]; omega
theorem and_1023 (x : Nat) (hx : x < 9223372036854775808) : bits .and .i64 (x : Int) 1023 = (x : Int) % 1024 := by
  have e := andI x 1023 hx (by decide)
  rw [show (1023 : Nat) = 2 ^ 10 - 1 from rfl, Nat.and_two_pow_sub_one_eq_mod] at e
  simpa using e

theorem news_at {k : IntKind} {W : World} {T : TypeId} {ys : List Int} {b : Nat} (hb : b = W.heap.size) : ∀ j u, (ys.map (Value.int k))[j]? = some u → (W.alloc (.cells (ys.map (Value.int k)).toArray T)).cell? ((⟨b, 0, none⟩ : Addr).add j) = some u := by
  subst hb; exact news_int

set_option maxHeartbeats 1600000 in
theorem app_any (g : List Pul) (A : Option Addr) (c : Nat) (zs : List Int) (v : Value) (base : Nat) (w : World) (h : PRowU w base A g) (ho : allP g) (hne : g ≠ []) (O : Own .i64 3 w base v zs) (hb : base ≤ w.heap.size)
    (hl : g.length ≤ 8) (hz : zs.length ≤ 100000) :
    Calls Tryd.prog 27 #[v, .slice A g.length c] w fun e w' => ∃ v', e = .returned v' ∧ Own .i64 3 w' base v' (zs ++ (hd g.length (tim g) ++ pv (tim g) g)) ∧ Below base w w' := by
  obtain ⟨i0, hi, hz0, hz1, hz2⟩ := info_parts infoInt
  have hlp := List.length_pos_iff.2 hne
  have H := Lib.hid h
  have HO := Lib.hid ho
  have OO := Lib.hid O
  have HB := Lib.hid hb
  have ht0 : tim g = (g.getD 0 (0, 0, 0)).2.1 := by
    cases g with
    | nil => exact absurd rfl hne
    | cons p l => rfl
  obtain ⟨ad, rfl, C⟩ := (h.p hb).at_ 0 hlp
  obtain ⟨⟨d, t, s⟩, hp⟩ : ∃ p, p = g.getD 0 (0, 0, 0) := ⟨_, rfl⟩
  have b1 := (ho.at_ hlp hp).2.1
  rw [← hp] at C ht0
  obtain ⟨c0, c1, c2⟩ := C.zero
  simp only at c0 c1 c2
  have ht1 : tim g = t := ht0
  obtain ⟨L, hL⟩ : ∃ n, n = g.length := ⟨_, rfl⟩
  have HL := Lib.hid hL
  have HT := Lib.hid ht1
  have HZ := Lib.hid hz
  have hz' := hz
  rw [ht1]
  rw [← hL] at hl hlp ⊢
  obtain ⟨T, hT⟩ : ∃ T : Nat, t = T := ⟨t.toNat, by omega⟩
  subst hT
  clear h ho O hb ht0 ht1 hp C hL hne hz
  have a1 := and_1023 (T / 1024) (by omega)
  have a2 := and_1023 T (by omega)
  rw [show ((T / 1024 : Nat) : Int) = (T : Int) / 1024 by omega] at a1
  have D0 : hd L (T : Int) = [1536 + (L : Int), (T : Int) / 1048576, (T : Int) / 1024 % 1024, (T : Int) % 1024] := rfl
  obtain ⟨h0, eh0⟩ : ∃ h, h = hd L (T : Int) := ⟨_, rfl⟩
  rw [← eh0] at D0 ⊢
  have LH : h0.length = 4 := by rw [D0]; rfl
  have HD0 := Lib.hid D0
  have HLH := Lib.hid LH
  clear eh0 D0 LH
  go_enter Tryd.func27, Tryd.ntmps27
  go_wp2_with (first | (at_builtin; refine wpList_append_own _ rfl (.tmp 13) (.tmp 24) 22 rfl base 3 i0 (.int .i64 0) 1 8 Tryd.underlying22 hi hz0 hz1 hz2 rfl (by decide) _ zs.length (zs.map (Value.int .i64)) rfl (OO.out.alloc _) ⟨w.heap.size, 0, none⟩ 4 4 ([1536 + (L : Int), (T : Int) / 1048576, (T : Int) / 1024 % 1024, (T : Int) % 1024].map (Value.int .i64)) rfl rfl (news_int (W := w) (ys := [1536 + (L : Int), (T : Int) / 1048576, (T : Int) / 1024 % 1024, (T : Int) % 1024])) (one_cells (ys := [1536 + (L : Int), (T : Int) / 1048576, (T : Int) / 1024 % 1024, (T : Int) % 1024])) (by unfold maxLen; have := HZ.out; omega) (by have := HZ.out; omega) (by have := HB.out; simp only [World.size_alloc]; omega) ?_; intro v1 w1 hown hg _))
  have O1 := Own.app (ys := [1536 + (L : Int), (T : Int) / 1048576, (T : Int) / 1024 % 1024, (T : Int) % 1024]) hown rfl rfl
  rw [← HD0.out] at O1
  have B1 : Below base w w1 := ((Below.refl base w).alloc HB.out _).grown hg (by have := HB.out; simp only [World.size_alloc]; omega) (fun g hg => (own_block OO.out hg).1)
  have HO1 := Lib.hid O1
  have HB1 := Lib.hid B1
  clear O1 B1 hown hg c0 c1 c2 a1 a2
  go_loopw [0, 5, 28] (fun v t i wr => ∃ k : Nat, k ≤ L ∧ i = .int .i64 k ∧ t = .int .i64 (bfr T g k) ∧ Hid (Own .i64 3 wr base v (zs ++ (h0 ++ pv T (g.take k)))) ∧ Hid (Below base w wr)) (fun _ _ i _ => L - (intOf i).toNat)
  case atStart => exact ⟨0, by omega, rfl, rfl, Lib.hid (by rw [List.take_zero]; show Own _ _ _ _ _ (zs ++ (h0 ++ [])); rw [List.append_nil]; exact HO1.out), HB1⟩
  case round =>
    clear HO1 HB1
    obtain ⟨k, hk, rfl, rfl, O, B⟩ := hrel
    have hbw : base ≤ wr.heap.size := Nat.le_trans HB.out B.out.size
    by_cases hlt : k < L
    · have hkl : k < g.length := by rw [← HL.out]; exact hlt
      obtain ⟨ad', e', C⟩ := ((H.out.under B.out).p hbw).at_ k hkl
      obtain rfl : ad = ad' := by injection e'
      have SN := Lib.hid (pv_succ T g k hkl)
      have hbn : bfr T g (k + 1) = (g.getD k (0, 0, 0)).2.1 := rfl
      have tb : 0 ≤ bfr T g k ∧ bfr T g k ≤ 1000000000 := by
        cases k with
        | zero => exact b1
        | succ m => exact (HO.out _ (getD_memP (show m < g.length by omega))).2.1
      obtain ⟨⟨d, tt, s⟩, hp⟩ : ∃ p, p = g.getD k (0, 0, 0) := ⟨_, rfl⟩
      have b2 := HO.out.at_ hkl hp
      rw [← hp] at C SN hbn
      obtain ⟨t, ht⟩ : ∃ t, t = bfr T g k := ⟨_, rfl⟩
      rw [← ht] at SN tb ⊢
      have HBN := Lib.hid hbn
      obtain ⟨c0, c1, c2⟩ := C.spelt
      simp only at c0 c1 c2
      obtain ⟨ys, hys⟩ : ∃ ys, ys = zs ++ (h0 ++ pv T (g.take k)) := ⟨_, rfl⟩
      have LN := Lib.hid (show ys.length ≤ 100020 by rw [hys, List.length_append, List.length_append, pv_len, List.length_take, HLH.out]; omega)
      have OY := Lib.hid (show Own .i64 3 wr base u0 ys by rw [hys]; exact O.out)
      have YS := Lib.hid hys
      have HBW := Lib.hid hbw
      have wd : IntKind.i64.wrap (tt - t) = tt - t := IntWalk.i64_in _ (by omega)
      have P0 := Lib.hid (Pl.new (w := wr) (p := (d, tt, s)) (T := 28) wr.heap.size rfl)
      clear hp hbn hys ht C e' hkl O hbw
      by_cases hs : s = 1
      · subst hs
        have VP := Lib.hid (vp_one (d := d) (t := tt) (s := 1) rfl)
        go_wp2_with (first | (at_builtin; refine wpList_append_own _ rfl (.tmp 41) (.tmp 47) 22 rfl base 3 i0 (.int .i64 0) 1 8 Tryd.underlying22 hi hz0 hz1 hz2 rfl (by decide) _ ys.length (ys.map (Value.int .i64)) rfl ((OY.out.alloc _).alloc _) ⟨wr.heap.size + 1, 0, none⟩ 2 2 ([1024 + 2 * d + 1, tt - t].map (Value.int .i64)) rfl rfl (news_at (W := wr.alloc _) (ys := [1024 + 2 * d + 1, tt - t]) (by simp)) (one_cells (ys := [1024 + 2 * d + 1, tt - t])) (by unfold maxLen; have := LN.out; omega) (by have := LN.out; omega) (by have := HBW.out; simp only [World.size_alloc]; omega) ?_; intro v2 w2 hown hg _; have hcl := (Pl.grown (P0.out.alloc (.cells #[.int .i64 (1024 + 2 * d + 1), .int .i64 (tt - t)] 3)) hg (fun e => by have := (own_block OY.out e).2; omega)).c1))
        have AP := Own.app (ys := [1024 + 2 * d + 1, tt - t]) hown rfl rfl
        clear hcl c0 c1 c2
        go_roundw
        case rel =>
          refine ⟨k + 1, by omega, by go_num, by rw [HBN.out], Lib.hid ?_, Lib.hid ?_⟩
          · rw [SN.out, VP.out, ← List.append_assoc, ← List.append_assoc, List.append_assoc zs, ← YS.out]; exact AP
          · exact (((B.out.alloc HBW.out _).alloc (by have := HBW.out; simp only [World.size_alloc]; omega) _).grown hg (by have := HBW.out; simp only [World.size_alloc]; omega) (fun g hg => (own_block OY.out hg).1))
        case measure => simp [intOf]; omega
      · have hs' : (s == 1) = false := by rw [beq_eq_false_iff_ne]; exact hs
        have VP := Lib.hid (vp_two (d := d) (t := tt) hs)
        go_wp2_with (first | (at_builtin; refine wpList_append_own _ rfl (.tmp 41) (.tmp 47) 22 rfl base 3 i0 (.int .i64 0) 1 8 Tryd.underlying22 hi hz0 hz1 hz2 rfl (by decide) _ ys.length (ys.map (Value.int .i64)) rfl ((OY.out.alloc _).alloc _) ⟨wr.heap.size + 1, 0, none⟩ 2 2 ([1024 + 2 * d, tt - t].map (Value.int .i64)) rfl rfl (news_at (W := wr.alloc _) (ys := [1024 + 2 * d, tt - t]) (by simp)) (one_cells (ys := [1024 + 2 * d, tt - t])) (by unfold maxLen; have := LN.out; omega) (by have := LN.out; omega) (by have := HBW.out; simp only [World.size_alloc]; omega) ?_; intro v2 w2 hown hg _; have hcl := (Pl.grown (P0.out.alloc (.cells #[.int .i64 (1024 + 2 * d), .int .i64 (tt - t)] 3)) hg (fun e => by have := (own_block OY.out e).2; omega)).c1))
        have AP := Own.app (ys := [1024 + 2 * d, tt - t]) hown rfl rfl
        clear hcl c0 c1 c2
        go_roundw
        case rel =>
          refine ⟨k + 1, by omega, by go_num, by rw [HBN.out], Lib.hid ?_, Lib.hid ?_⟩
          · rw [SN.out, VP.out, ← List.append_assoc, ← List.append_assoc, List.append_assoc zs, ← YS.out]; exact AP
          · exact (((B.out.alloc HBW.out _).alloc (by have := HBW.out; simp only [World.size_alloc]; omega) _).grown hg (by have := HBW.out; simp only [World.size_alloc]; omega) (fun g hg => (own_block OY.out hg).1))
        case measure => simp [intOf]; omega
    · obtain rfl : k = L := by omega
      have e : g.take k = g := by rw [HL.out, List.take_length]
      rw [e] at O
      clear e hlt hk
      go_wp2_with fail
      go_ret
      exact ⟨_, rfl, O.out, B.out⟩
end Go.Proofs.YtbpgbdnfoofnaaaDoor
