/-
  The maker's lists: Pulses, Borders, Chain.
-/
import Derived.Test.YtbnlaopmmgoalaaSPlain
import Derived.Test.YtbnlaopmmgoalaaMkPick
import Derived.Laws.Rows
import Derived.Laws.Tables
set_option linter.unusedSimpArgs false
set_option linter.unusedVariables false
namespace Go.Proofs.Ytbnlaopmmgoalaa
open Go.RowKit

theorem infoPul : (Try.prog.info? 40).map (fun i => (i.zero, i.size, i.bytes)) = some (some (.agg #[.int .i64 0, .int .i64 0, .int .i64 0]), 3, 24) := by kernel_rfl
theorem infoBor : (Try.prog.info? 24).map (fun i => (i.zero, i.size, i.bytes)) = some (some (.agg #[.int .i64 0, .int .i64 0, .int .i64 0]), 3, 24) := by kernel_rfl
def PulPost (m M n : Nat) (w : World) (e : Ending) (w' : World) : Prop :=
  ∃ v l, e = .returned v ∧ TOwn 40 w' w.heap.size v l ∧ l.length ≤ n ∧ run 0 l ∧ IsMk w' m M ∧ Moves m w w'

set_option maxRecDepth 100000 in
set_option maxHeartbeats 1600000 in
theorem mpulses_any (m N n : Nat) (w : World) (h : IsMk w m N) (hN : N ≤ 1000000) (hn : n ≤ 1000) :
    Calls Try.prog 15 #[.pointer (some ⟨m, 0, none⟩), .int .i64 (n : Int)] w (PulPost m (N + 2 + 3 * n) n w) := by
  obtain ⟨i0, hi, hz0, hz1, hz2⟩ := info_parts infoPul
  have hm := h.lt
  go_enter Try.func15, Try.ntmps15
  go_wp2_with fail
  refine (pick_any m N (fun v => 0 ≤ v ∧ v ≤ 1000000000) _ 6 6 _ (h.alloc _) (by omega) (by omega) (by omega) (by omega) (by simp) (by exact new_pick _ _ _ [0, 5, 1023, 1024, 1000000, 999997000] (by decide) _ rfl)).mono ?_
  rintro e w1 ⟨t0, rfl, ⟨b1, b2⟩, k1, k2⟩
  have M1 : Moves m w w1 := ((Moves.refl m w).alloc _).trans k2
  clear k2
  go_wp2_with fail
  refine (next_any m (N + 1) _ _ k1 (by omega) (by omega) (by omega)).mono ?_
  rintro e w2 ⟨v, rfl, v1, v2, k3, k4⟩
  have M2 := M1.trans k4
  obtain ⟨k0, rfl⟩ := Int.eq_ofNat_of_zero_le v1
  have HK := Lib.hid k3
  have HM := Lib.hid M2
  clear M1 k1 k3 k4 M2
  go_wp2_with fail
  go_loopw [5, 6, 7] (fun ov tv iv wr => ∃ (l : List Pul) (k M : Nat) (T : Int), iv = .int .i64 (k : Int) ∧ l.length + k ≤ n ∧ tv = .int .i64 T ∧ (0 ≤ T ∧ T ≤ 1000000000) ∧ M + 3 * k ≤ N + 2 + 3 * n ∧ Hid (TOwn 40 wr w.heap.size ov l) ∧ Hid (run 0 l ∧ ∀ q ∈ l, q.2.1 ≤ T) ∧ Hid (IsMk wr m M) ∧ Hid (Moves m w wr)) (fun _ _ iv _ => (intOf iv).toNat)
  case atStart => exact ⟨[], k0, N + 2, t0, rfl, by simp; omega, rfl, ⟨b1, b2⟩, by omega, Lib.hid TOwn.nil, Lib.hid ⟨trivial, fun q hq => (by cases hq)⟩, HK, HM⟩
  case round =>
    clear HK HM
    obtain ⟨l, k, M, T, rfl, hk, rfl, hT, hM, O, R, K, V⟩ := hrel
    by_cases hk0 : k = 0
    · subst hk0
      have K' := Lib.hid (K.out.more (show M ≤ N + 2 + 3 * n by omega))
      have HLN := Lib.hid (show l.length ≤ n by omega)
      go_wp2_with fail
      go_ret
      exact ⟨_, l, rfl, O.out, HLN.out, R.out.1, K'.out, V.out⟩
    · have hkp : (0 : Int) < (k : Int) := by omega
      go_wp2_with fail
      refine (pick_any m M (fun v => 0 ≤ v ∧ v ≤ 5000) _ 7 7 _ (K.out.alloc _) (by omega) (by omega) (by omega) (by have := K.out.lt; omega) (by simp) (by exact new_pick _ _ _ [0, 1, 40, 200, 1023, 1024, 5000] (by decide) _ rfl)).mono ?_
      rintro e w3 ⟨x, rfl, ⟨x1, x2⟩, k5, k6⟩
      have M3 := Lib.hid ((V.out.alloc _).trans k6)
      have O3 := Lib.hid ((O.out.alloc _).moves k6 hm)
      have K3 := Lib.hid k5
      clear k5 k6 K V O
      obtain ⟨T2, hT2⟩ : ∃ t, t = min2 1000000000 (T + x) := ⟨_, rfl⟩
      have hmn : ∀ w ts t, (Builtin.min_ ts t #[.int .i64 1000000000, .int .i64 (T + x)]).run Try.prog w = .ok (.int .i64 T2) w := fun w ts t => by rw [run_min2, hT2]
      have bT : T ≤ T2 ∧ T2 ≤ 1000000000 := by
        rw [hT2]; unfold min2; split <;> omega
      have HT2 := Lib.hid hT2
      clear hT2
      go_wp2_with fail
      refine (next_any m (M + 1) _ _ K3.out (by omega) (by omega) (by omega)).mono ?_
      rintro e w4 ⟨d, rfl, d1, d2, k7, k8⟩
      have M4 := Lib.hid (M3.out.trans k8)
      have O4 := Lib.hid (O3.out.moves k8 hm)
      have K4 := Lib.hid k7
      clear k7 k8 M3 O3 K3 hmn
      go_wp2_with fail
      refine (pick_any m (M + 1 + 1) (fun v => v = 1 ∨ v = -1) _ 4 4 _ (K4.out.alloc _) (by omega) (by omega) (by omega) (by have := K4.out.lt; omega) (by simp) (by exact new_pick _ _ _ [1, 1, 1, -1] (by decide) _ rfl)).mono ?_
      rintro e w5 ⟨s, rfl, hs, k9, k10⟩
      have M5 := Lib.hid ((M4.out.alloc _).trans k10)
      have O5 := Lib.hid ((O4.out.alloc _).moves k10 hm)
      have K5 := Lib.hid k9
      have HLN := Lib.hid (show l.length ≤ 1000 by omega)
      clear k9 k10 M4 O4 K4
      go_wp2_with (first | (at_builtin; refine wpList_append_lies _ rfl (.tmp 25) (.tmp 33) 32 rfl w.heap.size 40 i0 (.agg #[.int .i64 0, .int .i64 0, .int .i64 0]) 3 24 Try.underlying32 hi hz0 hz1 hz2 rfl (by decide) _ l.length ((flatP l).map (Value.int .i64)) rfl (O5.out.alloc _) ⟨w5.heap.size, 0, none⟩ 1 1 ((flatP [(d, T2, s)]).map (Value.int .i64)) rfl rfl (news_int (W := w5) (ys := flatP [(d, T2, s)])) (one_cells (ys := flatP [(d, T2, s)])) (by decide) (by unfold maxLen; have := HLN.out; omega) (by have := HLN.out; omega) (by have := M5.out.size; simp only [World.size_alloc]; omega) _ rfl ?_; intro g cap w6 hown hgr hgb hlt2))
      have AP := Lib.hid (TOwn.app (l := l) (m := [(d, T2, s)]) hown rfl rfl)
      have M6 := Lib.hid ((M5.out.alloc (.cells #[.int .i64 d, .int .i64 T2, .int .i64 s] 40)).grown hgr (fun j hj => (O5.out.block hj).1))
      have K6 := Lib.hid ((K5.out.alloc (.cells #[.int .i64 d, .int .i64 T2, .int .i64 s] 40)).grown hgr (fun j hj => by have := (O5.out.block hj).1; omega))
      clear hown hgr hgb hlt2
      go_roundw
      case rel =>
        refine ⟨l ++ [(d, T2, s)], k - 1, M + 1 + 1 + 1, T2, by congr 1; omega, by rw [List.length_append]; simp; omega, rfl, ⟨by omega, bT.2⟩, by omega, AP, Lib.hid ⟨run_snoc R.out.1 ⟨⟨d1, by show d ≤ 31; omega⟩, ⟨by show 0 ≤ T2; omega, bT.2⟩, hs⟩ (by show 0 ≤ T2; omega) (fun q hq => by have := R.out.2 q hq; show q.2.1 ≤ T2; omega), fun q hq => ?_⟩, K6, M6⟩
        rcases List.mem_append.1 hq with hq | hq
        · have := R.out.2 q hq; omega
        · rw [List.mem_singleton] at hq; subst hq; exact Int.le_refl _
      case measure => simp [intOf]; omega

/-- Block b holds the bools zs. -/
def BBlk (w : World) (b : Nat) (zs : List Bool) : Prop := w.heap[b]? = some (.cells (zs.map Value.bool).toArray 4 (0, 0))
theorem BBlk.lt {w : World} {b : Nat} {zs : List Bool} (h : BBlk w b zs) : b < w.heap.size := (Array.getElem?_eq_some_iff.1 h).1
theorem BBlk.below {w w' : World} {b : Nat} {zs : List Bool} (h : BBlk w b zs) (k : Below w.heap.size w w') : BBlk w' b zs := (k.block b h.lt).trans h
theorem BBlk.alloc {w : World} {b : Nat} {zs : List Bool} (h : BBlk w b zs) (o : Obj) : BBlk (w.alloc o) b zs := h.below ((Below.refl _ _).alloc (Nat.le_refl _) _)
theorem BBlk.moves {m : Nat} {w w' : World} {b : Nat} {zs : List Bool} (h : BBlk w b zs) (k : Moves m w w') (hm : b ≠ m) : BBlk w' b zs := (k.block b h.lt hm).trans h
theorem BBlk.grown {w w' : World} {b : Nat} {zs : List Bool} {row : Option Nat} (h : BBlk w b zs) (k : w.grownBy w' row) (hm : some b ≠ row) : BBlk w' b zs := (k.block b h.lt hm).trans h
theorem BBlk.cell {w : World} {b : Nat} {zs : List Bool} (h : BBlk w b zs) (j : Nat) (hj : j < zs.length) : w.cell? ⟨b, j, none⟩ = some (.bool (zs.getD j false)) := by
  rw [cell_of_row w b j _ 4 (0, 0) h]
  simp [hj]
theorem BBlk.frozen {w : World} {b : Nat} {zs : List Bool} (h : BBlk w b zs) (j : Nat) : w.frozen? ⟨b, j, none⟩ = false := frozen_of_row w b j _ 4 h
theorem BBlk.set {w : World} {b : Nat} {zs : List Bool} (h : BBlk w b zs) (j : Nat) (x : Bool) : BBlk (w.setCell ⟨b, j, none⟩ (.bool x)) b (zs.set j x) := by
  have := heap_setCell_same w b j _ 4 (.bool x) h
  unfold BBlk
  rw [this]
  simp
theorem BBlk.new (w : World) (zs : List Bool) : BBlk (w.alloc (.cells (zs.map Value.bool).toArray 4)) w.heap.size zs := heap_alloc_new w _
theorem bor_snoc {l : List Pul} {b : Pul} (h : Bor l) (hb : okB b) (hn : sen l b.1 b.2.1 = none) : Bor (l ++ [b]) := by
  induction l with
  | nil => exact ⟨hb, rfl, trivial⟩
  | cons a l ih =>
    have hn' : (if a.1 = b.1 ∧ a.2.1 = b.2.1 then some a.2.2 else sen l b.1 b.2.1) = none := hn
    have hne : ¬ (a.1 = b.1 ∧ a.2.1 = b.2.1) := fun e => by rw [if_pos e] at hn'; cases hn'
    rw [if_neg hne] at hn'
    refine ⟨h.1, ?_, ih h.2.2 hn'⟩
    show sen (l ++ [b]) a.1 a.2.1 = none
    rw [sen_snoc, h.2.1]
    exact if_neg (fun e => hne ⟨e.1.symm, e.2.symm⟩)
/-- What has been seen. -/
def Seen (l : List Pul) (zs : List Bool) : Prop := zs.length = 24 ∧ ∀ s d : Nat, s < 4 → d < 6 → zs.getD (6 * s + d) false = (sen l s d).isSome
theorem Seen.snoc {l : List Pul} {zs : List Bool} (h : Seen l zs) {s d : Nat} {z : Int} (hs : s < 4) (hd : d < 6) (hn : sen l s d = none) : Seen (l ++ [((s : Int), (d : Int), z)]) (zs.set (6 * s + d) true) := by
  refine ⟨by rw [List.length_set]; exact h.1, fun s' d' hs' hd' => ?_⟩
  rw [List.getD_eq_getElem?_getD, List.getElem?_set, sen_snoc]
  by_cases e : 6 * s + d = 6 * s' + d'
  · have e1 : s = s' := by omega
    have e2 : d = d' := by omega
    subst e1; subst e2
    rw [if_pos e, if_pos (by rw [h.1]; omega), hn]
    simp
  · rw [if_neg e, ← List.getD_eq_getElem?_getD, h.2 s' d' hs' hd']
    have ne : ¬ ((s : Int) = s' ∧ (d : Int) = d') := fun g => e (by omega)
    cases g : sen l s' d' with
    | some y => rfl
    | none => simp only [if_neg ne]
theorem TOwn.setOther {T : TypeId} {w : World} {base : Nat} {v : Value} {l : List Pul} (h : TOwn T w base v l) {p : Addr} (hp : p.block < base) (u : Value) : TOwn T (w.setCell p u) base v l := by
  refine ⟨h.1, ?_⟩
  rcases h.2 with g | ⟨g, cap, cur, e1, e2, e3, e4⟩
  · exact Or.inl g
  · exact Or.inr ⟨g, cap, cur, e1, e2, (heap_setCell_other w p g u (by omega)).trans e3, e4⟩
def BorPost (m M n : Nat) (w : World) (e : Ending) (w' : World) : Prop :=
  ∃ v l, e = .returned v ∧ TOwn 24 w' w.heap.size v l ∧ l.length ≤ n ∧ Bor l ∧ IsMk w' m M ∧ Moves m w w'

theorem infoBool : (Try.prog.info? 4).map (fun i => (i.zero, i.size, i.bytes)) = some (some (.bool false), 1, 1) := by kernel_rfl
theorem make_bools (w : World) : (Instr.makeSlice 59 (.int .i64 24) (.int .i64 24)).run Try.prog w = .ok (.slice (some ⟨w.heap.size, 0, none⟩) 24 24) (w.alloc (.cells ((List.replicate 24 false).map Value.bool).toArray 4)) := by
  obtain ⟨i0, hi, hz0, hz1, hz2⟩ := info_parts infoBool
  have h := run_make (P := Try.prog) w 59 4 i0 (.bool false) Try.underlying59 hi hz0 .i64 .i64 24 24 (by omega) (Int.le_refl _) (by rw [hz2]; omega) (by omega)
  rw [hz1] at h
  have e : madeCells (Value.bool false).cells (Int.toNat 24 * 1) = ((List.replicate 24 false).map Value.bool).toArray := by kernel_rfl
  rw [e] at h
  exact h
set_option maxRecDepth 100000 in
set_option maxHeartbeats 1600000 in
theorem mborders_any (m N n : Nat) (w : World) (h : IsMk w m N) (hN : N ≤ 1000000) (hn : n ≤ 1000) :
    Calls Try.prog 14 #[.pointer (some ⟨m, 0, none⟩), .int .i64 (n : Int)] w (BorPost m (N + 1 + 3 * n) n w) := by
  obtain ⟨i0, hi, hz0, hz1, hz2⟩ := info_parts infoBor
  have hm := h.lt
  obtain ⟨B0, hB0⟩ : ∃ b, b = w.heap.size := ⟨_, rfl⟩
  have HB0 := Lib.hid hB0
  have S0 := Lib.hid (BBlk.new w (List.replicate 24 false))
  rw [← hB0] at S0
  have K0 := Lib.hid (h.alloc (.cells ((List.replicate 24 false).map Value.bool).toArray 4))
  have M0 := Lib.hid ((Moves.refl m w).alloc (.cells ((List.replicate 24 false).map Value.bool).toArray 4))
  have hmk := make_bools w
  clear hB0 h
  generalize w.alloc (.cells ((List.replicate 24 false).map Value.bool).toArray 4) = w0 at S0 K0 M0 hmk
  go_enter Try.func14, Try.ntmps14
  go_wp2_with fail
  refine (next_any m N _ _ K0.out (by omega) (by omega) (by omega)).mono ?_
  rintro e w2 ⟨v, rfl, v1, v2, k3, k4⟩
  have HS := Lib.hid (S0.out.moves k4 (by have := HB0.out; omega))
  have HM := Lib.hid (M0.out.trans k4)
  have HK := Lib.hid k3
  obtain ⟨k0, rfl⟩ := Int.eq_ofNat_of_zero_le v1
  rw [← HB0.out]
  clear k3 k4 S0 K0 M0 hmk
  go_wp2_with fail
  go_loopw [5, 7] (fun ov iv wr => ∃ (l : List Pul) (k M : Nat) (zs : List Bool), iv = .int .i64 (k : Int) ∧ l.length + k ≤ n ∧ M + 3 * k ≤ N + 1 + 3 * n ∧ Hid (TOwn 24 wr (B0 + 1) ov l) ∧ Hid (Bor l) ∧ Hid (Seen l zs) ∧ Hid (BBlk wr B0 zs) ∧ Hid (IsMk wr m M) ∧ Hid (Moves m w wr)) (fun _ iv _ => (intOf iv).toNat)
  case atStart => exact ⟨[], k0, N + 1, List.replicate 24 false, rfl, by simp; omega, by omega, Lib.hid TOwn.nil, Lib.hid trivial, Lib.hid ⟨by simp, fun s d hs hd => by rw [List.getD_eq_getElem?_getD, List.getElem?_replicate]; split <;> rfl⟩, HS, HK, HM⟩
  case round =>
    clear HK HM HS
    obtain ⟨l, k, M, zs, rfl, hk, hM, O, R, S, S1, K, V⟩ := hrel
    by_cases hk0 : k = 0
    · subst hk0
      have K' := Lib.hid (K.out.more (show M ≤ N + 1 + 3 * n by omega))
      have HLN := Lib.hid (show l.length ≤ n by omega)
      go_wp2_with fail
      go_ret
      exact ⟨_, l, rfl, O.out.base (by have := HB0.out; omega), HLN.out, R.out, K'.out, V.out⟩
    · have hkp : (0 : Int) < (k : Int) := by omega
      go_wp2_with fail
      refine (next_any m M _ _ K.out (by omega) (by omega) (by omega)).mono ?_
      rintro e w3 ⟨sv, rfl, s1, s2, k5, k6⟩
      have V3 := Lib.hid (V.out.trans k6)
      have O3 := Lib.hid (O.out.moves k6 (by have := HB0.out; omega))
      have S3 := Lib.hid (S1.out.moves k6 (by have := HB0.out; omega))
      have K3 := Lib.hid k5
      obtain ⟨s, rfl⟩ := Int.eq_ofNat_of_zero_le s1
      clear k5 k6 K V O S1
      go_wp2_with fail
      refine (next_any m (M + 1) _ _ K3.out (by omega) (by omega) (by omega)).mono ?_
      rintro e w4 ⟨dv, rfl, d1, d2, k5, k6⟩
      have V4 := Lib.hid (V3.out.trans k6)
      have O4 := Lib.hid (O3.out.moves k6 (by have := HB0.out; omega))
      have S4 := Lib.hid (S3.out.moves k6 (by have := HB0.out; omega))
      have K4 := Lib.hid k5
      obtain ⟨d, rfl⟩ := Int.eq_ofNat_of_zero_le d1
      clear k5 k6 K3 V3 O3 S3
      have hc := S4.out.cell (6 * s + d) (by rw [S.out.1]; omega)
      rw [S.out.2 s d (by omega) (by omega)] at hc
      have hf := S4.out.frozen (6 * s + d)
      obtain ⟨j, hj⟩ : ∃ j : Nat, j = 6 * s + d := ⟨_, rfl⟩
      rw [← hj] at hc hf
      have hix : 6 * (s : Int) + (d : Int) = (j : Int) := by omega
      have hj24 : j < 24 := by omega
      have HJ := Lib.hid hj
      clear hj
      cases hsen : sen l s d with
      | some y =>
        rw [hsen] at hc
        go_wp2_with fail
        go_roundw
        case rel => exact ⟨l, k - 1, M + 1 + 1, zs, by congr 1; omega, by omega, by omega, O4, R, S, S4, K4, V4⟩
        case measure => simp [intOf]; omega
      | none =>
        rw [hsen] at hc
        have O5 := Lib.hid (O4.out.setOther (p := ⟨B0, j, none⟩) (by simp) (.bool true))
        have S5 := Lib.hid (S4.out.set j true)
        have K5 := Lib.hid (K4.out.setCell (p := ⟨B0, j, none⟩) (by have := HB0.out; simp; omega) (.bool true))
        have V5 := Lib.hid (V4.out.setCell (p := ⟨B0, j, none⟩) (Or.inr (by have := HB0.out; simp; omega)) (.bool true))
        have HSN := Lib.hid hsen
        clear hsen
        obtain ⟨w5, hw5⟩ : ∃ x, x = w4.setCell ⟨B0, j, none⟩ (.bool true) := ⟨_, rfl⟩
        have hsz : w5.heap.size = w4.heap.size := by rw [hw5, World.size_setCell]
        have HSZ := Lib.hid hsz
        go_wp2_with fail
        rw [← hw5] at O5 S5 K5 V5 ⊢
        rw [← hsz]
        clear hc hf hw5 hsz
        refine (pick_any m (M + 1 + 1) (fun v => v = 1 ∨ v = -1) _ 2 2 _ (K5.out.alloc _) (by omega) (by omega) (by omega) (by have := K5.out.lt; omega) (by simp) (by exact new_pick _ _ _ [1, -1] (by decide) _ rfl)).mono ?_
        rintro e w6 ⟨z, rfl, hz, k9, k10⟩
        have V6 := Lib.hid ((V5.out.alloc _).trans k10)
        have O6 := Lib.hid ((O5.out.alloc _).moves k10 (by have := HB0.out; omega))
        have S6 := Lib.hid ((S5.out.alloc _).moves k10 (by have := HB0.out; omega))
        have K6 := Lib.hid k9
        have HLN := Lib.hid (show l.length ≤ 1000 by omega)
        clear k9 k10 V5 O5 S5 K5 V4 O4 S4 K4
        go_wp2_with (first | (at_builtin; refine wpList_append_lies _ rfl (.tmp 37) (.tmp 44) 22 rfl (B0 + 1) 24 i0 (.agg #[.int .i64 0, .int .i64 0, .int .i64 0]) 3 24 Try.underlying22 hi hz0 hz1 hz2 rfl (by decide) _ l.length ((flatP l).map (Value.int .i64)) rfl (O6.out.alloc _) ⟨w6.heap.size, 0, none⟩ 1 1 ((flatP [((s : Int), (d : Int), z)]).map (Value.int .i64)) rfl rfl (news_int (W := w6) (ys := flatP [((s : Int), (d : Int), z)])) (one_cells (ys := flatP [((s : Int), (d : Int), z)])) (by decide) (by unfold maxLen; have := HLN.out; omega) (by have := HLN.out; omega) (by have := S6.out.lt; simp only [World.size_alloc]; omega) _ rfl ?_; intro g cap w7 hown hgr hgb hlt2))
        have AP := Lib.hid (TOwn.app (l := l) (m := [((s : Int), (d : Int), z)]) hown rfl rfl)
        have V7 := Lib.hid ((V6.out.alloc (.cells #[.int .i64 (s : Int), .int .i64 (d : Int), .int .i64 z] 24)).grown hgr (fun j hj => by have := (O6.out.block hj).1; have := HB0.out; omega))
        have K7 := Lib.hid ((K6.out.alloc (.cells #[.int .i64 (s : Int), .int .i64 (d : Int), .int .i64 z] 24)).grown hgr (fun j hj => by have := (O6.out.block hj).1; have := HB0.out; omega))
        have S7 := Lib.hid ((S6.out.alloc (.cells #[.int .i64 (s : Int), .int .i64 (d : Int), .int .i64 z] 24)).grown hgr (fun hj => by have := (O6.out.block hj.symm).1; omega))
        clear hown hgr hgb hlt2
        go_roundw
        case rel => exact ⟨l ++ [((s : Int), (d : Int), z)], k - 1, M + 1 + 1 + 1, zs.set j true, by congr 1; omega, by rw [List.length_append]; simp; omega, by omega, AP, Lib.hid (bor_snoc R.out ⟨⟨by show 0 ≤ (s : Int); omega, by show (s : Int) ≤ 31; omega⟩, ⟨by show 0 ≤ (d : Int); omega, by show (d : Int) ≤ 31; omega⟩, hz⟩ HSN.out), Lib.hid (by rw [HJ.out]; exact S.out.snoc (by omega) (by omega) HSN.out), S7, K7, V7⟩
        case measure => simp [intOf]; omega

/-- The chain of n sections. -/
def chn : Nat → List Pul
  | 0 => []
  | n + 1 => chn n ++ [((n : Int), (n : Int), 1), ((n : Int), (n : Int) + 1, -1)]
theorem chn_len (n : Nat) : (chn n).length = n * 2 := by
  induction n with
  | zero => rfl
  | succ n ih => unfold chn; rw [List.length_append, ih]; simp; omega

set_option maxRecDepth 100000 in
set_option maxHeartbeats 1600000 in
theorem mchain_any (a : Option Addr) (n : Nat) (w : World) (hn : n ≤ 31) :
    Calls Try.prog 21 #[.pointer a, .int .i64 (n : Int)] w fun e w' => ∃ v, e = .returned v ∧ TOwn 24 w' w.heap.size v (chn n) ∧ Below w.heap.size w w' := by
  obtain ⟨i0, hi, hz0, hz1, hz2⟩ := info_parts infoBor
  go_enter Try.func21, Try.ntmps21
  go_wp2_with fail
  go_loopw [6, 5] (fun iv ov wr => ∃ k : Nat, k ≤ n ∧ iv = .int .i64 (k : Int) ∧ Hid (TOwn 24 wr w.heap.size ov (chn k)) ∧ Hid (Below w.heap.size w wr)) (fun iv _ _ => n - (intOf iv).toNat)
  case atStart => exact ⟨0, by omega, rfl, Lib.hid TOwn.nil, Lib.hid (Below.refl _ _)⟩
  case round =>
    obtain ⟨k, hk, rfl, O, B⟩ := hrel
    by_cases hlt : k < n
    · have hcl := chn_len k
      have HCL := Lib.hid hcl
      clear hcl
      go_wp2_with (first | (at_builtin; refine wpList_append_lies _ rfl (.tmp 12) (.tmp 20) 22 rfl w.heap.size 24 i0 (.agg #[.int .i64 0, .int .i64 0, .int .i64 0]) 3 24 Try.underlying22 hi hz0 hz1 hz2 rfl (by decide) _ (chn k).length ((flatP (chn k)).map (Value.int .i64)) rfl (O.out.alloc _) ⟨wr.heap.size, 0, none⟩ 2 2 ((flatP [((k : Int), (k : Int), 1), ((k : Int), (k : Int) + 1, -1)]).map (Value.int .i64)) rfl rfl (news_int (W := wr) (ys := flatP [((k : Int), (k : Int), 1), ((k : Int), (k : Int) + 1, -1)])) (one_cells (ys := flatP [((k : Int), (k : Int), 1), ((k : Int), (k : Int) + 1, -1)])) (by decide) (by unfold maxLen; have := HCL.out; omega) (by have := HCL.out; omega) (by have := B.out.size; simp only [World.size_alloc]; omega) _ rfl ?_; intro g cap w7 hown hgr hgb hlt2))
      have AP := Lib.hid (TOwn.app (l := chn k) (m := [((k : Int), (k : Int), 1), ((k : Int), (k : Int) + 1, -1)]) hown rfl rfl)
      have B2 := Lib.hid ((B.out.alloc B.out.size _).grown hgr (by have := B.out.size; simp; omega) (fun j hj => (O.out.block hj).1))
      clear hown hgr hgb hlt2
      go_roundw
      case rel => exact ⟨k + 1, by omega, by go_num, AP, B2⟩
      case measure => simp [intOf]; omega
    · obtain rfl : k = n := by omega
      go_wp2_with fail
      go_ret
      exact ⟨_, rfl, O.out, B.out⟩
end Go.Proofs.Ytbnlaopmmgoalaa
