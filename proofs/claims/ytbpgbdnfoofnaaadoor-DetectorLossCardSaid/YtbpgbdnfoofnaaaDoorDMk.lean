/-
  Stage 4: the maker's Pulses and SpoilBytes.
-/
import Derived.Test.YtbpgbdnfoofnaaaDoorDGrp
import Derived.Test.YtbpgbdnfoofnaaaDoorMkSpoil
import Derived.Test.YtbpgbdnfoofnaaaDoorMkPick
set_option linter.unusedSimpArgs false
set_option linter.unusedVariables false
namespace Go.Proofs.YtbpgbdnfoofnaaaDoor
open Go.RowKit

theorem Moves.grown {m : Nat} {a b c : World} {row : Option Nat} (h : Moves m a b) (g : b.grownBy c row) (hr : ∀ k, row = some k → a.heap.size ≤ k) : Moves m a c :=
  ⟨g.os.trans h.os, g.tape.trans h.tape, g.output.trans h.output, Nat.le_trans h.size g.size, fun i hi hm => (g.block i (Nat.lt_of_lt_of_le hi h.size) (fun e => by have := hr i e.symm; omega)).trans (h.block i hi hm)⟩
theorem Flat.moves {e : TypeId} {k m : Nat} {w w' : World} {base : Nat} {v : Value} {n : Nat} {zs : List Int} (h : Flat e k w base v n zs) (b : Moves m w w') (hm : m < base) : Flat e k w' base v n zs := by
  refine ⟨h.1, ?_⟩
  rcases h.2 with g | ⟨g, cap, cur, e1, e2, e3, e4⟩
  · exact Or.inl g
  · exact Or.inr ⟨g, cap, cur, e1, e2, (b.block g (Array.getElem?_eq_some_iff.1 e3).1 (by omega)).trans e3, e4⟩
theorem POwn.moves {m : Nat} {w w' : World} {base : Nat} {v : Value} {l : List Pul} (h : POwn w base v l) (b : Moves m w w') (hm : m < base) : POwn w' base v l := Flat.moves h b hm
theorem Own.moves {k : IntKind} {e : TypeId} {m : Nat} {w w' : World} {base : Nat} {v : Value} {zs : List Int} (h : Own k e w base v zs) (b : Moves m w w') (hm : m < base) : Own k e w' base v zs := by
  refine ⟨h.1, ?_⟩
  rcases h.2 with g | ⟨g, cap, cur, e1, e2, e3, e4⟩
  · exact Or.inl g
  · exact Or.inr ⟨g, cap, cur, e1, e2, (b.block g (Array.getElem?_eq_some_iff.1 e3).1 (by omega)).trans e3, e4⟩
theorem IsMk.grown {w w' : World} {m N : Nat} {row : Option Nat} (h : IsMk w m N) (g : w.grownBy w' row) (hr : ∀ k, row = some k → m < k) : IsMk w' m N :=
  h.stays ((Below.refl (m + 1) w).grown g h.lt (fun k e => hr k e))
theorem run_snoc {t : Int} {l : List Pul} {p : Pul} (h : run t l) (hp : okP p) (h1 : t ≤ p.2.1) (h2 : ∀ q ∈ l, q.2.1 ≤ p.2.1) : run t (l ++ [p]) := by
  induction l generalizing t with
  | nil => exact ⟨hp, h1, trivial⟩
  | cons q l ih => exact ⟨h.1, h.2.1, ih h.2.2 (h2 q (List.mem_cons_self ..)) (fun r hr => h2 r (List.mem_cons_of_mem _ hr))⟩
def PulPost (m M n : Nat) (w : World) (e : Ending) (w' : World) : Prop :=
  ∃ v l, e = .returned v ∧ POwn w' w.heap.size v l ∧ l.length ≤ n ∧ run 0 l ∧ IsMk w' m M ∧ Moves m w w'

set_option maxRecDepth 100000 in
set_option maxHeartbeats 1600000 in
theorem mpulses_any (m N n : Nat) (w : World) (h : IsMk w m N) (hN : N ≤ 1000000) (hn : n ≤ 1000) :
    Calls Tryd.prog 16 #[.pointer (some ⟨m, 0, none⟩), .int .i64 (n : Int)] w (PulPost m (N + 2 + 3 * n) n w) := by
  obtain ⟨i0, hi, hz0, hz1, hz2⟩ := info_parts infoPul
  have hm := h.lt
  go_enter Tryd.func16, Tryd.ntmps16
  go_wp2_with fail
  refine (pick_any m N (fun v => 0 ≤ v ∧ v ≤ 1000000000) _ 6 6 _ (h.alloc _) (by omega) (by omega) (by omega) (by omega) (by simp) (by exact new_pick _ _ _ [0, 5, 1023, 1024, 1000000, 999997000] (by decide) _ rfl)).mono ?_
  rintro e w1 ⟨t0, rfl, ⟨b1, b2⟩, k1, k2⟩
  have M1 : Moves m w w1 := ((Moves.refl m w).alloc _).trans k2
  clear k2
  go_wp2_with fail
  refine (next_any m (N + 1) _ _ k1 (by omega) (by omega) (by omega)).mono ?_
  rintro e w2 ⟨v, rfl, v1, v2, k3, k4⟩
  have M2 := M1.trans k4
  obtain ⟨k0, rfl⟩ := Int.eq_ofNat_of_zero_le v1
  have HK := Lib.hid k3
  have HM := Lib.hid M2
  clear M1 k1 k3 k4 M2
  go_wp2_with fail
  go_loopw [5, 6, 7] (fun ov tv iv wr => ∃ (l : List Pul) (k M : Nat) (T : Int), iv = .int .i64 (k : Int) ∧ l.length + k ≤ n ∧ tv = .int .i64 T ∧ (0 ≤ T ∧ T ≤ 1000000000) ∧ M + 3 * k ≤ N + 2 + 3 * n ∧ Hid (POwn wr w.heap.size ov l) ∧ Hid (run 0 l ∧ ∀ q ∈ l, q.2.1 ≤ T) ∧ Hid (IsMk wr m M) ∧ Hid (Moves m w wr)) (fun _ _ iv _ => (intOf iv).toNat)
  case atStart => exact ⟨[], k0, N + 2, t0, rfl, by simp; omega, rfl, ⟨b1, b2⟩, by omega, Lib.hid POwn.nil, Lib.hid ⟨trivial, fun q hq => (by cases hq)⟩, HK, HM⟩
  case round =>
    clear HK HM
    obtain ⟨l, k, M, T, rfl, hk, rfl, hT, hM, O, R, K, V⟩ := hrel
    by_cases hk0 : k = 0
    · subst hk0
      have K' := Lib.hid (K.out.more (show M ≤ N + 2 + 3 * n by omega))
      have HLN := Lib.hid (show l.length ≤ n by omega)
      go_wp2_with fail
      go_ret
      exact ⟨_, l, rfl, O.out, HLN.out, R.out.1, K'.out, V.out⟩
    · have hkp : (0 : Int) < (k : Int) := by omega
      go_wp2_with fail
      refine (pick_any m M (fun v => 0 ≤ v ∧ v ≤ 5000) _ 7 7 _ (K.out.alloc _) (by omega) (by omega) (by omega) (by have := K.out.lt; omega) (by simp) (by exact new_pick _ _ _ [0, 1, 40, 200, 1023, 1024, 5000] (by decide) _ rfl)).mono ?_
      rintro e w3 ⟨x, rfl, ⟨x1, x2⟩, k5, k6⟩
      have M3 := Lib.hid ((V.out.alloc _).trans k6)
      have O3 := Lib.hid ((O.out.alloc _).moves k6 hm)
      have K3 := Lib.hid k5
      clear k5 k6 K V O
      obtain ⟨T2, hT2⟩ : ∃ t, t = min2 1000000000 (T + x) := ⟨_, rfl⟩
      have hmn : ∀ w ts t, (Builtin.min_ ts t #[.int .i64 1000000000, .int .i64 (T + x)]).run Tryd.prog w = .ok (.int .i64 T2) w := fun w ts t => by rw [run_min2, hT2]
      have bT : T ≤ T2 ∧ T2 ≤ 1000000000 := by
        rw [hT2]; unfold min2; split <;> omega
      have HT2 := Lib.hid hT2
      clear hT2
      go_wp2_with fail
      refine (next_any m (M + 1) _ _ K3.out (by omega) (by omega) (by omega)).mono ?_
      rintro e w4 ⟨d, rfl, d1, d2, k7, k8⟩
      have M4 := Lib.hid (M3.out.trans k8)
      have O4 := Lib.hid (O3.out.moves k8 hm)
      have K4 := Lib.hid k7
      clear k7 k8 M3 O3 K3 hmn
      go_wp2_with fail
      refine (pick_any m (M + 1 + 1) (fun v => v = 1 ∨ v = -1) _ 4 4 _ (K4.out.alloc _) (by omega) (by omega) (by omega) (by have := K4.out.lt; omega) (by simp) (by exact new_pick _ _ _ [1, 1, 1, -1] (by decide) _ rfl)).mono ?_
      rintro e w5 ⟨s, rfl, hs, k9, k10⟩
      have M5 := Lib.hid ((M4.out.alloc _).trans k10)
      have O5 := Lib.hid ((O4.out.alloc _).moves k10 hm)
      have K5 := Lib.hid k9
      have HLN := Lib.hid (show l.length ≤ 1000 by omega)
      clear k9 k10 M4 O4 K4
      go_wp2_with (first | (at_builtin; refine wpList_append_lies _ rfl (.tmp 25) (.tmp 33) 25 rfl w.heap.size 28 i0 (.agg #[.int .i64 0, .int .i64 0, .int .i64 0]) 3 24 Tryd.underlying25 hi hz0 hz1 hz2 rfl (by decide) _ l.length ((flatP l).map (Value.int .i64)) rfl (O5.out.alloc _) ⟨w5.heap.size, 0, none⟩ 1 1 ((flatP [(d, T2, s)]).map (Value.int .i64)) rfl rfl (news_int (W := w5) (ys := flatP [(d, T2, s)])) (one_cells (ys := flatP [(d, T2, s)])) (by decide) (by unfold maxLen; have := HLN.out; omega) (by have := HLN.out; omega) (by have := M5.out.size; simp only [World.size_alloc]; omega) _ rfl ?_; intro g cap w6 hown hgr hgb hlt2))
      have AP := Lib.hid (POwn.app (l := l) (m := [(d, T2, s)]) hown rfl rfl)
      have M6 := Lib.hid ((M5.out.alloc (.cells #[.int .i64 d, .int .i64 T2, .int .i64 s] 28)).grown hgr (fun j hj => (O5.out.block hj).1))
      have K6 := Lib.hid ((K5.out.alloc (.cells #[.int .i64 d, .int .i64 T2, .int .i64 s] 28)).grown hgr (fun j hj => by have := (O5.out.block hj).1; omega))
      clear hown hgr hgb hlt2
      go_roundw
      case rel =>
        refine ⟨l ++ [(d, T2, s)], k - 1, M + 1 + 1 + 1, T2, by congr 1; omega, by rw [List.length_append]; simp; omega, rfl, ⟨by omega, bT.2⟩, by omega, AP, Lib.hid ⟨run_snoc R.out.1 ⟨⟨d1, by show d ≤ 31; omega⟩, ⟨by show 0 ≤ T2; omega, bT.2⟩, hs⟩ (by show 0 ≤ T2; omega) (fun q hq => by have := R.out.2 q hq; show q.2.1 ≤ T2; omega), fun q hq => ?_⟩, K6, M6⟩
        rcases List.mem_append.1 hq with hq | hq
        · have := R.out.2 q hq; omega
        · rw [List.mem_singleton] at hq; subst hq; exact Int.le_refl _
      case measure => simp [intOf]; omega
end Go.Proofs.YtbpgbdnfoofnaaaDoor
