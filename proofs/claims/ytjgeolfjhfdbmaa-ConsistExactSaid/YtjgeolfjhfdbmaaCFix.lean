/-
  Stage 6: the law's fixed.
-/
import Derived.Test.YtjgeolfjhfdbmaaCApp
import Derived.Test.YtjgeolfjhfdbmaaSrc
import Derived.Test.YtjgeolfjhfdbmaaCEnc
import Derived.Test.YtjgeolfjhfdbmaaCSane
import Derived.Test.YtjgeolfjhfdbmaaCOneW
set_option linter.unusedSimpArgs false
set_option linter.unusedVariables false
namespace Go.Proofs.Ytjgeolfjhfdbmaa
open Go.RowKit

theorem wpList_app8h (W : World) {ops : Array Oper} {rest : List Oper} {o : Oper} {a : Act} {Q : Exit → Act → World → Prop} (hgd : o.guard = none) (s x : Operand)
    (ho : o.op = .call { callee := .builtin .append, args := #[s, x], argTypes := #[24, 24] }) (base : Nat) (v : Value) (zs : List Int) (hs : a.eval s = v) (O : Own .u8 5 W base v zs)
    (ys : List Int) (w0 : World) (hW : W = w0.alloc (.cells (ys.map (Value.int .u8)).toArray 5)) (z : Nat) (hz : w0.heap.size = z) (m c : Nat) (hm : ys.length = m) (h0 : 0 < m) (hx : a.eval x = .slice (some ⟨z, 0, none⟩) m c)
    (hl : zs.length + m ≤ 140737488355328) (hb : base ≤ W.heap.size)
    (h : ∀ v' w', Own .u8 5 w' base v' (zs ++ ys) → App W v w' v' → wpList Try.prog ops Q rest (a.put o.dst v') w') : wpList Try.prog ops Q (o :: rest) a W := by
  obtain ⟨i0, hi, hz0, hz1, hz2⟩ := info_parts infoByte
  subst hm
  subst hz
  refine wpList_append_lies W hgd s x 24 ho base 5 i0 (.int .u8 0) 1 1 Try.underlying24 hi hz0 hz1 hz2 rfl (by decide) v zs.length (zs.map (Value.int .u8)) hs O ⟨w0.heap.size, 0, none⟩ ys.length c (ys.map (Value.int .u8)) hx (by rw [List.length_map, Nat.mul_one]) (by rw [hW]; exact news_int) one_cells h0 (by unfold maxLen; omega) (by omega) hb W.heap.size rfl ?_
  intro g cap w1 hown hg hat hlt
  refine h _ w1 (Own.app hown rfl rfl) ⟨hg, fun b hb => ?_⟩
  have e : g = b := by simpa [Value.ownBlock] using hb
  subst e
  rcases hat with h1 | h1
  · exact Or.inl h1
  · exact Or.inr (by omega)
def FixPost (w : World) (e : Ending) (w' : World) : Prop :=
  ∃ A c xs, e = .returned (.slice A xs.length c) ∧ BRow w' A xs ∧ (xs.length ≤ c ∧ c ≤ maxLen) ∧ Below w.heap.size w w'
set_option maxHeartbeats 1600000 in
theorem fixed_any (A : Option Addr) (c : Nat) (bs : List Int) (w : World) (h : BRow w A bs) (hc : bs.length ≤ c ∧ c ≤ maxLen) :
    Calls Try.prog 12 #[.slice A bs.length c] w (FixPost w) := by
  obtain ⟨i0, hi, hz0, hz1, hz2⟩ := info_parts infoByte
  have hl := h.len
  have H := Lib.hid h
  have HC := Lib.hid hc
  obtain ⟨hc1, hc2⟩ := hc
  have hc3 : (c : Int) ≤ 9223372036854775807 := by unfold maxLen at hc2; omega
  obtain ⟨L, hL⟩ : ∃ L, L = bs.length := ⟨_, rfl⟩
  have HL := Lib.hid hL
  rw [← hL] at hl hc1 ⊢
  clear h hc2 hL
  go_enter Try.func12, Try.ntmps12
  by_cases h2 : L < 2
  · go_wp2_with fail
    go_ret
    exact ⟨A, c, bs, by rw [HL.out]; rfl, H.out, HC.out, Below.refl _ _⟩
  · obtain ⟨n, rfl⟩ : ∃ n, L = n + 2 := ⟨L - 2, by omega⟩
    have hn : (bs.take n).length = n := by rw [List.length_take, ← HL.out]; omega
    have HN := Lib.hid hn
    have HT := Lib.hid (H.out.take n)
    go_wp2_with fail
    have hck := rchk_any (bs.take n) A c w HT.out
    rw [hn] at hck
    obtain ⟨k0, k1⟩ := chk_bd' (bs.take n)
    obtain ⟨k, hk⟩ : ∃ k, k = chk (bs.take n) := ⟨_, rfl⟩
    rw [← hk] at hck k0 k1
    have HK := Lib.hid hk
    refine hck.mono ?_
    rintro e w' ⟨rfl, rfl⟩
    clear hck hk
    have O3' := Lib.hid (own_empty (w := w) (e := 5) (m := 1) (base := w.heap.size) (Nat.le_refl _))
    have B3' := Lib.hid (((Below.refl w.heap.size w).alloc (Nat.le_refl _) (.cells #[] 5)))
    have R3' := Lib.hid (HT.out.row.below B3'.out)
    have HA := Lib.hid (show A = none → n = 0 ∧ n + 2 = 0 from fun e => by
      subst e
      have : 0 < bs.length := by rw [← HL.out]; omega
      obtain ⟨ad, e, _⟩ := H.out.row 0 this
      cases e)
    have w1 : IntKind.u8.wrap (k / 256) = k / 256 := IntWalk.u8_in _ (by omega)
    have w2 : IntKind.u8.wrap (k % 256) = k % 256 := IntWalk.u8_in _ (by omega)
    have HKB := Lib.hid (show 0 ≤ k ∧ k < 65521 from ⟨k0, k1⟩)
    have HNL := Lib.hid hl
    clear hn
    go_wp2_with (first | (at_builtin; refine wpList_app_src rfl (.tmp 16) (.tmp 19) 24 rfl w.heap.size 5 i0 (.int .u8 0) 1 1 Try.underlying24 hi hz0 hz1 hz2 rfl (by decide) _ 0 [] rfl O3'.out A n _ ((bs.take n).map (Value.int .u8)) rfl (fun e => by have := HA.out e; omega) (by rw [List.length_map, HN.out, Nat.mul_one]) (R3'.out.newsO) one_cells (by unfold maxLen; have := HNL.out; omega) (by have := HNL.out; omega) (by simp only [World.size_alloc]; omega) ?_; intro v4 w4 O4 G4; have HO4 := Lib.hid (show Own .u8 5 w4 w.heap.size v4 (bs.take n) from by have := O4; rw [Nat.zero_add] at this; show World.ownsRow _ _ _ _ _ (bs.take n).length _; rw [HN.out]; exact this); have HG4 := Lib.hid G4; clear O4 G4) | (at_builtin; refine wpList_app8h _ rfl (.tmp 20) (.tmp 27) rfl w.heap.size _ (bs.take n) rfl (HO4.out.alloc _) [k / 256, k % 256] w4 rfl _ rfl 2 2 rfl (by decide) rfl (by rw [HN.out]; exact HNL.out) (le_alloc (Nat.le_trans (by simp only [World.size_alloc]; omega) HG4.out.size)) ?_; intro v5 w5 O5 G5; have HO5 := Lib.hid O5; have HG5 := Lib.hid G5; clear O5 G5))
    go_ret
    obtain ⟨A5, c5, rfl, R5, hc5⟩ := Own.brow HO5.out (fun x hx => by
      rcases List.mem_append.1 hx with h | h
      · exact HT.out.bd x h
      · have := HKB.out
        simp at h
        omega) (by rw [List.length_append, HN.out]; exact HNL.out)
    have hcap5 := Own.cap HO5.out
    refine ⟨A5, c5, _, rfl, R5, ⟨hc5, hcap5⟩, ?_⟩
    have B4 : Below w.heap.size w w4 := B3'.out.grown HG4.out (by simp only [World.size_alloc]; omega) (fun j hj => Nat.le_of_eq (Option.some.inj (show some w.heap.size = some j from hj)))
    exact (B4.alloc B4.size _).grown HG5.out.g (by have := B4.size; simp only [World.size_alloc]; omega) (fun j hj => (own_block HO4.out hj).1)
end Go.Proofs.Ytjgeolfjhfdbmaa
