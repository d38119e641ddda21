/-
  Stage 6: lists of wagons of the call's own: append; the maker's Wagons.
-/
import Derived.Test.YtgiodpepjajlmaaCMkW
import Derived.Test.YtgiodpepjajlmaaCLs
set_option linter.unusedSimpArgs false
set_option linter.unusedVariables false
namespace Go.Proofs.Ytgiodpepjajlmaa
open Go.RowKit

/-- What an append to wagons of the call's own leaves. -/
def AppW (base : Nat) (v : Value) (l ys : List Wag) (W : World) (v' : Value) (w' : World) : Prop :=
  ROwn WR 30 w' base v' (l ++ ys) ∧ W.grownBy w' v.ownBlock ∧ ∃ g c, v' = .slice (some ⟨g, 0, none⟩) (l.length + ys.length) c ∧ g < w'.heap.size
/-- append(v, ys..) onto wagons of the call's own, ys just laid. -/
theorem wpList_appW (W : World) {ops : Array Oper} {rest : List Oper} {o : Oper} {a : Act} {Q : Exit → Act → World → Prop} (hgd : o.guard = none) (s x : Operand)
    (ho : o.op = .call { callee := .builtin .append, args := #[s, x], argTypes := #[31, 31] }) (base : Nat) (v : Value) (l : List Wag) (hs : a.eval s = v) (O : ROwn WR 30 W base v l)
    (ys : List Wag) (w0 : World) (hW : W = w0.alloc (.cells (WR.flat ys).toArray 30)) (z : Nat) (hz : w0.heap.size = z) (m c : Nat) (hm : ys.length = m) (h0 : 0 < m) (hx : a.eval x = .slice (some ⟨z, 0, none⟩) m c)
    (hl : l.length + m ≤ 1000000000) (hb : base ≤ W.heap.size)
    (h : ∀ v' w', AppW base v l ys W v' w' → wpList Try.prog ops Q rest (a.put o.dst v') w') : wpList Try.prog ops Q (o :: rest) a W := by
  obtain ⟨i0, hi, hz0, hz1, hz2⟩ := info_parts infoWag
  subst hm
  subst hz
  refine wpList_append_lies W hgd s x 31 ho base 30 i0 (aggW wag0) 8 80 Try.underlying31 hi hz0 hz1 hz2 rfl (by decide) v l.length (WR.flat l) hs O ⟨w0.heap.size, 0, none⟩ ys.length c (WR.flat ys) hx (flatR_len WR ys) (by rw [hW]; exact newR (R := WR)) (flatR_one WR ys) h0 (by unfold maxLen; omega) (by omega) hb W.heap.size rfl ?_
  intro g cap w1 hown hg hat hlt
  exact h _ w1 ⟨ROwn.app (R := WR) hown rfl rfl, hg, g, cap, rfl, hlt⟩
/-- Wagons, each of which bears its place. -/
def Made (l : List Wag) : Prop := ∀ (k : Nat) (x : Wag), l[k]? = some x → OkW (k : Int) x
theorem Made.nil : Made [] := fun k x hk => by simp at hk
theorem Made.snoc {l : List Wag} {x : Wag} (h : Made l) (hx : OkW (l.length : Int) x) : Made (l ++ [x]) := fun k y hy => by
  by_cases hk : k < l.length
  · rw [List.getElem?_append_left hk] at hy; exact h k y hy
  · rw [List.getElem?_append_right (by omega)] at hy
    have h0 : k - l.length = 0 := by
      have := (List.getElem?_eq_some_iff.1 hy).1
      simp at this; omega
    rw [h0] at hy
    simp at hy
    subst hy
    have : k = l.length := by omega
    rw [this]; exact hx
theorem dgt_inj {i j : Nat} (hi : i < 1000) (hj : j < 1000) (h1 : UInt8.ofNat (48 + (i : Int) / 100 % 10).toNat = UInt8.ofNat (48 + (j : Int) / 100 % 10).toNat) (h2 : UInt8.ofNat (48 + (i : Int) / 10 % 10).toNat = UInt8.ofNat (48 + (j : Int) / 10 % 10).toNat) (h3 : UInt8.ofNat (48 + (i : Int) % 10).toNat = UInt8.ofNat (48 + (j : Int) % 10).toNat) : i = j := by
  have e1 := congrArg UInt8.toNat h1
  have e2 := congrArg UInt8.toNat h2
  have e3 := congrArg UInt8.toNat h3
  rw [UInt8.toNat_ofNat', UInt8.toNat_ofNat'] at e1 e2 e3
  omega
theorem isNum_inj {i j : Nat} {t : ByteArray} (hi : i < 1000) (hj : j < 1000) (h : IsNum i t) (k : IsNum j t) : i = j := by
  obtain ⟨_, _, a1, a2, a3⟩ := h
  obtain ⟨_, _, b1, b2, b3⟩ := k
  exact dgt_inj hi hj (a1.symm.trans b1) (a2.symm.trans b2) (a3.symm.trans b3)
theorem Made.nodup {l : List Wag} (h : Made l) (hl : l.length ≤ 1000) : (l.map Wag.num).Nodup := by
  rw [List.nodup_iff_pairwise_ne, List.pairwise_iff_getElem]
  intro i j hi hj hij e
  rw [List.length_map] at hi hj
  rw [List.getElem_map, List.getElem_map] at e
  have h1 := (h i l[i] (List.getElem?_eq_getElem hi)).2
  have h2 := (h j l[j] (List.getElem?_eq_getElem hj)).2
  rw [e] at h1
  have := isNum_inj (by omega) (by omega) h1 h2
  omega
theorem Made.valid {l : List Wag} (h : Made l) (hl : l.length ≤ 96) : validL l = 0 := by
  refine validL_zero.2 ⟨hl, fun x hx => ?_, h.nodup (by omega)⟩
  obtain ⟨k, hk⟩ := List.mem_iff_getElem?.1 hx
  exact (h k x hk).1
def WagsPost (m M n : Nat) (w : World) (e : Ending) (w' : World) : Prop := ∃ v l, e = .returned v ∧ ROwn WR 30 w' w.heap.size v l ∧ l.length ≤ n ∧ Made l ∧ IsMk w' m M ∧ Moves m w w'
set_option maxHeartbeats 1600000 in
theorem mwagons_any (m N n : Nat) (w : World) (h : IsMk w m N) (hN : N ≤ 1000000) (hn : n ≤ 1000) :
    Calls Try.prog 13 #[.pointer (some ⟨m, 0, none⟩), .int .i64 (n : Int)] w (WagsPost m (N + 1 + 17 * n) n w) := by
  have hm := h.lt
  go_enter Try.func13, Try.ntmps13
  go_wp2_with fail
  refine (next_any m N _ _ h (by omega) (by omega) (by omega)).mono ?_
  rintro e w2 ⟨v, rfl, v1, v2, k1, k2⟩
  obtain ⟨k0, rfl⟩ := Int.eq_ofNat_of_zero_le v1
  have HK := Lib.hid k1
  have HM := Lib.hid k2
  clear k1 k2
  go_wp2_with fail
  go_loopw [5, 6] (fun ov iv wr => ∃ (l : List Wag) (k M : Nat), iv = .int .i64 (k : Int) ∧ l.length + k ≤ n ∧ M + 17 * k ≤ N + 1 + 17 * n ∧ Hid (ROwn WR 30 wr w.heap.size ov l) ∧ Hid (Made l) ∧ Hid (IsMk wr m M) ∧ Hid (Moves m w wr)) (fun _ iv _ => (intOf iv).toNat)
  case atStart => exact ⟨[], k0, N + 1, rfl, by simp; omega, by omega, Lib.hid ROwn.nil, Lib.hid Made.nil, HK, HM⟩
  case round =>
    clear HK HM
    obtain ⟨l, k, M, rfl, hk, hM, O, G, K, V⟩ := hrel
    by_cases hk0 : k = 0
    · subst hk0
      have K' := Lib.hid (K.out.more (show M ≤ N + 1 + 17 * n by omega))
      have HLN := Lib.hid (show l.length ≤ n by omega)
      go_wp2_with fail
      go_ret
      exact ⟨_, l, rfl, O.out, HLN.out, G.out, K'.out, V.out⟩
    · have hkp : (0 : Int) < (k : Int) := by omega
      obtain ⟨A, c, hv, _⟩ := O.out.slice
      subst hv
      go_wp2_with fail
      refine (mwagon_any m M (l.length : Int) _ K.out (by omega) (by omega) (by omega)).mono ?_
      rintro e w3 ⟨x, rfl, hx, k5, k6⟩
      have M3 := Lib.hid (V.out.trans k6)
      have O3 := Lib.hid (O.out.moves k6 hm)
      have K3 := Lib.hid k5
      have HX := Lib.hid hx
      have HLN := Lib.hid (show l.length ≤ 1000 by omega)
      clear k5 k6 K V O hx
      go_wp2_with (first | (at_builtin; refine wpList_appW _ rfl (.tmp 15) (.tmp 20) rfl w.heap.size _ l rfl (O3.out.alloc _) [x] w3 rfl _ rfl 1 1 rfl (by decide) rfl (by have := HLN.out; omega) (le_alloc M3.out.size) ?_; rintro v4 w4 ⟨O4, G4, g4, c4, rfl, _⟩))
      have HO4 := Lib.hid O4
      have M4 := Lib.hid ((M3.out.alloc (.cells (WR.flat [x]).toArray 30)).grown G4 (fun j hj => (O3.out.block hj).1))
      have K4 := Lib.hid ((K3.out.alloc (.cells (WR.flat [x]).toArray 30)).grown G4 (fun j hj => by have := (O3.out.block hj).1; omega))
      clear O4 G4
      go_roundw
      case rel =>
        refine ⟨l ++ [x], k - 1, M + 17, by congr 1; omega, by rw [List.length_append]; simp; omega, by omega, HO4, Lib.hid (G.out.snoc HX.out), K4, M4⟩
      case measure => simp [intOf]; omega
end Go.Proofs.Ytgiodpepjajlmaa
