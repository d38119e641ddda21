/-
  Stage 4: the maker's SpoilBytes; a bit is changed.
-/
import Derived.Test.YtbpgbdnfoofnaaaDoorDMk
import Derived.Test.YtbpgbdnfoofnaaaDoorDDec
import Derived.Lib.ConvBytes
import Derived.Laws.BytesArg
set_option linter.unusedSimpArgs false
set_option linter.unusedVariables false
namespace Go.Proofs.YtbpgbdnfoofnaaaDoor
open Go.RowKit

theorem push_size (xs : List Int) (s : ByteArray) : (xs.foldl (fun r n => r.push (UInt8.ofNat n.toNat)) s).size = s.size + xs.length := by
  induction xs generalizing s with
  | nil => rfl
  | cons x xs ih => rw [List.foldl_cons, ih, ByteArray.size_push, List.length_cons]; omega
theorem conv_row {w : World} {A : Option Addr} {c n : Nat} {xs : List Int} (h : RowB .u8 w A xs) (hn : n = xs.length) :
    ∃ s : ByteArray, s.size = xs.length ∧ (convert 29 9 (.slice A n c)).run Tryd.prog w = .ok (.string s) w := by
  subst hn
  cases A with
  | none =>
    have e : xs.length = 0 := by
      rcases Nat.eq_zero_or_pos xs.length with e | e
      · exact e
      · obtain ⟨ad, e', _⟩ := h.1 0 e; cases e'
    exact ⟨ByteArray.empty, e.symm, run_convert_bytes_nil w _ _ Tryd.underlying29 Tryd.underlying5 _ _ _ Tryd.underlying9⟩
  | some ad =>
    have hl : (loadCells ad xs.length).run Tryd.prog w = .ok (xs.map (Value.int .u8)).toArray w := by
      have := run_loadCells_list (P := Tryd.prog) w ad (xs.map (Value.int .u8)) (Row.news h.1)
      rwa [List.length_map] at this
    refine ⟨_, ?_, (run_convert_bytes_string w _ _ _ _ _ _ Tryd.underlying29 Tryd.underlying5 Tryd.underlying9).trans (run_bytesToString w ad _ c xs hl)⟩
    rw [push_size]; simp
/-- The bytes of a string, as the numbers of its cells. -/
def byL (t : ByteArray) : List Int := t.data.toList.map fun b => (b.toNat : Int)
theorem byL_len (t : ByteArray) : (byL t).length = t.size := by unfold byL; rw [List.length_map]; rfl
theorem byL_byt (t : ByteArray) : ∀ z ∈ byL t, 0 ≤ z ∧ z ≤ 255 := fun z hz => by
  obtain ⟨b, _, rfl⟩ := List.mem_map.1 hz
  have := b.toNat_lt
  omega
theorem conv_str (w : World) (t : ByteArray) : ∃ (c : Nat) (w' : World), (convert 9 29 (.string t)).run Tryd.prog w = .ok (.slice (some ⟨w.heap.size, 0, none⟩) t.size c) w' ∧ Below w.heap.size w w' ∧
    Row .u8 w' w'.heap.size (some ⟨w.heap.size, 0, none⟩) (byL t) := by
  refine ⟨_, _, Lib.run_convert_string_bytes w 9 29 5 t Tryd.underlying9 Tryd.underlying29 Tryd.underlying5, ⟨rfl, rfl, rfl, by rw [Lib.bytesWorld_size]; omega, fun k hk => Lib.bytesWorld_at_old w _ t k hk⟩, fun j hj => ⟨_, rfl, by rw [Lib.bytesWorld_size]; exact Nat.lt_succ_self _, ?_⟩⟩
  rw [byL_len] at hj
  rw [add_own, Lib.bytesWorld_cell w _ t j hj]
  unfold byL
  have hj' : j < t.data.toList.length := hj
  rw [List.getD_eq_getElem?_getD, List.getD_eq_getElem?_getD, List.getElem?_map, List.getElem?_eq_getElem hj']
  rfl
theorem ret_sl {A : Option Addr} {n k c : Nat} (h : n = k) : Ending.returned (.slice A n c) = .returned (.slice A k c) := by rw [h]
def SpoilPost (m M n : Nat) (w : World) (e : Ending) (w' : World) : Prop :=
  ∃ A c xs, e = .returned (.slice A xs.length c) ∧ RowB .u8 w' A xs ∧ (∀ z ∈ xs, 0 ≤ z ∧ z ≤ 255) ∧ xs.length ≤ n + 1 ∧ IsMk w' m M ∧ Moves m w w'
set_option maxHeartbeats 800000 in
theorem mspoilb_any (m N n : Nat) (xs : List Int) (A : Option Addr) (c : Nat) (w : World) (h : IsMk w m N) (hN : N ≤ 10000000000) (R : RowB .u8 w A xs) (hn : n = xs.length) (hl : n ≤ 1000000) :
    Calls Tryd.prog 22 #[.pointer (some ⟨m, 0, none⟩), .slice A n c] w (SpoilPost m (N + 3) n w) := by
  obtain ⟨s, hs, hcv⟩ := conv_row (c := c) R hn
  have HS := Lib.hid (show s.size = n by rw [hs, hn])
  have hm := h.lt
  clear R hs hn
  go_enter Tryd.func22, Tryd.ntmps22
  go_wp2_with fail
  refine (mspoil_any m N s _ h hN (by rw [HS.out]; exact hl)).mono ?_
  rintro e w1 ⟨t, rfl, ht, k1, k2⟩
  obtain ⟨c2, w2, hcw, B2, R2⟩ := conv_str w1 t
  have HR2 := Lib.hid R2
  have HB2 := Lib.hid B2
  have HT := Lib.hid ht
  have K2 := Lib.hid (k1.stays' B2)
  have M2 := Lib.hid (k2.trans (Moves.of_below B2))
  clear R2 B2 ht k1 k2
  go_wp2_with fail
  go_ret
  refine ⟨_, c2, byL t, ret_sl (byL_len t).symm, ⟨HR2.out, ?_⟩, byL_byt t, ?_, K2.out, M2.out⟩
  · rw [byL_len]; have := HT.out; have := HS.out; unfold maxLen; omega
  · rw [byL_len]; have := HT.out; have := HS.out; omega

/-- The law's flip: the bit is changed where the byte stands. -/
theorem chg_run (x p : Nat) (hx : x < 256) (hp : p < 16) : bits .xor .u8 (x : Int) (IntKind.u8.wrap (2 ^ (p % 8))) = (chg x p : Int) := by
  have h1 : ∀ r, r < 8 → IntKind.u8.wrap (2 ^ r) = ((1 <<< r : Nat) : Int) ∧ (1 <<< r : Nat) < 256 := by decide +kernel
  obtain ⟨e1, e2⟩ := h1 (p % 8) (by omega)
  rw [e1]
  exact u8_xor_nat x (1 <<< (p % 8)) hx e2
theorem chg_run' (x p : Nat) (hx : x < 256) (hp : p < 16) : bits .xor .u8 (x : Int) (2 ^ (p % 8) % 256) = (chg x p : Int) := by
  have h1 : ∀ r, r < 8 → (2 ^ r % 256 : Int) = ((1 <<< r : Nat) : Int) ∧ (1 <<< r : Nat) < 256 := by decide +kernel
  obtain ⟨e1, e2⟩ := h1 (p % 8) (by omega)
  rw [e1]
  exact u8_xor_nat x (1 <<< (p % 8)) hx e2
theorem flipX_at {xs : List Int} {k p j x : Nat} (hj : j = plc k p) (hx : xs.getD j 0 = x) : flipX xs k p = xs.set j (chg x p : Int) := by
  subst hj; unfold flipX; rw [hx, Int.toNat_natCast]
set_option maxRecDepth 100000 in
set_option maxHeartbeats 1600000 in
theorem flip_any (xs : List Int) (g c N k p base : Nat) (w : World) (O : Own .u8 5 w base (.slice (some ⟨g, 0, none⟩) N c) xs) (hN : N = xs.length) (hb : byt xs) (hk : 2 * k + 1 < N) (hp : p < 16) (hbg : base ≤ g) (hl : N ≤ 1000000) :
    Calls Tryd.prog 21 #[.slice (some ⟨g, 0, none⟩) N c, .int .i64 (k : Int), .int .i64 (p : Int)] w fun e w' => e = .returned (.tuple #[]) ∧ Own .u8 5 w' base (.slice (some ⟨g, 0, none⟩) N c) (flipX xs k p) ∧ Moves g w w' := by
  obtain ⟨j, hj⟩ : ∃ j, j = plc k p := ⟨_, rfl⟩
  have hjN : j < xs.length := by rw [← hN, hj]; unfold plc; omega
  have hj1 : 2 * (k : Int) + 1 - (p : Int) / 8 = (j : Int) := by rw [hj]; unfold plc; omega
  have hj2 : j < N := by rw [hN]; exact hjN
  obtain ⟨x, hx, lx⟩ := hb.nat hjN
  have hcx := O.cell hN j hjN
  have hfx := O.frozen hN j
  rw [hx] at hcx
  have FE := Lib.hid (flipX_at hj hx)
  have HO := Lib.hid O
  have HN := Lib.hid hN
  have w0 : IntKind.i64.wrap (2 * (k : Int)) = 2 * (k : Int) := IntWalk.i64_in _ (by omega)
  have w1' : IntKind.i64.wrap (2 * (k : Int) + 1) = 2 * (k : Int) + 1 := IntWalk.i64_in _ (by omega)
  have w2' : IntKind.i64.wrap (2 * (k : Int) + 1 - (p : Int) / 8) = (j : Int) := by rw [hj1]; exact IntWalk.i64_in _ (by omega)
  clear hj hx O hN hjN hb
  go_enter Tryd.func21, Tryd.ntmps21
  go_region
  rw [chg_run' x p lx hp]
  have S1 := Lib.hid (HO.out.store HN.out j (chg x p : Int))
  clear hcx hfx w0 w1' w2' hj1
  go_wp2_with fail
  have MV : Moves g w ((w.setCell ⟨g, j, none⟩ (.int .u8 (chg x p : Int))).drew) := ((Moves.refl g w).setCell (Or.inl rfl) _).drewN (n := 1)
  have ST : Own .u8 5 ((w.setCell ⟨g, j, none⟩ (.int .u8 (chg x p : Int))).drew) base (.slice (some ⟨g, 0, none⟩) N c) (flipX xs k p) := by rw [FE.out]; exact S1.out
  go_end0
  exact ⟨rfl, ST, MV⟩
end Go.Proofs.YtbpgbdnfoofnaaaDoor
