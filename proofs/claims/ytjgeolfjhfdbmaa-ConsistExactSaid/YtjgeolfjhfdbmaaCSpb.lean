/-
  Stage 6: the maker's SpoilBytes.
-/
import Derived.Test.YtjgeolfjhfdbmaaCChk
import Derived.Test.YtjgeolfjhfdbmaaCRd
import Derived.Test.YtjgeolfjhfdbmaaMkSpoil
import Derived.Lib.ConvBytes
import Derived.Laws.AppendOwn
set_option linter.unusedSimpArgs false
set_option linter.unusedVariables false
namespace Go.Proofs.Ytjgeolfjhfdbmaa
open Go.RowKit

theorem conv_str_ (w : World) (t : ByteArray) (ht : t.size ≤ 1000001) : ∃ (c : Nat) (w' : World), (convert 9 24 (.string t)).run Try.prog w = .ok (.slice (some ⟨w.heap.size, 0, none⟩) t.size c) w' ∧ Below w.heap.size w w' ∧
    Row .u8 w' w'.heap.size (some ⟨w.heap.size, 0, none⟩) (nums t) ∧ t.size ≤ c ∧ c ≤ maxLen := by
  refine ⟨_, _, Lib.run_convert_string_bytes w 9 24 5 t Try.underlying9 Try.underlying24 Try.underlying5, ⟨rfl, rfl, rfl, by rw [Lib.bytesWorld_size]; omega, fun k hk => Lib.bytesWorld_at_old w _ t k hk⟩, fun j hj => ⟨_, rfl, by rw [Lib.bytesWorld_size]; exact Nat.lt_succ_self _, ?_⟩, grownCap_ge _ _ _ _, grownCap_le_maxLen _ _ _ _ (by unfold maxLen; omega)⟩
  rw [nums_length] at hj
  rw [add_own, Lib.bytesWorld_cell w _ t j hj]
  unfold nums
  have hj' : j < t.data.toList.length := hj
  rw [List.getD_eq_getElem?_getD, List.getD_eq_getElem?_getD, List.getElem?_map, List.getElem?_eq_getElem hj']
  rfl
def SpbPost (m M : Nat) (w : World) (e : Ending) (w' : World) : Prop :=
  ∃ A c xs, e = .returned (.slice A xs.length c) ∧ BRow w' A xs ∧ (xs.length ≤ c ∧ c ≤ maxLen) ∧ IsMk w' m M ∧ Moves m w w'
theorem nums_bd_ (s : ByteArray) : BB (nums s) := fun z hz => by
  unfold nums at hz
  obtain ⟨b, _, rfl⟩ := List.mem_map.1 hz
  have := b.toNat_lt
  omega
theorem mspoilb_any (m N n : Nat) (xs : List Int) (A : Option Addr) (c : Nat) (w : World) (h : IsMk w m N) (hN : N ≤ 10000000000) (R : BRow w A xs) (hn : n = xs.length) (hl : n ≤ 1000000) :
    Calls Try.prog 11 #[.pointer (some ⟨m, 0, none⟩), .slice A n c] w (SpbPost m (N + 3) w) := by
  have hcv := conv_row w (A := A) (c := c) (zs := xs) (fun j hj => by obtain ⟨ad, e, _, hc⟩ := R.row j hj; exact ⟨ad, e, hc⟩) n hn
  obtain ⟨s, hs⟩ : ∃ s, s = strOfNums xs := ⟨_, rfl⟩
  rw [← hs] at hcv
  have HS := Lib.hid (show s.size = n by rw [hs, strOfNums_size, hn])
  have hm := h.lt
  clear R hs hn
  go_enter Try.func11, Try.ntmps11
  go_wp2_with fail
  refine (mspoil_any m N s _ h hN (by rw [HS.out]; exact hl)).mono ?_
  rintro e w1 ⟨t, rfl, ht, k1, k2⟩
  have ht2 : t.size ≤ 1000001 := by have := HS.out; omega
  obtain ⟨c2, w2, hcw, B2, R2, hc1, hc2⟩ := conv_str_ w1 t ht2
  have HR2 := Lib.hid R2
  have HB2 := Lib.hid B2
  have HT := Lib.hid ht2
  have HC := Lib.hid (show t.size ≤ c2 ∧ c2 ≤ maxLen from ⟨hc1, hc2⟩)
  have K2 := Lib.hid (k1.stays' B2)
  have M2 := Lib.hid (k2.trans (Moves.of_below B2))
  clear R2 B2 ht k1 k2 hc1 hc2 ht2
  go_wp2_with fail
  go_ret
  refine ⟨_, c2, nums t, by rw [nums_length]; rfl, ⟨HR2.out, ?_, nums_bd_ t⟩, ?_, K2.out, M2.out⟩
  · rw [nums_length]; have := HT.out; omega
  · rw [nums_length]; exact HC.out
end Go.Proofs.Ytjgeolfjhfdbmaa
