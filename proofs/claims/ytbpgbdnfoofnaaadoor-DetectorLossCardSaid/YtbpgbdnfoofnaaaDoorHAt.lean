/-
  Stage 3: Encode and Decode, said of a named answer.
-/
import Derived.Test.YtbpgbdnfoofnaaaDoorHDec
set_option linter.unusedSimpArgs false
set_option linter.unusedVariables false
namespace Go.Proofs.YtbpgbdnfoofnaaaDoor
open Go.RowKit

theorem below_dn (w : World) (n : Nat) : Below w.heap.size w (w.drewN n) := bdn (Below.refl _ _)
theorem encode_at {v : Int} {t : Int × Int} (h : encR v = t) (w : World) (D : Dat w) :
    Calls Tryd.prog 37 #[.int .i64 v] w fun e w' => e = .returned (R2 t) ∧ ∃ n, w' = w.drewN n := by rw [← h]; exact encode_any v w D
theorem decode_at {v : Int} {t : Int × Int × Int} (h : decR v = t) (w : World) (D : Dat w) :
    Calls Tryd.prog 38 #[.int .i64 v] w fun e w' => e = .returned (R3 t) ∧ w = w' := by rw [← h]; exact decode_any v w D
theorem val_nat (v : Int) : ∃ n : Nat, n < 2048 ∧ (v.tmod 2048 + 2048) % 2048 = (n : Int) ∧ v.tmod 2048 % 2048 = (n : Int) := by
  have := tmod_bd v 2048 (by decide)
  exact ⟨((v.tmod 2048 + 2048) % 2048).toNat, by omega, by omega, by omega⟩
theorem encode_nat {v x : Nat} (h : v < 2048) (hx : x = encN v) (w : World) (D : Dat w) :
    Calls Tryd.prog 37 #[.int .i64 v] w fun e w' => e = .returned (R2 ((x : Int), 0)) ∧ ∃ n, w' = w.drewN n := encode_ok' v x hx w h D
theorem decode_nat {v : Nat} (h : v < 65536) {t : Int × Int × Int} (ht : decN v = t) (w : World) (D : Dat w) :
    Calls Tryd.prog 38 #[.int .i64 v] w fun e w' => e = .returned (R3 t) ∧ w = w' := by rw [← ht]; exact decode_ok v w h D

end Go.Proofs.YtbpgbdnfoofnaaaDoor
