/-
  Stage 9: the reference's Decimal.
-/
import Derived.Test.YtdoifaifhikkjaaGreatDoorLParse
import Derived.Test.YtdoifaifhikkjaaGreatDoorLLines
import Derived.Test.YtdoifaifhikkjaaGreatDoorMkSpoil
set_option linter.unusedSimpArgs false
set_option linter.unusedVariables false
namespace Go.Proofs.YtdoifaifhikkjaaGreatDoor
open Go.RowKit Go.Lib

theorem dd_small {u : Nat} (h : u < 10) : Lib.decDigits u = [UInt8.ofNat (48 + u)] := by rw [Lib.decDigits, dif_pos h]
theorem dd_big {u : Nat} (h : ¬ u < 10) : Lib.decDigits u = Lib.decDigits (u / 10) ++ [UInt8.ofNat (48 + u % 10)] := by rw [Lib.decDigits, dif_neg h]
theorem so_dig (u : Nat) (h : u < 10) : strOfNums [48 + (u : Int)] = bs [UInt8.ofNat (48 + u)] := by
  have : u = 0 ∨ u = 1 ∨ u = 2 ∨ u = 3 ∨ u = 4 ∨ u = 5 ∨ u = 6 ∨ u = 7 ∨ u = 8 ∨ u = 9 := by omega
  rcases this with h | h | h | h | h | h | h | h | h | h <;> subst h <;> rfl
theorem one_byte_at (W : World) (b : Nat) (v : Int) (h : W.cell? ⟨b, 0, none⟩ = some (.int .u8 v)) : (convert 47 9 (.slice (some ⟨b, 0, none⟩) 1 1)).run Tryz.prog W = .ok (.string (strOfNums [v])) W :=
  run_convert_bytes_arg _ 47 5 Tryz.underlying47 Tryz.underlying5 b 0 1 1 [v] rfl (fun i hi => by
    obtain rfl : i = 0 := by omega
    rw [Nat.zero_add, h]; rfl) 9 Tryz.underlying9
theorem bs_app (a b : List UInt8) : bs (a ++ b) = bs a ++ bs b := by
  apply ba_ext
  simp [bs, ByteArray.data_append]
end Go.Proofs.YtdoifaifhikkjaaGreatDoor
