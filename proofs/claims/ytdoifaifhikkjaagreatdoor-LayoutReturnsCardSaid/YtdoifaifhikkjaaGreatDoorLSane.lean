/-
  Stage 9: the sanity check.
-/
import Derived.Test.YtdoifaifhikkjaaGreatDoorLParse
import Derived.Test.YtdoifaifhikkjaaGreatDoorLFmt
set_option linter.unusedSimpArgs false
set_option linter.unusedVariables false
namespace Go.Proofs.YtdoifaifhikkjaaGreatDoor
open Go.RowKit Go.Lib

def tx1 : ByteArray := ⟨#[99, 114, 101, 115, 116, 32, 99, 10, 115, 119, 105, 116, 99, 104, 32, 119, 32, 99, 32, 57, 48, 48, 48, 32, 49, 48, 48, 48, 32, 53, 48, 10, 116, 114, 97, 99, 107, 32, 116, 49, 32, 119, 58, 108, 101, 102, 116, 32, 53, 48, 48, 48, 48, 48, 32, 45, 49, 48, 48, 32, 48, 10]⟩
def tx2 : ByteArray := ⟨#[99, 114, 101, 115, 116, 32, 99, 10, 115, 101, 103, 109, 101, 110, 116, 32, 115, 32, 99, 32, 49, 48, 32, 48, 10]⟩
def tx3 : ByteArray := ⟨#[35, 32, 97, 32, 104, 117, 109, 112, 10, 32, 99, 114, 101, 115, 116, 32, 99, 10, 116, 114, 97, 99, 107, 32, 32, 116, 32, 99, 32, 53, 48, 48, 32, 45, 50, 48, 32, 48]⟩
def tx4 : ByteArray := ⟨#[99, 114, 101, 115, 116, 32, 99, 10, 116, 114, 97, 99, 107, 32, 116, 32, 99, 32, 53, 48, 48, 32, 45, 50, 48, 32, 48, 10]⟩
def el0 : El := ⟨0, ⟨#[99]⟩, -1, 0, 0, 0, 0, 0⟩
def el1 : El := ⟨4, ⟨#[116]⟩, 0, 0, 500, -20, 0, 0⟩
set_option maxRecDepth 1000000 in
theorem ps2 : parseE tx2 = ([], 2, 6) := by decide +kernel
set_option maxRecDepth 1000000 in
theorem ps1 : parseE tx1 = ([], 0, 13) := by decide +kernel
set_option maxRecDepth 1000000 in
theorem ps3 : parseE tx3 = ([el0, el1], 0, 0) := by decide +kernel
set_option maxRecDepth 1000000 in
theorem fm4 : fmtE [el0, el1] = (tx4, 0) := by decide +kernel
theorem sz_els : SzE [el0, el1] := fun x hx => by
  simp at hx
  rcases hx with rfl | rfl <;> decide
set_option maxRecDepth 100000 in
set_option maxHeartbeats 1600000 in
theorem sane_any (w : World) (D : Dor w) : Calls Tryz.prog 9 #[] w fun e w' => e = .returned (.bool true) ∧ Below w.heap.size w w' := by
  have HD := Lib.hid D
  have h1 := parse_any tx1 w (by decide) D
  have H1 := Lib.hid h1
  clear h1 D
  go_enter Tryz.func9, Tryz.ntmps9
  go_wp2_with fail
  refine H1.out.mono ?_
  rintro e w1 ⟨v1, rfl, O1, B1⟩
  rw [ps1]
  have HB1 := Lib.hid B1
  have H2 := Lib.hid (parse_any tx2 w1 (by decide) (HD.out.below B1))
  clear O1 B1 H1
  go_wp2_with fail
  refine H2.out.mono ?_
  rintro e w2 ⟨v2, rfl, O2, B2⟩
  rw [ps2]
  have HB2 := Lib.hid (HB1.out.trans (B2.mono HB1.out.size))
  have H3 := Lib.hid (parse_any tx3 w2 (by decide) (HD.out.below HB2.out))
  clear O2 B2 H2
  go_wp2_with fail
  refine H3.out.mono ?_
  rintro e w3 ⟨v3, rfl, O3, B3⟩
  rw [ps3] at O3 ⊢
  have HB3 := Lib.hid (HB2.out.trans (B3.mono HB2.out.size))
  obtain ⟨A, c, rfl, RR, hlc, -, -, -⟩ := O3.full
  have H4 := Lib.hid (fmt_any [el0, el1] A c w3 RR O3.plain hlc (HD.out.below HB3.out) sz_els)
  clear O3 B3 H3 RR hlc
  go_wp2_with fail
  refine H4.out.mono ?_
  rintro e w4 ⟨rfl, B4⟩
  rw [fm4]
  have htx : (tx4.toList == [99, 114, 101, 115, 116, 32, 99, 10, 116, 114, 97, 99, 107, 32, 116, 32, 99, 32, 53, 48, 48, 32, 45, 50, 48, 32, 48, 10]) = true := by rw [ByteArray.toList_eq]; rfl
  generalize tx4 = t4 at htx ⊢
  have HTX := Lib.hid htx
  clear htx
  have HB4 := Lib.hid (HB3.out.trans (B4.mono HB3.out.size))
  clear B4 H4
  go_wp2_with fail
  go_ret
  exact ⟨ret_bool HTX.out, HB4.out⟩
end Go.Proofs.YtdoifaifhikkjaaGreatDoor
