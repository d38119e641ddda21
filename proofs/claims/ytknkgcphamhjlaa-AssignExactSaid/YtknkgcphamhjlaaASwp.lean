/-
  Stage 16: the library's exchange of two ranges, and its rotation: lists of the sort's.
-/
import Derived.Test.YtknkgcphamhjlaaAMath
import Derived.Test.YtknkgcphamhjlaaNum
import Derived.Shelf.SlSortCmp.Insertion1
set_option linter.unusedSimpArgs false
set_option linter.unusedVariables false
namespace Go.Proofs.Ytknkgcphamhjlaa
open Go.RowKit Go.Lib Go.Sort Go.Shelf

variable {α : Type} [Inhabited α]
/-- What the sort's functions are told, once. -/
structure Srt (enc : α → Value) (cf : α → α → Int) (g : Nat) (cb : Array Value) (blk off : Nat) (d0 : Array α) (w0 : World) : Prop where
  row : Row1 enc w0 blk off d0
  cmp : CmpLays1 Try.prog g cb enc cf blk off d0.size w0
  ent : ∀ args w, (callFunc g args).run Try.prog w = .ok (.enter g args) w
  small : d0.size ≤ 1000000
abbrev SL (enc : α → Value) (w0 : World) (blk off : Nat) (l : List α) (W : World) : Prop := SW enc w0 blk off l.toArray W

set_option maxHeartbeats 16000000 in
set_option maxRecDepth 1000000 in
theorem swapRange_any {enc : α → Value} {cf : α → α → Int} {g : Nat} {cb : Array Value} {blk off : Nat} {d0 : Array α} {w0 : World} (T : Srt enc cf g cb blk off d0 w0) (cap N a b n : Nat) (p x m y q : List α) (w : World)
    (hN : N = d0.size) (hl : (p ++ (x ++ (m ++ (y ++ q)))).length = N) (ha : a = p.length) (hb : b = p.length + x.length + m.length) (hx : x.length = n) (hy : y.length = n) (S : SL enc w0 blk off (p ++ (x ++ (m ++ (y ++ q)))) w) :
    Calls Try.prog 67 #[.slice (some ⟨blk, off, none⟩) N cap, .int .i64 (a : Int), .int .i64 (b : Int), .int .i64 (n : Int), .func (.func g) #[] cb] w fun e w' => e = .returned (.tuple #[]) ∧ SL enc w0 blk off (p ++ (y ++ (m ++ (x ++ q)))) w' := by
  have R := T.row
  have hs := T.small
  have hcl0 := R.hO.cells
  simp only [Value.cells] at hcl0
  have hst := R.hO.store Try.prog
  have mixed : Try.prog.follows .mixedOrders = true := by kernel_rfl
  have S0 : Aside (SL enc w0 blk off (p ++ (x ++ (m ++ (y ++ q)))) w) := S
  have HA := Lib.hid ha
  have HB := Lib.hid hb
  have HN := Lib.hid hN
  have HX := Lib.hid hx
  have HY := Lib.hid hy
  have hN1 : N ≤ 1000000 := by omega
  have hab : a + n ≤ N ∧ b + n ≤ N := by simp at hl; omega
  obtain ⟨hab1, hab2⟩ := hab
  have HL := Lib.hid hl
  clear S ha hb hN hl hx hy hs
  go_enter Try.func67, Try.ntmps67
  go_wp2
  go_loopg [10] n (fun g1 vi wr => ∃ (i : Nat), vi = .int .i64 (i : Int) ∧ i ≤ n ∧ n - i ≤ g1 ∧ Aside (∃ x1 x2 y1 y2, x = x1 ++ x2 ∧ y = y1 ++ y2 ∧ x1.length = i ∧ y1.length = i ∧ SL enc w0 blk off (p ++ (y1 ++ (x2 ++ (m ++ (x1 ++ (y2 ++ q)))))) wr))
  case atStart => exact ⟨0, rfl, by omega, by omega, ⟨[], x, [], y, rfl, rfl, rfl, rfl, S0⟩⟩
  case round =>
    clear S0
    obtain ⟨i, rfl, hin, hg1, SJ⟩ := hrel
    by_cases hlt : i < n
    · have hltz : (i : Int) < (n : Int) := by omega
      obtain ⟨x1, x2, y1, y2, hx, hy, lx, ly, S1⟩ := SJ
      have ex2 : ∃ u x3, x2 = u :: x3 := by
        cases x2 with
        | nil => exfalso; have := HX.out; rw [hx] at this; simp at this; omega
        | cons u x3 => exact ⟨u, x3, rfl⟩
      have ey2 : ∃ v y3, y2 = v :: y3 := by
        cases y2 with
        | nil => exfalso; have := HY.out; rw [hy] at this; simp at this; omega
        | cons u x3 => exact ⟨u, x3, rfl⟩
      obtain ⟨u, x3, rfl⟩ := ex2
      obtain ⟨v, y3, rfl⟩ := ey2
      obtain ⟨dj, hdj⟩ : ∃ d, d = (p ++ (y1 ++ (u :: x3 ++ (m ++ (x1 ++ (v :: y3 ++ q)))))).toArray := ⟨_, rfl⟩
      have hsz : dj.size = N := by
        rw [hdj]; have := HL.out; have h1 := HX.out; have h2 := HY.out; rw [hx, hy] at this; simp at this ⊢; omega
      have hxl := HX.out
      rw [hx] at hxl
      simp at hxl
      have hbl := HB.out
      rw [hx] at hbl
      simp at hbl
      have hal := HA.out
      have eswp : swp dj (a + i) (b + i) = (p ++ ((y1 ++ [v]) ++ (x3 ++ (m ++ ((x1 ++ [u]) ++ (y3 ++ q)))))).toArray := by
        rw [hdj]
        have := swp_cut (p ++ y1) (x3 ++ (m ++ x1)) (y3 ++ q) u v (a + i) (b + i) (by simp; omega) (by simp; omega)
        simpa using this
      have S2 : Aside (SW enc w0 blk off dj wr) := by rw [hdj]; exact S1
      have HREST := Lib.hid (show x = (x1 ++ [u]) ++ x3 ∧ y = (y1 ++ [v]) ++ y3 ∧ (x1 ++ [u]).length = i + 1 ∧ (y1 ++ [v]).length = i + 1 from ⟨by simp [hx], by simp [hy], by simp [lx], by simp [ly]⟩)
      have HE := Lib.hid eswp
      have hds : dj.size = d0.size := hsz.trans HN.out
      have HDS := Lib.hid hds
      have HSZ := Lib.hid hsz
      clear hx hy lx ly S1 hxl hbl hal hdj eswp hds hsz
      obtain ⟨iN, hiN⟩ : ∃ z, z = a + i := ⟨_, rfl⟩
      obtain ⟨jN, hjN⟩ : ∃ z, z = b + i := ⟨_, rfl⟩
      have ea : ((a : Int) + (i : Int)).toNat = iN := by omega
      have pa : (0 : Int) ≤ (a : Int) + (i : Int) := by omega
      have ba : (a : Int) + (i : Int) < (N : Int) := by omega
      have ra : IntKind.i64.wrap ((a : Int) + (i : Int)) = (a : Int) + (i : Int) := by rw [IntKind.wrap_i64]; omega
      have ec : ((b : Int) + (i : Int)).toNat = jN := by omega
      have pc : (0 : Int) ≤ (b : Int) + (i : Int) := by omega
      have bc : (b : Int) + (i : Int) < (N : Int) := by omega
      have rc : IntKind.i64.wrap ((b : Int) + (i : Int)) = (b : Int) + (i : Int) := by rw [IntKind.wrap_i64]; omega
      obtain ⟨xx, hxx⟩ : ∃ z, z = dj[a + i]! := ⟨_, rfl⟩
      obtain ⟨yy, hyy⟩ : ∃ z, z = dj[b + i]! := ⟨_, rfl⟩
      have S3 : Aside (SW enc w0 blk off (swp dj (a + i) (b + i)) ((wr.setCell ⟨blk, off + iN, none⟩ (enc yy)).setCell ⟨blk, off + jN, none⟩ (enc xx)).drew) := by
        rw [hiN, hjN, hxx, hyy]; exact S2.out.swapped R (a + i) (b + i) (by rw [HSZ.out]; omega) (by rw [HSZ.out]; omega)
      have ca := S2.out.c1 R HDS.out (a + i) (by rw [HSZ.out]; omega)
      have cb1 := S2.out.c1 R HDS.out (b + i) (by rw [HSZ.out]; omega)
      have fa := S2.out.f1 R HDS.out (a + i) (by rw [HSZ.out]; omega)
      have fb := S2.out.f1 R HDS.out (b + i) (by rw [HSZ.out]; omega)
      obtain ⟨uu, cc⟩ := S2.out.c2 R HDS.out (a + i) (b + i) (by rw [HSZ.out]; omega) (by rw [HSZ.out]; omega) (enc yy)
      rw [← hjN, ← hiN] at cc
      rw [← hxx, ← hiN] at ca
      rw [← hyy, ← hjN] at cb1
      rw [← hiN] at fa
      rw [← hjN] at fb
      clear S2 hxx hyy hiN hjN
      go_wp2_with fail
      go_big_region_o
      clear ca cb1 cc fa fb
      generalize ((wr.setCell ⟨blk, off + iN, none⟩ (enc yy)).setCell ⟨blk, off + jN, none⟩ (enc xx)).drew = w3 at S3 ⊢
      rw [HE.out] at S3
      clear ea ec
      go_wp2
      go_roundg (n - (i + 1))
      case measure => omega
      case rel => exact ⟨i + 1, by go_num, by omega, by omega, ⟨x1 ++ [u], x3, y1 ++ [v], y3, HREST.out.1, HREST.out.2.1, HREST.out.2.2.1, HREST.out.2.2.2, S3⟩⟩
    · have hltz : ¬ (i : Int) < (n : Int) := by omega
      have HS := Lib.hid (show SL enc w0 blk off (p ++ (y ++ (m ++ (x ++ q)))) wr from by
        obtain ⟨x1, x2, y1, y2, hx, hy, lx, ly, S1⟩ := SJ
        have h1 := HX.out
        have h2 := HY.out
        rw [hx] at h1
        rw [hy] at h2
        simp at h1 h2
        obtain rfl : x2 = [] := List.eq_nil_of_length_eq_zero (by omega)
        obtain rfl : y2 = [] := List.eq_nil_of_length_eq_zero (by omega)
        rw [hx, hy]
        simpa using S1)
      clear SJ
      go_wp2
      go_end0
      exact ⟨rfl, HS.out⟩
end Go.Proofs.Ytknkgcphamhjlaa
