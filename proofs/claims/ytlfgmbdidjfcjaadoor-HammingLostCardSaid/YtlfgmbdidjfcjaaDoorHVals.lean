/-
  Stage 3: numbers brought into the range of values; what is left of Pack and Unpack when bits are changed.
-/
import Derived.Test.YtlfgmbdidjfcjaaDoorHRows
set_option linter.unusedSimpArgs false
set_option linter.unusedVariables false
namespace Go.Proofs.YtlfgmbdidjfcjaaDoor
open Go.RowKit

/-- A number brought into the range of values. -/
def valI (v : Int) : Int := (v.tmod 2048 + 2048) % 2048
theorem valI_ok (v : Int) : okV (valI v) := by have := tmod_bd v 2048 (by decide); unfold okV valI; omega
def vals (zs : List Int) : List Int := (zs.take 60).map valI
theorem vals_ok (zs : List Int) : ∀ v ∈ vals zs, okV v := fun v hv => by
  obtain ⟨x, _, rfl⟩ := List.mem_map.1 hv
  exact valI_ok x
theorem vals_len (zs : List Int) : (vals zs).length ≤ 60 := by unfold vals; rw [List.length_map, List.length_take]; omega
theorem vals_succ (zs : List Int) (k : Nat) (h : k < zs.length) : (zs.take (k + 1)).map valI = (zs.take k).map valI ++ [valI (zs.getD k 0)] := by
  rw [List.take_succ_eq_append_getElem h, List.map_append, List.getD_eq_getElem?_getD, List.getElem?_eq_getElem h]; rfl
def ValsPost (zs : List Int) (w : World) (e : Ending) (w' : World) : Prop := ∃ v, e = .returned v ∧ Own .i64 3 w' w.heap.size v (vals zs) ∧ Below w.heap.size w w'
theorem ValsPost.mk' {zs : List Int} {w w' : World} {e : Ending} {v : Value} (h1 : e = .returned v) (h2 : Own .i64 3 w' w.heap.size v (vals zs)) (h3 : Below w.heap.size w w') : ValsPost zs w e w' := ⟨v, h1, h2, h3⟩

set_option maxHeartbeats 1600000 in
theorem values_any (zs : List Int) (A : Option Addr) (c : Nat) (w : World) (R : RowB .i64 w A zs) :
    Calls Tryd.prog 23 #[.slice A zs.length c] w (ValsPost zs w) := by
  obtain ⟨i0, hi, hz0, hz1, hz2⟩ := info_parts infoInt
  have hl : zs.length ≤ 9223372036854775807 := R.2
  have HR := Lib.hid R.1
  obtain ⟨L, hL⟩ : ∃ n, n = zs.length := ⟨_, rfl⟩
  have HL := Lib.hid hL
  rw [← hL] at hl ⊢
  clear R hL
  go_enter Tryd.func23, Tryd.ntmps23
  go_wp2_with fail
  go_loopw [3, 4] (fun v i wr => ∃ k : Nat, k ≤ L ∧ k ≤ 60 ∧ i = .int .i64 k ∧ Hid (Own .i64 3 wr w.heap.size v ((zs.take k).map valI)) ∧ Hid (Below w.heap.size w wr)) (fun _ i _ => 60 - (intOf i).toNat)
  case atStart => exact ⟨0, by omega, by omega, rfl, Own.nil, Below.refl _ _⟩
  case round =>
    obtain ⟨k, hk, hk6, rfl, O, B⟩ := hrel
    by_cases hlt : k < L ∧ k < 60
    · obtain ⟨h1, h2⟩ := hlt
      have hk' : k < zs.length := by rw [← HL.out]; exact h1
      obtain ⟨ad, rfl, _, hc⟩ := (HR.out.under B.out) k hk'
      have SN := Lib.hid (vals_succ zs k hk')
      obtain ⟨ys, hys⟩ : ∃ ys, ys = (zs.take k).map valI := ⟨_, rfl⟩
      have LN := Lib.hid (show ys.length ≤ k by rw [hys, List.length_map, List.length_take]; omega)
      have OY := Lib.hid (show Own .i64 3 wr w.heap.size u3 ys by rw [hys]; exact O.out)
      have YS := Lib.hid hys
      obtain ⟨z, hz⟩ : ∃ z, z = zs.getD k 0 := ⟨_, rfl⟩
      have ht := tmod_bd z 2048 (by decide)
      have hx : valI z = (z.tmod 2048 + 2048) % 2048 := rfl
      have hx2 : valI z = z.tmod 2048 % 2048 := by unfold valI; omega
      rw [← hz] at hc
      have HZ := Lib.hid hz
      obtain ⟨x, ex⟩ : ∃ x, x = valI z := ⟨_, rfl⟩
      rw [← ex] at hx hx2
      have hx' := hx.symm
      have hx2' := hx2.symm
      have EX := Lib.hid ex
      clear hys hz hx hx2 ex hk'
      go_wp2_with (first | (at_builtin; refine wpList_append_own _ rfl (.tmp 15) (.tmp 23) 22 rfl w.heap.size 3 i0 (.int .i64 0) 1 8 Tryd.underlying22 hi hz0 hz1 hz2 rfl (by decide) _ ys.length (ys.map (Value.int .i64)) rfl (OY.out.alloc _) ⟨wr.heap.size, 0, none⟩ 1 1 ([x].map (Value.int .i64)) rfl rfl (news_int (W := wr) (ys := [x])) (one_cells (ys := [x])) (by unfold maxLen; have := LN.out; omega) (by have := LN.out; omega) (by have := B.out.size; simp only [World.size_alloc]; omega) ?_; intro v' w2 hown hg _))
      clear hc hx' hx2' ht
      go_roundw
      case rel =>
        refine ⟨k + 1, by omega, by omega, by go_num, ?_, ?_⟩
        · rw [SN.out, ← YS.out, ← HZ.out, ← EX.out]; exact Own.app (ys := [x]) hown rfl rfl
        · exact (B.out.alloc B.out.size _).grown hg (by have := B.out.size; simp only [World.size_alloc]; omega) (fun g hg => (own_block OY.out hg).1)
      case measure => simp [intOf]; omega
    · have hv : (zs.take k).map valI = vals zs := by
        unfold vals
        congr 1
        rcases (show k = 60 ∨ zs.length ≤ k by rw [← HL.out]; omega) with e | e
        · rw [e]
        · rw [List.take_of_length_le e, List.take_of_length_le (by rw [← HL.out] at e ⊢; omega)]
      have O' := Lib.hid (show Own .i64 3 wr w.heap.size u3 (vals zs) by rw [← hv]; exact O.out)
      clear hv O
      by_cases h1 : k < L
      · have h2 : 60 ≤ k := by omega
        clear hlt
        go_wp2_with fail
        go_ret
        exact ValsPost.mk' rfl O'.out B.out
      · have h2 : (L : Int) ≤ k := by omega
        clear hlt
        go_wp2_with fail
        go_ret
        exact ValsPost.mk' rfl O'.out B.out
end Go.Proofs.YtlfgmbdidjfcjaaDoor
