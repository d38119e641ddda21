/-
  Stage 16: the numbers of a list, sorted into a list of the call's own.
-/
import Derived.Test.YtknkgcphamhjlaaASrd
import Derived.Shelf.Sort.Plain
import Derived.Shelf.Slices.In.SortNone
set_option linter.unusedSimpArgs false
set_option linter.unusedVariables false
namespace Go.Proofs.Ytknkgcphamhjlaa
open Go.RowKit Go.Maps Go.Sort Go.Shelf

abbrev srt (zs : List Int) : List Int := zs.mergeSort fun x y => decide (x ≤ y)
def OwnPost (zs : List Int) (w : World) (e : Ending) (w' : World) : Prop := ∃ v, e = .returned v ∧ Own .i64 3 w' w.heap.size v zs ∧ Below w.heap.size w w'
theorem values_any (A : Option Addr) (c L : Nat) (w : World) : Calls Try.prog 26 #[.slice A L c] w fun e w' => e = .returned (.func (.func 40) #[] #[.pointer (some ⟨w.heap.size, 0, none⟩)]) ∧ w' = w.alloc (.cells #[.slice A L c] 22) := by
  go_enter Try.func26, Try.ntmps26
  go_wp2_with fail
  go_ret
  exact ⟨rfl, rfl⟩
theorem collect_any (Bs : Nat) (A : Option Addr) (c L : Nat) (zs : List Int) (hL : zs.length = L) (hm : L ≤ 1000000) (w : World) (hc : w.cell? ⟨Bs, 0, none⟩ = some (.slice A L c)) (hr : Row .i64 w w.heap.size A zs) :
    Calls Try.prog 38 #[.func (.func 40) #[] #[.pointer (some ⟨Bs, 0, none⟩)]] w (OwnPost zs w) := by
  have HG := Lib.hid (callsIn_wide.1 (gather_any Bs A c L zs hL hm w hc hr))
  clear hL hc hr
  go_enter Try.func38, Try.ntmps38
  go_wp2_with fail
  refine HG.out.mono ?_
  rintro e w1 ⟨v, rfl, O, B⟩
  have HO := Lib.hid O
  have HB := Lib.hid B
  clear O B HG
  go_wp2_with fail
  go_ret
  exact ⟨v, rfl, HO.out, HB.out⟩
theorem sortI_any (base : Nat) (v : Value) (zs : List Int) (w : World) (hm : zs.length ≤ 1000000) (O : Own .i64 3 w base v zs) :
    Calls Try.prog 39 #[v] w fun e w' => e = .returned (.tuple #[]) ∧ Own .i64 3 w' base v (srt zs) ∧ w.grownBy w' v.ownBlock := by
  rcases O.2 with ⟨rfl, hz⟩ | ⟨gb, cap, cur, rfl, hbase, hgb, r1, r2, r3, r4⟩
  · obtain rfl : zs = [] := List.eq_nil_of_length_eq_zero hz
    have h := Any.slices_Sort_int_none sortI none 0 w
    change Calls Try.prog 39 _ _ _ at h
    refine h.mono ?_
    rintro e w' ⟨rfl, rfl⟩
    exact ⟨rfl, by simpa using O, World.grownBy.refl _ _⟩
  · have hH : Holds (Value.int .i64) w gb 0 zs.toArray := holds_of_block_i hgb (by simpa using r4)
    have hgl : gb < w.heap.size := (Array.getElem?_eq_some_iff.1 hgb).1
    have h := Any.slices_Sort_int sortI gb 0 cap zs w hH hgl (by omega)
    change Calls Try.prog 39 _ _ _ at h
    refine h.mono ?_
    rintro e w' ⟨rfl, nn, os, rfl⟩
    refine ⟨rfl, ?_, grownBy_sorted_i _⟩
    unfold Own
    rw [show (srt zs).length = zs.length by simp]
    exact ownsRow_sorted_i (by simp) hbase hgb r1 r2 r3
theorem sorted_any (Bs : Nat) (A : Option Addr) (c L : Nat) (zs : List Int) (hL : zs.length = L) (hm : L ≤ 1000000) (w : World) (hc : w.cell? ⟨Bs, 0, none⟩ = some (.slice A L c)) (hr : Row .i64 w w.heap.size A zs) :
    Calls Try.prog 25 #[.func (.func 40) #[] #[.pointer (some ⟨Bs, 0, none⟩)]] w (OwnPost (srt zs) w) := by
  have HG := Lib.hid (collect_any Bs A c L zs hL hm w hc hr)
  have HL := Lib.hid (show zs.length ≤ 1000000 by omega)
  clear hL hc hr
  go_enter Try.func25, Try.ntmps25
  go_wp2_with fail
  refine HG.out.mono ?_
  rintro e w1 ⟨v, rfl, O, B⟩
  have HO := Lib.hid O
  have HB := Lib.hid B
  clear O B HG
  go_wp2_with fail
  refine (sortI_any w.heap.size v zs w1 HL.out HO.out).mono ?_
  rintro e w2 ⟨rfl, O2, G2⟩
  have HO2 := Lib.hid O2
  have HB2 := Lib.hid (HB.out.grown G2 HB.out.size (fun j hj => (own_block HO.out hj).1))
  clear O2 G2
  go_wp2_with fail
  go_ret
  exact ⟨v, rfl, HO2.out, HB2.out⟩
end Go.Proofs.Ytknkgcphamhjlaa
