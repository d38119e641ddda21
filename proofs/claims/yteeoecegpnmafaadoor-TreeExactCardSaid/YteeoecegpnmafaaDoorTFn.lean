/-
  Stage 10: the program's check, Tracks, Path, Beyond.
-/
import Derived.Test.YteeoecegpnmafaaDoorTSet
set_option linter.unusedSimpArgs false
set_option linter.unusedVariables false
namespace Go.Proofs.YteeoecegpnmafaaDoor
open Go.RowKit Go.Lib

def inR (l : List El) (i : Int) : Bool := decide (0 ≤ i ∧ i < (l.length : Int))
/-- The first error of a layout and of indexes. -/
def chkZ (l : List El) (is : List Int) : Int := if validE l = 0 then (if is.all (inR l) then 0 else 2) else validE l
/-- What a walk is told of a layout that it reads. -/
structure LRow (w : World) (A : Option Addr) (c : Nat) (l : List El) : Prop where
  row : RRow ER w A l
  plain : PlainA A
  le : l.length ≤ c
  dor : Dor w
  sz : SzE l
theorem LRow.below {w w' : World} {A : Option Addr} {c : Nat} {l : List El} (h : LRow w A c l) (k : Below w.heap.size w w') : LRow w' A c l := ⟨h.row.below k, h.plain, h.le, h.dor.below k, h.sz⟩
theorem LRow.alloc {w : World} {A : Option Addr} {c : Nat} {l : List El} (h : LRow w A c l) (o : Obj) : LRow (w.alloc o) A c l := h.below ((Below.refl _ _).alloc (Nat.le_refl _) _)
theorem LRow.drewN {w : World} {A : Option Addr} {c : Nat} {l : List El} (h : LRow w A c l) (n : Nat) : LRow (w.drewN n) A c l := h.below (bdn (Below.refl _ _))
theorem valid_par {l : List El} (h : validE l = 0) : Par l ∧ 1 ≤ l.length ∧ l.length ≤ 128 := by
  unfold validE at h
  by_cases h1 : 128 < l.length
  · rw [if_pos h1] at h; cases h
  · rw [if_neg h1] at h
    by_cases h2 : l.length = 0
    · rw [if_pos h2] at h; cases h
    · rw [if_neg h2] at h
      by_cases h3 : vlE [] l = 0
      · exact ⟨Par.of h3, by omega, by omega⟩
      · rw [if_neg h3] at h; exact absurd h h3
def IntPost (v : Int) (w : World) (e : Ending) (w' : World) : Prop := e = .returned (.int .i64 v) ∧ Below w.heap.size w w'
set_option maxHeartbeats 800000 in
theorem check_any (l : List El) (A : Option Addr) (c : Nat) (B : Option Addr) (c2 : Nat) (zs : List Int) (w : World) (H : LRow w A c l) (hr : Row .i64 w w.heap.size B zs) (hz : zs.length ≤ 1000) :
    Calls Tryd.prog 31 #[.slice A l.length c, .slice B zs.length c2] w (IntPost (chkZ l zs) w) := by
  have HV := Lib.hid (valid_any l A c w H.row H.plain H.le H.dor H.sz)
  have hlen := H.row.len
  unfold maxLen at hlen
  have HR := Lib.hid hr
  obtain ⟨L, hL⟩ : ∃ n, n = l.length := ⟨_, rfl⟩
  obtain ⟨K, hK⟩ : ∃ n, n = zs.length := ⟨_, rfl⟩
  have HL := Lib.hid hL
  have HK := Lib.hid hK
  have H1 := Lib.hid (show validE l ≠ 0 → chkZ l zs = validE l from fun h => if_neg h)
  have H2 := Lib.hid (show validE l = 0 → zs.all (inR l) = true → chkZ l zs = 0 from fun h g => by unfold chkZ; rw [if_pos h, if_pos g])
  have H3 := Lib.hid (show validE l = 0 → zs.all (inR l) = false → chkZ l zs = 2 from fun h g => by unfold chkZ; rw [if_pos h, if_neg (by rw [g]; decide)])
  rw [← hL] at hlen HV ⊢
  rw [← hK] at hz ⊢
  clear hr hL hK H
  go_enter Tryd.func31, Tryd.ntmps31
  go_wp2_with fail
  refine HV.out.mono ?_
  rintro e w1 ⟨rfl, B1⟩
  have HB1 := Lib.hid B1
  clear B1 HV
  by_cases he : validE l = 0
  · have HE := Lib.hid he
    rw [he]
    clear he
    go_wp2_with fail
    go_loopw [15] (fun iv wr => ∃ k : Nat, k ≤ K ∧ iv = .int .i64 (k : Int) ∧ Hid ((zs.take k).all (inR l) = true) ∧ Hid (Below w.heap.size w wr)) (fun iv _ => K - (intOf iv).toNat)
    case atStart => exact ⟨0, by omega, rfl, Lib.hid rfl, HB1⟩
    case round =>
      obtain ⟨k, hk, rfl, HA, HB⟩ := hrel
      by_cases hlt : k < K
      · obtain ⟨ad, rfl, hb, hc⟩ := HR.out k (by rw [← HK.out]; exact hlt)
        have hc1 := (HB.out.cell (p := ad.add k) (by rw [add_block]; exact hb)).trans hc
        have HT := Lib.hid (show zs.take (k + 1) = zs.take k ++ [zs.getD k 0] by
          rw [List.take_succ_eq_append_getElem (by rw [← HK.out]; exact hlt), List.getD_eq_getElem?_getD, List.getElem?_eq_getElem (by rw [← HK.out]; exact hlt)]; rfl)
        have HM := Lib.hid (show zs.getD k 0 ∈ zs from getD_mem (by rw [← HK.out]; exact hlt))
        generalize zs.getD k 0 = z at *
        clear hc hb
        by_cases h0 : z < 0
        · have HN := Lib.hid (show zs.all (inR l) = false by
            rw [List.all_eq_false]
            exact ⟨z, HM.out, by unfold inR; simp; omega⟩)
          go_wp2_with fail
          go_ret
          exact ⟨by rw [H3.out HE.out HN.out]; rfl, HB.out⟩
        · by_cases h1 : (L : Int) ≤ z
          · have HN := Lib.hid (show zs.all (inR l) = false by
              rw [List.all_eq_false]
              exact ⟨z, HM.out, by unfold inR; have := HL.out; simp; omega⟩)
            go_wp2_with fail
            go_ret
            exact ⟨by rw [H3.out HE.out HN.out]; rfl, HB.out⟩
          · have HI := Lib.hid (show inR l z = true by unfold inR; have := HL.out; simp; omega)
            have hz0 : 0 ≤ z := by omega
            have hz1 : z < (L : Int) := by omega
            go_wp2_with fail
            go_roundw
            case rel => exact ⟨k + 1, by omega, by go_num, Lib.hid (by rw [HT.out, List.all_append, HA.out]; simp [HI.out]), HB⟩
            case measure => simp [intOf]; omega
      · obtain rfl : k = K := by omega
        have HN := Lib.hid (show zs.all (inR l) = true by have := HA.out; rw [HK.out, List.take_length] at this; exact this)
        go_wp2_with fail
        go_ret
        exact ⟨by rw [H2.out HE.out HN.out]; rfl, HB.out⟩
  · have HE := Lib.hid (H1.out he)
    have hne : (validE l != 0) = true := bne_iff_ne.2 he
    clear he
    go_wp2_with fail
    go_ret
    exact ⟨by rw [HE.out]; rfl, HB1.out⟩
theorem rowLaid (w : World) (zs : List Int) : Row .i64 (w.alloc (.cells (zs.map (Value.int .i64)).toArray 3)) (w.alloc (.cells (zs.map (Value.int .i64)).toArray 3)).heap.size (some ⟨w.heap.size, 0, none⟩) zs := fun j hj =>
  ⟨_, rfl, by simp, by rw [add_own, cell_new]; simp [hj]⟩
/-- A list of indexes, or an error. -/
def pairE (er : Int) (zs : List Int) : List Int := if er = 0 then zs else []
theorem path_any (l : List El) (A : Option Addr) (c : Nat) (i : Int) (w : World) (H : LRow w A c l) :
    Calls Tryd.prog 15 #[.slice A l.length c, .int .i64 i] w (PairPost (pairE (chkZ l [i]) (wayZ l i)) (chkZ l [i]) w) := by
  have HC := Lib.hid (check_any l A c (some ⟨w.heap.size, 0, none⟩) 1 [i] _ (H.alloc (.cells #[.int .i64 i] 3)) (rowLaid w [i]) (by show 1 ≤ 1000; decide))
  have HH := Lib.hid H
  clear H
  go_enter Tryd.func15, Tryd.ntmps15
  go_wp2_with fail
  refine HC.out.mono ?_
  rintro e w1 ⟨rfl, B1⟩
  have B := Lib.hid (below1 B1)
  clear B1 HC
  by_cases he : chkZ l [i] = 0
  · have hv : validE l = 0 ∧ inR l i = true := by
      unfold chkZ at he
      by_cases h1 : validE l = 0
      · rw [if_pos h1] at he
        refine ⟨h1, ?_⟩
        cases hb : inR l i
        · simp [hb] at he
        · rfl
      · rw [if_neg h1] at he; exact absurd he h1
    obtain ⟨p1, p2, p3⟩ := valid_par hv.1
    have hi : 0 ≤ i ∧ i < (l.length : Int) := by have := hv.2; unfold inR at this; simpa using this
    have HP := Lib.hid (pathto_any l A c i w1 p1 p3 (HH.out.below B.out).row hi.1 hi.2)
    have HE0 := Lib.hid (show pairE (chkZ l [i]) (wayZ l i) = wayZ l i ∧ chkZ l [i] = 0 from ⟨if_pos he, he⟩)
    rw [he]
    clear hv p1 p2 p3 hi he
    go_wp2_with fail
    refine HP.out.mono ?_
    rintro e w2 ⟨v, rfl, O, B2⟩
    have O2 := Lib.hid (O.base B.out.size)
    have B3 := Lib.hid (B.out.trans (B2.mono B.out.size))
    clear O B2
    go_wp2_with fail
    go_ret2
    rw [HE0.out.1, HE0.out.2]
    exact ⟨v, rfl, O2.out, B3.out⟩
  · have HE := Lib.hid (show pairE (chkZ l [i]) (wayZ l i) = [] from if_neg he)
    have hne : (chkZ l [i] != 0) = true := bne_iff_ne.2 he
    clear he
    go_wp2_with fail
    go_ret2
    exact ⟨_, rfl, by rw [HE.out]; exact Own.nil, B.out⟩
end Go.Proofs.YteeoecegpnmafaaDoor
