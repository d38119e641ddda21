/-
  Stage 10: the law's exact: all functions answer as the reference.
-/
import Derived.Test.YteeoecegpnmafaaDoorTRef3
set_option linter.unusedSimpArgs false
set_option linter.unusedVariables false
namespace Go.Proofs.YteeoecegpnmafaaDoor
open Go.RowKit Go.Lib

set_option maxRecDepth 100000 in
set_option maxHeartbeats 3200000 in
theorem exact_any (l : List El) (A : Option Addr) (c : Nat) (i k : Int) (w : World) (H : LRow w A c l) (hf : SzF l) :
    Calls Tryd.prog 11 #[.slice A l.length c, .int .i64 i, .int .i64 k] w (BoolPost true w) := by
  have HT1 := Lib.hid (fun (W : World) (b : Below w.heap.size w W) => tracks_any l A c  W (H.below b))
  have HT2 := Lib.hid (fun (W : World) (b : Below w.heap.size w W) => rtracks_any l A c  W (H.below b) hf)
  have HP1 := Lib.hid (fun (W : World) (b : Below w.heap.size w W) => path_any l A c i W (H.below b))
  have HP2 := Lib.hid (fun (W : World) (b : Below w.heap.size w W) => rpath_any l A c i W (H.below b) hf)
  have HC1 := Lib.hid (fun (W : World) (b : Below w.heap.size w W) => common_any l A c i k W (H.below b))
  have HC2 := Lib.hid (fun (W : World) (b : Below w.heap.size w W) => rcommon_any l A c i k W (H.below b) hf)
  have HY1 := Lib.hid (fun (W : World) (b : Below w.heap.size w W) => beyond_any l A c i W (H.below b))
  have HY2 := Lib.hid (fun (W : World) (b : Below w.heap.size w W) => rbeyond_any l A c i W (H.below b) hf)
  have HS1 := Lib.hid (fun (W : World) (b : Below w.heap.size w W) => settings_any l A c i W (H.below b))
  have HS2 := Lib.hid (fun (W : World) (b : Below w.heap.size w W) => rsettings_any l A c i W (H.below b) hf)
  have HB := Lib.hid (Below.refl w.heap.size w)
  clear H hf
  generalize pairE (chkZ l []) (trkZ l) = t1 at HT1 HT2
  generalize chkZ l [] = e1 at HT1 HT2
  generalize pairE (chkZ l [i]) (wayZ l i) = t2 at HP1 HP2
  generalize pairE (chkZ l [i]) (byZ l i) = t4 at HY1 HY2
  generalize pairQ (chkZ l [i]) (setZ l i) = q5 at HS1 HS2
  generalize chkZ l [i] = e2 at HP1 HP2 HY1 HY2 HS1 HS2
  generalize commE (chkZ l [i, k]) (comZ l i k) = c3 at HC1 HC2
  generalize chkZ l [i, k] = e3 at HC1 HC2
  have HB0 := HB
  go_enter Tryd.func11, Tryd.ntmps11
  clear HB
  go_wp2_with fail
  refine (HT1.out w HB0.out).mono ?_
  rintro e w1 ⟨vHT1, rfl, O, B⟩
  have OHT1 := Lib.hid O
  clear O
  have HB1 := Lib.hid (HB0.out.trans (B.mono HB0.out.size))
  clear B HB0 HT1
  go_wp2_with fail
  refine (HT2.out w1 HB1.out).mono ?_
  rintro e w2 ⟨vHT2, rfl, O, B⟩
  have OHT2 := Lib.hid O
  clear O
  have HB2 := Lib.hid (HB1.out.trans (B.mono HB1.out.size))
  have N := Lib.hid (OHT1.out.below B)
  clear OHT1
  have OHT1 := N
  clear N
  clear B HB1 HT2
  obtain ⟨bA3, bc3, rfl, Rb, _, _, _⟩ := OHT2.out.slice
  obtain ⟨aA3, ac3, rfl, Ra, _, hlm, _⟩ := OHT1.out.slice
  have HI := Lib.hid (ints_same t1 aA3 bA3 ac3 bc3 w2 Ra Rb hlm)
  clear Ra Rb hlm
  clear OHT1 OHT2
  go_wp2_with fail
  refine HI.out.mono ?_
  rintro e _ ⟨rfl, n3, rfl⟩
  have HB3 := Lib.hid (bdn (n := n3) HB2.out)
  clear HI HB2
  generalize w2.drewN n3 = w3 at *
  go_wp2_with fail
  refine (HP1.out w3 HB3.out).mono ?_
  rintro e w4 ⟨vHP1, rfl, O, B⟩
  have OHP1 := Lib.hid O
  clear O
  have HB4 := Lib.hid (HB3.out.trans (B.mono HB3.out.size))
  clear B HB3 HP1
  go_wp2_with fail
  refine (HP2.out w4 HB4.out).mono ?_
  rintro e w5 ⟨vHP2, rfl, O, B⟩
  have OHP2 := Lib.hid O
  clear O
  have HB5 := Lib.hid (HB4.out.trans (B.mono HB4.out.size))
  have N := Lib.hid (OHP1.out.below B)
  clear OHP1
  have OHP1 := N
  clear N
  clear B HB4 HP2
  go_wp2_with fail
  refine (HC1.out w5 HB5.out).mono ?_
  rintro e w6 ⟨rfl, B⟩
  have HB6 := Lib.hid (HB5.out.trans (B.mono HB5.out.size))
  have N := Lib.hid (OHP1.out.below B)
  clear OHP1
  have OHP1 := N
  clear N
  have N := Lib.hid (OHP2.out.below B)
  clear OHP2
  have OHP2 := N
  clear N
  clear B HB5 HC1
  go_wp2_with fail
  refine (HC2.out w6 HB6.out).mono ?_
  rintro e w7 ⟨rfl, B⟩
  have HB7 := Lib.hid (HB6.out.trans (B.mono HB6.out.size))
  have N := Lib.hid (OHP1.out.below B)
  clear OHP1
  have OHP1 := N
  clear N
  have N := Lib.hid (OHP2.out.below B)
  clear OHP2
  have OHP2 := N
  clear N
  clear B HB6 HC2
  obtain ⟨bA8, bc8, rfl, Rb, _, _, _⟩ := OHP2.out.slice
  obtain ⟨aA8, ac8, rfl, Ra, _, hlm, _⟩ := OHP1.out.slice
  have HI := Lib.hid (ints_same t2 aA8 bA8 ac8 bc8 w7 Ra Rb hlm)
  clear Ra Rb hlm
  clear OHP1 OHP2
  go_wp2_with fail
  refine HI.out.mono ?_
  rintro e _ ⟨rfl, n8, rfl⟩
  have HB8 := Lib.hid (bdn (n := n8) HB7.out)
  clear HI HB7
  generalize w7.drewN n8 = w8 at *
  go_wp2_with fail
  refine (HY1.out w8 HB8.out).mono ?_
  rintro e w9 ⟨vHY1, rfl, O, B⟩
  have OHY1 := Lib.hid O
  clear O
  have HB9 := Lib.hid (HB8.out.trans (B.mono HB8.out.size))
  clear B HB8 HY1
  go_wp2_with fail
  refine (HY2.out w9 HB9.out).mono ?_
  rintro e w10 ⟨vHY2, rfl, O, B⟩
  have OHY2 := Lib.hid O
  clear O
  have HB10 := Lib.hid (HB9.out.trans (B.mono HB9.out.size))
  have N := Lib.hid (OHY1.out.below B)
  clear OHY1
  have OHY1 := N
  clear N
  clear B HB9 HY2
  go_wp2_with fail
  refine (HS1.out w10 HB10.out).mono ?_
  rintro e w11 ⟨vHS1, rfl, O, B⟩
  have OHS1 := Lib.hid O
  clear O
  have HB11 := Lib.hid (HB10.out.trans (B.mono HB10.out.size))
  have N := Lib.hid (OHY1.out.below B)
  clear OHY1
  have OHY1 := N
  clear N
  have N := Lib.hid (OHY2.out.below B)
  clear OHY2
  have OHY2 := N
  clear N
  clear B HB10 HS1
  go_wp2_with fail
  refine (HS2.out w11 HB11.out).mono ?_
  rintro e w12 ⟨vHS2, rfl, O, B⟩
  have OHS2 := Lib.hid O
  clear O
  have HB12 := Lib.hid (HB11.out.trans (B.mono HB11.out.size))
  have N := Lib.hid (OHY1.out.below B)
  clear OHY1
  have OHY1 := N
  clear N
  have N := Lib.hid (OHY2.out.below B)
  clear OHY2
  have OHY2 := N
  clear N
  have N := Lib.hid (OHS1.out.below B)
  clear OHS1
  have OHS1 := N
  clear N
  clear B HB11 HS2
  obtain ⟨bA13, bc13, rfl, Rb, _, _, _⟩ := OHY2.out.slice
  obtain ⟨aA13, ac13, rfl, Ra, _, hlm, _⟩ := OHY1.out.slice
  have HI := Lib.hid (ints_same t4 aA13 bA13 ac13 bc13 w12 Ra Rb hlm)
  clear Ra Rb hlm
  clear OHY1 OHY2
  go_wp2_with fail
  refine HI.out.mono ?_
  rintro e _ ⟨rfl, n13, rfl⟩
  have HB13 := Lib.hid (bdn (n := n13) HB12.out)
  have N := Lib.hid (OHS1.out.below (bdn (n := n13) (Below.refl _ _)))
  clear OHS1
  have OHS1 := N
  clear N
  have N := Lib.hid (OHS2.out.below (bdn (n := n13) (Below.refl _ _)))
  clear OHS2
  have OHS2 := N
  clear N
  clear HI HB12
  generalize w12.drewN n13 = w13 at *
  obtain ⟨bA14, bc14, rfl, Rb⟩ := OHS2.out.slice
  obtain ⟨aA14, ac14, rfl, Ra⟩ := OHS1.out.slice
  have HI := Lib.hid (pairs_same q5 aA14 bA14 ac14 bc14 w13 Ra Rb)
  clear Ra Rb
  clear OHS1 OHS2
  go_wp2_with fail
  refine HI.out.mono ?_
  rintro e _ ⟨rfl, n14, rfl⟩
  have HB14 := Lib.hid (bdn (n := n14) HB13.out)
  clear HI HB13
  generalize w13.drewN n14 = w14 at *
  go_wp2_with fail
  go_ret
  exact ⟨rfl, HB14.out⟩
end Go.Proofs.YteeoecegpnmafaaDoor
