/-
  Stage 13: the reference's Witness, exact, SpoilJob, a job that came in, the walk of LeastcodeExact (tools/gen_exa13.py: merged).
-/
import Derived.Test.YtcplanafcnnodaaYRLea
import Derived.Test.YtcplanafcnnodaaYBack
import Derived.Test.YtcplanafcnnodaaYLawA
import Derived.Test.YtcplanafcnnodaaYRBd
import Derived.Test.YtcplanafcnnodaaSame
import Derived.Test.YtcplanafcnnodaaYChain
import Derived.Test.YtcplanafcnnodaaJSaneA
import Derived.Test.YtcplanafcnnodaaJJob
import Derived.Test.YtcplanafcnnodaaSrc
import Derived.Test.YtcplanafcnnodaaJIt
import Derived.Deep.SlicePairs
import Derived.Deep.Strs
import Derived.WideShapes
import Derived.ChangeSame
import Derived.Test.YtcplanafcnnodaaYCha
set_option linter.unusedSimpArgs false
set_option linter.unusedVariables false
namespace Go.Proofs.Ytcplanafcnnodaa
section
open Go.RowKit Go.Lib
set_option maxRecDepth 100000 in
set_option maxHeartbeats 3200000 in
theorem rwitness_any (l : List It) (A : Option Addr) (c L : Nat) (wt : Int) (hL : L = l.length) (w : World) (h : IRow w A l) :
    Calls Try.prog 48 #[jv A L c wt] w (WitPost l wt w) := by
  have H := Lib.hid h
  have HL := Lib.hid hL
  have HRL := Lib.hid (fun (W : World) (k : IRow W A l) => rleast_any l A c L wt hL W k)
  have HBK := Lib.hid (fun (V : Option Addr) (cv : Nat) (v : List Int) (W : World) (k : IRow W A l) (hv : Row .i64 W W.heap.size V v) (hvl : v.length = l.length) (hvb : ∀ k, k < l.length → 0 ≤ v.getD k 0 ∧ v.getD k 0 ≤ 1000000) (bs : List Int) (hbs : ∀ y, y < l.length → IsMaxP (fun x => x < l.length) (fun x => via l v x y) (bs.getD y 0)) (hok : BlkOk l) => back_any l A V c cv wt v W k hv hvl hvb bs hbs hok)
  have HBW := Lib.hid ((Below.refl w.heap.size w).alloc (Nat.le_refl _) (.cells #[.slice A L c, .int .i64 wt] 24))
  have HJ := Lib.hid (JBox.new (w := w) (A := A) (n := L) (c := c) (wt := wt) w.heap.size rfl)
  obtain ⟨b, hbq⟩ : ∃ b, b = w.heap.size := ⟨_, rfl⟩
  clear h hL
  go_enter Try.func48, Try.ntmps48
  go_upto_region 1 with fail
  rw [← hbq] at HJ ⊢
  generalize w.alloc (.cells #[.slice A L c, .int .i64 wt] 24) = w1 at *
  clear hbq
  obtain ⟨j0, j1, jl⟩ := HJ.out
  go_wp2_with fail
  refine (HRL.out w1 (H.out.below HBW.out)).mono ?_
  rintro e w2 ⟨st, pA, pn, pc, er, v, rfl, OV, B2, hr⟩
  obtain ⟨vA', vc', ev, VR, -, hvm, -⟩ := OV.slice
  have hvn : pn = v.length := by injection ev
  have hVA : pA = vA' := by injection ev
  subst hVA
  have BX := (Below.refl w2.heap.size w2).alloc (Nat.le_refl _) (.cells #[.int .i64 st, .slice pA pn pc] 29)
  have HJ3 := Lib.hid ((HJ.out.below B2 jl).below BX (Nat.lt_of_lt_of_le jl B2.size))
  have HB2 := HBW.out.trans (B2.mono HBW.out.size)
  have HB3 := Lib.hid (HB2.trans (BX.mono HB2.size))
  have HX := Lib.hid (PBox.new (w := w2) (st := st) (A := pA) (n := pn) (c := pc) w2.heap.size rfl)
  have HV3 := Lib.hid (VR.below BX)
  have HVN := Lib.hid hvn
  have HR := Lib.hid hr
  clear j0 j1 jl HJ B2 hr OV ev VR vc' hvm hvn BX HB2 HBW
  go_upto_region 2 with fail
  obtain ⟨g5, hg5⟩ : ∃ g, g = w2.heap.size := ⟨_, rfl⟩
  rw [← hg5] at HX ⊢
  generalize w2.alloc (.cells #[.int .i64 st, .slice pA pn pc] 29) = w3 at *
  clear hg5
  obtain ⟨j0, j1, jl⟩ := HJ3.out
  obtain ⟨x0, x1, -, xl⟩ := HX.out
  rcases HR.out with ⟨h0, rfl, -, -⟩ | ⟨h0, rfl, -, -, hno⟩ | ⟨h0, rfl, ⟨bs, hsol⟩, -⟩
  · have hne : (validR l wt != 0) = true := bne_iff_ne.2 h0
    have RR := Lib.hid (show WitR l wt [] (validR l wt) from Or.inl ⟨h0, rfl, rfl⟩)
    clear HR h0
    generalize validR l wt = er at *
    go_wp2_with fail
    go_ret2
    exact ⟨_, er, [], rfl, Own.nil, HB3.out, RR.out⟩
  · have RR := Lib.hid (show WitR l wt [] 15 from Or.inr (Or.inl ⟨h0, rfl, rfl, hno⟩))
    clear HR hno h0
    go_wp2_with fail
    go_ret2
    exact ⟨_, 15, [], rfl, Own.nil, HB3.out, RR.out⟩
  · have hf := formOk_of h0
    have hvl : v.length = l.length := hsol.vlen
    have HPN := Lib.hid (show pn = L by rw [HVN.out, hvl, HL.out])
    have hba := HBK.out pA pc v w3 (H.out.below HB3.out) HV3.out hvl (fun k _ => by have := (hsol.bound hf k).1; omega) bs (fun y hy => hsol.base y hy) hf.blk
    rw [← HL.out] at hba
    have HBA := Lib.hid hba
    have HS := Lib.hid hsol
    have HV0 := Lib.hid h0
    have hpn := HPN.out
    subst hpn
    clear HR hsol hf hvl h0 hba
    go_wp2_with fail
    refine HBA.out.mono ?_
    rintro e w4 ⟨u, zs, rfl, O4, hz, B4⟩
    have RR := Lib.hid (show WitR l wt zs 0 from Or.inr (Or.inr ⟨HV0.out, rfl, bs, v, HS.out, hz⟩))
    have O5 := Lib.hid (O4.base HB3.out.size)
    have HB5 := Lib.hid (HB3.out.trans (B4.mono HB3.out.size))
    clear hz O4 B4
    go_wp2_with fail
    go_ret2
    exact ⟨u, 0, zs, rfl, O5.out, HB5.out, RR.out⟩
end
section
open Go.RowKit Go.Lib
theorem own_len {k : IntKind} {T : TypeId} {w : World} {base : Nat} {v : Value} {zs : List Int} (h : Own k T w base v zs) : ∃ A c, v = .slice A zs.length c ∧ Row k w w.heap.size A zs ∧ zs.length ≤ maxLen := by
  obtain ⟨A, c, e, R, _, hm, _⟩ := h.slice
  exact ⟨A, c, e, R, hm⟩
set_option maxRecDepth 100000 in
set_option maxHeartbeats 1600000 in
theorem plans_same (st : Int) (v : List Int) (A A' : Option Addr) (n n' c c' : Nat) (w : World) (hn : n = v.length) (hn' : n' = v.length) (h : Row .i64 w w.heap.size A v) (h' : Row .i64 w w.heap.size A' v) (hl : v.length ≤ maxLen) :
    Calls Try.prog 47 #[pv st A n c, pv st A' n' c'] w fun e w' => e = .returned (.bool true) ∧ Below w.heap.size w w' := by
  subst hn
  subst hn'
  obtain ⟨L, hL⟩ : ∃ n, n = v.length := ⟨_, rfl⟩
  have s1 : (w.alloc (.cells #[.int .i64 st, .slice A v.length c] 29)).heap.size = w.heap.size + 1 := by simp
  have X0 := PBox.new (w := w) (st := st) (A := A) (n := v.length) (c := c) w.heap.size rfl
  have B0 := (Below.refl w.heap.size w).alloc (Nat.le_refl _) (.cells #[.int .i64 st, .slice A v.length c] 29)
  have Y0 := PBox.new (w := w.alloc (.cells #[.int .i64 st, .slice A v.length c] 29)) (st := st) (A := A') (n := v.length) (c := c') _ rfl
  have b1 := (Below.refl _ (w.alloc (.cells #[.int .i64 st, .slice A v.length c] 29))).alloc (Nat.le_refl _) (.cells #[.int .i64 st, .slice A' v.length c'] 29)
  have HX := Lib.hid (X0.below b1 X0.lt)
  have HB := Lib.hid (B0.trans (b1.mono B0.size))
  rw [s1] at Y0
  have HY := Lib.hid Y0
  have HIN := Lib.hid (fun (W : World) (k : Below w.heap.size w W) => ints_same v A A' c c' W (h.below k) (h'.below k) hl)
  rw [← hL] at HX HY HIN HB ⊢
  obtain ⟨b, hb⟩ : ∃ b, b = w.heap.size := ⟨_, rfl⟩
  clear s1 X0 B0 Y0 b1 h h' hl hL
  go_enter Try.func47, Try.ntmps47
  go_upto_region 1 with fail
  rw [← hb] at HX HY ⊢
  generalize (w.alloc (.cells #[.int .i64 st, .slice A L c] 29)).alloc (.cells #[.int .i64 st, .slice A' L c'] 29) = w1 at *
  clear hb
  obtain ⟨x0, x1, -, xl⟩ := HX.out
  obtain ⟨y0, y1, -, yl⟩ := HY.out
  have hee : (st == st) = true := by simp
  go_wp2_with fail
  refine (HIN.out _ HB.out).mono ?_
  rintro e w2 ⟨rfl, q, rfl⟩
  go_wp2_with fail
  go_ret
  exact ⟨rfl, bdn HB.out⟩
set_option maxRecDepth 100000 in
set_option maxHeartbeats 3200000 in
theorem exact13_any (l : List It) (A C : Option Addr) (c cc L n : Nat) (wt : Int) (hL : L = l.length) (cs : List Int) (hn : n = cs.length) (hm : n ≤ maxLen) (w : World) (hi : IRow w A l) (hc : Row .i64 w w.heap.size C cs) :
    Calls Try.prog 20 #[jv A L c wt, .slice C n cc] w fun e w' => e = .returned (.bool true) ∧ Below w.heap.size w w' := by
  have HI := Lib.hid hi
  have HC := Lib.hid hc
  have HLE := Lib.hid (fun (W : World) (k : IRow W A l) => least_any l A c L wt hL W k)
  have HRL := Lib.hid (fun (W : World) (k : IRow W A l) => rleast_any l A c L wt hL W k)
  have HBO := Lib.hid (fun (W : World) (k : Below w.heap.size w W) => bound_any l A C c cc L n wt hL cs hn hm W (hi.below k) (hc.below k))
  have HRB := Lib.hid (fun (W : World) (k : Below w.heap.size w W) => rbound_any l A C c cc L n wt hL cs hn hm W (hi.below k) (hc.below k))
  have HWI := Lib.hid (fun (W : World) (k : IRow W A l) => witness_any l A c L wt hL W k)
  have HRW := Lib.hid (fun (W : World) (k : IRow W A l) => rwitness_any l A c L wt hL W k)
  have HBW := Lib.hid ((Below.refl w.heap.size w).alloc (Nat.le_refl _) (.cells #[.slice A L c, .int .i64 wt] 24))
  have HJ := Lib.hid (JBox.new (w := w) (A := A) (n := L) (c := c) (wt := wt) w.heap.size rfl)
  obtain ⟨b, hbq⟩ : ∃ b, b = w.heap.size := ⟨_, rfl⟩
  obtain ⟨⟨ba, be⟩, hbd⟩ : ∃ t, t = boundE l wt cs := ⟨_, rfl⟩
  rw [← hbd] at HBO HRB
  clear hi hc hL hn hm hbd
  go_enter Try.func20, Try.ntmps20
  go_upto_region 1 with fail
  rw [← hbq] at HJ ⊢
  generalize w.alloc (.cells #[.slice A L c, .int .i64 wt] 24) = w1 at *
  clear hbq
  obtain ⟨j0, j1, jl⟩ := HJ.out
  go_wp2_with fail
  refine (HLE.out w1 (HI.out.below HBW.out)).mono ?_
  rintro e w2 ⟨st, pA, pn, pc, er, v, rfl, O2, B2, hr⟩
  obtain ⟨vA', vc', ev, VR, -, hvm, -⟩ := O2.slice
  have hvn : pn = v.length := by injection ev
  have hVA : pA = vA' := by injection ev
  subst hVA
  have BX := (Below.refl w2.heap.size w2).alloc (Nat.le_refl _) (.cells #[.int .i64 st, .slice pA pn pc] 29)
  have HJ3 := Lib.hid ((HJ.out.below B2 jl).below BX (Nat.lt_of_lt_of_le jl B2.size))
  have HB2 := HBW.out.trans (B2.mono HBW.out.size)
  have HB3 := Lib.hid (HB2.trans (BX.mono HB2.size))
  have HX := Lib.hid (PBox.new (w := w2) (st := st) (A := pA) (n := pn) (c := pc) w2.heap.size rfl)
  have HV3 := Lib.hid (VR.below BX)
  have HVN := Lib.hid hvn
  have HVM := Lib.hid hvm
  have HR := Lib.hid hr
  clear j0 j1 jl HJ B2 hr O2 ev VR vc' hvm hvn BX HB2 HBW
  go_upto_region 2 with fail
  obtain ⟨g5, hg5⟩ : ∃ g, g = w2.heap.size := ⟨_, rfl⟩
  rw [← hg5] at HX ⊢
  generalize w2.alloc (.cells #[.int .i64 st, .slice pA pn pc] 29) = w3 at *
  clear hg5
  obtain ⟨j0, j1, jl⟩ := HJ3.out
  go_wp2_with fail
  refine (HRL.out w3 (HI.out.below HB3.out)).mono ?_
  rintro e w4 ⟨st', qA, qn, qc, er', v', rfl, O4, B4, hr'⟩
  obtain ⟨rfl, rfl, rfl⟩ := HR.out.uniq hr'
  obtain ⟨vA', vc', ev, VR, -, hvm, -⟩ := O4.slice
  have hqn : qn = v.length := by injection ev
  have hVA : qA = vA' := by injection ev
  subst hVA
  have BX := (Below.refl w4.heap.size w4).alloc (Nat.le_refl _) (.cells #[.int .i64 st, .slice qA qn qc] 29)
  have HJ5 := Lib.hid ((HJ3.out.below B4 jl).below BX (Nat.lt_of_lt_of_le jl B4.size))
  have HX5 := Lib.hid ((HX.out.below B4 HX.out.lt).below BX (Nat.lt_of_lt_of_le HX.out.lt B4.size))
  have HB4 := HB3.out.trans (B4.mono HB3.out.size)
  have HB5 := Lib.hid (HB4.trans (BX.mono HB4.size))
  have HY := Lib.hid (PBox.new (w := w4) (st := st) (A := qA) (n := qn) (c := qc) w4.heap.size rfl)
  have HV5 := Lib.hid ((HV3.out.below B4).below BX)
  have HU5 := Lib.hid (VR.below BX)
  have HQN := Lib.hid hqn
  clear j0 j1 jl HJ3 HX HB3 HV3 B4 hr' HR O4 ev VR vc' hvm hqn BX HB4 HRL HLE
  go_upto_region 3 with fail
  obtain ⟨g7, hg7⟩ : ∃ g, g = w4.heap.size := ⟨_, rfl⟩
  rw [← hg7] at HY ⊢
  generalize w4.alloc (.cells #[.int .i64 st, .slice qA qn qc] 29) = w5 at *
  clear hg7
  obtain ⟨j0, j1, jl⟩ := HJ5.out
  go_wp2_with fail
  refine (HBO.out w5 HB5.out).mono ?_
  rintro e w6 ⟨rfl, B6⟩
  have HJ6 := Lib.hid (HJ5.out.below B6 jl)
  have HB6 := Lib.hid (HB5.out.trans (B6.mono HB5.out.size))
  have H56 := Lib.hid B6
  clear j0 j1 jl B6
  obtain ⟨j0, j1, jl⟩ := HJ6.out
  go_wp2_with fail
  refine (HRB.out w6 HB6.out).mono ?_
  rintro e w7 ⟨rfl, B7⟩
  have B57 := H56.out.trans (B7.mono H56.out.size)
  have HJ7 := Lib.hid (HJ6.out.below B7 jl)
  have HB7 := Lib.hid (HB6.out.trans (B7.mono HB6.out.size))
  have HX7 := Lib.hid (HX5.out.below B57 HX5.out.lt)
  have HY7 := Lib.hid (HY.out.below B57 HY.out.lt)
  have HPL := Lib.hid (plans_same st v pA qA pn qn pc qc w7 HVN.out HQN.out (HV5.out.below B57) (HU5.out.below B57) HVM.out)
  clear j0 j1 jl B7 B57 H56 HJ5 HJ6 HX5 HY HB5 HB6 HV5 HU5 HBO HRB
  obtain ⟨x0, x1, -, xl⟩ := HX7.out
  obtain ⟨y0, y1, -, yl⟩ := HY7.out
  have hee : (er != er) = false := by simp
  have hba : (ba != ba) = false := by simp
  have hbe : (be != be) = false := by simp
  go_wp2_with fail
  refine HPL.out.mono ?_
  rintro e w8 ⟨rfl, B8⟩
  have HJ8 := Lib.hid (HJ7.out.below B8 HJ7.out.lt)
  have HB8 := Lib.hid (HB7.out.trans (B8.mono HB7.out.size))
  clear x0 x1 xl y0 y1 yl B8 HPL HX7 HY7 HJ7 HB7
  obtain ⟨j0, j1, jl⟩ := HJ8.out
  go_wp2_with fail
  refine (HWI.out w8 (HI.out.below HB8.out)).mono ?_
  rintro e w9 ⟨u, e1, zs, rfl, O9, B9, hw⟩
  have HJ9 := Lib.hid (HJ8.out.below B9 jl)
  have HB9 := Lib.hid (HB8.out.trans (B9.mono HB8.out.size))
  have O9h := Lib.hid O9
  have HW := Lib.hid hw
  clear j0 j1 jl B9 O9 hw HJ8 HB8 hee hba hbe
  obtain ⟨j0, j1, jl⟩ := HJ9.out
  go_wp2_with fail
  refine (HRW.out w9 (HI.out.below HB9.out)).mono ?_
  rintro e w10 ⟨u', e2, zs', rfl, O10, B10, hw'⟩
  obtain ⟨rfl, rfl⟩ := HW.out.uniq hw'
  obtain ⟨zA, zc, rfl, ZR, hzm⟩ := own_len (O9h.out.below B10)
  obtain ⟨yA, yc, rfl, YR, -⟩ := own_len O10
  have HB10 := Lib.hid (HB9.out.trans (B10.mono HB9.out.size))
  have HIN := Lib.hid (ints_same zs zA yA zc yc w10 ZR YR hzm)
  have he1 : (e1 == e1) = true := by simp
  clear j0 j1 jl B10 O10 O9h ZR YR hw' HW HJ9 HB9 hzm
  obtain ⟨zl, hzl⟩ : ∃ k, k = zs.length := ⟨_, rfl⟩
  rw [← hzl] at HIN ⊢
  clear hzl
  go_wp2_with fail
  refine HIN.out.mono ?_
  rintro e w11 ⟨rfl, q, rfl⟩
  go_wp2_with fail
  go_ret
  exact ⟨rfl, bdn HB10.out⟩
end
section
open Go.RowKit Go.Lib
theorem JBox.stO {w : World} {b n c : Nat} {A : Option Addr} {wt : Int} (h : JBox w b A n c wt) {p : Addr} (hp : p.block ≠ b) (u : Value) : JBox (w.setCell p u) b A n c wt :=
  ⟨(World.cell?_setCell_other w p ⟨b, 0, none⟩ u (fun e => hp (by first | exact congrArg Addr.block e | exact (congrArg Addr.block e).symm))).trans h.c0, (World.cell?_setCell_other w p ⟨b, 1, none⟩ u (fun e => hp (by first | exact congrArg Addr.block e | exact (congrArg Addr.block e).symm))).trans h.c1, by rw [World.size_setCell]; exact h.lt⟩
theorem flatI_any : ∀ (l : List It) (k f : Nat) (z : Int), f < 4 → ∃ l' : List It, l'.length = l.length ∧ flatI l' = (flatI l).set (k * 4 + f) z := by
  intro l
  induction l with
  | nil => intro k f z _; exact ⟨[], rfl, by simp [flatI]⟩
  | cons q l ih =>
    intro k f z hf
    cases k with
    | zero =>
      rcases f with _ | _ | _ | _ | f
      · exact ⟨(z, q.2.1, q.2.2.1, q.2.2.2) :: l, rfl, rfl⟩
      · exact ⟨(q.1, z, q.2.2.1, q.2.2.2) :: l, rfl, rfl⟩
      · exact ⟨(q.1, q.2.1, z, q.2.2.2) :: l, rfl, rfl⟩
      · exact ⟨(q.1, q.2.1, q.2.2.1, z) :: l, rfl, rfl⟩
      · omega
    | succ k =>
      obtain ⟨l', h1, h2⟩ := ih k f z hf
      refine ⟨q :: l', by simp [h1], ?_⟩
      rw [show (k + 1) * 4 + f = (k * 4 + f) + 1 + 1 + 1 + 1 by omega]
      show q.1 :: q.2.1 :: q.2.2.1 :: q.2.2.2 :: flatI l' = _
      rw [h2]; rfl
/-- What holds while a job is spoiled: its box, the box of the result, the list of its own. -/
structure SpJ (m N b : Nat) (w wr : World) (A : Option Addr) (n c : Nat) (l : List It) (wt : Int) : Prop where
  jb : JBox wr b A n c wt
  rb : JBox wr (b + 1) none 0 0 0
  fz : ∀ j, wr.frozen? ⟨b, j, none⟩ = false
  fr : ∀ j, wr.frozen? ⟨b + 1, j, none⟩ = false
  own : IOwn 26 wr w.heap.size (.slice A n c) l
  len : n = l.length
  lo : ∀ g, (Value.slice A n c).ownBlock = some g → b + 1 < g
  mkr : IsMk wr m N
  mv : Moves m w wr
  hb : b = w.heap.size
  hm : m < b
theorem SpJ.step {m N M b n c : Nat} {w wr w' : World} {A : Option Addr} {l : List It} {wt : Int} (h : SpJ m N b w wr A n c l wt) (k : Moves m wr w') (q : IsMk w' m M) : SpJ m M b w w' A n c l wt :=
  have hm := h.hm
  have hb := h.hb
  ⟨h.jb.moves k (by omega), h.rb.moves k (by omega), fun j => (k.frozen (p := ⟨b, j, none⟩) h.jb.lt (by show b ≠ m; omega)).trans (h.fz j), fun j => (k.frozen (p := ⟨b + 1, j, none⟩) h.rb.lt (by show b + 1 ≠ m; omega)).trans (h.fr j), h.own.moves k (by omega), h.len, h.lo, q, h.mv.trans k, hb, hm⟩
theorem SpJ.below {m N b n c : Nat} {w wr w' : World} {A : Option Addr} {l : List It} {wt : Int} (h : SpJ m N b w wr A n c l wt) (k : Below wr.heap.size wr w') : SpJ m N b w w' A n c l wt :=
  h.step (Moves.of_below k) (h.mkr.stays' k)
/-- The weight is written. -/
theorem SpJ.setW {m N b n c : Nat} {w wr : World} {A : Option Addr} {l : List It} {wt : Int} (h : SpJ m N b w wr A n c l wt) (z : Int) : SpJ m N b w (wr.setCell ⟨b, 1, none⟩ (.int .i64 z)) A n c l z := by
  have hm := h.hm
  have hb := h.hb
  refine ⟨⟨?_, World.cell?_setCell_same _ _ _ h.jb.c1, by rw [World.size_setCell]; exact h.jb.lt⟩, h.rb.stO (p := ⟨b, 1, none⟩) (by show b ≠ b + 1; omega) _, fun j => by rw [World.frozen?_setCell]; exact h.fz j, fun j => by rw [World.frozen?_setCell]; exact h.fr j,
    h.own.setOther (p := ⟨b, 1, none⟩) (fun e => by have := h.lo _ e; have : b + 1 < b := this; omega) _, h.len, h.lo, h.mkr.setCell (p := ⟨b, 1, none⟩) hm _, h.mv.setCell (p := ⟨b, 1, none⟩) (Or.inr (by show w.heap.size ≤ b; omega)) _, hb, hm⟩
  rw [World.cell?_setCell_other _ _ _ _ (by simp)]; exact h.jb.c0
/-- A field of an item is written. -/
theorem SpJ.setF {m N b g n c : Nat} {w wr : World} {l : List It} {wt : Int} (h : SpJ m N b w wr (some ⟨g, 0, none⟩) n c l wt) (k f : Nat) (hf : f < 4) (z : Int) : ∃ l', l'.length = l.length ∧ SpJ m N b w (wr.setCell ⟨g, k * 4 + f, none⟩ (.int .i64 z)) (some ⟨g, 0, none⟩) n c l' wt := by
  have hm := h.hm
  have hb := h.hb
  have hlo := h.lo g rfl
  obtain ⟨l', h1, h2⟩ := flatI_any l k f z hf
  refine ⟨l', h1, h.jb.stO (p := ⟨g, k * 4 + f, none⟩) (by show g ≠ b; omega) _, h.rb.stO (p := ⟨g, k * 4 + f, none⟩) (by show g ≠ b + 1; omega) _, fun j => by rw [World.frozen?_setCell]; exact h.fz j, fun j => by rw [World.frozen?_setCell]; exact h.fr j,
    ?_, by rw [h1]; exact h.len, h.lo, h.mkr.setCell (p := ⟨g, k * 4 + f, none⟩) (by show m < g; omega) _, h.mv.setCell (p := ⟨g, k * 4 + f, none⟩) (Or.inr (by show w.heap.size ≤ g; omega)) _, hb, hm⟩
  unfold IOwn
  rw [h2, h1]
  have hl := h.len
  have ho := h.own
  subst hl
  exact Flat.store ho _ _
def SpPost (m N n : Nat) (w : World) (e : Ending) (w' : World) : Prop :=
  ∃ A c l wt, e = .returned (jv A n c wt) ∧ IOwn 26 w' w.heap.size (.slice A n c) l ∧ n = l.length ∧ IsMk w' m N ∧ Moves m w w'
theorem SpJ.post {m N M b n c : Nat} {w wr : World} {A : Option Addr} {l : List It} {wt : Int} (h : SpJ m N b w wr A n c l wt) (hM : N ≤ M) :
    SpPost m M n w (.returned (jv A n c wt)) ((wr.setCell ⟨b + 1, 0, none⟩ (.slice A n c)).setCell ⟨b + 1, 1, none⟩ (.int .i64 wt)) := by
  have hm := h.hm
  have hb := h.hb
  exact ⟨_, c, l, wt, rfl, (h.own.setOther (p := ⟨b + 1, 0, none⟩) (fun e => by have := h.lo _ e; have : b + 1 < b + 1 := this; omega) _).setOther (p := ⟨b + 1, 1, none⟩) (fun e => by have := h.lo _ e; have : b + 1 < b + 1 := this; omega) _, h.len,
    ((h.mkr.setCell (p := ⟨b + 1, 0, none⟩) (by show m < b + 1; omega) _).setCell (p := ⟨b + 1, 1, none⟩) (by show m < b + 1; omega) _).more hM,
    (h.mv.setCell (p := ⟨b + 1, 0, none⟩) (Or.inr (by show w.heap.size ≤ b + 1; omega)) _).setCell (p := ⟨b + 1, 1, none⟩) (Or.inr (by show w.heap.size ≤ b + 1; omega)) _⟩
/-- The start. -/
theorem SpJ.begin {m N b c0 c n : Nat} {w w1 w2 : World} {A0 A : Option Addr} {l : List It} {wt : Int} (jb : JBox w1 b A0 n c0 wt) (rb : JBox w1 (b + 1) none 0 0 0) (fz : ∀ j, w1.frozen? ⟨b, j, none⟩ = false) (fr : ∀ j, w1.frozen? ⟨b + 1, j, none⟩ = false)
    (own : IOwn 26 w2 (b + 2) (.slice A n c) l) (len : n = l.length) (mkr : IsMk w2 m N) (mv0 : Moves m w w1) (mv : Moves m w1 w2) (hb : b = w.heap.size) (hm : m < b) : SpJ m N b w (w2.setCell ⟨b, 0, none⟩ (.slice A n c)) A n c l wt := by
  have jb2 := jb.moves mv (by omega)
  have hlo : ∀ g, (Value.slice A n c).ownBlock = some g → b + 1 < g := fun g e => by have := (own.block e).1; omega
  refine ⟨⟨World.cell?_setCell_same _ _ _ jb2.c0, ?_, by rw [World.size_setCell]; exact jb2.lt⟩, (rb.moves mv (by omega)).stO (p := ⟨b, 0, none⟩) (by show b ≠ b + 1; omega) _, fun j => ?_, fun j => ?_,
    (own.base (by omega)).setOther (p := ⟨b, 0, none⟩) (fun e => by have := hlo _ e; have : b + 1 < b := this; omega) _, len, hlo, mkr.setCell (p := ⟨b, 0, none⟩) hm _, (mv0.trans mv).setCell (p := ⟨b, 0, none⟩) (Or.inr (by show w.heap.size ≤ b; omega)) _, hb, hm⟩
  · rw [World.cell?_setCell_other _ _ _ _ (by simp)]; exact jb2.c1
  · rw [World.frozen?_setCell]; exact (mv.frozen (p := ⟨b, j, none⟩) jb.lt (by show b ≠ m; omega)).trans (fz j)
  · rw [World.frozen?_setCell]; exact (mv.frozen (p := ⟨b + 1, j, none⟩) rb.lt (by show b + 1 ≠ m; omega)).trans (fr j)
set_option maxRecDepth 100000 in
set_option maxHeartbeats 3200000 in
theorem spoil_any (m N : Nat) (l : List It) (A : Option Addr) (c L : Nat) (wt : Int) (hL : L = l.length) (hl : L ≤ 1000) (w : World) (K : IsMk w m N) (hN : N ≤ 900000) (hi : IRow w A l) (hA : A = none → L = 0 ∧ c = 0) :
    Calls Try.prog 19 #[.pointer (some ⟨m, 0, none⟩), jv A L c wt] w (SpPost m (N + 4) L w) := by
  obtain ⟨i0, hi0, hz0, hz1, hz2⟩ := info_parts infoIt
  have HL := Lib.hid hL
  have HAA := Lib.hid hA
  have s1 : (w.alloc (.cells #[.slice A L c, .int .i64 wt] 24)).heap.size = w.heap.size + 1 := by simp
  have J0 := JBox.new (w := w) (A := A) (n := L) (c := c) (wt := wt) w.heap.size rfl
  have B0 := (Below.refl w.heap.size w).alloc (Nat.le_refl _) (.cells #[.slice A L c, .int .i64 wt] 24)
  have X0 := JBox.new (w := w.alloc (.cells #[.slice A L c, .int .i64 wt] 24)) (A := none) (n := 0) (c := 0) (wt := 0) _ rfl
  have G0 := fun j => frozen_new w #[.slice A L c, .int .i64 wt] 24 w.heap.size j rfl
  have Y0 := fun j => frozen_new (w.alloc (.cells #[.slice A L c, .int .i64 wt] 24)) #[.slice none 0 0, .int .i64 0] 24 _ j rfl
  have b1 := (Below.refl _ (w.alloc (.cells #[.slice A L c, .int .i64 wt] 24))).alloc (Nat.le_refl _) (.cells #[.slice none 0 0, .int .i64 0] 24)
  have HJ := Lib.hid (J0.below b1 J0.lt)
  have HG := Lib.hid (fun j => (b1.frozen (p := ⟨w.heap.size, j, none⟩) J0.lt).trans (G0 j))
  have HBW := Lib.hid (B0.trans (b1.mono B0.size))
  have HS1 := Lib.hid (show ((w.alloc (.cells #[.slice A L c, .int .i64 wt] 24)).alloc (.cells #[.slice none 0 0, .int .i64 0] 24)).heap.size = w.heap.size + 2 by simp)
  rw [s1] at X0 Y0
  have HX := Lib.hid X0
  have HY := Lib.hid Y0
  have HK := Lib.hid K
  have HI := Lib.hid (hi.below HBW.out)
  have hml := K.lt
  obtain ⟨b, hbq⟩ : ∃ b, b = w.heap.size := ⟨_, rfl⟩
  have HB := Lib.hid hbq
  have hmb : m < b := by omega
  clear hL hA s1 J0 B0 X0 b1 G0 Y0 K hi hml
  go_enter Try.func19, Try.ntmps19
  go_upto_region 1 with fail
  rw [← hbq] at HJ HX HG HY HS1 ⊢
  generalize (w.alloc (.cells #[.slice A L c, .int .i64 wt] 24)).alloc (.cells #[.slice none 0 0, .int .i64 0] 24) = w1 at *
  have K1 := Lib.hid (HK.out.stays' HBW.out)
  have HSZ := Lib.hid (show w1.heap.size = b + 2 from HS1.out)
  have HMV := Lib.hid (show Moves m w w1 from Moves.of_below HBW.out)
  clear hbq HS1
  obtain ⟨j0, j1, jl⟩ := HJ.out
  have f0 := HG.out 0
  have f1 := HG.out 1
  go_upto_region 2 with (first | (at_builtin; refine wpList_app_src rfl (.tmp 6) (.tmp 8) 22 rfl w1.heap.size 26 i0 (.agg #[.int .i64 0, .int .i64 0, .int .i64 0, .int .i64 0]) 4 32 Try.underlying22 hi0 hz0 hz1 hz2 rfl (by decide) (.slice (some ⟨w1.heap.size, 0, none⟩) 0 0) 0 [] rfl (own_empty (Nat.le_refl _)) A L c ((flatI l).map (Value.int .i64)) rfl (fun e => HAA.out e) (by rw [List.length_map, flatI_len, HL.out]) (Row.newsO (HI.out.below ((Below.refl _ _).alloc (Nat.le_refl _) _)).row) one_cells (by unfold maxLen; omega) (by omega) (by simp) ?_; intro v1 w2 hown hgr; have O1 := (show IOwn 26 w2 w1.heap.size v1 l from (by have := IOwn.app (l := []) (m := l) (n := 0) (k := L) hown rfl HL.out; simpa using this)); have V1 := ((Moves.refl m w1).alloc (.cells #[] 26)).grown hgr (fun k e => (by simp [Value.ownBlock] at e; omega)); have K2 := (K1.out.alloc (.cells #[] 26)).grown hgr (fun k e => (by have := K1.out.lt; simp [Value.ownBlock] at e; omega)); obtain ⟨A1, c1, e1, HR1, hc1, hc2, hA1⟩ := O1.full; rw [← HL.out] at e1; subst e1; have HA1 := Lib.hid hA1; have SB := Lib.hid (SpJ.begin HJ.out HX.out HG.out HY.out (O1.base (by rw [HSZ.out]; exact Nat.le_refl _)) HL.out K2 HMV.out V1 HB.out hmb); obtain ⟨i0', i1', il'⟩ := HJ.out.moves V1 (by omega); have h0' := (V1.frozen (p := ⟨b, 0, none⟩) HJ.out.lt (by show b ≠ m; omega)).trans (HG.out 0); clear hown hgr O1 V1 K2 HR1 hc1 hc2 hA1))
  generalize w2.setCell ⟨b, 0, none⟩ (.slice A1 L c1) = w3 at *
  clear i0' i1' il' h0' j0 j1 jl f0 f1 HJ HX HG HY HK K1 HI HAA HMV hi0 hz0 hz1 hz2
  obtain ⟨j0, j1, jl⟩ := SB.out.jb
  by_cases hL0 : L = 0
  · subst hL0
    have SX := Lib.hid SB.out
    clear HA1 SB j0 j1 jl
    obtain ⟨j0, j1, jl⟩ := SX.out.jb
    go_wp2_with fail
    refine (pick_any m N (fun _ => True) _ 4 4 _ (SX.out.mkr.alloc _) (by omega) (by omega) (by omega) (by have := SX.out.mkr.lt; omega) (by simp) (by exact new_pick _ _ (fun _ => True) [-1, 13, 12, 0] (fun _ _ => trivial) _ rfl)).mono ?_
    rintro e wp ⟨z, rfl, -, kp, mp⟩
    have SP := Lib.hid ((SX.out.below ((Below.refl _ _).alloc (Nat.le_refl _) _)).step mp kp)
    have S9 := Lib.hid (SP.out.setW z)
    clear j0 j1 jl kp mp SX
    obtain ⟨j0, j1, jl⟩ := SP.out.jb
    have f0 := SP.out.fz 0
    have f1 := SP.out.fz 1
    go_upto_region 4 with fail
    generalize wp.setCell ⟨b, 1, none⟩ (.int .i64 z) = w9 at *
    clear j0 j1 jl f0 f1 SP
    obtain ⟨j0, j1, jl⟩ := S9.out.jb
    obtain ⟨r0, r1, rl⟩ := S9.out.rb
    have f0 := S9.out.fr 0
    have f1 := S9.out.fr 1
    have RB := Lib.hid (S9.out.rb.put (A' := A1) (n' := 0) (c' := c1) (wt' := z))
    go_wp2_with fail
    refine bodyPost_ret (results_job rfl _ _ (b + 1) 0 c1 (A1) z rfl RB.out) rfl ?_
    exact S9.out.post (by omega)
  · obtain ⟨g, hg, -⟩ := HA1.out (by rw [← HL.out]; omega)
    subst hg
    have hLz : ((L : Int) == 0) = false := by simp; omega
    go_wp2_with fail
    refine (next_any m N 8 w3 SB.out.mkr (by omega) (by omega) (by omega)).mono ?_
    rintro e w4 ⟨v, rfl, v1, v2, k1, k2⟩
    have SX := Lib.hid (SB.out.step k2 k1)
    clear j0 j1 jl k1 k2 SB HA1
    by_cases hv : v = 0
    · subst hv
      obtain ⟨j0, j1, jl⟩ := SX.out.jb
      go_wp2_with fail
      refine (pick_any m (N + 1) (fun _ => True) _ 4 4 _ (SX.out.mkr.alloc _) (by omega) (by omega) (by omega) (by have := SX.out.mkr.lt; omega) (by simp) (by exact new_pick _ _ (fun _ => True) [-1, 13, 12, 0] (fun _ _ => trivial) _ rfl)).mono ?_
      rintro e wp ⟨z, rfl, -, kp, mp⟩
      have SP := Lib.hid ((SX.out.below ((Below.refl _ _).alloc (Nat.le_refl _) _)).step mp kp)
      have S9 := Lib.hid (SP.out.setW z)
      clear j0 j1 jl kp mp SX
      obtain ⟨j0, j1, jl⟩ := SP.out.jb
      have f0 := SP.out.fz 0
      have f1 := SP.out.fz 1
      go_upto_region 4 with fail
      generalize wp.setCell ⟨b, 1, none⟩ (.int .i64 z) = w9 at *
      clear j0 j1 jl f0 f1 SP
      obtain ⟨j0, j1, jl⟩ := S9.out.jb
      obtain ⟨r0, r1, rl⟩ := S9.out.rb
      have f0 := S9.out.fr 0
      have f1 := S9.out.fr 1
      have RB := Lib.hid (S9.out.rb.put (A' := (some ⟨g, 0, none⟩)) (n' := L) (c' := c1) (wt' := z))
      go_wp2_with fail
      refine bodyPost_ret (results_job rfl _ _ (b + 1) L c1 ((some ⟨g, 0, none⟩)) z rfl RB.out) rfl ?_
      exact S9.out.post (by omega)
    · have hvz : (v == 0) = false := by simpa using hv
      obtain ⟨j0, j1, jl⟩ := SX.out.jb
      have HPS := Lib.hid (fun (X : World) (M : Nat) (h : SpJ m M b w X (some ⟨g, 0, none⟩) L c1 l wt) => (show X.cell? ⟨b, 0, none⟩ = some (.slice (some ⟨g, 0, none⟩) L c1) from h.jb.c0))
      clear hv
      go_upto_region 5 with fail
      clear j0 j1 jl hvz
      obtain ⟨q0, e0⟩ : ∃ x, x = w4.drew := ⟨_, rfl⟩
      have S0 := Lib.hid (show SpJ m (N + 1) b w q0 (some ⟨g, 0, none⟩) L c1 l wt from by rw [e0]; exact SX.out.below ((Below.refl _ _).drew))
      have F0 := HPS.out q0 _ S0.out
      have HE0 := Lib.hid e0
      clear e0 SX
      refine AnyT.begin_at tlN (fun X => X.cell? ⟨b, 0, none⟩ = some (.slice (some ⟨g, 0, none⟩) L c1)) (by kernel_rfl) HE0.out F0 ?_
      clear F0 HE0
      intro F0
-- TAKES J1
      refine AnyT.takeD (i := 0) (d := some 25) (v := .pointer (some ⟨b, 0, none⟩)) rfl rfl (by kernel_rfl) (by kernel_rfl) (by kernel_rfl) (by kernel_rfl) (fun _ _ _ h => h) (Or.inl ⟨by rfl, fun wz _ => by go_simp⟩) F0 ?_
      simp only [Act.put, List.setIfInBounds_toArray, List.set_cons_zero, List.set_cons_succ]
      refine AnyT.takeD (i := 1) (d := some 26) (v := .slice (some ⟨g, 0, none⟩) L c1) rfl rfl (by kernel_rfl) (by kernel_rfl) (by kernel_rfl) (by kernel_rfl) (fun _ _ _ h => h) (Or.inl ⟨by rfl, fun wz hz => by have z0 := hz; go_simp⟩) F0 ?_
      simp only [Act.put, List.setIfInBounds_toArray, List.set_cons_zero, List.set_cons_succ]
      refine AnyT.takeD (i := 2) (d := some 27) (v := .pointer (some ⟨m, 0, none⟩)) rfl rfl (by kernel_rfl) (by kernel_rfl) (by kernel_rfl) (by kernel_rfl) (fun _ _ _ h => h) (Or.inl ⟨by rfl, fun wz _ => by go_simp⟩) F0 ?_
      simp only [Act.put, List.setIfInBounds_toArray, List.set_cons_zero, List.set_cons_succ]
      refine AnyT.takeD (i := 3) (d := some 28) (v := .pointer (some ⟨b, 0, none⟩)) rfl rfl (by kernel_rfl) (by kernel_rfl) (by kernel_rfl) (by kernel_rfl) (fun _ _ _ h => h) (Or.inl ⟨by rfl, fun wz _ => by go_simp⟩) F0 ?_
      simp only [Act.put, List.setIfInBounds_toArray, List.set_cons_zero, List.set_cons_succ]
      refine AnyT.takeD (i := 4) (d := some 29) (v := .slice (some ⟨g, 0, none⟩) L c1) rfl rfl (by kernel_rfl) (by kernel_rfl) (by kernel_rfl) (by kernel_rfl) (fun _ _ _ h => h) (Or.inl ⟨by rfl, fun wz hz => by have z0 := hz; go_simp⟩) F0 ?_
      simp only [Act.put, List.setIfInBounds_toArray, List.set_cons_zero, List.set_cons_succ]
      refine AnyT.takeD (i := 5) (d := some 30) (v := .int .i64 (L : Int)) rfl rfl (by kernel_rfl) (by kernel_rfl) (by kernel_rfl) (by kernel_rfl) (fun _ _ _ h => h) (Or.inl ⟨by rfl, fun wz _ => by go_simp⟩) F0 ?_
      simp only [Act.put, List.setIfInBounds_toArray, List.set_cons_zero, List.set_cons_succ]
      -- TAKEN J1
      refine AnyT.branch (rs := [6]) (by kernel_rfl) (by simp) ?_
      refine all_cons (?_) all_nil
      refine AnyT.enter (i := 6) (d := some 31) (f := 35) (args := #[.pointer (some ⟨m, 0, none⟩), .int .i64 (L : Int)]) rfl rfl rfl (by go_simp) (next_any m (N + 1) (L : Int) q0 S0.out.mkr (by omega) (by omega) (by omega)) ?_
      rintro e q1 ⟨iv, rfl, iv1, iv2, k1, k2⟩
      have S1 := Lib.hid (S0.out.step k2 k1)
      have F1 := HPS.out q1 _ S1.out
      refine ⟨_, rfl, fun _ => F1, ?_⟩
      clear F0 k1 k2 S0
      simp only [Act.put, List.setIfInBounds_toArray, List.set_cons_zero, List.set_cons_succ]
      obtain ⟨i, rfl⟩ := Int.eq_ofNat_of_zero_le iv1
      have hiL : i < L := by omega
      have hiI : (i : Int) < (L : Int) := by omega
-- TAKES J2
      refine AnyT.takeD (i := 7) (d := some 32) (v := .pointer (some ((⟨g, 0, none⟩ : Addr).add (i * 4)))) rfl rfl (by kernel_rfl) (by kernel_rfl) (by kernel_rfl) (by kernel_rfl) (fun _ _ _ h => h) (Or.inl ⟨by rfl, fun wz _ => by go_simp⟩) F1 ?_
      simp only [Act.put, List.setIfInBounds_toArray, List.set_cons_zero, List.set_cons_succ]
      refine AnyT.takeD (i := 8) (d := some 5) (v := .pointer (some ((⟨g, 0, none⟩ : Addr).add (i * 4)))) rfl rfl (by kernel_rfl) (by kernel_rfl) (by kernel_rfl) (by kernel_rfl) (fun _ _ _ h => h) (Or.inl ⟨by rfl, fun wz _ => by go_simp⟩) F1 ?_
      simp only [Act.put, List.setIfInBounds_toArray, List.set_cons_zero, List.set_cons_succ]
      -- TAKEN J2
      refine AnyT.done_ (by kernel_rfl) ?_ _
      clear F1 HPS
      go_wp2_with fail
      refine (next_any m (N + 1 + 1) 4 q1 S1.out.mkr (by omega) (by omega) (by omega)).mono ?_
      rintro e w6 ⟨s, rfl, s1, s2, k1, k2⟩
      have S7 := Lib.hid (S1.out.step k2 k1)
      clear k1 k2 S1
      have hs : s = 0 ∨ s = 1 ∨ s = 2 ∨ s = 3 := by omega
      rcases hs with rfl | rfl | rfl | rfl
      · obtain ⟨j0, j1, jl⟩ := S7.out.jb
        go_wp2_with fail
        refine (pick_any m (N + 3) (fun _ => True) _ 3 3 _ (S7.out.mkr.alloc _) (by omega) (by omega) (by omega) (by have := S7.out.mkr.lt; omega) (by simp) (by exact new_pick _ _ (fun _ => True) [-1, 15, 16] (fun _ _ => trivial) _ rfl)).mono ?_
        rintro e wp ⟨z, rfl, -, kp, mp⟩
        have SP := Lib.hid ((S7.out.below ((Below.refl _ _).alloc (Nat.le_refl _) _)).step mp kp)
        obtain ⟨l9, h9, s9⟩ := SP.out.setF i 0 (by omega) z
        have S9 := Lib.hid s9
        obtain ⟨⟨c0, c1, c2, c3⟩, fz⟩ := SP.out.own.at4 SP.out.len (k := i) (by rw [← SP.out.len]; exact hiL)
        have fzi := fz (i * 4)
        clear j0 j1 jl kp mp S7 s9 h9 fz
        go_upto_region 14 with fail
        generalize wp.setCell ⟨g, i * 4, none⟩ (.int .i64 z) = w9 at *
        clear c0 c1 c2 c3 fzi SP
        obtain ⟨j0, j1, jl⟩ := S9.out.jb
        obtain ⟨r0, r1, rl⟩ := S9.out.rb
        have f0 := S9.out.fr 0
        have f1 := S9.out.fr 1
        have RB := Lib.hid (S9.out.rb.put (A' := (some ⟨g, 0, none⟩)) (n' := L) (c' := c1) (wt' := wt))
        go_wp2_with fail
        refine bodyPost_ret (results_job rfl _ _ (b + 1) L c1 ((some ⟨g, 0, none⟩)) wt rfl RB.out) rfl ?_
        exact S9.out.post (by omega)
      · obtain ⟨j0, j1, jl⟩ := S7.out.jb
        go_wp2_with fail
        refine (pick_any m (N + 3) (fun _ => True) _ 3 3 _ (S7.out.mkr.alloc _) (by omega) (by omega) (by omega) (by have := S7.out.mkr.lt; omega) (by simp) (by exact new_pick _ _ (fun _ => True) [-1, 31, 32] (fun _ _ => trivial) _ rfl)).mono ?_
        rintro e wp ⟨z, rfl, -, kp, mp⟩
        have SP := Lib.hid ((S7.out.below ((Below.refl _ _).alloc (Nat.le_refl _) _)).step mp kp)
        obtain ⟨l9, h9, s9⟩ := SP.out.setF i 1 (by omega) z
        have S9 := Lib.hid s9
        obtain ⟨⟨c0, c1, c2, c3⟩, fz⟩ := SP.out.own.at4 SP.out.len (k := i) (by rw [← SP.out.len]; exact hiL)
        have fzi := fz (i * 4 + 1)
        clear j0 j1 jl kp mp S7 s9 h9 fz
        go_upto_region 14 with fail
        generalize wp.setCell ⟨g, i * 4 + 1, none⟩ (.int .i64 z) = w9 at *
        clear c0 c1 c2 c3 fzi SP
        obtain ⟨j0, j1, jl⟩ := S9.out.jb
        obtain ⟨r0, r1, rl⟩ := S9.out.rb
        have f0 := S9.out.fr 0
        have f1 := S9.out.fr 1
        have RB := Lib.hid (S9.out.rb.put (A' := (some ⟨g, 0, none⟩)) (n' := L) (c' := c1) (wt' := wt))
        go_wp2_with fail
        refine bodyPost_ret (results_job rfl _ _ (b + 1) L c1 ((some ⟨g, 0, none⟩)) wt rfl RB.out) rfl ?_
        exact S9.out.post (by omega)
      · obtain ⟨j0, j1, jl⟩ := S7.out.jb
        go_wp2_with fail
        refine (pick_any m (N + 3) (fun _ => True) _ 5 5 _ (S7.out.mkr.alloc _) (by omega) (by omega) (by omega) (by have := S7.out.mkr.lt; omega) (by simp) (by exact new_pick _ _ (fun _ => True) [-1, 0, 5, 12, 13] (fun _ _ => trivial) _ rfl)).mono ?_
        rintro e wp ⟨z, rfl, -, kp, mp⟩
        have SP := Lib.hid ((S7.out.below ((Below.refl _ _).alloc (Nat.le_refl _) _)).step mp kp)
        obtain ⟨l9, h9, s9⟩ := SP.out.setF i 2 (by omega) z
        have S9 := Lib.hid s9
        obtain ⟨⟨c0, c1, c2, c3⟩, fz⟩ := SP.out.own.at4 SP.out.len (k := i) (by rw [← SP.out.len]; exact hiL)
        have fzi := fz (i * 4 + 2)
        clear j0 j1 jl kp mp S7 s9 h9 fz
        go_upto_region 14 with fail
        generalize wp.setCell ⟨g, i * 4 + 2, none⟩ (.int .i64 z) = w9 at *
        clear c0 c1 c2 c3 fzi SP
        obtain ⟨j0, j1, jl⟩ := S9.out.jb
        obtain ⟨r0, r1, rl⟩ := S9.out.rb
        have f0 := S9.out.fr 0
        have f1 := S9.out.fr 1
        have RB := Lib.hid (S9.out.rb.put (A' := (some ⟨g, 0, none⟩)) (n' := L) (c' := c1) (wt' := wt))
        go_wp2_with fail
        refine bodyPost_ret (results_job rfl _ _ (b + 1) L c1 ((some ⟨g, 0, none⟩)) wt rfl RB.out) rfl ?_
        exact S9.out.post (by omega)
      · obtain ⟨j0, j1, jl⟩ := S7.out.jb
        go_wp2_with fail
        refine (pick_any m (N + 3) (fun _ => True) _ 4 4 _ (S7.out.mkr.alloc _) (by omega) (by omega) (by omega) (by have := S7.out.mkr.lt; omega) (by simp) (by exact new_pick _ _ (fun _ => True) [0, 1, 400, 401] (fun _ _ => trivial) _ rfl)).mono ?_
        rintro e wp ⟨z, rfl, -, kp, mp⟩
        have SP := Lib.hid ((S7.out.below ((Below.refl _ _).alloc (Nat.le_refl _) _)).step mp kp)
        obtain ⟨l9, h9, s9⟩ := SP.out.setF i 3 (by omega) z
        have S9 := Lib.hid s9
        obtain ⟨⟨c0, c1, c2, c3⟩, fz⟩ := SP.out.own.at4 SP.out.len (k := i) (by rw [← SP.out.len]; exact hiL)
        have fzi := fz (i * 4 + 3)
        clear j0 j1 jl kp mp S7 s9 h9 fz
        go_upto_region 14 with fail
        generalize wp.setCell ⟨g, i * 4 + 3, none⟩ (.int .i64 z) = w9 at *
        clear c0 c1 c2 c3 fzi SP
        obtain ⟨j0, j1, jl⟩ := S9.out.jb
        obtain ⟨r0, r1, rl⟩ := S9.out.rb
        have f0 := S9.out.fr 0
        have f1 := S9.out.fr 1
        have RB := Lib.hid (S9.out.rb.put (A' := (some ⟨g, 0, none⟩)) (n' := L) (c' := c1) (wt' := wt))
        go_wp2_with fail
        refine bodyPost_ret (results_job rfl _ _ (b + 1) L c1 ((some ⟨g, 0, none⟩)) wt rfl RB.out) rfl ?_
        exact S9.out.post (by omega)
end
section
open Go.RowKit Go.WideShapes Go.ChangeShapes Go.ChangeShapes
section
variable {H : Type} {enc : TypeId × Value → H} {P : Program} {w : World} {base : Nat} {spare : Nat → Bool} {held : Bool}
theorem trod_struct4 {t : TypeId} {f0 f1 f2 f3 : Field} {fuel : Nat} {cs : List Value} {x : DataW H × List MemPlace} (ht : P.underlying t = some (.struct #[f0, f1, f2, f3])) (h : DataW.trod enc P w base spare held fuel t cs = some x) :
    ∃ y0 y1 y2 y3 n, DataW.trod enc P w base spare held n f0.type ((cs.drop f0.offset).take (P.cellsOf f0.type)) = some y0 ∧ DataW.trod enc P w base spare held n f1.type ((cs.drop f1.offset).take (P.cellsOf f1.type)) = some y1 ∧
      DataW.trod enc P w base spare held n f2.type ((cs.drop f2.offset).take (P.cellsOf f2.type)) = some y2 ∧ DataW.trod enc P w base spare held n f3.type ((cs.drop f3.offset).take (P.cellsOf f3.type)) = some y3 := by
  obtain ⟨xs, n, _, rfl, hl, hlen, hf⟩ := DataW.trod_struct ht h
  match xs, hlen with
  | [y0, y1, y2, y3], _ => exact ⟨y0, y1, y2, y3, n, by simpa using hf 0 f0 rfl, by simpa using hf 1 f1 rfl, by simpa using hf 2 f2 rfl, by simpa using hf 3 f3 rfl⟩
/-- A slice of items, as the reader reads it. -/
theorem open_items {t e : TypeId} {f0 f1 f2 f3 : Field} {fuel : Nat} {A : Option Addr} {len cap : Nat} {x : DataW H × List MemPlace}
    (ht : P.underlying t = some (.slice e)) (he : P.underlying e = some (.struct #[f0, f1, f2, f3]))
    (ce : P.cellsOf e = 4) (o0 : f0.offset = 0) (o1 : f1.offset = 1) (o2 : f2.offset = 2) (o3 : f3.offset = 3) (u0 : P.underlying f0.type = some (.int .i64)) (u1 : P.underlying f1.type = some (.int .i64)) (u2 : P.underlying f2.type = some (.int .i64)) (u3 : P.underlying f3.type = some (.int .i64))
    (c0 : P.cellsOf f0.type = 1) (c1 : P.cellsOf f1.type = 1) (c2 : P.cellsOf f2.type = 1) (c3 : P.cellsOf f3.type = 1)
    (h : DataW.trod enc P w base spare held fuel t [.slice A len cap] = some x) : ∃ l : List It, len = l.length ∧ IRow w A l := by
  rcases Deep.open_slice ht h with ⟨h0, _⟩ | ⟨a, len', cap', m, n, D, Pl, h0, hb, hl, hm, hmm, _, hx⟩
  · injection h0 with h0
    injection h0 with e1 e2 e3
    subst e1; subst e2; subst e3
    exact ⟨[], rfl, IRow.nil⟩
  · injection h0 with h0
    injection h0 with e1 e2 e3
    subst e1; subst e2; subst e3
    have hlm : len ≤ m := by rw [hmm]; split <;> omega
    have each : ∀ i, i < len → ∃ p : It, w.cell? (a.add (i * 4)) = some (.int .i64 p.1) ∧ w.cell? (a.add (i * 4 + 1)) = some (.int .i64 p.2.1) ∧ w.cell? (a.add (i * 4 + 2)) = some (.int .i64 p.2.2.1) ∧ w.cell? (a.add (i * 4 + 3)) = some (.int .i64 p.2.2.2) := by
      intro i hi
      obtain ⟨cs', g1, g2⟩ := hx i (by omega)
      rw [ce] at g1
      obtain ⟨_, hlen, hcell⟩ := World.cells?_some g1
      obtain ⟨y0, y1, y2, y3, n', t0, t1, t2, t3⟩ := trod_struct4 he g2
      match cs', hlen with
      | [v0, v1, v2, v3], _ =>
        simp [o0, o1, o2, o3, c0, c1, c2, c3] at t0 t1 t2 t3
        obtain ⟨a0, e0, _, _⟩ := DataW.trod_int u0 t0
        obtain ⟨a1, e1, _, _⟩ := DataW.trod_int u1 t1
        obtain ⟨a2, e2, _, _⟩ := DataW.trod_int u2 t2
        obtain ⟨a3, e3, _, _⟩ := DataW.trod_int u3 t3
        simp at e0 e1 e2 e3
        subst e0; subst e1; subst e2; subst e3
        have k0 := hcell 0 (by omega)
        have k1 := hcell 1 (by omega)
        have k2 := hcell 2 (by omega)
        have k3 := hcell 3 (by omega)
        rw [Deep.add_add] at k0 k1 k2 k3
        exact ⟨(a0, a1, a2, a3), by simpa using k0, by simpa using k1, by simpa using k2, by simpa using k3⟩
    obtain ⟨f, hf⟩ := Deep.choose_lt each
    refine ⟨(List.range len).map f, by simp, ⟨?_, by simp; omega⟩⟩
    intro j hj
    rw [flatI_len] at hj
    simp only [List.length_map, List.length_range] at hj
    have hi : j / 4 < len := by omega
    have hg : ((List.range len).map f).getD (j / 4) it0 = f (j / 4) := by
      rw [List.getD_eq_getElem?_getD, List.getElem?_map, List.getElem?_range hi]; rfl
    obtain ⟨k0, k1, k2, k3⟩ := hf (j / 4) hi
    obtain ⟨e0, e1, e2, e3⟩ := flatI_at ((List.range len).map f) (j / 4)
    rw [hg] at e0 e1 e2 e3
    have hblk : a.block < w.heap.size := by have := lt_of_cell k0; rwa [add_block] at this
    refine ⟨a, rfl, hblk, ?_⟩
    rcases (by omega : j = j / 4 * 4 ∨ j = j / 4 * 4 + 1 ∨ j = j / 4 * 4 + 2 ∨ j = j / 4 * 4 + 3) with e | e | e | e
    · rw [e, k0, e0]
    · rw [e, k1, e1]
    · rw [e, k2, e2]
    · rw [e, k3, e3]
/-- A job by value. -/
theorem open_job {r : Reach} {b0 : Nat} {t e : TypeId} {h0 h1 f0 f1 f2 f3 : Field} {v : Value} {d : DataW H} {p : List MemPlace} (ht : P.underlying t = some (.struct #[h0, h1])) (ct : P.cellsOf t = 2) (q0 : h0.offset = 0) (q1 : h1.offset = 1) (hs : P.underlying h0.type = some (.slice e)) (hi : P.underlying h1.type = some (.int .i64)) (d0 : P.cellsOf h0.type = 1) (d1 : P.cellsOf h1.type = 1)
    (he : P.underlying e = some (.struct #[f0, f1, f2, f3]))
    (ce : P.cellsOf e = 4) (o0 : f0.offset = 0) (o1 : f1.offset = 1) (o2 : f2.offset = 2) (o3 : f3.offset = 3) (u0 : P.underlying f0.type = some (.int .i64)) (u1 : P.underlying f1.type = some (.int .i64)) (u2 : P.underlying f2.type = some (.int .i64)) (u3 : P.underlying f3.type = some (.int .i64))
    (c0 : P.cellsOf f0.type = 1) (c1 : P.cellsOf f1.type = 1) (c2 : P.cellsOf f2.type = 1) (c3 : P.cellsOf f3.type = 1)
    (hv : Value.okWide P w r b0 t v) (h : DataW.Trod enc P w base spare held t v d p) : ∃ A len cap l wt, v = .agg #[.slice A len cap, .int .i64 wt] ∧ len = l.length ∧ IRow w A l := by
  obtain ⟨cs, rfl, hsz⟩ := okWide_struct ht hv
  rw [ct] at hsz
  obtain ⟨fuel, h⟩ := h
  obtain ⟨ll⟩ := cs
  match ll, hsz with
  | [v0, v1], _ =>
    obtain ⟨y0, y1, n, _, _, t0, t1⟩ := trod_struct2 ht h
    simp [Value.cells, q0, q1, d0, d1] at t0 t1
    obtain ⟨a1, e1, _, _⟩ := DataW.trod_int hi t1
    simp at e1
    subst e1
    have hsl : ∃ A len cap, v0 = .slice A len cap := by
      rcases Deep.open_slice hs t0 with ⟨h0, _⟩ | ⟨a, len', cap', m, n, D, Pl, h0, _⟩
      · injection h0 with h0
        exact ⟨_, _, _, h0⟩
      · injection h0 with h0
        exact ⟨_, _, _, h0⟩
    obtain ⟨A, len, cap, rfl⟩ := hsl
    obtain ⟨l, h1, h2⟩ := open_items hs he ce o0 o1 o2 o3 u0 u1 u2 u3 c0 c1 c2 c3 t0
    exact ⟨A, len, cap, l, a1, rfl, h1, h2⟩
end
end
section
open Go.RowKit Go.Lib
theorem iown_none {T : TypeId} {w : World} {base n c : Nat} {A : Option Addr} {l : List It} (h : IOwn T w base (.slice A n c) l) (e : A = none) : n = 0 ∧ c = 0 := by
  subst e
  rcases h.2 with ⟨q, _⟩ | ⟨g, cap, cur, q, _⟩
  · injection q with _ q2 q3
    exact ⟨q2, q3⟩
  · injection q with q1
    cases q1
set_option maxRecDepth 100000 in
set_option maxHeartbeats 6400000 in
theorem exa_walk (A : Option Addr) (c : Nat) (zs : List Int) (jA lA : Option Addr) (jn jc ln lc : Nat) (jl : List It) (jwt : Int) (ls : List Int) (w : World) (hr : Row .i64 w w.heap.size A zs) (hm : zs.length ≤ maxLen) (hw : ∀ n ∈ zs, (Lit.int .i64 n).wf = true)
    (hj : IRow w jA jl) (hjn : jn = jl.length) (hlr : Row .i64 w w.heap.size lA ls) (hln : ln = ls.length) (hlm : ln ≤ maxLen) :
    Calls Try.prog 5 #[.slice A zs.length c, jv jA jn jc jwt, .slice lA ln lc] w fun e w' => e = .returned (.bool true) ∧ Below w.heap.size w w' := by
  have HEX := Lib.hid (fun (W : World) (k : Below w.heap.size w W) => exact13_any jl jA lA jc lc jn ln jwt hjn ls hln hlm W (hj.below k) (hlr.below k))
  have HEF := Lib.hid (fun (W : World) (k : Below w.heap.size w W) (fA : Option Addr) (hf : IRow W fA itm4) => exact13_any itm4 fA lA 4 lc 4 ln 3 rfl ls hln hlm W hf (hlr.below k))
  have BJ := (Below.refl w.heap.size w).alloc (Nat.le_refl _) (.cells #[.slice jA jn jc, .int .i64 jwt] 24)
  have HBJ := Lib.hid BJ
  have HJ := Lib.hid (JBox.new (w := w) (A := jA) (n := jn) (c := jc) (wt := jwt) w.heap.size rfl)
  have HR0 := Lib.hid (hr.below BJ)
  have HMM := Lib.hid hm
  have HWW := Lib.hid hw
  obtain ⟨b0, hb0⟩ : ∃ b, b = w.heap.size := ⟨_, rfl⟩
  clear hj hjn hlr hln hlm BJ hr hw hm
  go_enter Try.func5, Try.ntmps5
  go_upto_region 1 with fail
  rw [← hb0] at HJ ⊢
  generalize w.alloc (.cells #[.slice jA jn jc, .int .i64 jwt] 24) = w0 at *
  clear hb0
  have K := Lib.hid (mk_row (c := c) (T := 65) HR0.out HMM.out HWW.out)
  have B := Lib.hid ((Below.refl w0.heap.size w0).alloc (Nat.le_refl _) (.cells #[.slice A zs.length c, .int .i64 0] 65))
  go_wp2_with fail
  refine (new_any A zs.length c w0).mono ?_
  rintro e w1 ⟨rfl, hw1⟩
  rw [← hw1] at K B
  have HBM := Lib.hid (show b0 < w0.heap.size from HJ.out.lt)
  obtain ⟨m, hmm⟩ : ∃ m, m = w0.heap.size := ⟨_, rfl⟩
  have HMW := Lib.hid (show w.heap.size ≤ m by rw [hmm]; exact HBJ.out.size)
  have HJW := Lib.hid (show ∀ W, Below m w0 W → JBox W b0 jA jn jc jwt from fun W k => HJ.out.below k (by rw [hmm]; exact HBM.out))
  have HBA := Lib.hid (show ∀ W, Below m w0 W → Below w.heap.size w W from fun W k => HBJ.out.trans (k.mono HMW.out))
  rw [← hmm] at K B ⊢
  clear hw1 hmm HJ HR0 HMM HWW HBJ HBM
  go_wp2_with fail
  go_loopw [8] (fun iv wr => ∃ (i M : Nat), i ≤ 4 ∧ iv = .int .i64 (i : Int) ∧ M ≤ 200 * i ∧ Hid (IsMk wr m M) ∧ Hid (Below m w0 wr)) (fun iv _ => 4 - (intOf iv).toNat)
  case atStart => exact ⟨0, 0, by omega, rfl, by omega, K, B⟩
  case round =>
    clear K B
    obtain ⟨i, M, hi, rfl, hM, K, B⟩ := hrel
    by_cases hlt : i < 4
    · go_wp2_with fail
      refine (mjob_any m M 12 wr K.out (by omega) (by omega)).mono ?_
      rintro e w2 ⟨pA, pc, l, wt, rfl, O, hl, -, -, K2, V2⟩
      have hkl := K.out.lt
      have B2 := Moves.below B.out V2 (Nat.le_refl _) (Nat.le_of_lt hkl)
      have HAN := Lib.hid (fun e => iown_none O e)
      have K3 := Lib.hid (K2.alloc (.cells #[.slice pA l.length pc, .int .i64 wt] 24))
      have O3 := Lib.hid ((O.base (show m + 1 ≤ wr.heap.size from hkl)).alloc (.cells #[.slice pA l.length pc, .int .i64 wt] 24))
      have J3 := Lib.hid (JBox.new (w := w2) (A := pA) (n := l.length) (c := pc) (wt := wt) w2.heap.size rfl)
      have F3 := Lib.hid (fun j => frozen_new w2 #[.slice pA l.length pc, .int .i64 wt] 24 w2.heap.size j rfl)
      have B3 := Lib.hid (B2.alloc (Nat.le_of_lt K2.lt) (.cells #[.slice pA l.length pc, .int .i64 wt] 24))
      have hmb0 := K2.lt
      obtain ⟨b, hb⟩ : ∃ b, b = w2.heap.size := ⟨_, rfl⟩
      have hmb : m < b := by omega
      obtain ⟨L, hL⟩ : ∃ n, n = l.length := ⟨_, rfl⟩
      have HL := Lib.hid hL
      have HL12 := Lib.hid (show L ≤ 12 by rw [hL]; exact hl)
      clear K B O K2 V2 B2 hkl hmb0 hl
      go_upto_region 6 with fail
      rw [← hb] at J3 F3 ⊢
      rw [← hL] at J3 O3 HAN K3 B3 F3 ⊢
      generalize w2.alloc (.cells #[.slice pA L pc, .int .i64 wt] 24) = w3 at *
      clear hb hL
      have HCH := Lib.hid (show Calls Try.prog 18 #[.pointer (some ⟨m, 0, none⟩), jv pA L pc wt] w3 (ChPost m (M + 5 + 5 * 12 + 3 * L) l w3) from chain13_any l pA pc L m (M + 5 + 5 * 12) wt HL.out (by have := HL12.out; omega) w3 K3.out (by omega) (by rw [← HL.out]; exact O3.out))
      obtain ⟨j0, j1, jlt⟩ := J3.out
      go_wp2_with fail
      refine HCH.out.mono ?_
      rintro e w4 ⟨u, d, rfl, OU, -, -, K4', V4⟩
      have J4 := Lib.hid (J3.out.moves V4 (by omega))
      have F4 := Lib.hid (fun j => (V4.frozen (p := ⟨b, j, none⟩) jlt (by show b ≠ m; omega)).trans (F3.out j))
      have O4 := Lib.hid (O3.out.moves V4 (Nat.lt_succ_self _))
      have K4 := Lib.hid K4'
      have B4 := Lib.hid (Moves.below B3.out V4 (Nat.le_refl _) (Nat.le_of_lt K3.out.lt))
      have HU := Lib.hid (OU.base (show b + 1 ≤ w3.heap.size from jlt))
      obtain ⟨un, hun⟩ : ∃ n, n = (toZ d).length := ⟨_, rfl⟩
      have HUN := Lib.hid hun
      obtain ⟨uA, uc, eu, UR, hum⟩ := own_len OU
      rw [← hun] at eu
      subst eu
      have HUM := Lib.hid (show un ≤ maxLen by rw [hun]; exact hum)
      have HUR := Lib.hid UR
      clear j0 j1 jlt J3 F3 O3 K3 B3 K4' V4 OU hun UR hum HCH
      obtain ⟨j0, j1, jlt⟩ := J4.out
      by_cases hi3 : i = 3
      · subst hi3
        have hi3b : (((3 : Nat) : Int) == 3) = true := rfl
        have f0 := F4.out 0
        have f1 := F4.out 1
        go_wp2_with fail
        refine (spoil_any m (M + 5 + 5 * 12 + 3 * L) l pA pc L wt HL.out (by have := HL12.out; omega) w4 K4.out (by have := HL12.out; omega) O4.out.irow HAN.out).mono ?_
        rintro e w5 ⟨sA, sc, l', wt', rfl, OS, hln', K5, V5⟩
        have J5 := J4.out.moves V5 (by omega)
        have HLN := Lib.hid hln'
        have hbm : b ≠ m := by omega
        have g0 := (V5.frozen (p := ⟨b, 0, none⟩) jlt hbm).trans f0
        have g1 := (V5.frozen (p := ⟨b, 1, none⟩) jlt hbm).trans f1
        have OS6 := Lib.hid ((OS.setOther (p := ⟨b, 0, none⟩) (fun e => by have := (OS.block e).1; have : w4.heap.size ≤ b := this; omega) (.slice sA L sc)).setOther (p := ⟨b, 1, none⟩) (fun e => by have := (OS.block e).1; have : w4.heap.size ≤ b := this; omega) (.int .i64 wt'))
        have hub : ∀ q, (Value.slice uA un uc).ownBlock = some q → q ≠ b := fun q e => by have := (own_block HU.out e).1; omega
        have HU6 := Lib.hid (((HU.out.moves V5 (by omega)).setN (p := ⟨b, 0, none⟩) hub (.slice sA L sc)).setN (p := ⟨b, 1, none⟩) hub (.int .i64 wt'))
        have J6 := Lib.hid (J5.put (A' := sA) (n' := L) (c' := sc) (wt' := wt'))
        have K6 := Lib.hid ((K5.setCell (p := ⟨b, 0, none⟩) hmb (.slice sA L sc)).setCell (p := ⟨b, 1, none⟩) hmb (.int .i64 wt'))
        have B6 := Lib.hid (((Moves.below B4.out V5 (Nat.le_refl _) (Nat.le_of_lt K4.out.lt)).setCell (p := ⟨b, 0, none⟩) (Nat.le_of_lt hmb) (.slice sA L sc)).setCell (p := ⟨b, 1, none⟩) (Nat.le_of_lt hmb) (.int .i64 wt'))
        clear j0 j1 jlt f0 f1 J4 F4 O4 K4 B4 HU HUR OS hln' K5 V5 HAN
        obtain ⟨i0, i1, ilt⟩ := J5
        go_upto_region 9 with fail
        generalize (w5.setCell ⟨b, 0, none⟩ (.slice sA L sc)).setCell ⟨b, 1, none⟩ (.int .i64 wt') = w6 at *
        clear i0 i1 ilt g0 g1 hub
        obtain ⟨j0, j1, jlt⟩ := J6.out
        obtain ⟨uA', uc', eu, UR, -⟩ := own_len HU6.out
        have euA : uA = uA' := by injection eu
        subst euA
        have HXE := Lib.hid (exact13_any l' sA uA sc uc L un wt' HLN.out (toZ d) HUN.out HUM.out w6 OS6.out.irow UR)
        clear eu UR
        go_wp2_with fail
        refine HXE.out.mono ?_
        rintro e w7 ⟨rfl, B7⟩
        have K7 := Lib.hid (K6.out.stays' B7)
        have BB7 := Lib.hid (B6.out.trans (B7.mono (Nat.le_of_lt K6.out.lt)))
        clear B7 HXE j0 j1 jlt
        have HL2 := HL12.out
        go_wp2_with fail
        go_roundw
        case rel => exact ⟨3 + 1, M + 5 + 5 * 12 + 3 * L + 4, by omega, by go_num, by omega, K7, BB7⟩
        case measure => simp [intOf]
      · have hi3b : ((i : Int) == 3) = false := by simp; omega
        have HXE := Lib.hid (exact13_any l pA uA pc uc L un wt HL.out (toZ d) HUN.out HUM.out w4 O4.out.irow HUR.out)
        go_wp2_with fail
        refine HXE.out.mono ?_
        rintro e w7 ⟨rfl, B7⟩
        have K7 := Lib.hid (K4.out.stays' B7)
        have BB7 := Lib.hid (B4.out.trans (B7.mono (Nat.le_of_lt K4.out.lt)))
        clear B7 HXE j0 j1 jlt J4 F4 O4 K4 B4 HU HUR HAN
        have HL2 := HL12.out
        go_wp2_with fail
        go_roundw
        case rel => exact ⟨i + 1, M + 5 + 5 * 12 + 3 * L, by omega, by go_num, by omega, K7, BB7⟩
        case measure => simp [intOf]; omega
    · have hi4 : ¬ (i : Int) < 4 := by omega
      have BA := Lib.hid (HBA.out _ B.out)
      obtain ⟨j0, j1, jlt⟩ := HJW.out _ B.out
      by_cases h1 : 30 < jn
      · have h1i : (30 : Int) < (jn : Int) := by omega
        go_wp2_with fail
        go_ret
        exact ⟨rfl, BA.out⟩
      · have h1i : ¬ (30 : Int) < (jn : Int) := by omega
        by_cases h2 : 60 < ln
        · have h2i : (60 : Int) < (ln : Int) := by omega
          go_wp2_with fail
          go_ret
          exact ⟨rfl, BA.out⟩
        · have h2i : ¬ (60 : Int) < (ln : Int) := by omega
          go_wp2_with fail
          refine (HEX.out _ BA.out).mono ?_
          rintro e wa ⟨rfl, Ba⟩
          have BA2 := Lib.hid (BA.out.trans (Ba.mono BA.out.size))
          clear j0 j1 jlt Ba
          go_wp2_with fail
          refine (four13_any 3 wa).mono ?_
          rintro e wb ⟨fA, rfl, hf, Bb⟩
          have BA3 := Lib.hid (BA2.out.trans (Bb.mono BA2.out.size))
          have HXF := Lib.hid (HEF.out wb BA3.out fA hf)
          clear hf Bb
          go_wp2_with fail
          refine HXF.out.mono ?_
          rintro e wc ⟨rfl, Bc⟩
          have BA4 := Lib.hid (BA3.out.trans (Bc.mono BA3.out.size))
          clear Bc HXF
          go_wp2_with fail
          refine (sane13_any _).mono ?_
          rintro e wz ⟨rfl, BZ⟩
          have HZ := Lib.hid (BA4.out.trans (BZ.mono BA4.out.size))
          clear BZ
          go_wp2_with fail
          go_ret
          exact ⟨rfl, HZ.out⟩
theorem exa_law (a : Option Addr) (len cap : Nat) (zs : List Int) (jA lA : Option Addr) (jc ln lc : Nat) (jl : List It) (jwt : Int) (ls : List Int) (w : World) (h : IsRow .i64 w a len cap zs) (hj : IRow w jA jl) (k : IsRow .i64 w lA ln lc ls) :
    Calls Try.prog 5 #[.slice a len cap, jv jA jl.length jc jwt, .slice lA ln lc] w fun e w' => e = .returned (.bool true) ∧ Below w.heap.size w w' := by
  obtain ⟨l, rfl, h1, h2, h3⟩ := h.row
  obtain ⟨l2, rfl, k1, k2, k3⟩ := k.row
  exact exa_walk a cap l jA lA _ jc _ lc jl jwt l2 w h1 h2 h3 hj rfl k1 rfl k2
end
end Go.Proofs.Ytcplanafcnnodaa
