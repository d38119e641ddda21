/-
  GG, GH, ASwp, ARot, ASym, ASmm, AShelf, AStb, AGrt, ARep, ASrd, ASre, AMat, AHal, ZTraP, GPl, GI, Str, Sum, Valid, Kind, MkNumber, CWag, Fmt, PStr, PFmt, CName, CValid, GJ: joined.
-/
import Derived.Shelf.SlSortCmp.Insertion1
import Derived.Test.YtimkmieohkefiaaGreatProg
import Derived.Shelf.Bits.Mul64
import Derived.Shelf.Sort.Plain
import Derived.Shelf.Slices.In.SortNone
import Derived.Shelf.SlIterI.Sorted
import Derived.Shelf.SlicesG.Cmp
import Derived.Laws.CopyOwn
import Derived.Deep.RegionLaw
import Derived.Laws.IdiomStrings
import Derived.Test.YtimkmieohkefiaaGreatBA1
import Derived.Test.YtimkmieohkefiaaGreatBA2
import Derived.Test.YtimkmieohkefiaaGreatBA3
set_option linter.unusedSimpArgs false
set_option linter.unusedVariables false
namespace Go.Proofs.YtimkmieohkefiaaGreat
open Go.RowKit Go.Lib

theorem infoItem17 : (Tryz.prog.info? 52).map (fun i => (i.zero, i.size, i.bytes)) = some (some (.agg #[.int .i64 0, .int .i64 0, .int .i64 0, .int .i64 0]), 4, 32) := by kernel_rfl
set_option maxRecDepth 100000 in
set_option maxHeartbeats 1600000 in
/-- A copy of items. -/
theorem clone_items (l : List It) (A : Option Addr) (n c : Nat) (w : World) (h : IRow w A l) (hn : n = l.length) (hA : A = none → n = 0 ∧ c = 0) (hl : n ≤ 1000) :
    Calls Tryz.prog 86 #[.slice A n c] w fun e w' => ∃ B d, e = .returned (.slice B n d) ∧ IOwn 52 w' w.heap.size (.slice B n d) l ∧ Below w.heap.size w w' := by
  cases A with
  | none =>
    obtain ⟨rfl, rfl⟩ := hA rfl
    have hz : l = [] := List.length_eq_zero_iff.1 hn.symm
    subst hz
    clear h hn hA hl
    have hq : ∀ w, (binOp .eql 35 (.slice none 0 0) (.slice none 0 0)).run Tryz.prog w = .ok (.bool true) w := fun w => Go.Lib.run_eql_slice_nil w _ _ none 0 0 0 0 Tryz.underlying35
    go_enter Tryz.func86, Tryz.ntmps86
    go_wp2_with fail
    go_ret
    exact ⟨_, _, rfl, IOwn.nil, Below.refl _ _⟩
  | some ad =>
    have H := Lib.hid (h.below ((Below.refl w.heap.size w).alloc (Nat.le_refl _) (.cells #[] 52)))
    have HN := Lib.hid hn
    have HMX := Lib.hid (show 0 + n ≤ maxLen by unfold maxLen; omega)
    clear h hn hA
    obtain ⟨i0, hi, hz0, hz1, hz2⟩ := info_parts infoItem17
    have HI := Lib.hid (And.intro hi (And.intro hz0 (And.intro hz1 hz2)))
    clear hi hz0 hz1 hz2
    have hq : ∀ w, (binOp .eql 35 (.slice (some ad) n c) (.slice none 0 0)).run Tryz.prog w = .ok (.bool false) w := fun w => Go.Lib.run_eql_slice_nil w _ _ (some ad) n c 0 0 Tryz.underlying35
    go_enter Tryz.func86, Tryz.ntmps86
    go_wp2_with (first
      | (at_builtin; refine wpList_app_src rfl (.tmp 5) (.tmp 6) 35 rfl w.heap.size 52 i0 (.agg #[.int .i64 0, .int .i64 0, .int .i64 0, .int .i64 0]) 4 32 Tryz.underlying35 HI.out.1 HI.out.2.1 HI.out.2.2.1 HI.out.2.2.2 rfl (by decide) _ 0 [] rfl (own_empty (Nat.le_refl _)) (some ad) n c ((flatI l).map (Value.int .i64)) rfl (fun e => by cases e) (by rw [List.length_map, flatI_len, ← HN.out]) (Row.newsO H.out.row) one_cells HMX.out (by omega) (by simp) ?_; intro v6 w6 hown6 hg6; have S6 := Lib.hid (show Below w.heap.size w w6 from ((Below.refl _ _).alloc (Nat.le_refl _) _).grown hg6 (by simp) (fun g hg => Nat.le_of_eq (Option.some.inj (show some w.heap.size = some g from hg)))); have W6 := Lib.hid hown6; clear hown6 hg6))
    have O6 : IOwn 52 w6 w.heap.size v6 l := by
      have := W6.out
      rw [List.nil_append, Nat.zero_add, HN.out] at this
      exact this
    obtain ⟨oA, oc, ev, -⟩ := O6.full
    have HO := Lib.hid O6
    rw [← HN.out] at ev
    subst ev
    clear O6 W6
    go_wp2_with fail
    go_ret
    exact ⟨_, _, rfl, HO.out, S6.out⟩
/-- A sheet. -/
structure Sh where
  iA : Option Addr
  il : Nat
  ic : Nat
  wt : Int
  st : Int
  vA : Option Addr
  vn : Nat
  vc : Nat
  uA : Option Addr
  un : Nat
  uc : Nat
  tA : Option Addr
  tn : Nat
  tc : Nat
def cellsH (s : Sh) : List Value := [.slice s.iA s.il s.ic, .int .i64 s.wt, .int .i64 s.st, .slice s.vA s.vn s.vc, .slice s.uA s.un s.uc, .slice s.tA s.tn s.tc]
def ShR : Rec Sh := ⟨6, by decide, cellsH, fun _ => rfl, fun x u hu => by
  simp only [cellsH, List.mem_cons, List.not_mem_nil, or_false] at hu
  rcases hu with rfl | rfl | rfl | rfl | rfl | rfl <;> rfl⟩
abbrev shv (s : Sh) : Value := .agg #[.slice s.iA s.il s.ic, .int .i64 s.wt, .int .i64 s.st, .slice s.vA s.vn s.vc, .slice s.uA s.un s.uc, .slice s.tA s.tn s.tc]
theorem infoSheet : (Tryz.prog.info? 43).map (·.size) = some 6 := by kernel_rfl
abbrev sh0 : Sh := ⟨none, 0, 0, 0, 0, none, 0, 0, none, 0, 0, none, 0, 0⟩
/-- What Check answers. -/
def ckE (l : List It) (wt st : Int) (v ch b tk : List Int) : Int := if chkE l wt st v ch ≠ 0 then chkE l wt st v ch else if fitR (loadL l wt st v) b tk = true then 0 else 14
set_option maxRecDepth 100000 in
set_option maxHeartbeats 6400000 in
theorem pcheck_any (l : List It) (v ch b tk : List Int) (s : Sh) (Bb : Option Addr) (bn bc : Nat) (hL : s.il = l.length) (hvn : s.vn = v.length) (hun : s.un = ch.length) (htn : s.tn = tk.length) (hbn : bn = b.length) (hvm : v.length ≤ maxLen) (hum : ch.length ≤ maxLen) (htm : tk.length ≤ maxLen) (hbm : b.length ≤ maxLen) (w : World)
    (hi : IRow w s.iA l) (hv : Row .i64 w w.heap.size s.vA v) (hu : Row .i64 w w.heap.size s.uA ch) (ht : Row .i64 w w.heap.size s.tA tk) (hb : Row .i64 w w.heap.size Bb b) :
    Calls Tryz.prog 15 #[shv s, .slice Bb bn bc] w fun e w' => e = .returned (.int .i64 (ckE l s.wt s.st v ch b tk)) ∧ Below w.heap.size w w' := by
  obtain ⟨iA, il, ic, wt, st, vA, vn, vc, uA, un, uc, tA, tn, tc⟩ := s
  simp only at *
  have HCK := Lib.hid (fun (W : World) (k : Below w.heap.size w W) => check_any l iA ic il wt st v ch vA vn vc uA un uc hL hvn hun hvm hum W (hi.below k) (hv.below k) (hu.below k))
  have HLD := Lib.hid (fun (W : World) (k : Below w.heap.size w W) => loads_any l iA ic il wt st v vA vn vc hL hvn W (hi.below k) (hv.below k) hvm)
  have HFT := Lib.hid (fun (a : List Int) (X : Option Addr) (xn xc : Nat) (hx : xn = a.length) (hxm : a.length ≤ maxLen) (W : World) (k : Below w.heap.size w W) (hr : Row .i64 W W.heap.size X a) => (show Calls Tryz.prog 47 #[.slice X xn xc, .slice Bb bn bc, .slice tA tn tc] W (fun e w' => e = .returned (.bool (fitR a b tk)) ∧ Below W.heap.size W w') from by
    subst hx; subst hbn; subst htn
    exact afits_any a b tk X Bb tA xc bc tc W hr hxm (hb.below k) hbm (ht.below k) htm))

  have HE := Lib.hid (show ckE l wt st v ch b tk = if chkE l wt st v ch ≠ 0 then chkE l wt st v ch else if fitR (loadL l wt st v) b tk = true then 0 else 14 from rfl)
  generalize ckE l wt st v ch b tk = r at *
  have HB := Lib.hid (box1W w (.cells #[.slice iA il ic, .int .i64 wt, .int .i64 st, .slice vA vn vc, .slice uA un uc, .slice tA tn tc] 43))
  have Y0 := Lib.hid (show AB 43 (w.alloc (.cells #[.slice iA il ic, .int .i64 wt, .int .i64 st, .slice vA vn vc, .slice uA un uc, .slice tA tn tc] 43)) w.heap.size [.slice iA il ic, .int .i64 wt, .int .i64 st, .slice vA vn vc, .slice uA un uc, .slice tA tn tc] from AB.new w [.slice iA il ic, .int .i64 wt, .int .i64 st, .slice vA vn vc, .slice uA un uc, .slice tA tn tc] 43 w.heap.size rfl)
  obtain ⟨y, hy⟩ : ∃ y, y = w.heap.size := ⟨_, rfl⟩
  clear hL hvn hun hvm hum hi hv hu htn hbn htm hbm ht hb
  go_enter Tryz.func15, Tryz.ntmps15
  go_upto_region 1 with fail
  rw [← hy] at Y0 ⊢
  generalize w.alloc (.cells #[.slice iA il ic, .int .i64 wt, .int .i64 st, .slice vA vn vc, .slice uA un uc, .slice tA tn tc] 43) = w1 at *
  clear hy
  have y0 := Y0.out.cell 0 (u := .slice iA il ic) rfl
  have y1 := Y0.out.cell 1 (u := .int .i64 wt) rfl
  have y2 := Y0.out.cell 2 (u := .int .i64 st) rfl
  have y3 := Y0.out.cell 3 (u := .slice vA vn vc) rfl
  have y4 := Y0.out.cell 4 (u := .slice uA un uc) rfl
  go_wp2_with fail
  refine (HCK.out w1 HB.out).mono ?_
  rintro e w2 ⟨rfl, B2⟩
  have HB2 := Lib.hid (HB.out.trans (B2.mono HB.out.size))
  have Y2 := Lib.hid (Y0.out.below B2 Y0.out.lt)
  clear y0 y1 y2 y3 y4 Y0 HB B2 HCK
  by_cases hc : chkE l wt st v ch = 0
  · have h14 := Lib.hid (chk_parts hc).1
    have HE1 := Lib.hid (show r = if fitR (loadL l wt st v) b tk = true then 0 else 14 by rw [HE.out, if_neg (fun g => g hc)])
    rw [hc]
    clear hc HE
    have y0 := Y2.out.cell 0 (u := .slice iA il ic) rfl
    have y1 := Y2.out.cell 1 (u := .int .i64 wt) rfl
    have y2 := Y2.out.cell 2 (u := .int .i64 st) rfl
    have y3 := Y2.out.cell 3 (u := .slice vA vn vc) rfl
    go_wp2_with fail
    refine (HLD.out w2 HB2.out).mono ?_
    rintro e w3 ⟨lv, rfl, OL, B3⟩
    have HZ := Lib.hid h14.out
    have HL3 := Lib.hid OL
    have HB3 := Lib.hid (HB2.out.trans (B3.mono HB2.out.size))
    have Y3 := Lib.hid (Y2.out.below B3 Y2.out.lt)
    clear y0 y1 y2 y3 Y2 HB2 B3 OL HLD
    obtain ⟨lA, lc, rfl, -, -, -, -⟩ := HL3.out.slice
    obtain ⟨ln, hln⟩ : ∃ n, n = (loadL l wt st v).length := ⟨_, rfl⟩
    have hrd := own_read HL3.out
    rw [← hln] at HL3 ⊢
    have HFC := Lib.hid (HFT.out (loadL l wt st v) lA ln lc hln hrd.2.2 w3 HB3.out hrd.2.1)
    clear hln hrd
    have y5 := Y3.out.cell 5 (u := .slice tA tn tc) rfl
    generalize val14 l wt st v = zz at *
    go_wp2_with fail
    refine HFC.out.mono ?_
    rintro e w4 ⟨rfl, B4⟩
    have HB4 := Lib.hid (HB3.out.trans (B4.mono HB3.out.size))
    clear B4 HFC
    cases hf : fitR (loadL l wt st v) b tk with
    | true =>
      have HE2 := Lib.hid (show r = 0 by rw [HE1.out, hf, if_pos rfl])
      clear hf HE1
      go_wp2_with fail
      go_ret
      exact ⟨by rw [HE2.out]; rfl, HB4.out⟩
    | false =>
      have HE2 := Lib.hid (show r = 14 by rw [HE1.out, hf, if_neg (by decide)])
      clear hf HE1
      go_wp2_with fail
      go_ret
      exact ⟨by rw [HE2.out]; rfl, HB4.out⟩
  · have hne : (chkE l wt st v ch != 0) = true := bne_iff_ne.2 hc
    have HE1 := Lib.hid (show r = chkE l wt st v ch by rw [HE.out, if_pos hc])
    clear hc HE
    generalize chkE l wt st v ch = z at *
    go_wp2_with fail
    go_ret
    exact ⟨by rw [HE1.out]; rfl, HB2.out⟩
end Go.Proofs.YtimkmieohkefiaaGreat

namespace Go.Proofs.YtimkmieohkefiaaGreat
open Go.RowKit Go.Lib

theorem ownsRow_setO {w : World} {base : Nat} {e : TypeId} {size n : Nat} {v : Value} {xs : List Value} (h : w.ownsRow base e size v n xs) {p : Addr} (hp : v.ownBlock ≠ some p.block) (u : Value) : (w.setCell p u).ownsRow base e size v n xs := by
  refine ⟨h.1, ?_⟩
  rcases h.2 with g | ⟨g, cap, cur, rfl, e2, e3, e4⟩
  · exact Or.inl g
  · refine Or.inr ⟨g, cap, cur, rfl, e2, ?_, e4⟩
    show (w.heap.modify p.block _)[g]? = _
    rw [Array.getElem?_modify, if_neg (fun q => hp (by show some g = _; rw [q]))]
    exact e3
theorem IOwn.setO {T : TypeId} {w : World} {base : Nat} {v : Value} {l : List It} (h : IOwn T w base v l) {p : Addr} (hp : v.ownBlock ≠ some p.block) (u : Value) : IOwn T (w.setCell p u) base v l := ownsRow_setO h hp u
abbrev set6 (w : World) (b : Nat) (u0 u1 u2 u3 u4 u5 : Value) : World := (((((w.setCell ⟨b, 0, none⟩ u0).setCell ⟨b, 1, none⟩ u1).setCell ⟨b, 2, none⟩ u2).setCell ⟨b, 3, none⟩ u3).setCell ⟨b, 4, none⟩ u4).setCell ⟨b, 5, none⟩ u5
abbrev zeroH : List Value := [.slice none 0 0, .int .i64 0, .int .i64 0, .slice none 0 0, .slice none 0 0, .slice none 0 0]
theorem AB.put6 {T : TypeId} {w : World} {b : Nat} (h : AB T w b zeroH) (u0 u1 u2 u3 u4 u5 : Value) : AB T (set6 w b u0 u1 u2 u3 u4 u5) b [u0, u1, u2, u3, u4, u5] := ((((((h.set 0 u0).set 1 u1).set 2 u2).set 3 u3).set 4 u4).set 5 u5)
theorem Below.put6 {B : Nat} {w0 w : World} {b : Nat} (h : Below B w0 w) (hb : B ≤ b) (u0 u1 u2 u3 u4 u5 : Value) : Below B w0 (set6 w b u0 u1 u2 u3 u4 u5) := ((((((h.setCell (p := ⟨b, 0, none⟩) hb u0).setCell (p := ⟨b, 1, none⟩) hb u1).setCell (p := ⟨b, 2, none⟩) hb u2).setCell (p := ⟨b, 3, none⟩) hb u3).setCell (p := ⟨b, 4, none⟩) hb u4).setCell (p := ⟨b, 5, none⟩) hb u5)
theorem IOwn.put6 {T : TypeId} {w : World} {base b : Nat} {v : Value} {l : List It} (h : IOwn T w base v l) (hb : v.ownBlock ≠ some b) (u0 u1 u2 u3 u4 u5 : Value) : IOwn T (set6 w b u0 u1 u2 u3 u4 u5) base v l := ((((((h.setO (p := ⟨b, 0, none⟩) hb u0).setO (p := ⟨b, 1, none⟩) hb u1).setO (p := ⟨b, 2, none⟩) hb u2).setO (p := ⟨b, 3, none⟩) hb u3).setO (p := ⟨b, 4, none⟩) hb u4).setO (p := ⟨b, 5, none⟩) hb u5)
set_option maxRecDepth 100000 in
set_option maxHeartbeats 6400000 in
theorem sheetof_any (l : List It) (A : Option Addr) (L c : Nat) (x : Sl) (tA : Option Addr) (tn tc : Nat) (hL : L = l.length) (hA : A = none → L = 0 ∧ c = 0) (h96 : L ≤ 1000) (w : World) (h : IRow w A l) :
    Calls Tryz.prog 45 #[aggS A L c x, .slice tA tn tc] w fun e w' => ∃ B d, e = .returned (shv ⟨B, L, d, x.s.wt, x.s.st, x.vA, x.vn, x.vc, x.uA, x.un, x.uc, tA, tn, tc⟩) ∧ IOwn 52 w' w.heap.size (.slice B L d) l ∧ Below w.heap.size w w' := by
  obtain ⟨⟨x0, x1, x2, x3, xv, xh⟩, xA, xn, xc, xB, xm, xd⟩ := x
  rw [aggS_lit]
  simp only
  have HCL := Lib.hid (fun (W : World) (k : Below w.heap.size w W) => clone_items l A L c W (h.below k) hL hA h96)
  have tb := two_blocks w #[.int .i64 x0, .int .i64 x1, .int .i64 x2, .int .i64 x3, .slice A L c, .int .i64 x0, .int .i64 x1, .slice xA xn xc, .slice xB xm xd] #[.slice none 0 0, .int .i64 0, .int .i64 0, .slice none 0 0, .slice none 0 0, .slice none 0 0] 97 43
  have e1 : (w.alloc (.cells #[.int .i64 x0, .int .i64 x1, .int .i64 x2, .int .i64 x3, .slice A L c, .int .i64 x0, .int .i64 x1, .slice xA xn xc, .slice xB xm xd] 97)).heap.size = w.heap.size + 1 := by simp
  have k1 := (Below.refl (w.heap.size + 1) (w.alloc (.cells #[.int .i64 x0, .int .i64 x1, .int .i64 x2, .int .i64 x3, .slice A L c, .int .i64 x0, .int .i64 x1, .slice xA xn xc, .slice xB xm xd] 97))).alloc (Nat.le_of_eq e1.symm) (.cells #[.slice none 0 0, .int .i64 0, .int .i64 0, .slice none 0 0, .slice none 0 0, .slice none 0 0] 43)
  have HB := Lib.hid ((box1W w (.cells #[.int .i64 x0, .int .i64 x1, .int .i64 x2, .int .i64 x3, .slice A L c, .int .i64 x0, .int .i64 x1, .slice xA xn xc, .slice xB xm xd] 97)).trans (k1.mono (Nat.le_succ _)))
  have Y0 := Lib.hid (And.intro (AB.below (show AB 97 (w.alloc (.cells #[.int .i64 x0, .int .i64 x1, .int .i64 x2, .int .i64 x3, .slice A L c, .int .i64 x0, .int .i64 x1, .slice xA xn xc, .slice xB xm xd] 97)) w.heap.size [.int .i64 x0, .int .i64 x1, .int .i64 x2, .int .i64 x3, .slice A L c, .int .i64 x0, .int .i64 x1, .slice xA xn xc, .slice xB xm xd] from AB.new w [.int .i64 x0, .int .i64 x1, .int .i64 x2, .int .i64 x3, .slice A L c, .int .i64 x0, .int .i64 x1, .slice xA xn xc, .slice xB xm xd] 97 w.heap.size rfl) k1 (Nat.lt_succ_self _))
    (show AB 43 ((w.alloc (.cells #[.int .i64 x0, .int .i64 x1, .int .i64 x2, .int .i64 x3, .slice A L c, .int .i64 x0, .int .i64 x1, .slice xA xn xc, .slice xB xm xd] 97)).alloc (.cells #[.slice none 0 0, .int .i64 0, .int .i64 0, .slice none 0 0, .slice none 0 0, .slice none 0 0] 43)) (w.heap.size + 1) zeroH from AB.new (w.alloc (.cells #[.int .i64 x0, .int .i64 x1, .int .i64 x2, .int .i64 x3, .slice A L c, .int .i64 x0, .int .i64 x1, .slice xA xn xc, .slice xB xm xd] 97)) zeroH 43 (w.heap.size + 1) e1.symm))
  obtain ⟨y, hy⟩ : ∃ y, y = w.heap.size := ⟨_, rfl⟩
  have HY := Lib.hid hy
  clear hL hA h96 h tb e1 k1
  go_enter Tryz.func45, Tryz.ntmps45
  go_upto_region 1 with fail
  rw [← hy] at Y0 ⊢
  generalize (w.alloc (.cells #[.int .i64 x0, .int .i64 x1, .int .i64 x2, .int .i64 x3, .slice A L c, .int .i64 x0, .int .i64 x1, .slice xA xn xc, .slice xB xm xd] 97)).alloc (.cells #[.slice none 0 0, .int .i64 0, .int .i64 0, .slice none 0 0, .slice none 0 0, .slice none 0 0] 43) = w1 at *
  clear hy
  have y4 := Y0.out.1.cell 4 (u := .slice A L c) rfl
  go_wp2_with fail
  refine (HCL.out w1 HB.out).mono ?_
  rintro e w2 ⟨B, d, rfl, IO, B2⟩
  have HLT := Lib.hid (show y + 1 < w1.heap.size from Y0.out.2.lt)
  have Y2 := Lib.hid (And.intro (Y0.out.1.below B2 Y0.out.1.lt) (Y0.out.2.below B2 Y0.out.2.lt))
  have HB2 := Lib.hid (HB.out.trans (B2.mono HB.out.size))
  have HIO := Lib.hid IO
  clear y4 Y0 HB B2 IO HCL
  have y5 := Y2.out.1.cell 5 (u := .int .i64 x0) rfl
  have y6 := Y2.out.1.cell 6 (u := .int .i64 x1) rfl
  have y7 := Y2.out.1.cell 7 (u := .slice xA xn xc) rfl
  have y8 := Y2.out.1.cell 8 (u := .slice xB xm xd) rfl
  have z0 := Y2.out.2.cell 0 (u := .slice none 0 0) rfl
  have f0 := Y2.out.2.frozen 0
  have z1 := Y2.out.2.cell 1 (u := .int .i64 0) rfl
  have f1 := Y2.out.2.frozen 1
  have z2 := Y2.out.2.cell 2 (u := .int .i64 0) rfl
  have f2 := Y2.out.2.frozen 2
  have z3 := Y2.out.2.cell 3 (u := .slice none 0 0) rfl
  have f3 := Y2.out.2.frozen 3
  have z4 := Y2.out.2.cell 4 (u := .slice none 0 0) rfl
  have f4 := Y2.out.2.frozen 4
  have z5 := Y2.out.2.cell 5 (u := .slice none 0 0) rfl
  have f5 := Y2.out.2.frozen 5
  have HP := Lib.hid (Y2.out.2.put6)
  go_wp2_with fail
  refine bodyPost_ret (results_rec (R := ShR) (x := ⟨B, L, d, x0, x1, xA, xn, xc, xB, xm, xd, tA, tn, tc⟩) rfl Tryz.underlying43 rfl infoSheet _ _ (y + 1) rfl ((HP.out _ _ _ _ _ _).rblk rfl)) rfl ?_
  have hy := HY.out
  have hz := HLT.out
  exact ⟨B, d, rfl, IOwn.put6 (HIO.out.base (by omega)) (fun e => by have := (HIO.out.block e).1; omega) _ _ _ _ _ _, Below.put6 HB2.out (by omega) _ _ _ _ _ _⟩
end Go.Proofs.YtimkmieohkefiaaGreat

namespace Go.Proofs.YtimkmieohkefiaaGreat
open Go.RowKit Go.Lib Go.Sort Go.Shelf

variable {α : Type} [Inhabited α]
/-- What the sort's functions are told, once. -/
structure Srt (enc : α → Value) (cf : α → α → Int) (g : Nat) (cb : Array Value) (blk off : Nat) (d0 : Array α) (w0 : World) : Prop where
  row : Row1 enc w0 blk off d0
  cmp : CmpLays1 Tryz.prog g cb enc cf blk off d0.size w0
  ent : ∀ args w, (callFunc g args).run Tryz.prog w = .ok (.enter g args) w
  small : d0.size ≤ 1000000
abbrev SL (enc : α → Value) (w0 : World) (blk off : Nat) (l : List α) (W : World) : Prop := SW enc w0 blk off l.toArray W

set_option maxHeartbeats 16000000 in
set_option maxRecDepth 1000000 in
theorem swapRange_any {enc : α → Value} {cf : α → α → Int} {g : Nat} {cb : Array Value} {blk off : Nat} {d0 : Array α} {w0 : World} (T : Srt enc cf g cb blk off d0 w0) (cap N a b n : Nat) (p x m y q : List α) (w : World)
    (hN : N = d0.size) (hl : (p ++ (x ++ (m ++ (y ++ q)))).length = N) (ha : a = p.length) (hb : b = p.length + x.length + m.length) (hx : x.length = n) (hy : y.length = n) (S : SL enc w0 blk off (p ++ (x ++ (m ++ (y ++ q)))) w) :
    Calls Tryz.prog 190 #[.slice (some ⟨blk, off, none⟩) N cap, .int .i64 (a : Int), .int .i64 (b : Int), .int .i64 (n : Int), .func (.func g) #[] cb] w fun e w' => e = .returned (.tuple #[]) ∧ SL enc w0 blk off (p ++ (y ++ (m ++ (x ++ q)))) w' := by
  have R := T.row
  have hs := T.small
  have hcl0 := R.hO.cells
  simp only [Value.cells] at hcl0
  have hst := R.hO.store Tryz.prog
  have mixed : Tryz.prog.follows .mixedOrders = true := by kernel_rfl
  have S0 : Aside (SL enc w0 blk off (p ++ (x ++ (m ++ (y ++ q)))) w) := S
  have HA := Lib.hid ha
  have HB := Lib.hid hb
  have HN := Lib.hid hN
  have HX := Lib.hid hx
  have HY := Lib.hid hy
  have hN1 : N ≤ 1000000 := by omega
  have hab : a + n ≤ N ∧ b + n ≤ N := by simp at hl; omega
  obtain ⟨hab1, hab2⟩ := hab
  have HL := Lib.hid hl
  clear S ha hb hN hl hx hy hs
  go_enter Tryz.func190, Tryz.ntmps190
  go_wp2
  go_loopg [10] n (fun g1 vi wr => ∃ (i : Nat), vi = .int .i64 (i : Int) ∧ i ≤ n ∧ n - i ≤ g1 ∧ Aside (∃ x1 x2 y1 y2, x = x1 ++ x2 ∧ y = y1 ++ y2 ∧ x1.length = i ∧ y1.length = i ∧ SL enc w0 blk off (p ++ (y1 ++ (x2 ++ (m ++ (x1 ++ (y2 ++ q)))))) wr))
  case atStart => exact ⟨0, rfl, by omega, by omega, ⟨[], x, [], y, rfl, rfl, rfl, rfl, S0⟩⟩
  case round =>
    clear S0
    obtain ⟨i, rfl, hin, hg1, SJ⟩ := hrel
    by_cases hlt : i < n
    · have hltz : (i : Int) < (n : Int) := by omega
      obtain ⟨x1, x2, y1, y2, hx, hy, lx, ly, S1⟩ := SJ
      have ex2 : ∃ u x3, x2 = u :: x3 := by
        cases x2 with
        | nil => exfalso; have := HX.out; rw [hx] at this; simp at this; omega
        | cons u x3 => exact ⟨u, x3, rfl⟩
      have ey2 : ∃ v y3, y2 = v :: y3 := by
        cases y2 with
        | nil => exfalso; have := HY.out; rw [hy] at this; simp at this; omega
        | cons u x3 => exact ⟨u, x3, rfl⟩
      obtain ⟨u, x3, rfl⟩ := ex2
      obtain ⟨v, y3, rfl⟩ := ey2
      obtain ⟨dj, hdj⟩ : ∃ d, d = (p ++ (y1 ++ (u :: x3 ++ (m ++ (x1 ++ (v :: y3 ++ q)))))).toArray := ⟨_, rfl⟩
      have hsz : dj.size = N := by
        rw [hdj]; have := HL.out; have h1 := HX.out; have h2 := HY.out; rw [hx, hy] at this; simp at this ⊢; omega
      have hxl := HX.out
      rw [hx] at hxl
      simp at hxl
      have hbl := HB.out
      rw [hx] at hbl
      simp at hbl
      have hal := HA.out
      have eswp : swp dj (a + i) (b + i) = (p ++ ((y1 ++ [v]) ++ (x3 ++ (m ++ ((x1 ++ [u]) ++ (y3 ++ q)))))).toArray := by
        rw [hdj]
        have := swp_cut (p ++ y1) (x3 ++ (m ++ x1)) (y3 ++ q) u v (a + i) (b + i) (by simp; omega) (by simp; omega)
        simpa using this
      have S2 : Aside (SW enc w0 blk off dj wr) := by rw [hdj]; exact S1
      have HREST := Lib.hid (show x = (x1 ++ [u]) ++ x3 ∧ y = (y1 ++ [v]) ++ y3 ∧ (x1 ++ [u]).length = i + 1 ∧ (y1 ++ [v]).length = i + 1 from ⟨by simp [hx], by simp [hy], by simp [lx], by simp [ly]⟩)
      have HE := Lib.hid eswp
      have hds : dj.size = d0.size := hsz.trans HN.out
      have HDS := Lib.hid hds
      have HSZ := Lib.hid hsz
      clear hx hy lx ly S1 hxl hbl hal hdj eswp hds hsz
      obtain ⟨iN, hiN⟩ : ∃ z, z = a + i := ⟨_, rfl⟩
      obtain ⟨jN, hjN⟩ : ∃ z, z = b + i := ⟨_, rfl⟩
      have ea : ((a : Int) + (i : Int)).toNat = iN := by omega
      have pa : (0 : Int) ≤ (a : Int) + (i : Int) := by omega
      have ba : (a : Int) + (i : Int) < (N : Int) := by omega
      have ra : IntKind.i64.wrap ((a : Int) + (i : Int)) = (a : Int) + (i : Int) := by rw [IntKind.wrap_i64]; omega
      have ec : ((b : Int) + (i : Int)).toNat = jN := by omega
      have pc : (0 : Int) ≤ (b : Int) + (i : Int) := by omega
      have bc : (b : Int) + (i : Int) < (N : Int) := by omega
      have rc : IntKind.i64.wrap ((b : Int) + (i : Int)) = (b : Int) + (i : Int) := by rw [IntKind.wrap_i64]; omega
      obtain ⟨xx, hxx⟩ : ∃ z, z = dj[a + i]! := ⟨_, rfl⟩
      obtain ⟨yy, hyy⟩ : ∃ z, z = dj[b + i]! := ⟨_, rfl⟩
      have S3 : Aside (SW enc w0 blk off (swp dj (a + i) (b + i)) ((wr.setCell ⟨blk, off + iN, none⟩ (enc yy)).setCell ⟨blk, off + jN, none⟩ (enc xx)).drew) := by
        rw [hiN, hjN, hxx, hyy]; exact S2.out.swapped R (a + i) (b + i) (by rw [HSZ.out]; omega) (by rw [HSZ.out]; omega)
      have ca := S2.out.c1 R HDS.out (a + i) (by rw [HSZ.out]; omega)
      have cb1 := S2.out.c1 R HDS.out (b + i) (by rw [HSZ.out]; omega)
      have fa := S2.out.f1 R HDS.out (a + i) (by rw [HSZ.out]; omega)
      have fb := S2.out.f1 R HDS.out (b + i) (by rw [HSZ.out]; omega)
      obtain ⟨uu, cc⟩ := S2.out.c2 R HDS.out (a + i) (b + i) (by rw [HSZ.out]; omega) (by rw [HSZ.out]; omega) (enc yy)
      rw [← hjN, ← hiN] at cc
      rw [← hxx, ← hiN] at ca
      rw [← hyy, ← hjN] at cb1
      rw [← hiN] at fa
      rw [← hjN] at fb
      clear S2 hxx hyy hiN hjN
      go_wp2_with fail
      go_big_region_o
      clear ca cb1 cc fa fb
      generalize ((wr.setCell ⟨blk, off + iN, none⟩ (enc yy)).setCell ⟨blk, off + jN, none⟩ (enc xx)).drew = w3 at S3 ⊢
      rw [HE.out] at S3
      clear ea ec
      go_wp2
      go_roundg (n - (i + 1))
      case measure => omega
      case rel => exact ⟨i + 1, by go_num, by omega, by omega, ⟨x1 ++ [u], x3, y1 ++ [v], y3, HREST.out.1, HREST.out.2.1, HREST.out.2.2.1, HREST.out.2.2.2, S3⟩⟩
    · have hltz : ¬ (i : Int) < (n : Int) := by omega
      have HS := Lib.hid (show SL enc w0 blk off (p ++ (y ++ (m ++ (x ++ q)))) wr from by
        obtain ⟨x1, x2, y1, y2, hx, hy, lx, ly, S1⟩ := SJ
        have h1 := HX.out
        have h2 := HY.out
        rw [hx] at h1
        rw [hy] at h2
        simp at h1 h2
        obtain rfl : x2 = [] := List.eq_nil_of_length_eq_zero (by omega)
        obtain rfl : y2 = [] := List.eq_nil_of_length_eq_zero (by omega)
        rw [hx, hy]
        simpa using S1)
      clear SJ
      go_wp2
      go_end0
      exact ⟨rfl, HS.out⟩
end Go.Proofs.YtimkmieohkefiaaGreat

namespace Go.Proofs.YtimkmieohkefiaaGreat
open Go.RowKit Go.Lib Go.Sort Go.Shelf

variable {α : Type} [Inhabited α]
/-- What is left to turn: xs and ys stand at m, and turned about they make the whole. -/
def RotS (enc : α → Value) (w0 : World) (blk off : Nat) (goal : List α) (m i j : Nat) (W : World) : Prop :=
  ∃ pre xs ys post, pre ++ (ys ++ (xs ++ post)) = goal ∧ xs.length = i ∧ ys.length = j ∧ pre.length + i = m ∧ SL enc w0 blk off (pre ++ (xs ++ (ys ++ post))) W
set_option maxHeartbeats 16000000 in
set_option maxRecDepth 1000000 in
theorem rotate_any {enc : α → Value} {cf : α → α → Int} {g : Nat} {cb : Array Value} {blk off : Nat} {d0 : Array α} {w0 : World} (T : Srt enc cf g cb blk off d0 w0) (cap N a m b : Nat) (p x y q : List α) (w : World)
    (hN : N = d0.size) (hl : (p ++ (x ++ (y ++ q))).length = N) (ha : a = p.length) (hm : m = a + x.length) (hb : b = m + y.length) (hx : 0 < x.length) (hy : 0 < y.length) (S : SL enc w0 blk off (p ++ (x ++ (y ++ q))) w) :
    Calls Tryz.prog 184 #[.slice (some ⟨blk, off, none⟩) N cap, .int .i64 (a : Int), .int .i64 (m : Int), .int .i64 (b : Int), .func (.func g) #[] cb] w fun e w' => e = .returned (.tuple #[]) ∧ SL enc w0 blk off (p ++ (y ++ (x ++ q))) w' := by
  have hs := T.small
  have mixed : Tryz.prog.follows .mixedOrders = true := by kernel_rfl
  have HT := Lib.hid T
  have S0 : Aside (RotS enc w0 blk off (p ++ (y ++ (x ++ q))) m x.length y.length w) := ⟨p, x, y, q, rfl, rfl, rfl, by omega, S⟩
  obtain ⟨i0, hi0⟩ : ∃ i, i = x.length := ⟨_, rfl⟩
  obtain ⟨j0, hj0⟩ : ∃ i, i = y.length := ⟨_, rfl⟩
  obtain ⟨G, hG⟩ : ∃ G, G = p ++ (y ++ (x ++ q)) := ⟨_, rfl⟩
  have hGl : G.length = N := by rw [hG]; simp at hl ⊢; omega
  rw [← hi0] at S0 hm hx
  rw [← hj0] at S0 hb hy
  rw [← hG] at S0 ⊢
  have HGL := Lib.hid hGl
  have HN := Lib.hid hN
  have hN1 : N ≤ 1000000 := by omega
  have hbN : b ≤ N := by simp at hl; omega
  clear S T hs hN hl ha hi0 hj0 hG hGl
  have e1 : (m : Int) - (a : Int) = (i0 : Int) := by omega
  have e2 : (b : Int) - (m : Int) = (j0 : Int) := by omega
  have hj1 : m + j0 ≤ N := by omega
  have HE1 := Lib.hid e1
  have HE2 := Lib.hid e2
  have HX0 := Lib.hid hx
  have HY0 := Lib.hid hy
  have ham : a ≤ m := by omega
  have hmb : m ≤ b := by omega
  clear e1 e2 hb hm hx hy
  go_enter Tryz.func184, Tryz.ntmps184
  go_wp2_with fail
  rw [HE1.out, HE2.out]
  clear HE1 HE2 ham hmb hbN
  go_loopg [10, 11] (i0 + j0) (fun g1 vi vj wr => ∃ (i j : Nat), vi = .int .i64 (i : Int) ∧ vj = .int .i64 (j : Int) ∧ 0 < i ∧ 0 < j ∧ m + j ≤ N ∧ i + j ≤ g1 ∧ Aside (RotS enc w0 blk off G m i j wr))
  case atStart => exact ⟨i0, j0, rfl, rfl, HX0.out, HY0.out, hj1, Nat.le_refl _, S0⟩
  case round =>
    clear S0 hj1 HX0 HY0
    obtain ⟨i, j, rfl, rfl, hi, hj, hmj, hg1, SJ⟩ := hrel
    have him : i ≤ m := by obtain ⟨pre, xs, ys, post, h1, h2, h3, h4, h5⟩ := SJ; omega
    have HI := Lib.hid him
    have emi : (m : Int) - (i : Int) = ((m - i : Nat) : Int) := by omega
    by_cases e : i = j
    · subst e
      have hb : ((i : Int) != (i : Int)) = false := by simp
      have HC := Lib.hid (show Calls Tryz.prog 190 #[.slice (some ⟨blk, off, none⟩) N cap, .int .i64 ((m - i : Nat) : Int), .int .i64 (m : Int), .int .i64 (i : Int), .func (.func g) #[] cb] wr fun e w' => e = .returned (.tuple #[]) ∧ SL enc w0 blk off G w' from by
        obtain ⟨pre, xs, ys, post, h1, h2, h3, h4, h5⟩ := SJ
        have hlen : (pre ++ (xs ++ ([] ++ (ys ++ post)))).length = N := by rw [← HGL.out, ← h1]; simp; omega
        have := swapRange_any HT.out cap N (m - i) m i pre xs [] ys post wr HN.out hlen (by omega) (by simp; omega) h2 h3 (by simpa using h5)
        rw [← h1]
        simpa using this)
      clear SJ
      go_wp2_with fail
      try rw [emi]
      refine HC.out.mono ?_
      rintro e w2 ⟨rfl, h⟩
      have HS := Lib.hid h
      clear h
      go_wp2_with fail
      go_end0
      exact ⟨rfl, HS.out⟩
    · have hb : ((i : Int) != (j : Int)) = true := by simp; omega
      by_cases hlt : j < i
      · have hltz : (j : Int) < (i : Int) := by omega
        have HC := Lib.hid (show Calls Tryz.prog 190 #[.slice (some ⟨blk, off, none⟩) N cap, .int .i64 ((m - i : Nat) : Int), .int .i64 (m : Int), .int .i64 (j : Int), .func (.func g) #[] cb] wr fun e w' => e = .returned (.tuple #[]) ∧ RotS enc w0 blk off G m (i - j) j w' from by
          obtain ⟨pre, xs, ys, post, h1, h2, h3, h4, h5⟩ := SJ
          have hcut : xs = xs.take j ++ xs.drop j := (List.take_append_drop j xs).symm
          have ht : (xs.take j).length = j := by rw [List.length_take]; omega
          have hd : (xs.drop j).length = i - j := by rw [List.length_drop]; omega
          generalize xs.take j = x1 at *
          generalize xs.drop j = x2 at *
          subst hcut
          have hlen : (pre ++ (x1 ++ (x2 ++ (ys ++ post)))).length = N := by rw [← HGL.out, ← h1]; simp; omega
          refine (swapRange_any HT.out cap N (m - i) m j pre x1 x2 ys post wr HN.out hlen (by omega) (by omega) ht h3 (by simpa using h5)).mono ?_
          rintro e w2 ⟨rfl, h⟩
          exact ⟨rfl, pre ++ ys, x2, x1, post, by rw [← h1]; simp, hd, ht, by simp; omega, by simpa using h⟩)
        have eij : (i : Int) - (j : Int) = ((i - j : Nat) : Int) := by omega
        clear SJ
        go_wp2_with fail
        try rw [emi]
        refine HC.out.mono ?_
        rintro e w2 ⟨rfl, h⟩
        have HS : Aside (RotS enc w0 blk off G m (i - j) j w2) := h
        clear h HC
        go_wp2_with fail
        try rw [eij]
        go_roundg (i - j + j)
        case measure => omega
        case rel => exact ⟨i - j, j, rfl, rfl, by omega, hj, hmj, Nat.le_refl _, HS⟩
      · have hltz : ¬ (j : Int) < (i : Int) := by omega
        have emj : (m : Int) + (j : Int) - (i : Int) = ((m + j - i : Nat) : Int) := by omega
        have HC := Lib.hid (show Calls Tryz.prog 190 #[.slice (some ⟨blk, off, none⟩) N cap, .int .i64 ((m - i : Nat) : Int), .int .i64 ((m + j - i : Nat) : Int), .int .i64 (i : Int), .func (.func g) #[] cb] wr fun e w' => e = .returned (.tuple #[]) ∧ RotS enc w0 blk off G m i (j - i) w' from by
          obtain ⟨pre, xs, ys, post, h1, h2, h3, h4, h5⟩ := SJ
          have hcut : ys = ys.take (j - i) ++ ys.drop (j - i) := (List.take_append_drop (j - i) ys).symm
          have ht : (ys.take (j - i)).length = j - i := by rw [List.length_take]; omega
          have hd : (ys.drop (j - i)).length = i := by rw [List.length_drop]; omega
          generalize ys.take (j - i) = y1 at *
          generalize ys.drop (j - i) = y2 at *
          subst hcut
          have hlen : (pre ++ (xs ++ (y1 ++ (y2 ++ post)))).length = N := by rw [← HGL.out, ← h1]; simp; omega
          refine (swapRange_any HT.out cap N (m - i) (m + j - i) i pre xs y1 y2 post wr HN.out hlen (by omega) (by omega) h2 hd (by simpa using h5)).mono ?_
          rintro e w2 ⟨rfl, h⟩
          exact ⟨rfl, pre, y2, y1, xs ++ post, by rw [← h1]; simp, hd, ht, h4, by simpa using h⟩)
        have eji : (j : Int) - (i : Int) = ((j - i : Nat) : Int) := by omega
        clear SJ
        go_wp2_with fail
        try rw [emi]
        try rw [emj]
        refine HC.out.mono ?_
        rintro e w2 ⟨rfl, h⟩
        have HS : Aside (RotS enc w0 blk off G m i (j - i) w2) := h
        clear h HC
        go_wp2_with fail
        try rw [eji]
        go_roundg (i + (j - i))
        case measure => omega
        case rel => exact ⟨i, j - i, rfl, rfl, hi, by omega, by omega, Nat.le_refl _, HS⟩
end Go.Proofs.YtimkmieohkefiaaGreat

namespace Go.Proofs.YtimkmieohkefiaaGreat
open Go.RowKit Go.Lib Go.Sort Go.Shelf

variable {α : Type} [Inhabited α]
/-- What merging leaves. -/
def MergePost (enc : α → Value) (R : α → α → Prop) (w0 : World) (blk off : Nat) (p xy q : List α) (e : Ending) (w' : World) : Prop :=
  e = .returned (.tuple #[]) ∧ ∃ z, z.Perm xy ∧ z.Pairwise R ∧ SL enc w0 blk off (p ++ (z ++ q)) w'
/-- The call of merging, for pieces of at most K. -/
def MergeSays (enc : α → Value) (cf : α → α → Int) (R : α → α → Prop) (g : Nat) (cb : Array Value) (blk off : Nat) (w0 : World) (cap N K : Nat) : Prop :=
  ∀ (a m b : Nat) (p x y q : List α) (w : World), x.length + y.length ≤ K → (p ++ (x ++ (y ++ q))).length = N → a = p.length → m = a + x.length → b = m + y.length → 0 < x.length → 0 < y.length →
    x.Pairwise R → y.Pairwise R → (∀ u ∈ x, ∀ v ∈ y, Cr (ltOf cf) R u v) → SL enc w0 blk off (p ++ (x ++ (y ++ q))) w →
    Calls Tryz.prog 172 #[.slice (some ⟨blk, off, none⟩) N cap, .int .i64 (a : Int), .int .i64 (m : Int), .int .i64 (b : Int), .func (.func g) #[] cb] w (MergePost enc R w0 blk off p (x ++ y) q)
/-- How the bounds stand to the pivot: what lies just ahead of i comes before it, what lies at j comes behind. -/
def Bnds (R : α → α → Prop) (dj : Array α) (e : α) (lo i j hi : Nat) : Prop := (lo < i → R dj[i - 1]! e) ∧ (j < hi → R e dj[j]!)
set_option maxHeartbeats 16000000 in
set_option maxRecDepth 1000000 in
/-- One element on the left. -/
theorem merge_left {enc : α → Value} {cf : α → α → Int} {R : α → α → Prop} (hT : ∀ x y z, R x y → R y z → R x z) {g : Nat} {cb : Array Value} {blk off : Nat} {d0 : Array α} {w0 : World} (T : Srt enc cf g cb blk off d0 w0) (cap N a m b : Nat) (p y q : List α) (e : α) (w : World)
    (hN : N = d0.size) (hl : (p ++ ([e] ++ (y ++ q))).length = N) (ha : a = p.length) (hm : m = a + 1) (hb : b = m + y.length)
    (sy : y.Pairwise R) (hc : ∀ v ∈ y, Cr (ltOf cf) R e v) (S : SL enc w0 blk off (p ++ ([e] ++ (y ++ q))) w) :
    Calls Tryz.prog 172 #[.slice (some ⟨blk, off, none⟩) N cap, .int .i64 (a : Int), .int .i64 (m : Int), .int .i64 (b : Int), .func (.func g) #[] cb] w (MergePost enc R w0 blk off p ([e] ++ y) q) := by
  have RW := T.row
  have HC : Aside _ := T.cmp
  have hs := T.small
  have eg := T.ent
  have hcl0 := RW.hO.cells
  simp only [Value.cells] at hcl0
  have hst := RW.hO.store Tryz.prog
  have mixed : Tryz.prog.follows .mixedOrders = true := by kernel_rfl
  obtain ⟨dj, hdj⟩ : ∃ d, d = (p ++ ([e] ++ (y ++ q))).toArray := ⟨_, rfl⟩
  have S0 : Aside (SW enc w0 blk off dj w) := by rw [hdj]; exact S
  have HSZ := Lib.hid (show dj.size = N by rw [hdj]; simpa using hl)
  have HDS := Lib.hid (show dj.size = d0.size from HSZ.out.trans hN)
  have HE := Lib.hid (show dj[a]! = e by rw [hdj]; exact get_cut p (y ++ q) e a ha)
  have HMEM := Lib.hid (show ∀ h, m ≤ h → h < b → Cr (ltOf cf) R e dj[h]! from fun h h1 h2 => hc _ (by
    rw [hdj]
    have := mem_at (p ++ [e]) q y h (by simp; omega) (by simp; omega)
    simpa using this))
  have hN1 : N ≤ 1000000 := by omega
  have hbN : b ≤ N := by simp at hl; omega
  have HDJ := Lib.hid hdj
  have HA := Lib.hid ha
  have HM := Lib.hid hm
  have HB := Lib.hid hb
  have HN := Lib.hid hN
  have HL := Lib.hid hl
  have HSY := Lib.hid sy
  have ham : (m : Int) - (a : Int) = 1 := by omega
  have hamw : a < m := by omega
  have hmb : m ≤ b := by omega
  clear S T hs hN hl ha hm hb hdj hc sy
  go_enter Tryz.func172, Tryz.ntmps172
  go_wp2_with fail
  clear ham
  go_loopg [10, 11] (b - m) (fun g1 vi vj wr => ∃ (i j : Nat), vi = .int .i64 (i : Int) ∧ vj = .int .i64 (j : Int) ∧ m ≤ i ∧ i ≤ j ∧ j ≤ b ∧ j - i ≤ g1 ∧ Aside (SW enc w0 blk off dj wr) ∧ Hid (Bnds R dj e m i j b))
  case atStart => exact ⟨m, b, rfl, rfl, Nat.le_refl _, hmb, Nat.le_refl _, Nat.le_refl _, S0, Lib.hid ⟨fun h => absurd h (Nat.lt_irrefl _), fun h => absurd h (Nat.lt_irrefl _)⟩⟩
  case round =>
    clear S0
    obtain ⟨i, j, rfl, rfl, hmi, hij, hjb, hg1, SJ, HBD⟩ := hrel
    by_cases hlt : i < j
    · have hltz : (i : Int) < (j : Int) := by omega
      obtain ⟨h, hh⟩ : ∃ h, h = (i + j) / 2 := ⟨_, rfl⟩
      have hh1 : i ≤ h := by omega
      have hh2 : h < j := by omega
      have eh : ((i : Int) + (j : Int)) / 2 = (h : Int) := by omega
      have HEH := Lib.hid eh
      clear eh hh
      go_upto_region 5 with fail
      rw [HEH.out]
      clear HEH
      cases hlv : ltOf cf dj[h]! dj[a]! with
      | true =>
        have HB2 := Lib.hid (show Bnds R dj e m (h + 1) j b from ⟨fun _ => (HMEM.out h (by omega) (by omega)).1 (by rw [← HE.out]; exact hlv), HBD.out.2⟩)
        obtain ⟨iN, hiN⟩ : ∃ q, q = h := ⟨_, rfl⟩
        obtain ⟨jN, hjN⟩ : ∃ q, q = a := ⟨_, rfl⟩
        have eA : ((h : Int)).toNat = iN := by omega
        have pA : (0 : Int) ≤ (h : Int) := by omega
        have bA : (h : Int) < (N : Int) := by omega
        have rA : IntKind.i64.wrap ((h : Int)) = (h : Int) := by rw [IntKind.wrap_i64]; omega
        have eC : ((a : Int)).toNat = jN := by omega
        have pC : (0 : Int) ≤ (a : Int) := by omega
        have bC : (a : Int) < (N : Int) := by omega
        have rC : IntKind.i64.wrap ((a : Int)) = (a : Int) := by rw [IntKind.wrap_i64]; omega
        obtain ⟨xx, hxx⟩ : ∃ z, z = dj[h]! := ⟨_, rfl⟩
        obtain ⟨yy, hyy⟩ : ∃ z, z = dj[a]! := ⟨_, rfl⟩
        have la := SJ.out.cl RW HDS.out (h) (by rw [HSZ.out]; omega)
        have lb := SJ.out.cl RW HDS.out (a) (by rw [HSZ.out]; omega)
        rw [← hxx, ← hiN] at la
        rw [← hyy, ← hjN] at lb
        have hcm := SJ.out.cmp HC.out HDS.out xx yy
        have hv : cf xx yy < 0 := by rw [hxx, hyy]; exact of_decide_eq_true hlv
        have hd : decide (cf xx yy < 0) = true := decide_eq_true hv
        clear hxx hyy hiN hjN hlv
        go_quiet_grown (first | (go_at_fn g; refine Calls.grown_of (hcm _ _)))
        have S2 : Aside (SW enc w0 blk off dj (grow (wr.drewN nq) osq)) := SJ.out.grown nq osq
        clear la lb hcm SJ
        generalize grow (wr.drewN nq) osq = w2 at S2 ⊢
        clear nq osq
        clear eA eC
        go_wp2_with fail
        go_roundg (j - (h + 1))
        case measure => omega
        case rel => exact ⟨h + 1, j, by go_num, rfl, by omega, by omega, hjb, Nat.le_refl _, S2, HB2⟩
      | false =>
        have HB2 := Lib.hid (show Bnds R dj e m i h b from ⟨HBD.out.1, fun _ => (HMEM.out h (by omega) (by omega)).2 (by rw [← HE.out]; exact hlv)⟩)
        obtain ⟨iN, hiN⟩ : ∃ q, q = h := ⟨_, rfl⟩
        obtain ⟨jN, hjN⟩ : ∃ q, q = a := ⟨_, rfl⟩
        have eA : ((h : Int)).toNat = iN := by omega
        have pA : (0 : Int) ≤ (h : Int) := by omega
        have bA : (h : Int) < (N : Int) := by omega
        have rA : IntKind.i64.wrap ((h : Int)) = (h : Int) := by rw [IntKind.wrap_i64]; omega
        have eC : ((a : Int)).toNat = jN := by omega
        have pC : (0 : Int) ≤ (a : Int) := by omega
        have bC : (a : Int) < (N : Int) := by omega
        have rC : IntKind.i64.wrap ((a : Int)) = (a : Int) := by rw [IntKind.wrap_i64]; omega
        obtain ⟨xx, hxx⟩ : ∃ z, z = dj[h]! := ⟨_, rfl⟩
        obtain ⟨yy, hyy⟩ : ∃ z, z = dj[a]! := ⟨_, rfl⟩
        have la := SJ.out.cl RW HDS.out (h) (by rw [HSZ.out]; omega)
        have lb := SJ.out.cl RW HDS.out (a) (by rw [HSZ.out]; omega)
        rw [← hxx, ← hiN] at la
        rw [← hyy, ← hjN] at lb
        have hcm := SJ.out.cmp HC.out HDS.out xx yy
        have hv : ¬ cf xx yy < 0 := by rw [hxx, hyy]; exact of_decide_eq_false hlv
        have hd : decide (cf xx yy < 0) = false := decide_eq_false hv
        clear hxx hyy hiN hjN hlv
        go_quiet_grown (first | (go_at_fn g; refine Calls.grown_of (hcm _ _)))
        have S2 : Aside (SW enc w0 blk off dj (grow (wr.drewN nq) osq)) := SJ.out.grown nq osq
        clear la lb hcm SJ
        generalize grow (wr.drewN nq) osq = w2 at S2 ⊢
        clear nq osq
        clear eA eC
        go_wp2_with fail
        go_roundg (h - i)
        case measure => omega
        case rel => exact ⟨i, h, rfl, rfl, hmi, hh1, by omega, Nat.le_refl _, S2, HB2⟩
    · have hltz : ¬ (i : Int) < (j : Int) := by omega
      have hij' : i = j := by omega
      have HS := Lib.hid (show ∃ y1 y2, y = y1 ++ y2 ∧ a + 1 + y1.length = i ∧ (y1 ++ e :: y2).Pairwise R from by
        subst hij'
        have hcut : y = y.take (i - m) ++ y.drop (i - m) := (List.take_append_drop _ y).symm
        have h1 := HM.out
        have h2 := HB.out
        have ht : (y.take (i - m)).length = i - m := by rw [List.length_take]; omega
        refine ⟨_, _, hcut, by rw [ht]; omega, ins_one hT (by rw [← hcut]; exact HSY.out) (fun u hu => ?_) (fun v hv => ?_)⟩
        · have h3 : dj[i - 1]! = u := by
            rw [HDJ.out]
            have := last_at (p ++ [e]) (y.drop (i - m) ++ q) hu (i - 1) (by have := HA.out; simp; omega)
            rw [← this]
            congr 1
            try simp only [List.append_assoc]
            rw [← List.append_assoc (List.take _ _) (List.drop _ _), List.take_append_drop]
          have h4 : m < i := by
            rcases Nat.lt_or_ge m i with h | h
            · exact h
            · exfalso
              have : y.take (i - m) = [] := List.eq_nil_of_length_eq_zero (by omega)
              rw [this] at hu; simp at hu
          rw [← h3]; exact HBD.out.1 h4
        · have h3 : dj[i]! = v := by
            rw [HDJ.out]
            have := head_at (p ++ ([e] ++ y.take (i - m))) q hv i (by have := HA.out; simp; omega)
            rw [← this]
            congr 1
            try simp only [List.append_assoc]
            rw [← List.append_assoc (List.take _ _) (List.drop _ _), List.take_append_drop]
          have h4 : i < b := by
            rcases Nat.lt_or_ge i b with h | h
            · exact h
            · exfalso
              have : y.drop (i - m) = [] := List.eq_nil_of_length_eq_zero (by rw [List.length_drop]; omega)
              rw [this] at hv; simp at hv
          rw [← h3]; exact HBD.out.2 h4)
      obtain ⟨y1, y2, hy, hi, hp⟩ := HS.out
      have HY := Lib.hid hy
      have HI := Lib.hid hi
      have HP := Lib.hid hp
      have S1 : Aside (SL enc w0 blk off (p ++ ([] ++ ([e] ++ (y1 ++ (y2 ++ q))))) wr) := by
        have h1 := SJ.out
        rw [HDJ.out, hy] at h1
        show SL enc w0 blk off _ wr
        simpa using h1
      have h1i : 1 ≤ i := by omega
      have hib : i ≤ b := by omega
      clear HS hy hi hp HBD SJ hij' hij
      go_wp2_with fail
      go_loopg [13] (i - 1 - a) (fun g2 vk wr => ∃ (k : Nat), vk = .int .i64 (k : Int) ∧ a ≤ k ∧ k ≤ i - 1 ∧ i - 1 - k ≤ g2 ∧ Aside (∃ ya yb, y1 = ya ++ yb ∧ ya.length = k - a ∧ SL enc w0 blk off (p ++ (ya ++ ([e] ++ (yb ++ (y2 ++ q))))) wr))
      case atStart => exact ⟨a, rfl, Nat.le_refl _, by omega, Nat.le_refl _, ⟨[], y1, rfl, by simp, S1⟩⟩
      case round =>
        clear S1
        obtain ⟨k, rfl, hak, hki, hg2, SK⟩ := hrel
        by_cases hk : k < i - 1
        · have hkz : (k : Int) < (i : Int) - 1 := by omega
          obtain ⟨ya, yb, hy1, hya, S1⟩ := SK
          have hyb : ∃ v yc, yb = v :: yc := by
            cases yb with
            | nil => exfalso; have h1 := HI.out; rw [hy1] at h1; simp at h1; omega
            | cons v yc => exact ⟨v, yc, rfl⟩
          obtain ⟨v, yc, rfl⟩ := hyb
          obtain ⟨dk, hdk⟩ : ∃ d, d = (p ++ (ya ++ ([e] ++ (v :: yc ++ (y2 ++ q))))).toArray := ⟨_, rfl⟩
          have HKZ := Lib.hid (show dk.size = N by
            rw [hdk]; have h1 := HL.out; rw [HY.out, hy1] at h1; simp at h1 ⊢; omega)
          have HKS := Lib.hid (show dk.size = d0.size from HKZ.out.trans HN.out)
          have HSW := Lib.hid (show swp dk k (k + 1) = (p ++ ((ya ++ [v]) ++ ([e] ++ (yc ++ (y2 ++ q))))).toArray by
            rw [hdk]
            have h1 := HA.out
            have := swp_cut (p ++ ya) [] (yc ++ (y2 ++ q)) e v k (k + 1) (by simp; omega) (by simp; omega)
            simpa using this)
          have S2 : Aside (SW enc w0 blk off dk wr) := by rw [hdk]; exact S1
          have HNX := Lib.hid (show y1 = (ya ++ [v]) ++ yc ∧ (ya ++ [v]).length = k + 1 - a from ⟨by simp [hy1], by simp; omega⟩)
          clear hdk S1 hy1 hya
          obtain ⟨iN, hiN⟩ : ∃ z, z = k := ⟨_, rfl⟩
          obtain ⟨jN, hjN⟩ : ∃ z, z = k + 1 := ⟨_, rfl⟩
          have eA : ((k : Int)).toNat = iN := by omega
          have pA : (0 : Int) ≤ (k : Int) := by omega
          have bA : (k : Int) < (N : Int) := by omega
          have rA : IntKind.i64.wrap ((k : Int)) = (k : Int) := by rw [IntKind.wrap_i64]; omega
          have eC : ((k : Int) + 1).toNat = jN := by omega
          have pC : (0 : Int) ≤ (k : Int) + 1 := by omega
          have bC : (k : Int) + 1 < (N : Int) := by omega
          have rC : IntKind.i64.wrap ((k : Int) + 1) = (k : Int) + 1 := by rw [IntKind.wrap_i64]; omega
          obtain ⟨xx, hxx⟩ : ∃ z, z = dk[k]! := ⟨_, rfl⟩
          obtain ⟨yy, hyy⟩ : ∃ z, z = dk[k + 1]! := ⟨_, rfl⟩
          have S3 : Aside (SW enc w0 blk off (swp dk (k) (k + 1)) ((wr.setCell ⟨blk, off + iN, none⟩ (enc yy)).setCell ⟨blk, off + jN, none⟩ (enc xx)).drew) := by
            rw [hiN, hjN, hxx, hyy]; exact S2.out.swapped RW (k) (k + 1) (by rw [HKZ.out]; omega) (by rw [HKZ.out]; omega)
          have ca := S2.out.c1 RW HKS.out (k) (by rw [HKZ.out]; omega)
          have cb1 := S2.out.c1 RW HKS.out (k + 1) (by rw [HKZ.out]; omega)
          have fa := S2.out.f1 RW HKS.out (k) (by rw [HKZ.out]; omega)
          have fb := S2.out.f1 RW HKS.out (k + 1) (by rw [HKZ.out]; omega)
          obtain ⟨uu, cc⟩ := S2.out.c2 RW HKS.out (k) (k + 1) (by rw [HKZ.out]; omega) (by rw [HKZ.out]; omega) (enc yy)
          first | rw [← hjN, ← hiN] at cc | rw [← hiN, ← hjN] at cc
          rw [← hxx, ← hiN] at ca
          rw [← hyy, ← hjN] at cb1
          rw [← hiN] at fa
          rw [← hjN] at fb
          clear S2 hxx hyy hiN hjN
          go_wp2_with fail
          go_big_region_o
          clear ca cb1 cc fa fb
          generalize ((wr.setCell ⟨blk, off + iN, none⟩ (enc yy)).setCell ⟨blk, off + jN, none⟩ (enc xx)).drew = w3 at S3 ⊢
          rw [HSW.out] at S3
          clear eA eC
          go_wp2_with fail
          go_roundg (i - 1 - (k + 1))
          case measure => omega
          case rel => exact ⟨k + 1, by go_num, by omega, by omega, Nat.le_refl _, ⟨ya ++ [v], yc, HNX.out.1, HNX.out.2, S3⟩⟩
        · have hkz : ¬ (k : Int) < (i : Int) - 1 := by omega
          have HF := Lib.hid (show SL enc w0 blk off (p ++ ((y1 ++ e :: y2) ++ q)) wr from by
            obtain ⟨ya, yb, hy1, hya, S1⟩ := SK
            have h1 := HI.out
            rw [hy1] at h1
            simp at h1
            obtain rfl : yb = [] := List.eq_nil_of_length_eq_zero (by omega)
            rw [hy1]
            simpa using S1)
          clear SK
          go_wp2_with fail
          refine bodyPost_ret (results_none rfl _ _ _) rfl ?_
          exact ⟨rfl, y1 ++ e :: y2, by rw [HY.out]; exact List.perm_middle, HP.out, HF.out⟩
set_option maxHeartbeats 16000000 in
set_option maxRecDepth 1000000 in
/-- One element on the right. -/
theorem merge_right {enc : α → Value} {cf : α → α → Int} {R : α → α → Prop} (hT : ∀ x y z, R x y → R y z → R x z) {g : Nat} {cb : Array Value} {blk off : Nat} {d0 : Array α} {w0 : World} (T : Srt enc cf g cb blk off d0 w0) (cap N a m b : Nat) (p x q : List α) (e : α) (w : World)
    (hN : N = d0.size) (hl : (p ++ (x ++ ([e] ++ q))).length = N) (ha : a = p.length) (hm : m = a + x.length) (hb : b = m + 1) (hx1 : x.length ≠ 1)
    (sx : x.Pairwise R) (hc : ∀ u ∈ x, Cr (ltOf cf) R u e) (S : SL enc w0 blk off (p ++ (x ++ ([e] ++ q))) w) :
    Calls Tryz.prog 172 #[.slice (some ⟨blk, off, none⟩) N cap, .int .i64 (a : Int), .int .i64 (m : Int), .int .i64 (b : Int), .func (.func g) #[] cb] w (MergePost enc R w0 blk off p (x ++ [e]) q) := by
  have RW := T.row
  have HC : Aside _ := T.cmp
  have hs := T.small
  have eg := T.ent
  have hcl0 := RW.hO.cells
  simp only [Value.cells] at hcl0
  have hst := RW.hO.store Tryz.prog
  have mixed : Tryz.prog.follows .mixedOrders = true := by kernel_rfl
  obtain ⟨dj, hdj⟩ : ∃ d, d = (p ++ (x ++ ([e] ++ q))).toArray := ⟨_, rfl⟩
  have S0 : Aside (SW enc w0 blk off dj w) := by rw [hdj]; exact S
  have HSZ := Lib.hid (show dj.size = N by rw [hdj]; simpa using hl)
  have HDS := Lib.hid (show dj.size = d0.size from HSZ.out.trans hN)
  have HE := Lib.hid (show dj[m]! = e by
    rw [hdj]
    have := get_cut (p ++ x) q e m (by simp; omega)
    simpa using this)
  have HMEM := Lib.hid (show ∀ h, a ≤ h → h < m → Cr (ltOf cf) R dj[h]! e from fun h h1 h2 => hc _ (by
    rw [hdj]
    exact mem_at p ([e] ++ q) x h (by omega) (by omega)))
  have hN1 : N ≤ 1000000 := by omega
  have hbN : b ≤ N := by simp at hl; omega
  have HDJ := Lib.hid hdj
  have HA := Lib.hid ha
  have HM := Lib.hid hm
  have HB := Lib.hid hb
  have HN := Lib.hid hN
  have HL := Lib.hid hl
  have HSX := Lib.hid sx
  have ham : ((m : Int) - (a : Int) == 1) = false := by simp; omega
  have hbm : (b : Int) - (m : Int) = 1 := by omega
  have hamw : a ≤ m := by omega
  have hmb : m < b := by omega
  clear S T hs hN hl ha hm hb hdj hc sx hx1
  go_enter Tryz.func172, Tryz.ntmps172
  go_wp2_with fail
  clear ham hbm
  go_loopg [14, 15] (m - a) (fun g1 vi vj wr => ∃ (i j : Nat), vi = .int .i64 (i : Int) ∧ vj = .int .i64 (j : Int) ∧ a ≤ i ∧ i ≤ j ∧ j ≤ m ∧ j - i ≤ g1 ∧ Aside (SW enc w0 blk off dj wr) ∧ Hid (Bnds R dj e a i j m))
  case atStart => exact ⟨a, m, rfl, rfl, Nat.le_refl _, hamw, Nat.le_refl _, Nat.le_refl _, S0, Lib.hid ⟨fun h => absurd h (Nat.lt_irrefl _), fun h => absurd h (Nat.lt_irrefl _)⟩⟩
  case round =>
    clear S0
    obtain ⟨i, j, rfl, rfl, hmi, hij, hjb, hg1, SJ, HBD⟩ := hrel
    by_cases hlt : i < j
    · have hltz : (i : Int) < (j : Int) := by omega
      obtain ⟨h, hh⟩ : ∃ h, h = (i + j) / 2 := ⟨_, rfl⟩
      have hh1 : i ≤ h := by omega
      have hh2 : h < j := by omega
      have eh : ((i : Int) + (j : Int)) / 2 = (h : Int) := by omega
      have HEH := Lib.hid eh
      clear eh hh
      go_upto_region 17 with fail
      rw [HEH.out]
      clear HEH
      cases hlv : ltOf cf dj[m]! dj[h]! with
      | true =>
        have HB2 := Lib.hid (show Bnds R dj e a i h m from ⟨HBD.out.1, fun _ => (HMEM.out h (by omega) (by omega)).1 (by rw [← HE.out]; exact hlv)⟩)
        obtain ⟨iN, hiN⟩ : ∃ q, q = m := ⟨_, rfl⟩
        obtain ⟨jN, hjN⟩ : ∃ q, q = h := ⟨_, rfl⟩
        have eA : ((m : Int)).toNat = iN := by omega
        have pA : (0 : Int) ≤ (m : Int) := by omega
        have bA : (m : Int) < (N : Int) := by omega
        have rA : IntKind.i64.wrap ((m : Int)) = (m : Int) := by rw [IntKind.wrap_i64]; omega
        have eC : ((h : Int)).toNat = jN := by omega
        have pC : (0 : Int) ≤ (h : Int) := by omega
        have bC : (h : Int) < (N : Int) := by omega
        have rC : IntKind.i64.wrap ((h : Int)) = (h : Int) := by rw [IntKind.wrap_i64]; omega
        obtain ⟨xx, hxx⟩ : ∃ z, z = dj[m]! := ⟨_, rfl⟩
        obtain ⟨yy, hyy⟩ : ∃ z, z = dj[h]! := ⟨_, rfl⟩
        have la := SJ.out.cl RW HDS.out (m) (by rw [HSZ.out]; omega)
        have lb := SJ.out.cl RW HDS.out (h) (by rw [HSZ.out]; omega)
        rw [← hxx, ← hiN] at la
        rw [← hyy, ← hjN] at lb
        have hcm := SJ.out.cmp HC.out HDS.out xx yy
        have hv : cf xx yy < 0 := by rw [hxx, hyy]; exact of_decide_eq_true hlv
        have hd : decide (cf xx yy < 0) = true := decide_eq_true hv
        clear hxx hyy hiN hjN hlv
        go_quiet_grown (first | (go_at_fn g; refine Calls.grown_of (hcm _ _)))
        have S2 : Aside (SW enc w0 blk off dj (grow (wr.drewN nq) osq)) := SJ.out.grown nq osq
        clear la lb hcm SJ
        generalize grow (wr.drewN nq) osq = w2 at S2 ⊢
        clear nq osq
        clear eA eC
        go_wp2_with fail
        go_roundg (h - i)
        case measure => omega
        case rel => exact ⟨i, h, rfl, rfl, hmi, hh1, by omega, Nat.le_refl _, S2, HB2⟩
      | false =>
        have HB2 := Lib.hid (show Bnds R dj e a (h + 1) j m from ⟨fun _ => (HMEM.out h (by omega) (by omega)).2 (by rw [← HE.out]; exact hlv), HBD.out.2⟩)
        obtain ⟨iN, hiN⟩ : ∃ q, q = m := ⟨_, rfl⟩
        obtain ⟨jN, hjN⟩ : ∃ q, q = h := ⟨_, rfl⟩
        have eA : ((m : Int)).toNat = iN := by omega
        have pA : (0 : Int) ≤ (m : Int) := by omega
        have bA : (m : Int) < (N : Int) := by omega
        have rA : IntKind.i64.wrap ((m : Int)) = (m : Int) := by rw [IntKind.wrap_i64]; omega
        have eC : ((h : Int)).toNat = jN := by omega
        have pC : (0 : Int) ≤ (h : Int) := by omega
        have bC : (h : Int) < (N : Int) := by omega
        have rC : IntKind.i64.wrap ((h : Int)) = (h : Int) := by rw [IntKind.wrap_i64]; omega
        obtain ⟨xx, hxx⟩ : ∃ z, z = dj[m]! := ⟨_, rfl⟩
        obtain ⟨yy, hyy⟩ : ∃ z, z = dj[h]! := ⟨_, rfl⟩
        have la := SJ.out.cl RW HDS.out (m) (by rw [HSZ.out]; omega)
        have lb := SJ.out.cl RW HDS.out (h) (by rw [HSZ.out]; omega)
        rw [← hxx, ← hiN] at la
        rw [← hyy, ← hjN] at lb
        have hcm := SJ.out.cmp HC.out HDS.out xx yy
        have hv : ¬ cf xx yy < 0 := by rw [hxx, hyy]; exact of_decide_eq_false hlv
        have hd : decide (cf xx yy < 0) = false := decide_eq_false hv
        clear hxx hyy hiN hjN hlv
        go_quiet_grown (first | (go_at_fn g; refine Calls.grown_of (hcm _ _)))
        have S2 : Aside (SW enc w0 blk off dj (grow (wr.drewN nq) osq)) := SJ.out.grown nq osq
        clear la lb hcm SJ
        generalize grow (wr.drewN nq) osq = w2 at S2 ⊢
        clear nq osq
        clear eA eC
        go_wp2_with fail
        go_roundg (j - (h + 1))
        case measure => omega
        case rel => exact ⟨h + 1, j, by go_num, rfl, by omega, by omega, hjb, Nat.le_refl _, S2, HB2⟩
    · have hltz : ¬ (i : Int) < (j : Int) := by omega
      have hij' : i = j := by omega
      have HS := Lib.hid (show ∃ x1 x2, x = x1 ++ x2 ∧ a + x1.length = i ∧ (x1 ++ e :: x2).Pairwise R from by
        subst hij'
        have hcut : x = x.take (i - a) ++ x.drop (i - a) := (List.take_append_drop _ x).symm
        have h1 := HM.out
        have h2 := HB.out
        have ht : (x.take (i - a)).length = i - a := by rw [List.length_take]; omega
        refine ⟨_, _, hcut, by rw [ht]; omega, ins_one hT (by rw [← hcut]; exact HSX.out) (fun u hu => ?_) (fun v hv => ?_)⟩
        · have h3 : dj[i - 1]! = u := by
            rw [HDJ.out]
            have := last_at p (x.drop (i - a) ++ ([e] ++ q)) hu (i - 1) (by have := HA.out; omega)
            rw [← this]
            congr 1
            try simp only [List.append_assoc]
            rw [← List.append_assoc (List.take _ _) (List.drop _ _), List.take_append_drop]
          have h4 : a < i := by
            rcases Nat.lt_or_ge a i with h | h
            · exact h
            · exfalso
              have : x.take (i - a) = [] := List.eq_nil_of_length_eq_zero (by omega)
              rw [this] at hu; simp at hu
          rw [← h3]; exact HBD.out.1 h4
        · have h3 : dj[i]! = v := by
            rw [HDJ.out]
            have := head_at (p ++ x.take (i - a)) ([e] ++ q) hv i (by have := HA.out; simp; omega)
            rw [← this]
            congr 1
            try simp only [List.append_assoc]
            rw [← List.append_assoc (List.take _ _) (List.drop _ _), List.take_append_drop]
          have h4 : i < m := by
            rcases Nat.lt_or_ge i m with h | h
            · exact h
            · exfalso
              have : x.drop (i - a) = [] := List.eq_nil_of_length_eq_zero (by rw [List.length_drop]; omega)
              rw [this] at hv; simp at hv
          rw [← h3]; exact HBD.out.2 h4)
      obtain ⟨x1, x2, hy, hi, hp⟩ := HS.out
      have HY := Lib.hid hy
      have HI := Lib.hid hi
      have HP := Lib.hid hp
      have S1 : Aside (SL enc w0 blk off (p ++ (x1 ++ (x2 ++ ([e] ++ ([] ++ q))))) wr) := by
        have h1 := SJ.out
        rw [HDJ.out, hy] at h1
        show SL enc w0 blk off _ wr
        simpa using h1
      have hmi2 : i ≤ m := by omega
      have HMX := Lib.hid (show i + x2.length = m by have h1 := HM.out; rw [hy] at h1; simp at h1; omega)
      clear HS hy hi hp HBD SJ hij' hij
      go_wp2_with fail
      go_loopg [17] (m - i) (fun g2 vk wr => ∃ (k : Nat), vk = .int .i64 (k : Int) ∧ i ≤ k ∧ k ≤ m ∧ k - i ≤ g2 ∧ Aside (∃ xa xb, x2 = xa ++ xb ∧ i + xa.length = k ∧ SL enc w0 blk off (p ++ (x1 ++ (xa ++ ([e] ++ (xb ++ q))))) wr))
      case atStart => exact ⟨m, rfl, hmi2, Nat.le_refl _, Nat.le_refl _, ⟨x2, [], by simp, HMX.out, S1⟩⟩
      case round =>
        clear S1
        obtain ⟨k, rfl, hak, hki, hg2, SK⟩ := hrel
        by_cases hk : i < k
        · have hkz : (i : Int) < (k : Int) := by omega
          obtain ⟨xa, xb, hy1, hya, S1⟩ := SK
          have hxa : ∃ xc v, xa = xc ++ [v] := by
            rcases List.eq_nil_or_concat xa with rfl | ⟨xc, v, rfl⟩
            · simp at hya; omega
            · exact ⟨xc, v, List.concat_eq_append⟩
          obtain ⟨xc, v, rfl⟩ := hxa
          obtain ⟨kp, hkp⟩ : ∃ kp, kp + 1 = k := ⟨k - 1, by omega⟩
          subst hkp
          have ekp : (((kp + 1 : Nat) : Int)) = (kp : Int) + 1 := by omega
          obtain ⟨dk, hdk⟩ : ∃ d, d = (p ++ (x1 ++ ((xc ++ [v]) ++ ([e] ++ (xb ++ q))))).toArray := ⟨_, rfl⟩
          have HKZ := Lib.hid (show dk.size = N by
            rw [hdk]; have h1 := HL.out; rw [HY.out, hy1] at h1; simp at h1 ⊢; omega)
          have HKS := Lib.hid (show dk.size = d0.size from HKZ.out.trans HN.out)
          have HSW := Lib.hid (show swp dk (kp + 1) kp = (p ++ (x1 ++ (xc ++ ([e] ++ ((v :: xb) ++ q))))).toArray by
            rw [hdk]
            have h1 := HA.out
            have h2 := HI.out
            simp at hya
            have := swp_cut' (p ++ (x1 ++ xc)) [] (xb ++ q) v e kp (kp + 1) (by simp; omega) (by simp; omega)
            simpa using this)
          have S2 : Aside (SW enc w0 blk off dk wr) := by rw [hdk]; exact S1
          have HNX := Lib.hid (show x2 = xc ++ (v :: xb) ∧ i + xc.length = kp from ⟨by simp [hy1], by simp at hya; omega⟩)
          clear hdk S1 hy1 hya
          obtain ⟨iN, hiN⟩ : ∃ z, z = kp + 1 := ⟨_, rfl⟩
          obtain ⟨jN, hjN⟩ : ∃ z, z = kp := ⟨_, rfl⟩
          have eA : ((kp : Int) + 1).toNat = iN := by omega
          have pA : (0 : Int) ≤ (kp : Int) + 1 := by omega
          have bA : (kp : Int) + 1 < (N : Int) := by omega
          have rA : IntKind.i64.wrap ((kp : Int) + 1) = (kp : Int) + 1 := by rw [IntKind.wrap_i64]; omega
          have eC : ((kp : Int)).toNat = jN := by omega
          have pC : (0 : Int) ≤ (kp : Int) := by omega
          have bC : (kp : Int) < (N : Int) := by omega
          have rC : IntKind.i64.wrap ((kp : Int)) = (kp : Int) := by rw [IntKind.wrap_i64]; omega
          obtain ⟨xx, hxx⟩ : ∃ z, z = dk[kp + 1]! := ⟨_, rfl⟩
          obtain ⟨yy, hyy⟩ : ∃ z, z = dk[kp]! := ⟨_, rfl⟩
          have S3 : Aside (SW enc w0 blk off (swp dk (kp + 1) (kp)) ((wr.setCell ⟨blk, off + iN, none⟩ (enc yy)).setCell ⟨blk, off + jN, none⟩ (enc xx)).drew) := by
            rw [hiN, hjN, hxx, hyy]; exact S2.out.swapped RW (kp + 1) (kp) (by rw [HKZ.out]; omega) (by rw [HKZ.out]; omega)
          have ca := S2.out.c1 RW HKS.out (kp + 1) (by rw [HKZ.out]; omega)
          have cb1 := S2.out.c1 RW HKS.out (kp) (by rw [HKZ.out]; omega)
          have fa := S2.out.f1 RW HKS.out (kp + 1) (by rw [HKZ.out]; omega)
          have fb := S2.out.f1 RW HKS.out (kp) (by rw [HKZ.out]; omega)
          obtain ⟨uu, cc⟩ := S2.out.c2 RW HKS.out (kp + 1) (kp) (by rw [HKZ.out]; omega) (by rw [HKZ.out]; omega) (enc yy)
          first | rw [← hjN, ← hiN] at cc | rw [← hiN, ← hjN] at cc
          rw [← hxx, ← hiN] at ca
          rw [← hyy, ← hjN] at cb1
          rw [← hiN] at fa
          rw [← hjN] at fb
          clear S2 hxx hyy hiN hjN
          go_wp2_with fail
          go_big_region_o
          clear ca cb1 cc fa fb
          generalize ((wr.setCell ⟨blk, off + iN, none⟩ (enc yy)).setCell ⟨blk, off + jN, none⟩ (enc xx)).drew = w3 at S3 ⊢
          rw [HSW.out] at S3
          clear eA eC
          go_wp2_with fail
          go_roundg (kp - i)
          case measure => omega
          case rel => exact ⟨kp, by first | rfl | go_num | (congr 1; omega), by omega, by omega, Nat.le_refl _, ⟨xc, v :: xb, HNX.out.1, HNX.out.2, S3⟩⟩
        · have hkz : ¬ (i : Int) < (k : Int) := by omega
          have HF := Lib.hid (show SL enc w0 blk off (p ++ ((x1 ++ e :: x2) ++ q)) wr from by
            obtain ⟨xa, xb, hy1, hya, S1⟩ := SK
            obtain rfl : xa = [] := List.eq_nil_of_length_eq_zero (by omega)
            rw [hy1]
            simpa using S1)
          clear SK
          go_wp2_with fail
          refine bodyPost_ret (results_none rfl _ _ _) rfl ?_
          exact ⟨rfl, x1 ++ e :: x2, by rw [HY.out]; simpa using (List.perm_middle (l₁ := x1) (l₂ := x2) (a := e)).trans (by rw [← List.append_assoc]; exact (List.perm_append_comm (l₁ := [e]) (l₂ := x1 ++ x2))), HP.out, HF.out⟩
end Go.Proofs.YtimkmieohkefiaaGreat

namespace Go.Proofs.YtimkmieohkefiaaGreat
open Go.RowKit Go.Lib Go.Sort Go.Shelf

variable {α : Type} [Inhabited α]
/-- Where the search begins and ends. -/
def Rg (a m b mid n s0 r0 : Nat) : Prop := (mid < m ∧ s0 + b = n ∧ r0 = mid) ∨ (m ≤ mid ∧ s0 = a ∧ r0 = m)
def Cross (R : α → α → Prop) (dj : Array α) (n s0 s r r0 : Nat) : Prop := (s0 < s → R dj[s - 1]! dj[n - s]!) ∧ (r < r0 → R dj[n - 1 - r]! dj[r]!)
/-- Both pieces, cut. -/
structure Cuts (R : α → α → Prop) (a m s en : Nat) (x y x1 x2 y1 y2 : List α) : Prop where
  ex : x = x1 ++ x2
  ey : y = y1 ++ y2
  lx : a + x1.length = s
  ly : m + y1.length = en
  h1 : ∀ u v, x1.getLast? = some u → y2.head? = some v → R u v
  h2 : ∀ u v, y1.getLast? = some u → x2.head? = some v → R u v
theorem cuts_of {R : α → α → Prop} {a m b mid n s0 s r0 : Nat} {p x y q : List α} (hmid : mid = (a + b) / 2) (hn : n = mid + m) (hg : Rg a m b mid n s0 r0) (h1 : s0 ≤ s) (h2 : s ≤ r0) (hc : Cross R (p ++ (x ++ (y ++ q))).toArray n s0 s s r0)
    (ha : a = p.length) (hm : m = a + x.length) (hb : b = m + y.length) (hx : 0 < x.length) (hy : 0 < y.length) : ∃ x1 x2 y1 y2, Cuts R a m s (n - s) x y x1 x2 y1 y2 := by
  have b1 : a ≤ s ∧ s ≤ m ∧ m ≤ n - s ∧ n - s ≤ b ∧ s ≤ n := by rcases hg with ⟨g1, g2, g3⟩ | ⟨g1, g2, g3⟩ <;> omega
  have cx : x = x.take (s - a) ++ x.drop (s - a) := (List.take_append_drop _ x).symm
  have cy : y = y.take (n - s - m) ++ y.drop (n - s - m) := (List.take_append_drop _ y).symm
  have tx : (x.take (s - a)).length = s - a := by rw [List.length_take]; omega
  have ty : (y.take (n - s - m)).length = n - s - m := by rw [List.length_take]; omega
  have dx : (x.drop (s - a)).length = m - s := by rw [List.length_drop]; omega
  have dy : (y.drop (n - s - m)).length = b - (n - s) := by rw [List.length_drop]; omega
  generalize x.take (s - a) = x1 at *
  generalize x.drop (s - a) = x2 at *
  generalize y.take (n - s - m) = y1 at *
  generalize y.drop (n - s - m) = y2 at *
  subst cx; subst cy
  have nz : ∀ {l : List α} {z : α}, l.getLast? = some z → 0 < l.length := fun {l z} h => by
    cases l with
    | nil => simp at h
    | cons _ _ => simp
  have nz' : ∀ {l : List α} {z : α}, l.head? = some z → 0 < l.length := fun {l z} h => by
    cases l with
    | nil => simp at h
    | cons _ _ => simp
  refine ⟨x1, x2, y1, y2, rfl, rfl, by omega, by omega, fun u v hu hv => ?_, fun u v hu hv => ?_⟩
  · have l1 := nz hu
    have l2 := nz' hv
    have e1 : (p ++ (x1 ++ x2 ++ (y1 ++ y2 ++ q))).toArray[s - 1]! = u := by
      have := last_at p (x2 ++ (y1 ++ y2 ++ q)) hu (s - 1) (by omega)
      simpa using this
    have e2 : (p ++ (x1 ++ x2 ++ (y1 ++ y2 ++ q))).toArray[n - s]! = v := by
      have := head_at (p ++ (x1 ++ x2) ++ y1) q hv (n - s) (by simp at hm ⊢; omega)
      simpa using this
    have := hc.1 (by rcases hg with ⟨g1, g2, g3⟩ | ⟨g1, g2, g3⟩ <;> omega)
    rw [e1, e2] at this
    exact this
  · have l1 := nz hu
    have l2 := nz' hv
    have e1 : (p ++ (x1 ++ x2 ++ (y1 ++ y2 ++ q))).toArray[n - 1 - s]! = u := by
      have := last_at (p ++ (x1 ++ x2)) (y2 ++ q) hu (n - 1 - s) (by simp at hm ⊢; omega)
      simpa using this
    have e2 : (p ++ (x1 ++ x2 ++ (y1 ++ y2 ++ q))).toArray[s]! = v := by
      have := head_at (p ++ x1) (y1 ++ y2 ++ q) hv s (by simp; omega)
      simpa using this
    have := hc.2 (by rcases hg with ⟨g1, g2, g3⟩ | ⟨g1, g2, g3⟩ <;> omega)
    rw [e1, e2] at this
    exact this
/-- A piece that is merged, or needs no merging. -/
def Half (enc : α → Value) (R : α → α → Prop) (w0 : World) (blk off : Nat) (p xy q : List α) (w' : World) : Prop := ∃ z, z.Perm xy ∧ z.Pairwise R ∧ SL enc w0 blk off (p ++ (z ++ q)) w'
set_option maxHeartbeats 16000000 in
set_option maxRecDepth 1000000 in
theorem merge_mid {enc : α → Value} {cf : α → α → Int} {R : α → α → Prop} (hT : ∀ x y z, R x y → R y z → R x z) {g : Nat} {cb : Array Value} {blk off : Nat} {d0 : Array α} {w0 : World} (T : Srt enc cf g cb blk off d0 w0) (cap N K a m b : Nat) (p x y q : List α) (w : World) (IH : MergeSays enc cf R g cb blk off w0 cap N K)
    (hK : x.length + y.length ≤ K + 1) (hN : N = d0.size) (hl : (p ++ (x ++ (y ++ q))).length = N) (ha : a = p.length) (hm : m = a + x.length) (hb : b = m + y.length) (hx : 0 < x.length) (hy : 0 < y.length) (hx1 : x.length ≠ 1) (hy1 : y.length ≠ 1)
    (sx : x.Pairwise R) (sy : y.Pairwise R) (hc : ∀ u ∈ x, ∀ v ∈ y, Cr (ltOf cf) R u v) (S : SL enc w0 blk off (p ++ (x ++ (y ++ q))) w) :
    Calls Tryz.prog 172 #[.slice (some ⟨blk, off, none⟩) N cap, .int .i64 (a : Int), .int .i64 (m : Int), .int .i64 (b : Int), .func (.func g) #[] cb] w (MergePost enc R w0 blk off p (x ++ y) q) := by
  have RW := T.row
  have HC : Aside _ := T.cmp
  have hs := T.small
  have eg := T.ent
  have hcl0 := RW.hO.cells
  simp only [Value.cells] at hcl0
  have hst := RW.hO.store Tryz.prog
  have mixed : Tryz.prog.follows .mixedOrders = true := by kernel_rfl
  have HT := Lib.hid T
  have HI := Lib.hid IH
  obtain ⟨dj, hdj⟩ : ∃ d, d = (p ++ (x ++ (y ++ q))).toArray := ⟨_, rfl⟩
  have S0 : Aside (SW enc w0 blk off dj w) := by rw [hdj]; exact S
  have HSZ := Lib.hid (show dj.size = N by rw [hdj]; simpa using hl)
  have HDS := Lib.hid (show dj.size = d0.size from HSZ.out.trans hN)
  have HMEM := Lib.hid (show ∀ u v, a ≤ u → u < m → m ≤ v → v < b → Cr (ltOf cf) R dj[u]! dj[v]! from fun u v h1 h2 h3 h4 => hc _ (by
    rw [hdj]
    exact mem_at p (y ++ q) x u (by omega) (by omega)) _ (by
    rw [hdj]
    have := mem_at (p ++ x) q y v (by simp; omega) (by simp; omega)
    simpa using this))
  have hN1 : N ≤ 1000000 := by omega
  have hbN : b ≤ N := by simp at hl; omega
  have hamw : a < m := by omega
  have hmb : m < b := by omega
  have ham : ((m : Int) - (a : Int) == 1) = false := by simp; omega
  have hbm : ((b : Int) - (m : Int) == 1) = false := by simp; omega
  obtain ⟨mid, hmid⟩ : ∃ z, z = (a + b) / 2 := ⟨_, rfl⟩
  have emid : ((a : Int) + (b : Int)) / 2 = (mid : Int) := by omega
  obtain ⟨n, hn⟩ : ∃ z, z = mid + m := ⟨_, rfl⟩
  have en : (mid : Int) + (m : Int) = (n : Int) := by omega
  have hamid : a < mid := by omega
  have hmidb : mid < b := by omega
  have hmidn : mid ≤ n := by omega
  have hn2 : n ≤ 2000000 := by omega
  have hn1 : 1 ≤ n := by omega
  have HDJ := Lib.hid hdj
  have HA := Lib.hid ha
  have HM := Lib.hid hm
  have HB := Lib.hid hb
  have HN := Lib.hid hN
  have HL := Lib.hid hl
  have HSX := Lib.hid sx
  have HSY := Lib.hid sy
  have HCC := Lib.hid hc
  have HMI := Lib.hid hmid
  have HNN := Lib.hid hn
  have HEM := Lib.hid emid
  have HEN := Lib.hid en
  have HXP := Lib.hid hx
  have HYP := Lib.hid hy
  have HKK := Lib.hid hK
  clear S T IH hs hN hl ha hm hb hdj hc sx sy hx hy hx1 hy1 hmid hn emid en hK
  go_enter Tryz.func172, Tryz.ntmps172
  go_upto_region 25 with fail
  rw [HEM.out]
  clear ham hbm
  go_upto_region 26 with fail
  rw [HEN.out]
  go_upto_if 140 with fail
  obtain ⟨cb0, hcb⟩ : ∃ cb, cb = decide (mid < m) := ⟨_, rfl⟩
  rw [← hcb]
  have HCB0 := Lib.hid hcb
  clear hcb
  go_cut [20, 21] from 141 to 146 (fun vs vr wx => ∃ s0 r0 : Nat, vs = .int .i64 (s0 : Int) ∧ vr = .int .i64 (r0 : Int) ∧ Hid (Rg a m b mid n s0 r0) ∧ Aside (SW enc w0 blk off dj wx))
  case first =>
    cases cb0 with
    | true =>
      have hmm : mid < m := by have := of_decide_eq_true HCB0.out.symm; omega
      have hnb : b ≤ n := by have := HNN.out; have := HMI.out; omega
      have enb : (n : Int) - (b : Int) = ((n - b : Nat) : Int) := by omega
      have HX := Lib.hid (show Rg a m b mid n (n - b) mid from Or.inl ⟨hmm, by omega, rfl⟩)
      go_wp2_with fail
      go_meet
      case rel => exact ⟨n - b, mid, by first | rfl | rw [enb], rfl, HX, S0⟩
    | false =>
      have hmm : ¬ mid < m := by have := of_decide_eq_false HCB0.out.symm; omega
      have HX := Lib.hid (show Rg a m b mid n a m from Or.inr ⟨by omega, rfl, rfl⟩)
      go_wp2_with fail
      go_meet
      case rel => exact ⟨a, m, rfl, rfl, HX, S0⟩
  case rest =>
    clear S0
    obtain ⟨s0, r0, rfl, rfl, HRG, SJ0⟩ := hcut
    obtain ⟨hs0, hr0, hsr⟩ : a ≤ s0 ∧ r0 ≤ m ∧ s0 ≤ r0 := by
      have h1 := HNN.out
      have h2 := HMI.out
      rcases HRG.out with ⟨g1, g2, g3⟩ | ⟨g1, g2, g3⟩ <;> exact ⟨by omega, by omega, by omega⟩
    have hn1z : (1 : Int) ≤ (n : Int) := by omega
    obtain ⟨pp, hpp⟩ : ∃ z, z = n - 1 := ⟨_, rfl⟩
    have epp : (n : Int) - 1 = (pp : Int) := by omega
    have hppn : pp + 1 = n := by omega
    have HEP := Lib.hid epp
    clear epp hpp
    go_wp2_with fail
    rw [HEP.out]
    clear HEP
    go_loopg [20, 21] (r0 - s0) (fun g1 vi vj wr => ∃ (s r : Nat), vi = .int .i64 (s : Int) ∧ vj = .int .i64 (r : Int) ∧ s0 ≤ s ∧ s ≤ r ∧ r ≤ r0 ∧ r - s ≤ g1 ∧ Aside (SW enc w0 blk off dj wr) ∧ Hid (Cross R dj n s0 s r r0))
    case atStart => exact ⟨s0, r0, rfl, rfl, Nat.le_refl _, hsr, Nat.le_refl _, Nat.le_refl _, SJ0, Lib.hid ⟨fun h => absurd h (Nat.lt_irrefl _), fun h => absurd h (Nat.lt_irrefl _)⟩⟩
    case round =>
      clear SJ0
      obtain ⟨s, r, rfl, rfl, hss, hsr1, hrr, hg1, SJ, HBD⟩ := hrel
      by_cases hlt : s < r
      · have hltz : (s : Int) < (r : Int) := by omega
        obtain ⟨c, hh⟩ : ∃ h, h = (s + r) / 2 := ⟨_, rfl⟩
        have hh1 : s ≤ c := by omega
        have hh2 : c < r := by omega
        have eh : ((s : Int) + (r : Int)) / 2 = (c : Int) := by omega
        have HEH := Lib.hid eh
        obtain ⟨hp1, hp2, hp3, hp4⟩ : c + 1 ≤ n ∧ m ≤ n - 1 - c ∧ n - 1 - c < b ∧ c < m := by
          have h1 := HNN.out
          have h2 := HMI.out
          rcases HRG.out with ⟨g1, g2, g3⟩ | ⟨g1, g2, g3⟩ <;> exact ⟨by omega, by omega, by omega, by omega⟩
        have hcp : c ≤ pp := by omega
        clear eh hh
        go_upto_region 35 with fail
        rw [HEH.out]
        clear HEH
        cases hlv : ltOf cf dj[n - 1 - c]! dj[c]! with
        | true =>
          have HB2 := Lib.hid (show Cross R dj n s0 s c r0 from ⟨HBD.out.1, fun _ => (HMEM.out c (n - 1 - c) (by omega) hp4 hp2 hp3).1 hlv⟩)
          obtain ⟨iN, hiN⟩ : ∃ q, q = n - 1 - c := ⟨_, rfl⟩
          obtain ⟨jN, hjN⟩ : ∃ q, q = c := ⟨_, rfl⟩
          have eN : pp - c = iN := by omega
          have eA : ((pp : Int) - (c : Int)).toNat = iN := by omega
          have pA : (0 : Int) ≤ (pp : Int) - (c : Int) := by omega
          have bA : (pp : Int) - (c : Int) < (N : Int) := by omega
          have rA : IntKind.i64.wrap ((pp : Int) - (c : Int)) = (pp : Int) - (c : Int) := by rw [IntKind.wrap_i64]; omega
          have eC : ((c : Int)).toNat = jN := by omega
          have pC : (0 : Int) ≤ (c : Int) := by omega
          have bC : (c : Int) < (N : Int) := by omega
          have rC : IntKind.i64.wrap ((c : Int)) = (c : Int) := by rw [IntKind.wrap_i64]; omega
          obtain ⟨xx, hxx⟩ : ∃ z, z = dj[n - 1 - c]! := ⟨_, rfl⟩
          obtain ⟨yy, hyy⟩ : ∃ z, z = dj[c]! := ⟨_, rfl⟩
          have la := SJ.out.cl RW HDS.out (n - 1 - c) (by rw [HSZ.out]; omega)
          have lb := SJ.out.cl RW HDS.out (c) (by rw [HSZ.out]; omega)
          rw [← hxx, ← hiN] at la
          rw [← hyy, ← hjN] at lb
          have hcm := SJ.out.cmp HC.out HDS.out xx yy
          have hv : cf xx yy < 0 := by rw [hxx, hyy]; exact of_decide_eq_true hlv
          have hd : decide (cf xx yy < 0) = true := decide_eq_true hv
          clear hxx hyy hiN hjN hlv
          go_quiet_grown (first | (go_at_fn g; refine Calls.grown_of (hcm _ _)))
          have S2 : Aside (SW enc w0 blk off dj (grow (wr.drewN nq) osq)) := SJ.out.grown nq osq
          clear la lb hcm SJ
          generalize grow (wr.drewN nq) osq = w2 at S2 ⊢
          clear nq osq
          clear eA eC
          go_wp2_with fail
          go_roundg (c - s)
          case measure => omega
          case rel => exact ⟨s, c, rfl, rfl, hss, hh1, by omega, Nat.le_refl _, S2, HB2⟩
        | false =>
          have HB2 := Lib.hid (show Cross R dj n s0 (c + 1) r r0 from ⟨fun _ => by
            have := (HMEM.out c (n - 1 - c) (by omega) hp4 hp2 hp3).2 hlv
            rw [show c + 1 - 1 = c by omega, show n - (c + 1) = n - 1 - c by omega]
            exact this, HBD.out.2⟩)
          obtain ⟨iN, hiN⟩ : ∃ q, q = n - 1 - c := ⟨_, rfl⟩
          obtain ⟨jN, hjN⟩ : ∃ q, q = c := ⟨_, rfl⟩
          have eN : pp - c = iN := by omega
          have eA : ((pp : Int) - (c : Int)).toNat = iN := by omega
          have pA : (0 : Int) ≤ (pp : Int) - (c : Int) := by omega
          have bA : (pp : Int) - (c : Int) < (N : Int) := by omega
          have rA : IntKind.i64.wrap ((pp : Int) - (c : Int)) = (pp : Int) - (c : Int) := by rw [IntKind.wrap_i64]; omega
          have eC : ((c : Int)).toNat = jN := by omega
          have pC : (0 : Int) ≤ (c : Int) := by omega
          have bC : (c : Int) < (N : Int) := by omega
          have rC : IntKind.i64.wrap ((c : Int)) = (c : Int) := by rw [IntKind.wrap_i64]; omega
          obtain ⟨xx, hxx⟩ : ∃ z, z = dj[n - 1 - c]! := ⟨_, rfl⟩
          obtain ⟨yy, hyy⟩ : ∃ z, z = dj[c]! := ⟨_, rfl⟩
          have la := SJ.out.cl RW HDS.out (n - 1 - c) (by rw [HSZ.out]; omega)
          have lb := SJ.out.cl RW HDS.out (c) (by rw [HSZ.out]; omega)
          rw [← hxx, ← hiN] at la
          rw [← hyy, ← hjN] at lb
          have hcm := SJ.out.cmp HC.out HDS.out xx yy
          have hv : ¬ cf xx yy < 0 := by rw [hxx, hyy]; exact of_decide_eq_false hlv
          have hd : decide (cf xx yy < 0) = false := decide_eq_false hv
          clear hxx hyy hiN hjN hlv
          go_quiet_grown (first | (go_at_fn g; refine Calls.grown_of (hcm _ _)))
          have S2 : Aside (SW enc w0 blk off dj (grow (wr.drewN nq) osq)) := SJ.out.grown nq osq
          clear la lb hcm SJ
          generalize grow (wr.drewN nq) osq = w2 at S2 ⊢
          clear nq osq
          clear eA eC
          go_wp2_with fail
          go_roundg (r - (c + 1))
          case measure => omega
          case rel => exact ⟨c + 1, r, by go_num, rfl, by omega, by omega, hrr, Nat.le_refl _, S2, HB2⟩
      · have hltz : ¬ (s : Int) < (r : Int) := by omega
        have hsr' : s = r := by omega
        have HS := Lib.hid (show ∃ x1 x2 y1 y2, Cuts R a m s (n - s) x y x1 x2 y1 y2 from by
          have h3 := HBD.out
          rw [← hsr', HDJ.out] at h3
          exact cuts_of HMI.out HNN.out HRG.out hss (by omega) h3 HA.out HM.out HB.out HXP.out HYP.out)
        obtain ⟨x1, x2, y1, y2, hcu⟩ := HS.out
        have HCU := Lib.hid hcu
        obtain ⟨en, hen⟩ : ∃ z, z = n - s := ⟨_, rfl⟩
        have hsn : s ≤ n := by have := HNN.out; omega
        have eE : (n : Int) - (s : Int) = (en : Int) := by omega
        have HEE := Lib.hid eE
        have HLX := Lib.hid hcu.lx
        have HLY := Lib.hid (show m + y1.length = en by rw [hen]; exact hcu.ly)
        have henb : en ≤ b := by have h1 := hcu.ly; have h2 := HB.out; have h3 := congrArg List.length hcu.ey; simp at h3; omega
        have hsm : s ≤ m := by have h1 := hcu.lx; have h2 := HM.out; have h3 := congrArg List.length hcu.ex; simp at h3; omega
        have hmen : m ≤ en := by have := HLY.out; omega
        have HX2 := Lib.hid (show s + x2.length = m by have h1 := hcu.lx; have h2 := HM.out; have h3 := congrArg List.length hcu.ex; simp at h3; omega)
        have HY2 := Lib.hid (show en + y2.length = b by have h1 := HLY.out; have h2 := HB.out; have h3 := congrArg List.length hcu.ey; simp at h3; omega)
        have HMD := Lib.hid (show a + x1.length + y1.length = mid by have h1 := hcu.lx; have h2 := HNN.out; have h3 := HLY.out; omega)
        have S1 : Aside (SL enc w0 blk off (p ++ (x1 ++ (x2 ++ (y1 ++ (y2 ++ q))))) wr) := by
          have h1 := SJ.out
          rw [HDJ.out, hcu.ex, hcu.ey] at h1
          show SL enc w0 blk off _ wr
          simpa using h1
        have HLL := Lib.hid (show p.length + (x1.length + (x2.length + (y1.length + (y2.length + q.length)))) = N by have h1 := HL.out; rw [hcu.ex, hcu.ey] at h1; simp at h1; omega)
        clear HS hcu hen SJ HBD hsr' hss hsr1 eE
        go_upto_region 39 with fail
        rw [HEE.out]
        go_cut [185] from 178 to 185 (fun vb wx => ∃ cb : Bool, vb = .bool cb ∧ Hid (cb = true ↔ (s < m ∧ m < en)) ∧ Aside (SL enc w0 blk off (p ++ (x1 ++ (x2 ++ (y1 ++ (y2 ++ q))))) wx))
        case first =>
          by_cases h1 : s < m
          · by_cases h2 : m < en
            · skip
              have z1 : (s : Int) < (m : Int) := by omega
              have z2 : (m : Int) < (en : Int) := by omega
              go_wp2_with fail
              go_meet
              case rel => exact ⟨true, rfl, Lib.hid ⟨fun _ => ⟨h1, h2⟩, fun _ => rfl⟩, S1⟩
            · skip
              have z1 : (s : Int) < (m : Int) := by omega
              have z2 : ¬ (m : Int) < (en : Int) := by omega
              go_wp2_with fail
              go_meet
              case rel => exact ⟨false, rfl, Lib.hid ⟨fun h => (by cases h), fun h => absurd h.2 h2⟩, S1⟩
          · skip
            have z1 : ¬ (s : Int) < (m : Int) := by omega
            go_wp2_with fail
            go_meet
            case rel => exact ⟨false, rfl, Lib.hid ⟨fun h => (by cases h), fun h => absurd h.1 h1⟩, S1⟩
        case rest =>
          clear S1
          obtain ⟨cb1, rfl, HCB, S1⟩ := hcut
          go_upto_if 185 with fail
          go_cut [] from 186 to 191 (fun wx => Aside (SL enc w0 blk off (p ++ (x1 ++ (y1 ++ (x2 ++ (y2 ++ q))))) wx))
          case first =>
            cases cb1 with
            | true =>
              have hc2 := HCB.out.1 rfl
              have HR := Lib.hid (rotate_any HT.out cap N s m en (p ++ x1) x2 y1 (y2 ++ q) wc HN.out (by have := HLL.out; simp; omega) (by have := HLX.out; have := HA.out; simp; omega) (by have := HX2.out; omega) (by have := HLY.out; omega) (by have := HX2.out; omega) (by have := HLY.out; omega) (by simpa using S1.out))
              go_wp2_with fail
              refine HR.out.mono ?_
              rintro e w2 ⟨rfl, h⟩
              have S2 : Aside (SL enc w0 blk off (p ++ (x1 ++ (y1 ++ (x2 ++ (y2 ++ q))))) w2) := by
                show SL enc w0 blk off _ w2
                simpa using h
              clear h
              go_wp2_with fail
              go_meet
              case rel => exact S2
            | false =>
              have S2 : Aside (SL enc w0 blk off (p ++ (x1 ++ (y1 ++ (x2 ++ (y2 ++ q))))) wc) := by
                show SL enc w0 blk off _ wc
                have h1 : ¬ (s < m ∧ m < en) := fun h => absurd (HCB.out.2 h) (by simp)
                have h2 := S1.out
                have h3 := HX2.out
                have h4 := HLY.out
                by_cases h5 : s < m
                · obtain rfl : y1 = [] := List.eq_nil_of_length_eq_zero (by omega)
                  simpa using h2
                · obtain rfl : x2 = [] := List.eq_nil_of_length_eq_zero (by omega)
                  simpa using h2
              go_wp2_with fail
              go_meet
              case rel => exact S2
          case rest =>
            clear S1 HCB
            have S1 : Aside (SL enc w0 blk off (p ++ (x1 ++ (y1 ++ (x2 ++ (y2 ++ q))))) wc) := hcut
            clear hcut
            go_upto_region 41 with fail
            go_cut [199] from 192 to 199 (fun vb wx => ∃ cb : Bool, vb = .bool cb ∧ Hid (cb = true ↔ (a < s ∧ s < mid)) ∧ Aside (SL enc w0 blk off (p ++ (x1 ++ (y1 ++ (x2 ++ (y2 ++ q))))) wx))
            case first =>
              by_cases h1 : a < s
              · by_cases h2 : s < mid
                · skip
                  have z1 : (a : Int) < (s : Int) := by omega
                  have z2 : (s : Int) < (mid : Int) := by omega
                  go_wp2_with fail
                  go_meet
                  case rel => exact ⟨true, rfl, Lib.hid ⟨fun _ => ⟨h1, h2⟩, fun _ => rfl⟩, S1⟩
                · skip
                  have z1 : (a : Int) < (s : Int) := by omega
                  have z2 : ¬ (s : Int) < (mid : Int) := by omega
                  go_wp2_with fail
                  go_meet
                  case rel => exact ⟨false, rfl, Lib.hid ⟨fun h => (by cases h), fun h => absurd h.2 h2⟩, S1⟩
              · skip
                have z1 : ¬ (a : Int) < (s : Int) := by omega
                go_wp2_with fail
                go_meet
                case rel => exact ⟨false, rfl, Lib.hid ⟨fun h => (by cases h), fun h => absurd h.1 h1⟩, S1⟩
            case rest =>
              clear S1
              obtain ⟨cb1, rfl, HCB, S1⟩ := hcut
              go_upto_if 199 with fail
              go_cut [] from 200 to 205 (fun wx => Aside (Half enc R w0 blk off p (x1 ++ y1) (x2 ++ (y2 ++ q)) wx))
              case first =>
                cases cb1 with
                | true =>
                  have hc2 := HCB.out.1 rfl
                  have HR := Lib.hid (HI.out a s mid p x1 y1 (x2 ++ (y2 ++ q)) wc (by have h1 := HMD.out; have h2 := HKK.out; have h3 := HM.out; have h4 := HB.out; omega) (by have := HLL.out; simp; omega) HA.out HLX.out.symm (by have := HMD.out; have := HLX.out; omega) (by have := HLX.out; omega) (by have := HMD.out; have := HLX.out; omega)
                    (by have h := HSX.out; rw [HCU.out.ex, List.pairwise_append] at h; exact h.1) (by have h := HSY.out; rw [HCU.out.ey, List.pairwise_append] at h; exact h.1)
                    (fun u hu v hv => HCC.out u (by rw [HCU.out.ex]; simp [hu]) v (by rw [HCU.out.ey]; simp [hv])) S1.out)
                  go_wp2_with fail
                  refine HR.out.mono ?_
                  rintro e w2 ⟨rfl, h⟩
                  have S2 : Aside (Half enc R w0 blk off p (x1 ++ y1) (x2 ++ (y2 ++ q)) w2) := h
                  clear h
                  go_wp2_with fail
                  go_meet
                  case rel => exact S2
                | false =>
                  have S2 : Aside (Half enc R w0 blk off p (x1 ++ y1) (x2 ++ (y2 ++ q)) wc) := by
                    have h1 : ¬ (a < s ∧ s < mid) := fun h => absurd (HCB.out.2 h) (by simp)
                    have h2 := S1.out
                    have h3 := HLX.out
                    have h4 := HMD.out
                    have h5 := HSX.out
                    have h6 := HSY.out
                    rw [HCU.out.ex, List.pairwise_append] at h5
                    rw [HCU.out.ey, List.pairwise_append] at h6
                    refine ⟨x1 ++ y1, List.Perm.refl _, ?_, by simpa using h2⟩
                    by_cases h7 : a < s
                    · obtain rfl : y1 = [] := List.eq_nil_of_length_eq_zero (by omega)
                      simpa using h5.1
                    · obtain rfl : x1 = [] := List.eq_nil_of_length_eq_zero (by omega)
                      simpa using h6.1
                  go_wp2_with fail
                  go_meet
                  case rel => exact S2
              case rest =>
                clear S1 HCB
                obtain ⟨z1, zp, zs, S1⟩ := hcut
                have HZP := Lib.hid zp
                have HZS := Lib.hid zs
                have HZL := Lib.hid (show p.length + z1.length = mid by have h1 := zp.length_eq; have h2 := HMD.out; have h3 := HA.out; simp at h1; omega)
                have S1 : Aside (SL enc w0 blk off (p ++ (z1 ++ (x2 ++ (y2 ++ q)))) wc) := S1
                clear zp zs
                go_upto_region 43 with fail
                go_cut [213] from 206 to 213 (fun vb wx => ∃ cb : Bool, vb = .bool cb ∧ Hid (cb = true ↔ (mid < en ∧ en < b)) ∧ Aside (SL enc w0 blk off (p ++ (z1 ++ (x2 ++ (y2 ++ q)))) wx))
                case first =>
                  by_cases h1 : mid < en
                  · by_cases h2 : en < b
                    · skip
                      have z1 : (mid : Int) < (en : Int) := by omega
                      have z2 : (en : Int) < (b : Int) := by omega
                      go_wp2_with fail
                      go_meet
                      case rel => exact ⟨true, rfl, Lib.hid ⟨fun _ => ⟨h1, h2⟩, fun _ => rfl⟩, S1⟩
                    · skip
                      have z1 : (mid : Int) < (en : Int) := by omega
                      have z2 : ¬ (en : Int) < (b : Int) := by omega
                      go_wp2_with fail
                      go_meet
                      case rel => exact ⟨false, rfl, Lib.hid ⟨fun h => (by cases h), fun h => absurd h.2 h2⟩, S1⟩
                  · skip
                    have z1 : ¬ (mid : Int) < (en : Int) := by omega
                    go_wp2_with fail
                    go_meet
                    case rel => exact ⟨false, rfl, Lib.hid ⟨fun h => (by cases h), fun h => absurd h.1 h1⟩, S1⟩
                case rest =>
                  clear S1
                  obtain ⟨cb1, rfl, HCB, S1⟩ := hcut
                  have HFIN := Lib.hid (show ∀ W z2, z2.Perm (x2 ++ y2) → z2.Pairwise R → SL enc w0 blk off (p ++ (z1 ++ (z2 ++ q))) W → MergePost enc R w0 blk off p (x ++ y) q (.returned (.tuple #[])) W from fun W z2 q1 q2 q3 => by
                    have h5 := HSX.out
                    have h6 := HSY.out
                    rw [HCU.out.ex] at h5
                    rw [HCU.out.ey] at h6
                    obtain ⟨m1, m2⟩ := merge_cut hT h5 h6 HCU.out.h1 HCU.out.h2 HZP.out q1 HZS.out q2
                    exact ⟨rfl, z1 ++ z2, by rw [HCU.out.ex, HCU.out.ey]; exact m1, m2, by simpa using q3⟩)
                  cases cb1 with
                  | true =>
                    have hc2 := HCB.out.1 rfl
                    have HR := Lib.hid (HI.out mid en b (p ++ z1) x2 y2 q wc (by have h1 := HMD.out; have h2 := HKK.out; have h3 := HM.out; have h4 := HB.out; have h5 := HX2.out; have h6 := HY2.out; have h7 := HLX.out; have h8 := HLY.out; omega) (by have h := HZP.out.length_eq; have := HLL.out; simp at h ⊢; omega) (by have := HZL.out; simp; omega) (by have h1 := HX2.out; have h2 := HLX.out; have h3 := HMD.out; have h4 := HLY.out; omega) HY2.out.symm (by have h1 := HX2.out; have h2 := HLX.out; have h3 := HMD.out; have h4 := HLY.out; omega) (by have := HY2.out; omega)
                      (by have h := HSX.out; rw [HCU.out.ex, List.pairwise_append] at h; exact h.2.1) (by have h := HSY.out; rw [HCU.out.ey, List.pairwise_append] at h; exact h.2.1)
                      (fun u hu v hv => HCC.out u (by rw [HCU.out.ex]; simp [hu]) v (by rw [HCU.out.ey]; simp [hv])) (by simpa using S1.out))
                    go_wp2_with fail
                    refine HR.out.mono ?_
                    rintro e w2 ⟨rfl, h⟩
                    have HF := Lib.hid h
                    clear h
                    go_wp2_with fail
                    go_end0
                    obtain ⟨z2, q1, q2, q3⟩ := HF.out
                    exact HFIN.out _ z2 q1 q2 (by simpa using q3)
                  | false =>
                    have HF := Lib.hid (show MergePost enc R w0 blk off p (x ++ y) q (.returned (.tuple #[])) wc from by
                      have h1 : ¬ (mid < en ∧ en < b) := fun h => absurd (HCB.out.2 h) (by simp)
                      have h5 := HSX.out
                      have h6 := HSY.out
                      rw [HCU.out.ex, List.pairwise_append] at h5
                      rw [HCU.out.ey, List.pairwise_append] at h6
                      refine HFIN.out wc (x2 ++ y2) (List.Perm.refl _) ?_ (by simpa using S1.out)
                      have e1 := HX2.out; have e2 := HLX.out; have e3 := HMD.out; have e4 := HLY.out; have e5 := HY2.out
                      by_cases h7 : mid < en
                      · obtain rfl : y2 = [] := List.eq_nil_of_length_eq_zero (by omega)
                        simpa using h5.2.1
                      · obtain rfl : x2 = [] := List.eq_nil_of_length_eq_zero (by omega)
                        simpa using h6.2.1)
                    go_wp2_with fail
                    go_end0
                    exact HF.out
/-- Merging, for pieces of any length. -/
theorem symMerge_any {enc : α → Value} {cf : α → α → Int} {R : α → α → Prop} (hT : ∀ x y z, R x y → R y z → R x z) {g : Nat} {cb : Array Value} {blk off : Nat} {d0 : Array α} {w0 : World} (T : Srt enc cf g cb blk off d0 w0) (cap N : Nat) (hN : N = d0.size) : ∀ K, MergeSays enc cf R g cb blk off w0 cap N K := by
  intro K
  induction K with
  | zero => intro a m b p x y q w hK hl ha hm hb hx hy; omega
  | succ K ih =>
    intro a m b p x y q w hK hl ha hm hb hx hy sx sy hc S
    by_cases h1 : x.length = 1
    · obtain ⟨e, rfl⟩ := List.length_eq_one_iff.1 h1
      exact merge_left hT T cap N a m b p y q e w hN hl ha hm hb sy (hc e (by simp)) S
    · by_cases h2 : y.length = 1
      · obtain ⟨e, rfl⟩ := List.length_eq_one_iff.1 h2
        exact merge_right hT T cap N a m b p x q e w hN hl ha hm hb h1 sx (fun u hu => hc u hu e (by simp)) S
      · exact merge_mid hT T cap N K a m b p x y q w ih hK hN hl ha hm hb hx hy h1 h2 sx sy hc S
end Go.Proofs.YtimkmieohkefiaaGreat

namespace Go.Proofs.YtimkmieohkefiaaGreat
open Go.Shelf
def insL_ren : Go.Shelf.Ren := ⟨fun | 20 => 171 | n => n, fun | 24 => 3 | 22 => 22 | 3 => 3 | 25 => 67 | 4 => 4 | 0 => 0 | n => n, fun | n => n⟩
theorem insL : Go.Proofs.SlLaysF.n20 Tryz.prog insL_ren := {
  mixed := by kernel_rfl
  f20 := ⟨Tryz.f171.name, by decide, Tryz.func171.trans (congrArg some (by kernel_rfl))⟩
  t0 := Tryz.underlying0
  a0 := Tryz.isAgg0
  z0 := Tryz.sizeOf0
  v0 := Tryz.zeroValue0
  t3 := Tryz.underlying3
  a3 := Tryz.isAgg3
  z3 := Tryz.sizeOf3
  v3 := Tryz.zeroValue3
  t4 := Tryz.underlying4
  a4 := Tryz.isAgg4
  z4 := Tryz.sizeOf4
  v4 := Tryz.zeroValue4
  t22 := Tryz.underlying22
  a22 := Tryz.isAgg22
  z22 := Tryz.sizeOf22
  v22 := Tryz.zeroValue22
  a24 := Tryz.isAgg3
  z24 := Tryz.sizeOf3
  t25 := Tryz.underlying67
  a25 := Tryz.isAgg67
  z25 := Tryz.sizeOf67
  v25 := Tryz.zeroValue67 }
def mulL_ren : Go.Shelf.Ren := ⟨fun | 212 => 125 | 263 => 152 | 264 => 153 | n => n, fun | 46 => 170 | 51 => 189 | 146 => 190 | 53 => 192 | 148 => 193 | n => n, fun | n => n⟩
theorem mulL : Go.Proofs.Lays.n212 Tryz.prog mulL_ren := {
  mixed := by kernel_rfl
  f212 := Tryz.func125.trans (congrArg some (by kernel_rfl))
  f263 := Tryz.func152.trans (congrArg some (by kernel_rfl))
  f264 := Tryz.func153.trans (congrArg some (by kernel_rfl))
  t46 := Tryz.underlying170
  a46 := Tryz.isAgg170
  z46 := Tryz.sizeOf170
  v46 := Tryz.zeroValue170
  t51 := Tryz.underlying189
  a51 := Tryz.isAgg189
  z51 := Tryz.sizeOf189
  v51 := Tryz.zeroValue189
  t53 := Tryz.underlying192
  a53 := Tryz.isAgg192
  z53 := Tryz.sizeOf192
  v53 := Tryz.zeroValue192
  t146 := Tryz.underlying190
  a146 := Tryz.isAgg190
  z146 := Tryz.sizeOf190
  v146 := Tryz.zeroValue190
  t148 := Tryz.underlying193
  a148 := Tryz.isAgg193
  z148 := Tryz.sizeOf193
  v148 := Tryz.zeroValue193 }
def sortI_ren : Go.Shelf.Ren := ⟨fun | 189 => 129 | 125 => 136 | 257 => 156 | 128 => 164 | 129 => 165 | 294 => 173 | 295 => 174 | 296 => 175 | 297 => 176 | 298 => 177 | 299 => 178 | 216 => 179 | 300 => 180 | 301 => 181 | 328 => 185 | 329 => 186 | 330 => 187 | 331 => 188 | 332 => 189 | 215 => 151 | 343 => 191 | n => n, fun | 28 => 22 | 3 => 3 | 46 => 170 | 0 => 0 | 51 => 189 | 53 => 192 | 4 => 4 | 183 => 205 | 182 => 204 | 131 => 208 | 5 => 5 | 9 => 9 | 218 => 211 | 222 => 215 | 228 => 217 | 229 => 218 | n => n, fun | n => n⟩
theorem sortI : Go.Proofs.Lays.n189 Tryz.prog sortI_ren := {
  mixed := by kernel_rfl
  f125 := Tryz.func136.trans (congrArg some (by kernel_rfl))
  f128 := Tryz.func164.trans (congrArg some (by kernel_rfl))
  f129 := Tryz.func165.trans (congrArg some (by kernel_rfl))
  f189 := Tryz.func129.trans (congrArg some (by kernel_rfl))
  f215 := Tryz.func151.trans (congrArg some (by kernel_rfl))
  f216 := Tryz.func179.trans (congrArg some (by kernel_rfl))
  f257 := Tryz.func156.trans (congrArg some (by kernel_rfl))
  f294 := Tryz.func173.trans (congrArg some (by kernel_rfl))
  f295 := Tryz.func174.trans (congrArg some (by kernel_rfl))
  f296 := Tryz.func175.trans (congrArg some (by kernel_rfl))
  f297 := Tryz.func176.trans (congrArg some (by kernel_rfl))
  f298 := Tryz.func177.trans (congrArg some (by kernel_rfl))
  f299 := Tryz.func178.trans (congrArg some (by kernel_rfl))
  f300 := Tryz.func180.trans (congrArg some (by kernel_rfl))
  f301 := Tryz.func181.trans (congrArg some (by kernel_rfl))
  f328 := Tryz.func185.trans (congrArg some (by kernel_rfl))
  f329 := Tryz.func186.trans (congrArg some (by kernel_rfl))
  f330 := Tryz.func187.trans (congrArg some (by kernel_rfl))
  f331 := Tryz.func188.trans (congrArg some (by kernel_rfl))
  f332 := Tryz.func189.trans (congrArg some (by kernel_rfl))
  f343 := Tryz.func191.trans (congrArg some (by kernel_rfl))
  t0 := Tryz.underlying0
  a0 := Tryz.isAgg0
  z0 := Tryz.sizeOf0
  v0 := Tryz.zeroValue0
  t3 := Tryz.underlying3
  a3 := Tryz.isAgg3
  z3 := Tryz.sizeOf3
  v3 := Tryz.zeroValue3
  t4 := Tryz.underlying4
  a4 := Tryz.isAgg4
  z4 := Tryz.sizeOf4
  v4 := Tryz.zeroValue4
  t5 := Tryz.underlying5
  a5 := Tryz.isAgg5
  z5 := Tryz.sizeOf5
  v5 := Tryz.zeroValue5
  t9 := Tryz.underlying9
  a9 := Tryz.isAgg9
  z9 := Tryz.sizeOf9
  v9 := Tryz.zeroValue9
  t28 := Tryz.underlying22
  a28 := Tryz.isAgg22
  z28 := Tryz.sizeOf22
  v28 := Tryz.zeroValue22
  t46 := Tryz.underlying170
  a46 := Tryz.isAgg170
  z46 := Tryz.sizeOf170
  v46 := Tryz.zeroValue170
  t51 := Tryz.underlying189
  a51 := Tryz.isAgg189
  z51 := Tryz.sizeOf189
  v51 := Tryz.zeroValue189
  t53 := Tryz.underlying192
  a53 := Tryz.isAgg192
  z53 := Tryz.sizeOf192
  v53 := Tryz.zeroValue192
  t131 := Tryz.underlying208
  a131 := Tryz.isAgg208
  z131 := Tryz.sizeOf208
  v131 := Tryz.zeroValue208
  t182 := Tryz.underlying204
  a182 := Tryz.isAgg204
  z182 := Tryz.sizeOf204
  v182 := Tryz.zeroValue204
  t183 := Tryz.underlying205
  a183 := Tryz.isAgg205
  z183 := Tryz.sizeOf205
  v183 := Tryz.zeroValue205
  t218 := Tryz.underlying211
  a218 := Tryz.isAgg211
  z218 := Tryz.sizeOf211
  v218 := Tryz.zeroValue211
  t222 := Tryz.underlying215
  a222 := Tryz.isAgg215
  z222 := Tryz.sizeOf215
  v222 := Tryz.zeroValue215
  t228 := Tryz.underlying217
  a228 := Tryz.isAgg217
  z228 := Tryz.sizeOf217
  v228 := Tryz.zeroValue217
  t229 := Tryz.underlying218
  a229 := Tryz.isAgg218
  z229 := Tryz.sizeOf218
  v229 := Tryz.zeroValue218 }
def sortedL_ren : Go.Shelf.Ren := ⟨fun | 6 => 84 | 8 => 128 | 9 => 129 | 11 => 155 | 13 => 136 | 12 => 156 | 23 => 164 | 24 => 165 | 14 => 173 | 15 => 174 | 16 => 175 | 17 => 176 | 18 => 177 | 19 => 178 | 20 => 179 | 21 => 180 | 22 => 181 | 25 => 185 | 26 => 186 | 27 => 187 | 28 => 188 | 29 => 189 | 30 => 151 | 31 => 191 | n => n, fun | 26 => 3 | 28 => 139 | 24 => 22 | 0 => 0 | 3 => 3 | 37 => 170 | 48 => 189 | 50 => 192 | 4 => 4 | 40 => 205 | 39 => 204 | 45 => 208 | 5 => 5 | 9 => 9 | 51 => 211 | 55 => 215 | 57 => 217 | 58 => 218 | 33 => 175 | n => n, fun | n => n⟩
theorem sortedL : Go.Proofs.SlLaysZI.n6 Tryz.prog sortedL_ren := {
  mixed := by kernel_rfl
  f6 := ⟨Tryz.f84.name, by decide, Tryz.func84.trans (congrArg some (by kernel_rfl))⟩
  f8 := ⟨Tryz.f128.name, by decide, Tryz.func128.trans (congrArg some (by kernel_rfl))⟩
  f11 := ⟨Tryz.f155.name, by decide, Tryz.func155.trans (congrArg some (by kernel_rfl))⟩
  t0 := Tryz.underlying0
  a0 := Tryz.isAgg0
  z0 := Tryz.sizeOf0
  v0 := Tryz.zeroValue0
  t24 := Tryz.underlying22
  a24 := Tryz.isAgg22
  z24 := Tryz.sizeOf22
  v24 := Tryz.zeroValue22
  t26 := Tryz.underlying3
  a26 := Tryz.isAgg3
  z26 := Tryz.sizeOf3
  v26 := Tryz.zeroValue3
  t28 := Tryz.underlying139
  a28 := Tryz.isAgg139
  z28 := Tryz.sizeOf139
  v28 := Tryz.zeroValue139
  i26 := by kernel_rfl }
def compareC_ren : Go.Shelf.Ren := ⟨fun | 5 => 124 | 7 => 151 | n => n, fun | 22 => 3 | 3 => 3 | 4 => 4 | n => n, fun | n => n⟩
theorem compareC : Go.Proofs.SlLaysC2.n5 Tryz.prog compareC_ren := {
  mixed := by kernel_rfl
  f5 := ⟨Tryz.f124.name, by decide, Tryz.func124.trans (congrArg some (by kernel_rfl))⟩
  f7 := ⟨Tryz.f151.name, by decide, Tryz.func151.trans (congrArg some (by kernel_rfl))⟩
  t3 := Tryz.underlying3
  a3 := Tryz.isAgg3
  z3 := Tryz.sizeOf3
  v3 := Tryz.zeroValue3
  t4 := Tryz.underlying4
  a4 := Tryz.isAgg4
  z4 := Tryz.sizeOf4
  v4 := Tryz.zeroValue4
  t22 := Tryz.underlying3
  a22 := Tryz.isAgg3
  z22 := Tryz.sizeOf3
  v22 := Tryz.zeroValue3 }
end Go.Proofs.YtimkmieohkefiaaGreat

namespace Go.Proofs.YtimkmieohkefiaaGreat
open Go.RowKit Go.Lib Go.Sort Go.Shelf

variable {α : Type} [Inhabited α]
theorem insertion_any {enc : α → Value} {cf : α → α → Int} {R : α → α → Prop} (hT : ∀ x y z, R x y → R y z → R x z) {g : Nat} {cb : Array Value} {blk off : Nat} {d0 : Array α} {w0 : World} (T : Srt enc cf g cb blk off d0 w0) (cap N a b : Nat) (p s q : List α) (w : World)
    (hN : N = d0.size) (hl : (p ++ (s ++ q)).length = N) (ha : a = p.length) (hb : b = a + s.length) (hs : s.Pairwise (Cr (ltOf cf) R)) (S : SL enc w0 blk off (p ++ (s ++ q)) w) :
    Calls Tryz.prog 171 #[.slice (some ⟨blk, off, none⟩) N cap, .int .i64 (a : Int), .int .i64 (b : Int), .func (.func g) #[] cb] w (MergePost enc R w0 blk off p s q) := by
  have hsz : (p ++ (s ++ q)).toArray.size = N := by simpa using hl
  have hT1 := T.small
  have h := Any.insertionSortCmpFunc_s insL enc cf g cb blk off cap a b d0 (p ++ (s ++ q)).toArray w0 w T.ent T.cmp T.row (by rw [hsz, hN]) S (by omega) (by rw [hsz]; simp at hl; omega) (by rw [hsz]; omega)
  rw [hsz] at h
  change Calls Tryz.prog 171 _ _ _ at h
  refine h.mono ?_
  rintro e w' ⟨rfl, h'⟩
  obtain ⟨z, z1, z2, z3⟩ := insertion_list (lt := ltOf cf) hT p s q hs
  subst ha; subst hb
  rw [z3] at h'
  exact ⟨rfl, z, z1, z2, h'⟩
/-- The first twenty are sorted, and the others too. -/
def Two20 (enc : α → Value) (R : α → α → Prop) (w0 : World) (blk off : Nat) (l : List α) (W : World) : Prop :=
  ∃ z z2, z.Perm (l.take 20) ∧ z.Pairwise R ∧ z2.Perm (l.drop 20) ∧ z2.Pairwise R ∧ SL enc w0 blk off (z ++ z2) W
def One20 (enc : α → Value) (R : α → α → Prop) (w0 : World) (blk off : Nat) (l : List α) (W : World) : Prop :=
  ∃ z, z.Perm (l.take 20) ∧ z.Pairwise R ∧ SL enc w0 blk off (z ++ l.drop 20) W
set_option maxHeartbeats 16000000 in
set_option maxRecDepth 1000000 in
theorem stable_any {enc : α → Value} {cf : α → α → Int} {R : α → α → Prop} (hT : ∀ x y z, R x y → R y z → R x z) {g : Nat} {cb : Array Value} {blk off : Nat} {d0 : Array α} {w0 : World} (T : Srt enc cf g cb blk off d0 w0) (cap N : Nat) (l : List α) (w : World)
    (hN : N = d0.size) (hl : l.length = N) (h39 : N ≤ 39) (hs : l.Pairwise (Cr (ltOf cf) R)) (S : SL enc w0 blk off l w) :
    Calls Tryz.prog 154 #[.slice (some ⟨blk, off, none⟩) N cap, .int .i64 (N : Int), .func (.func g) #[] cb] w (MergePost enc R w0 blk off ([] : List α) l ([] : List α)) := by
  have mixed : Tryz.prog.follows .mixedOrders = true := by kernel_rfl
  have HT := Lib.hid T
  have HN := Lib.hid hN
  have HL := Lib.hid hl
  have HS := Lib.hid hs
  have hcut := List.take_append_drop 20 l
  have hs2 := hs
  rw [← hcut, List.pairwise_append] at hs2
  have HS2 := Lib.hid hs2
  have S0 : Aside (SL enc w0 blk off l w) := S
  clear T hN hl hs S hs2 hcut
  go_enter Tryz.func154, Tryz.ntmps154
  go_wp2_with fail
  go_loopg [7, 8] 1 (fun g1 vi vj wr => (vi = .int .i64 0 ∧ vj = .int .i64 20 ∧ g1 = 1 ∧ Aside (SL enc w0 blk off l wr)) ∨ (vi = .int .i64 20 ∧ vj = .int .i64 40 ∧ 20 ≤ N ∧ Aside (One20 enc R w0 blk off l wr)))
  case atStart => exact Or.inl ⟨rfl, rfl, rfl, S0⟩
  case round =>
    clear S0
    rcases hrel with ⟨rfl, rfl, hg1, SJ⟩ | ⟨rfl, rfl, h20, SJ⟩
    · by_cases h20 : 20 ≤ N
      · have hz : (20 : Int) ≤ (N : Int) := by omega
        have HC := Lib.hid (show Calls Tryz.prog 171 #[.slice (some ⟨blk, off, none⟩) N cap, .int .i64 0, .int .i64 20, .func (.func g) #[] cb] wr (MergePost enc R w0 blk off [] (l.take 20) (l.drop 20)) from
          insertion_any hT HT.out cap N 0 20 [] (l.take 20) (l.drop 20) wr HN.out (by simp; have := HL.out; omega) rfl (by simp; have := HL.out; omega) HS2.out.1 (by simpa using SJ.out))
        clear SJ
        go_wp2_with fail
        refine HC.out.mono ?_
        rintro e w2 ⟨rfl, z, z1, z2, h⟩
        have S2 : Aside (One20 enc R w0 blk off l w2) := ⟨z, z1, z2, by simpa using h⟩
        clear h HC z1 z2
        go_wp2_with fail
        go_roundg 0
        case measure => omega
        case rel => exact Or.inr ⟨rfl, rfl, h20, S2⟩
      · have hz : ¬ (20 : Int) ≤ (N : Int) := by omega
        have HC := Lib.hid (show Calls Tryz.prog 171 #[.slice (some ⟨blk, off, none⟩) N cap, .int .i64 0, .int .i64 (N : Int), .func (.func g) #[] cb] wr (MergePost enc R w0 blk off ([] : List α) l ([] : List α)) from
          insertion_any hT HT.out cap N 0 N [] l [] wr HN.out (by simpa using HL.out) rfl (by have := HL.out; omega) HS.out (by simpa using SJ.out))
        clear SJ
        go_wp2_with fail
        refine HC.out.mono ?_
        rintro e w2 ⟨rfl, h⟩
        have S2 : Aside (MergePost enc R w0 blk off ([] : List α) l ([] : List α) (.returned (.tuple #[])) w2) := ⟨rfl, h⟩
        clear h HC
        have hz2 : ¬ (20 : Int) < (N : Int) := by omega
        go_wp2_with fail
        go_loopg [6] 0 (fun g1 vi wr => vi = .int .i64 20 ∧ Aside (MergePost enc R w0 blk off ([] : List α) l ([] : List α) (.returned (.tuple #[])) wr))
        case atStart => exact ⟨rfl, S2⟩
        case round =>
          clear S2
          obtain ⟨rfl, S2⟩ := hrel
          go_wp2_with fail
          go_end0
          exact S2.out
    · have hz : ¬ (40 : Int) ≤ (N : Int) := by omega
      obtain ⟨z, z1, z2, h⟩ := SJ
      have HZ1 := Lib.hid z1
      have HZ2 := Lib.hid z2
      have hzl : z.length = 20 := by have := z1.length_eq; have h2 := HL.out; simp at this; omega
      have HZL := Lib.hid hzl
      have HC := Lib.hid (show Calls Tryz.prog 171 #[.slice (some ⟨blk, off, none⟩) N cap, .int .i64 20, .int .i64 (N : Int), .func (.func g) #[] cb] wr (MergePost enc R w0 blk off z (l.drop 20) []) from
        insertion_any hT HT.out cap N 20 N z (l.drop 20) [] wr HN.out (by simp; have := HL.out; omega) hzl.symm (by simp; have := HL.out; omega) HS2.out.2.1 (by simpa using h))
      clear h z1 z2 hzl
      go_wp2_with fail
      refine HC.out.mono ?_
      rintro e w2 ⟨rfl, z2, q1, q2, h⟩
      have S2 : Aside (Two20 enc R w0 blk off l w2) := ⟨z, z2, HZ1.out, HZ2.out, q1, q2, by simpa using h⟩
      clear h HC q1 q2 HZ1 HZ2 HZL
      go_wp2_with fail
      go_loopg [6] 1 (fun g1 vi wr => (vi = .int .i64 20 ∧ g1 = 1 ∧ Aside (Two20 enc R w0 blk off l wr)) ∨ (vi = .int .i64 40 ∧ Aside (MergePost enc R w0 blk off ([] : List α) l ([] : List α) (.returned (.tuple #[])) wr)))
      case atStart => exact Or.inl ⟨rfl, rfl, S2⟩
      case round =>
        clear S2
        rcases hrel with ⟨rfl, hg2, S2⟩ | ⟨rfl, S2⟩
        · by_cases h21 : 20 < N
          · have hz3 : (20 : Int) < (N : Int) := by omega
            go_wp2_with fail
            go_loopg [7, 8] 0 (fun g1 vi vj wr => vi = .int .i64 0 ∧ vj = .int .i64 40 ∧ Aside (Two20 enc R w0 blk off l wr))
            case atStart => exact ⟨rfl, rfl, S2⟩
            case round =>
              clear S2
              obtain ⟨rfl, rfl, S2⟩ := hrel
              have HC := Lib.hid (show Calls Tryz.prog 172 #[.slice (some ⟨blk, off, none⟩) N cap, .int .i64 0, .int .i64 20, .int .i64 (N : Int), .func (.func g) #[] cb] wr (MergePost enc R w0 blk off ([] : List α) l ([] : List α)) from by
                obtain ⟨z, z2, p1, p2, p3, p4, h⟩ := S2
                have hzl : z.length = 20 := by have := p1.length_eq; have h2 := HL.out; simp at this; omega
                have hzl2 : z2.length = N - 20 := by have := p3.length_eq; have h2 := HL.out; simp at this; omega
                have := symMerge_any hT HT.out cap N HN.out N 0 20 N [] z z2 [] wr (by omega) (by simp; omega) rfl (by omega) (by omega) (by omega) (by omega) p2 p4
                  (fun u hu v hv => HS2.out.2.2 u (p1.mem_iff.1 hu) v (p3.mem_iff.1 hv)) (by simpa using h)
                refine this.mono ?_
                rintro e w' ⟨rfl, zz, r1, r2, r3⟩
                refine ⟨rfl, zz, r1.trans ((p1.append p3).trans (by rw [List.take_append_drop])), r2, r3⟩)
              clear S2
              go_wp2_with fail
              refine HC.out.mono ?_
              rintro e w3 ⟨rfl, h⟩
              have S3 : Aside (MergePost enc R w0 blk off ([] : List α) l ([] : List α) (.returned (.tuple #[])) w3) := ⟨rfl, h⟩
              clear h HC
              go_wp2_with fail
              go_roundg 0
              case measure => omega
              case rel => exact Or.inr ⟨rfl, S3⟩
          · have hz3 : ¬ (20 : Int) < (N : Int) := by omega
            have HF := Lib.hid (show MergePost enc R w0 blk off ([] : List α) l ([] : List α) (.returned (.tuple #[])) wr from by
              obtain ⟨z, z2, p1, p2, p3, p4, h⟩ := S2
              have hl := HL.out
              have hd : l.drop 20 = [] := List.drop_eq_nil_of_le (by omega)
              have ht : l.take 20 = l := List.take_of_length_le (by omega)
              rw [hd] at p3
              rw [ht] at p1
              obtain rfl : z2 = [] := p3.eq_nil
              exact ⟨rfl, z, p1, p2, by simpa using h⟩)
            clear S2
            go_wp2_with fail
            go_end0
            exact HF.out
        · have hz3 : ¬ (40 : Int) < (N : Int) := by omega
          go_wp2_with fail
          go_end0
          exact S2.out
set_option maxHeartbeats 1600000 in
theorem sortStable_any {enc : α → Value} {cf : α → α → Int} {R : α → α → Prop} (hT : ∀ x y z, R x y → R y z → R x z) {g : Nat} {cb : Array Value} {blk off : Nat} {d0 : Array α} {w0 : World} (T : Srt enc cf g cb blk off d0 w0) (cap N : Nat) (l : List α) (w : World)
    (hN : N = d0.size) (hl : l.length = N) (h39 : N ≤ 39) (hs : l.Pairwise (Cr (ltOf cf) R)) (S : SL enc w0 blk off l w) :
    Calls Tryz.prog 126 #[.slice (some ⟨blk, off, none⟩) N cap, .func (.func g) #[] cb] w (MergePost enc R w0 blk off ([] : List α) l ([] : List α)) := by
  have HC := Lib.hid (stable_any hT T cap N l w hN hl h39 hs S)
  clear T hs S hN hl
  generalize hQ : MergePost enc R w0 blk off ([] : List α) l ([] : List α) = Q at *
  go_enter Tryz.func126, Tryz.ntmps126
  go_wp2_with fail
  refine HC.out.mono ?_
  intro e w2 h
  have he : e = .returned (.tuple #[]) := by rw [← hQ] at h; exact h.1
  have HH := Lib.hid h
  clear h HC
  subst he
  go_wp2_with fail
  go_end0
  exact HH.out
end Go.Proofs.YtimkmieohkefiaaGreat

namespace Go.Proofs.YtimkmieohkefiaaGreat
open Go.RowKit Go.Lib Go.Shelf Go.Sort

abbrev atoZ (os : List Nat) : List Int := os.map fun (x : Nat) => (x : Int)
theorem Own.after_sort {α : Type} [Inhabited α] {T : TypeId} {w : World} {base g n c m : Nat} {zs : List Int} (h : Own .i64 T w base (.slice (some ⟨g, 0, none⟩) n c) zs) (hn : n = zs.length) (f : α → Int) (d : Array α) (hd : d.size = zs.length) (os : Array Obj) :
    Own .i64 T (sortWorld (fun x => Value.int .i64 (f x)) w g 0 m d os) base (.slice (some ⟨g, 0, none⟩) n c) (d.toList.map f) := by
  subst hn
  refine ⟨by simp, ?_⟩
  rcases h.2 with ⟨e, _⟩ | ⟨g', cap, cur, e, hb, hh, h1, h2, h3, h4⟩
  · cases e
  · injection e with e1 e2 e3
    injection e1 with e1
    injection e1 with e1
    subst e1; subst e3
    have hlen : (d.toList.map f).length = zs.length := by simp [hd]
    refine Or.inr ⟨g, c, putCells (fun x => Value.int .i64 (f x)) 0 d cur, by rw [hlen], hb, ?_, by rw [hlen]; exact h1, h2, by unfold putCells; rw [Array.size_mapIdx]; exact h3, ?_⟩
    · have hg : g < w.heap.size := (Array.getElem?_eq_some_iff.1 hh).1
      show (_ ++ os)[g]? = _
      rw [Array.getElem?_append_left (by show g < (w.heap.modify g _).size; rw [Array.size_modify]; exact hg)]
      show (w.heap.modify g _)[g]? = _
      rw [Array.getElem?_modify, if_pos rfl, hh]
      rfl
    · refine List.ext_getElem? fun j => ?_
      rw [hlen, ← hd, Nat.mul_one, List.getElem?_take]
      by_cases hj : j < d.size
      · rw [if_pos hj]
        unfold putCells
        have hc : j < cur.size := by omega
        simp [Array.getElem?_toList, Array.getElem?_mapIdx, hc, hj]
      · rw [if_neg hj, List.getElem?_eq_none (by simp; omega)]
theorem below_sort {α : Type} [Inhabited α] {enc : α → Value} {B g m : Nat} {w0 w : World} (h : Below B w0 w) (hg : B ≤ g) (hB : B ≤ w.heap.size) (d : Array α) (os : Array Obj) : Below B w0 (sortWorld enc w g 0 m d os) := by
  refine h.trans ⟨rfl, rfl, rfl, ?_, fun i hi => ?_⟩
  · show w.heap.size ≤ (_ ++ os).size
    rw [Array.size_append]
    show w.heap.size ≤ (w.heap.modify g _).size + os.size
    rw [Array.size_modify]; omega
  · show (_ ++ os)[i]? = _
    rw [Array.getElem?_append_left (by show i < (w.heap.modify g _).size; rw [Array.size_modify]; omega)]
    show (w.heap.modify g _)[i]? = _
    rw [Array.getElem?_modify, if_neg (by omega)]
/-- The comparison: a greater load comes first. -/
def cmpA (a : List Int) (x y : Nat) : Int := Lib.compareInt (ld a y) (ld a x)
theorem cmpA_lt (a : List Int) (x y : Nat) : cmpA a x y < 0 ↔ ld a y < ld a x := by
  unfold cmpA Lib.compareInt
  generalize ld a y = p
  generalize ld a x = q
  by_cases h : p < q
  · simp [h]
  · by_cases h2 : q < p <;> simp [h, h2]
theorem compare_any (x y : Int) (w : World) : Calls Tryz.prog 124 #[.int .i64 x, .int .i64 y] w fun e w' => e = .returned (.int .i64 (Lib.compareInt x y)) ∧ w' = w := AnyG.cmp_Compare_int compareC x y w
set_option maxHeartbeats 800000 in
theorem closure_any (a : List Int) (A : Option Addr) (c b : Nat) (x y : Nat) (hx : x < a.length) (hy : y < a.length) (hl : a.length ≤ maxLen) (w : World) (h : Row .i64 w w.heap.size A a) (hb : w.cell? ⟨b, 0, none⟩ = some (.slice A a.length c)) :
    Calls Tryz.prog 127 #[.int .i64 (x : Int), .int .i64 (y : Int), .pointer (some ⟨b, 0, none⟩)] w fun e w' => e = .returned (.int .i64 (cmpA a x y)) ∧ ∃ q, w' = w.drewN q := by
  unfold maxLen at hl
  obtain ⟨ad, rfl, -, c1⟩ := h x hx
  obtain ⟨ad', e', -, d1⟩ := h y hy
  obtain rfl : ad = ad' := by injection e'
  have HC := Lib.hid (fun W => compare_any (ld a y) (ld a x) W)
  have HR := Lib.hid (show cmpA a x y = Lib.compareInt (ld a y) (ld a x) from rfl)
  change w.cell? _ = some (Value.int .i64 (ld a x)) at c1
  change w.cell? _ = some (Value.int .i64 (ld a y)) at d1
  obtain ⟨L, hL⟩ : ∃ n, n = a.length := ⟨_, rfl⟩
  rw [← hL] at hb hx hy hl
  rw [HR.out]
  generalize Lib.compareInt (ld a y) (ld a x) = r at *
  generalize ld a x = bx at *
  generalize ld a y = bY at *
  have x1 : (x : Int) < (L : Int) := by omega
  have y1 : (y : Int) < (L : Int) := by omega
  clear h e' HR hL hx hy
  go_enter Tryz.func127, Tryz.ntmps127
  go_wp2_with fail
  go_quiet ((go_at_call 124; exact Calls.quiet_of_same (HC.out _)))
  go_wp2_with fail
  go_ret
  exact ⟨rfl, _, rfl⟩
set_option maxHeartbeats 1600000 in
theorem stable_nil (f : Value) (p : Option Addr) (cp : Nat) (w : World) : Calls Tryz.prog 126 #[.slice p 0 cp, f] w fun e w' => e = .returned (.tuple #[]) ∧ w' = w := by
  have hI : ∀ W, Calls Tryz.prog 171 #[.slice p 0 cp, .int .i64 0, .int .i64 0, f] W fun e w' => e = .returned (.tuple #[]) ∧ w' = W := fun W => by
    go_enter Tryz.func171, Tryz.ntmps171
    go_wp2_with fail
    go_loopw [8] (fun iv wr => iv = .int .i64 1 ∧ Hid (wr = W)) (fun _ _ => 0)
    case atStart => exact ⟨rfl, Lib.hid rfl⟩
    case round =>
      obtain ⟨rfl, HW⟩ := hrel
      go_wp2_with fail
      go_end0
      exact ⟨rfl, HW.out⟩
  have HI := Lib.hid hI
  have hS : ∀ W, Calls Tryz.prog 154 #[.slice p 0 cp, .int .i64 0, f] W fun e w' => e = .returned (.tuple #[]) ∧ w' = W := fun W => by
    go_enter Tryz.func154, Tryz.ntmps154
    go_wp2_with fail
    go_loopw [7, 8] (fun a b wr => a = .int .i64 0 ∧ b = .int .i64 20 ∧ Hid (wr = W)) (fun _ _ _ => 0)
    case atStart => exact ⟨rfl, rfl, Lib.hid rfl⟩
    case round =>
      obtain ⟨rfl, rfl, HW⟩ := hrel
      go_wp2_with fail
      refine (HI.out _).mono ?_
      rintro e w1 ⟨rfl, hw⟩
      have HW1 := Lib.hid (hw.trans HW.out)
      clear hw HW
      go_wp2_with fail
      go_loopw [6] (fun a wr => a = .int .i64 20 ∧ Hid (wr = W)) (fun _ _ => 0)
      case atStart => exact ⟨rfl, HW1⟩
      case round =>
        clear HW1
        obtain ⟨rfl, HW2⟩ := hrel
        go_wp2_with fail
        go_end0
        exact ⟨rfl, HW2.out⟩
  have HS := Lib.hid hS
  clear hI hS
  go_enter Tryz.func126, Tryz.ntmps126
  go_wp2_with fail
  refine (HS.out _).mono ?_
  rintro e w1 ⟨rfl, hw⟩
  rw [hw]
  clear hw
  go_wp2_with fail
  go_end0
  exact ⟨rfl, rfl⟩
def posK (a : List Int) (k : Nat) : List Nat := (List.range k).filter fun x => decide (0 < ld a x)
theorem posK_yes {a : List Int} {k : Nat} (h : 0 < ld a k) : atoZ (posK a (k + 1)) = atoZ (posK a k) ++ [(k : Int)] := by
  unfold posK atoZ
  have e : [k].filter (fun x => decide (0 < ld a x)) = [k] := by simp only [List.filter, decide_eq_true h]
  rw [List.range_succ, List.filter_append, e, List.map_append]; rfl
theorem posK_no {a : List Int} {k : Nat} (h : ¬ 0 < ld a k) : posK a (k + 1) = posK a k := by
  unfold posK
  have e : [k].filter (fun x => decide (0 < ld a x)) = [] := by simp only [List.filter, decide_eq_false h]
  rw [List.range_succ, List.filter_append, e, List.append_nil]
theorem posK_len (a : List Int) (k : Nat) : (posK a k).length ≤ k := by unfold posK; exact Nat.le_trans (List.length_filter_le _ _) (by simp)
def GrtPost (a : List Int) (w : World) (e : Ending) (w' : World) : Prop := ∃ v os, e = .returned v ∧ IsOrd a os ∧ Own .i64 3 w' w.heap.size v (atoZ os) ∧ Below w.heap.size w w'
abbrev encF (n : Nat) (x : Fin (n + 1)) : Value := .int .i64 ((x.val : Nat) : Int)
abbrev finL (n : Nat) (os : List Nat) : List (Fin (n + 1)) := os.map (Fin.ofNat (n + 1))
theorem finL_val {n : Nat} {os : List Nat} (h : ∀ x ∈ os, x < n + 1) : (finL n os).map Fin.val = os := by
  rw [List.map_map]
  refine (List.map_congr_left fun x hx => ?_).trans (List.map_id _)
  show x % (n + 1) = x
  exact Nat.mod_eq_of_lt (h x hx)
theorem sort_ord {a : List Int} {n : Nat} (hn : a.length = n + 1) {z : List (Fin (n + 1))} (hp : z.Perm (finL n (posL a))) (hs : z.Pairwise fun x y => Rk a x.val y.val) : IsOrd a (z.map Fin.val) := by
  refine ⟨?_, by rw [List.pairwise_map]; exact hs⟩
  have := hp.map Fin.val
  rwa [finL_val (fun x hx => by have := (mem_posL.1 hx).1; omega)] at this
theorem cr_ord {a : List Int} {n : Nat} (hn : a.length = n + 1) : (finL n (posL a)).Pairwise (Cr (ltOf fun x y : Fin (n + 1) => cmpA a x.val y.val) fun x y => Rk a x.val y.val) := by
  have h0 : (posL a).Pairwise (· < ·) := List.Pairwise.filter _ List.pairwise_lt_range
  have h1 : ((finL n (posL a)).map Fin.val).Pairwise (· < ·) := by rw [finL_val (fun x hx => by have := (mem_posL.1 hx).1; omega)]; exact h0
  rw [List.pairwise_map] at h1
  refine h1.imp fun {x y} h => ⟨fun g => ?_, fun g => ?_⟩
  · unfold ltOf at g
    have := (cmpA_lt a _ _).1 (of_decide_eq_true g)
    exact Or.inl this
  · unfold ltOf at g
    have h2 : ¬ ld a x.val < ld a y.val := fun e => of_decide_eq_false g ((cmpA_lt a _ _).2 e)
    unfold Rk; omega
set_option maxRecDepth 100000 in
set_option maxHeartbeats 3200000 in
theorem greatest_any (a : List Int) (A : Option Addr) (c : Nat) (w : World) (h : Row .i64 w w.heap.size A a) (hl : a.length ≤ 32) :
    Calls Tryz.prog 82 #[.slice A a.length c] w (GrtPost a w) := by
  have H := Lib.hid h
  obtain ⟨L, hL⟩ : ∃ n, n = a.length := ⟨_, rfl⟩
  have HL := Lib.hid hL
  rw [← hL] at hl ⊢
  have hcell : (w.alloc (.cells #[.slice A L c] 22)).cell? ⟨w.heap.size, 0, none⟩ = some (.slice A L c) := by rw [cell_new]; rfl
  have B0 := Lib.hid ((Below.refl w.heap.size w).alloc (Nat.le_refl _) (.cells #[.slice A L c] 22))
  have hsz : (w.alloc (.cells #[.slice A L c] 22)).heap.size = w.heap.size + 1 := by simp
  obtain ⟨b, hb⟩ : ∃ b, b = w.heap.size := ⟨_, rfl⟩
  have HBB := Lib.hid hb
  clear h hL
  go_enter Tryz.func82, Tryz.ntmps82
  go_upto_region 1 with fail
  rw [← hb] at hcell hsz ⊢
  generalize w.alloc (.cells #[.slice A L c] 22) = w1 at *
  have HS1 := Lib.hid (show b < w1.heap.size by omega)
  have HWS := Lib.hid (show w.heap.size ≤ w1.heap.size by omega)
  have C0 := Lib.hid hcell
  clear hb hsz
  go_wp2_with fail
  clear hcell
  go_loopw [3, 8] (fun ov iv wr => ∃ k : Nat, k ≤ L ∧ iv = .int .i64 (k : Int) ∧ Hid (Own .i64 3 wr w1.heap.size ov (atoZ (posK a k))) ∧ Hid (RowKit.Below w1.heap.size w1 wr)) (fun _ iv _ => L - (intOf iv).toNat)
  case atStart => exact ⟨0, by omega, rfl, Lib.hid Own.nil, Lib.hid (RowKit.Below.refl _ _)⟩
  case round =>
    obtain ⟨k, hk, rfl, O, B⟩ := hrel
    have HA := Lib.hid (H.out.below (B0.out.trans (B.out.mono HWS.out)))
    by_cases hlt : k < L
    · obtain ⟨ad, rfl, -, c1⟩ := HA.out k (by rw [← HL.out]; exact hlt)
      obtain ⟨z, hz⟩ : ∃ z, z = ld a k := ⟨_, rfl⟩
      have HZ := Lib.hid hz
      change wr.cell? _ = some (Value.int .i64 (ld a k)) at c1
      rw [← hz] at c1
      clear hz
      by_cases t1 : 0 < z
      · have HP := Lib.hid (posK_yes (a := a) (k := k) (by rw [← HZ.out]; exact t1))
        have HLN := Lib.hid (show (atoZ (posK a k)).length + 1 ≤ 1000000000 by have := posK_len a k; simp; omega)
        go_wp2_with (first | (at_builtin; refine wpList_appI _ rfl (.tmp 15) (.tmp 17) rfl w1.heap.size _ (atoZ (posK a k)) rfl (O.out.alloc _) (k : Int) wr rfl _ rfl 1 rfl HLN.out (le_allocW (w := wr) B.out.size) ?_; intro v5 w5 A5; have HO5 := Lib.hid (show Own .i64 3 w5 w1.heap.size v5 (atoZ (posK a (k + 1))) by rw [HP.out]; exact A5.1); have HB5 := Lib.hid (A5.below B.out B.out.size O.out); clear A5))
        go_roundw
        case rel => exact ⟨k + 1, by omega, by go_num, HO5, HB5⟩
        case measure => simp [intOf]; omega
      · have HP := Lib.hid (show Own .i64 3 wr w1.heap.size u3 (atoZ (posK a (k + 1))) by rw [posK_no (by rw [← HZ.out]; exact t1)]; exact O.out)
        go_wp2_with fail
        go_roundw
        case rel => exact ⟨k + 1, by omega, by go_num, HP, B⟩
        case measure => simp [intOf]; omega
    · obtain rfl : k = L := by omega
      have C2 := Lib.hid ((B.out.cell (p := ⟨b, 0, none⟩) HS1.out).trans C0.out)
      have HBW := Lib.hid (B0.out.trans (B.out.mono HWS.out))
      have hpl : posK a k = posL a := by unfold posK posL; rw [HL.out]
      rw [hpl] at O
      clear hlt hk hpl
      rcases O.out.2 with ⟨rfl, hn⟩ | ⟨g, cap, cur, rfl, hgb, hgl, hlc, hcm, hcs, htk⟩
      · have hnil : posL a = [] := List.eq_nil_of_length_eq_zero (by simpa using hn)
        have HN := Lib.hid (show IsOrd a [] from ⟨by rw [hnil], List.Pairwise.nil⟩)
        have HO := Lib.hid (show Own .i64 3 wr w.heap.size (.slice none 0 0) (atoZ []) from Own.nil)
        clear hnil hn O H HA C2
        go_wp2_with (go_at_call 126; refine (stable_nil _ _ _ _).mono ?_; rintro e w' ⟨rfl, rfl⟩)
        go_ret
        exact ⟨_, [], rfl, HN.out, HO.out, HBW.out⟩
      · by_cases hz : posL a = []
        · have HN := Lib.hid (show IsOrd a [] from ⟨by rw [hz], List.Pairwise.nil⟩)
          have HO := Lib.hid (show Own .i64 3 wr w.heap.size (.slice (some ⟨g, 0, none⟩) 0 cap) (atoZ []) from by have := O.out.base HWS.out; rw [hz] at this; exact this)
          have e0 : (atoZ (posL a)).length = 0 := by rw [hz]; rfl
          rw [e0]
          clear hz hgb hgl hlc hcm hcs htk O H HA C2 e0
          go_wp2_with (go_at_call 126; refine (stable_nil _ _ _ _).mono ?_; rintro e w' ⟨rfl, rfl⟩)
          go_ret
          exact ⟨_, [], rfl, HN.out, HO.out, HBW.out⟩
        · obtain ⟨n, hn⟩ : ∃ n, a.length = n + 1 := by
            cases ha : a.length with
            | zero => exfalso; apply hz; unfold posL; rw [ha]; rfl
            | succ n => exact ⟨n, rfl⟩
          have hpl : (posL a).length ≤ 32 := by
            have : (posL a).length ≤ a.length := by unfold posL; exact Nat.le_trans (List.length_filter_le _ _) (by simp)
            have h2 := HL.out
            omega
          have hlen : (atoZ (posL a)).length = (posL a).length := by simp
          obtain ⟨M, hM⟩ : ∃ M, M = (posL a).length := ⟨_, rfl⟩
          have hlf : (finL n (posL a)).length = M := by rw [hM]; simp
          have hOz := O.out
          rw [hlen, ← hM] at hOz
          have eg : ∀ args w, (callFunc 127 args).run Tryz.prog w = .ok (.enter 127 args) w := enters_of Tryz.func127 (by kernel_rfl) rfl
          have hgs : g < wr.heap.size := (own_block O.out (g := g) rfl).2
          have hds : (finL n (posL a)).toArray.size = M := by simpa using hlf
          have hbg : b < g := by have := HS1.out; omega
          have hwg : w.heap.size ≤ g := by have := HWS.out; omega
          have hvz : ((finL n (posL a)).toArray.toList.map fun x : Fin (n + 1) => ((x.val : Nat) : Int)) = atoZ (posL a) := by
            have := congrArg (List.map fun (x : Nat) => (x : Int)) (finL_val (n := n) (os := posL a) (fun x hx => by have := (mem_posL.1 hx).1; omega))
            rw [List.map_map] at this
            exact this
          have hHo : Holds (encF n) wr g 0 (finL n (posL a)).toArray := fun j hj => by
            rw [hds] at hj
            have d := O.out.cell rfl j (by rw [hlen, ← hM]; exact hj)
            have fz := O.out.frozen rfl j
            rw [Nat.zero_add]
            refine ⟨d.trans ?_, fz⟩
            have e1 : (atoZ (posL a)).getD j 0 = (((finL n (posL a)).toArray[j]!).val : Int) := by
              rw [← hvz]
              have hj' : j < (posL a).length := by omega
              simp [List.getD_eq_getElem?_getD, hj']
            rw [e1]
          have hC : CmpReads Tryz.prog 127 #[.pointer (some ⟨b, 0, none⟩)] (encF n) (fun x y => cmpA a x.val y.val) g 0 (finL n (posL a)).toArray.size wr := fun m os dk hs x y => by
            have b1 := below_sort (enc := encF n) (m := m) HBW.out hwg HBW.out.size dk os
            have b2 := below_sort (enc := encF n) (m := m) (RowKit.Below.refl g wr) (Nat.le_refl g) (Nat.le_of_lt hgs) dk os
            have hx := x.isLt
            have hy := y.isLt
            have e := closure_any a A c b x.val y.val (by omega) (by omega) (by unfold maxLen; have := HL.out; omega) _ (H.out.below b1) (by rw [← HL.out]; exact (b2.cell (p := ⟨b, 0, none⟩) hbg).trans C2.out)
            exact e
          have T : Srt (encF n) (fun x y : Fin (n + 1) => cmpA a x.val y.val) 127 #[.pointer (some ⟨b, 0, none⟩)] g 0 (finL n (posL a)).toArray wr := ⟨⟨fun _ => rfl, hHo, hgs⟩, hC.lays, eg, by rw [hds]; omega⟩
          have hS := sortStable_any (R := fun x y : Fin (n + 1) => Rk a x.val y.val) (fun x y z h1 h2 => h1.trans h2) T cap M (finL n (posL a)) wr hds.symm hlf (by omega) (cr_ord hn) (SW.start hHo)
          have HS := Lib.hid hS
          have HO2 := Lib.hid (hOz.base HWS.out)
          have HHN := Lib.hid hn
          have HVZ := Lib.hid hvz
          have HDS := Lib.hid hds
          have HM := Lib.hid hM
          have HWG := Lib.hid hwg
          rw [hlen, ← hM]
          clear hpl hlen hM hlf hOz eg hgs hds hbg hwg hvz hHo hC T hS hn hz hgb hgl hlc hcm hcs htk O H HA C2
          go_wp2_with (go_at_call 126; refine HS.out.mono ?_; rintro e w' ⟨rfl, z, z1, z2, nn, os, rfl⟩)
          go_ret
          refine ⟨_, z.map Fin.val, rfl, sort_ord HHN.out z1 z2, ?_, below_sort HBW.out HWG.out HBW.out.size _ os⟩
          have hzl : z.length = (posL a).length := by have := z1.length_eq; simpa using this
          have := HO2.out.after_sort (m := nn) (by rw [HM.out]; simp) (fun x : Fin (n + 1) => ((x.val : Nat) : Int)) ([] ++ (z ++ [])).toArray (by simp [hzl]) os
          unfold atoZ
          rw [List.map_map]
          rw [List.nil_append, List.append_nil] at this
          exact this
end Go.Proofs.YtimkmieohkefiaaGreat

namespace Go.Proofs.YtimkmieohkefiaaGreat
open Go.RowKit Go.Lib Go.Shelf

/-- n cells, of which the first k hold v. -/
def fil (n : Nat) (v : Int) (k : Nat) : List Value := (List.replicate k v ++ List.replicate (n - k) 0).map (Value.int .i64)
def rep (v : Int) (k : Nat) : List Value := (List.replicate k v).map (Value.int .i64)
theorem rep_len (v : Int) (k : Nat) : (rep v k).length = k := by unfold rep; simp
theorem fil_len {n : Nat} {v : Int} {k : Nat} (h : k ≤ n) : (fil n v k).length = n := by unfold fil; simp; omega
theorem fil_splice {n : Nat} {v : Int} {k j : Nat} (h : k + j ≤ n) : splice (fil n v k) k (rep v j) = fil n v (k + j) := by
  unfold splice fil rep
  rw [← List.map_take, ← List.map_drop, ← List.map_append, ← List.map_append]
  congr 1
  have e1 : (List.replicate k v ++ List.replicate (n - k) 0).take k = List.replicate k v := by rw [List.take_append_of_le_length (by simp)]; simp
  have e2 : (List.replicate k v ++ List.replicate (n - k) (0 : Int)).drop (k + ((List.replicate j v).map (Value.int .i64)).length) = List.replicate (n - (k + j)) 0 := by
    rw [List.drop_append]; simp; omega
  rw [e1, e2, ← List.append_assoc, List.replicate_append_replicate]
theorem rep_cell (v : Int) {k j : Nat} {u : Value} (h : (rep v k)[j]? = some u) : u = .int .i64 v ∧ j < k := by
  unfold rep at h
  rw [List.getElem?_map, List.getElem?_replicate] at h
  split at h
  · rename_i g
    simp at h
    exact ⟨h.symm, g⟩
  · cases h
theorem rep_one (v : Int) (k : Nat) : ∀ u ∈ rep v k, u.oneCell' = true := fun u hu => by
  unfold rep at hu
  obtain ⟨x, _, rfl⟩ := List.mem_map.1 hu; rfl
theorem fil_cell {w : World} {g n k : Nat} {v : Int} {T : TypeId} (h : w.heap[g]? = some (.cells (fil n v k).toArray T (0, 0))) {j : Nat} (hj : j < k) (hk : k ≤ n) : w.cell? ⟨g, j, none⟩ = some (.int .i64 v) := by
  unfold World.cell?
  rw [h]
  have : (fil n v k)[j]? = some (.int .i64 v) := by
    unfold fil
    rw [List.getElem?_map, List.getElem?_append_left (by simpa using hj), List.getElem?_replicate, if_pos hj]; rfl
  simpa using this
theorem own_fil {w : World} {g n base : Nat} {v : Int} {T : TypeId} (h : w.heap[g]? = some (.cells (fil n v n).toArray T (0, 0))) (hb : base ≤ g) (hn : n ≤ 1000000) : Own .i64 T w base (.slice (some ⟨g, 0, none⟩) n n) (List.replicate n v) := by
  refine ⟨by simp, Or.inr ⟨g, n, _, by simp, hb, h, by simp, by unfold maxLen; omega, by simp [fil_len], ?_⟩⟩
  simp [fil, List.take_of_length_le]
theorem elemInt : Tryz.prog.elem 22 = 3 := by kernel_rfl
theorem sizeOf_of {T : TypeId} {n : Nat} (hi : (Tryz.prog.info? T).map (·.size) = some n) (W : World) : (sizeOf T).run Tryz.prog W = .ok n W := by
  cases hq : Tryz.prog.info? T with
  | none => rw [hq] at hi; cases hi
  | some i =>
    rw [hq] at hi
    have hs : i.size = n := by simpa using hi
    simp [sizeOf, typeInfo, hq, hs]
theorem sizeInt : (Tryz.prog.info? 3).map (·.size) = some 1 := by kernel_rfl
theorem slice_from (h n k : Nat) (W : World) (hk : k < n) (hn : n ≤ 1000000) : (Instr.slice 22 (.slice (some ⟨h, 0, none⟩) n n) (some (.int .i64 (k : Int))) none none).run Tryz.prog W = .ok (.slice (some ⟨h, k, none⟩) (n - k) (n - k)) W := by
  rw [run_slice_l W 22 (some ⟨h, 0, none⟩) n n (by rw [elemInt]; exact Tryz.underlying22) .i64 (k : Int) (by omega) (by omega), elemInt, sizeOf_of sizeInt W]
  simp [Result.andThen, sliced, add_own]
  intro e; omega
theorem slice_to (A : Option Addr) (L c k : Nat) (W : World) (hm : k ≤ c) : (Instr.slice 22 (.slice A L c) none (some (.int .i64 (k : Int))) none).run Tryz.prog W = .ok (.slice A k c) W := by
  rw [run_slice_h (P := Tryz.prog) W 22 A L c (by rw [elemInt]; exact Tryz.underlying22) .i64 (k : Int) (by omega) (by omega), elemInt, sizeOf_of sizeInt W]
  simp [Result.andThen, sliced]
  intro _; cases A <;> simp [Addr.add]
theorem ainfoIntS : (Tryz.prog.info? 3).map (·.size) = some 1 := by kernel_rfl
theorem step_fil {ops : Array Oper} {o : Oper} {a : Act} {W : World} {K : Act → World → Prop} {Q : Exit → Act → World → Prop} {E : Prop} (hgd : o.guard = none) (d s : Operand)
    (ho : o.op = .call { callee := .builtin .copy, args := #[d, s], argTypes := #[22, 22] }) (h n k j : Nat) (v : Int) (hd : a.eval d = .slice (some ⟨h, k, none⟩) (n - k) (n - k)) (hs : a.eval s = .slice (some ⟨h, 0, none⟩) k n)
    (hj : Hid (j = min k (n - k))) (hk : k ≤ n) (HW : Hid (W.heap[h]? = some (.cells (fil n v k).toArray 3 (0, 0)))) (t : Option Tmp) (ht : o.dst = t) (B : Nat) (w0 : World) (hb : Hid (Below B w0 W)) (hB : Hid (B ≤ h))
    (H : ∀ w', Hid (w'.heap[h]? = some (.cells (fil n v (k + j)).toArray 3 (0, 0))) → Hid (Below B w0 w') → K (a.put t (.int .i64 (j : Int))) w') : if Region.wanted o (yielded ops a.tmps) = true then Oper.wp Tryz.prog o a W K Q else E := by
  have hj := hj.out
  subst ht
  refine step_copy_splice hgd d s 22 22 ho 3 Tryz.underlying22 ainfoIntS (some ⟨h, k, none⟩) (some ⟨h, 0, none⟩) (n - k) (n - k) k n hd hs h k (fil n v k) 3 HW.out (rep v j) ((rep_len v j).trans hj) (fun _ => ⟨rfl, _, rfl, fun i u hu => ?_⟩) (by rw [rep_len, fil_len hk]; omega) (rep_one v j) B w0 hb.out hB.out ?_
  · obtain ⟨rfl, hi⟩ := rep_cell v hu
    rw [add_own]
    exact fil_cell HW.out (by omega) hk
  · intro w' h1 h2
    rw [fil_splice (by omega)] at h1
    rw [rep_len]
    exact H w' h1 (Lib.hid h2)
def TrueA (_ : World) : Prop := True
def tlNo (_ : Nat) : Bool := false
theorem TrueA.i (w : World) : TrueA w := trivial
set_option maxRecDepth 100000 in
set_option maxHeartbeats 3200000 in
theorem repeat_any (v : Int) (n g0 : Nat) (hn : n ≤ 1000) (w : World) (hc : w.cell? ⟨g0, 0, none⟩ = some (.int .i64 v)) :
    Calls Tryz.prog 81 #[.slice (some ⟨g0, 0, none⟩) 1 1, .int .i64 (n : Int)] w fun e w' => ∃ g, e = .returned (.slice (some ⟨g, 0, none⟩) n n) ∧ Own .i64 3 w' w.heap.size (.slice (some ⟨g, 0, none⟩) n n) (List.replicate n v) ∧ Below w.heap.size w w' := by
  have hcm := fun W => Any.bits_Mul mulL 1 n (by omega) (by omega) W
  change ∀ W, Calls Tryz.prog 125 _ _ _ at hcm
  have e1 : 1 * n / 18446744073709551616 = 0 := by rw [Nat.one_mul]; exact Nat.div_eq_of_lt (by omega)
  have e2 : 1 * n % 18446744073709551616 = n := by rw [Nat.one_mul]; exact Nat.mod_eq_of_lt (by omega)
  rw [e1, e2] at hcm
  have HM := Lib.hid hcm
  have hsz := lt_of_cell hc
  clear e1 e2 hcm
  have mk := make_intsA w n hn
  have H0 : (w.alloc (.cells ((List.replicate n 0).map (Value.int .i64)).toArray 3)).heap[w.heap.size]? = some (.cells (fil n v 0).toArray 3 (0, 0)) := by
    have : fil n v 0 = (List.replicate n 0).map (Value.int .i64) := by unfold fil; simp
    rw [this]
    exact heap_alloc_new w _
  have B0 := (Below.refl w.heap.size w).alloc (Nat.le_refl _) (.cells ((List.replicate n 0).map (Value.int .i64)).toArray 3)
  have C0 := ((B0.cell (p := ⟨g0, 0, none⟩) hsz).trans hc)
  have HSZ := Lib.hid (Nat.le_refl w.heap.size)
  obtain ⟨CA, hCA⟩ : ∃ CA, CA = ((List.replicate n 0).map (Value.int .i64)).toArray := ⟨_, rfl⟩
  rw [← hCA] at mk B0 H0 C0
  have C0 := Lib.hid C0
  have HB0 := Lib.hid B0
  have HH0 := Lib.hid H0
  clear hCA B0 H0
  have hsi : (Tryz.prog.info? 3).map (·.size) = some 1 := by kernel_rfl
  clear hc
  have d1 : decide ((9223372036854775807 : Int) < (n : Int)) = false := decide_eq_false (by omega)
  have d2 : decide ((n : Int) < 0) = false := decide_eq_false (by omega)
  go_enter Tryz.func81, Tryz.ntmps81
  go_wp2_with fail
  refine (HM.out _).mono ?_
  rintro e w1 ⟨rfl, rfl⟩
  clear HM
  go_upto_region 7 with fail
  clear mk
  obtain ⟨h, hh⟩ : ∃ h, h = w1.heap.size := ⟨_, rfl⟩
  rw [← hh] at HH0 ⊢
  have HG := Lib.hid (show w1.heap.size ≤ h by rw [hh]; exact Nat.le_refl _)
  generalize w1.alloc (.cells CA 3) = w2 at *
  clear hh HSZ hsz
  obtain ⟨k0, hk0⟩ : ∃ k, k = min 1 n := ⟨_, rfl⟩
  have hk0n : k0 ≤ n := by omega
  have HK0 := Lib.hid hk0
  have HP0 := Lib.hid (show 0 < k0 ∨ n = 0 by omega)
  have HRL := Lib.hid (rep_len v k0)
  obtain ⟨C1, hC1⟩ : ∃ C, C = rep v k0 := ⟨_, rfl⟩
  have HC1 := Lib.hid hC1
  rw [← hC1] at HRL
  have HSP := Lib.hid (show splice (fil n v 0) 0 C1 = fil n v k0 by rw [hC1]; have := fil_splice (n := n) (v := v) (k := 0) (j := k0) (by omega); simpa using this)
  clear hk0 hC1
  go_wp2_with (first | (skip; (refine wpList_copy_splice rfl (.tmp 31) (.tmp 32) 22 22 rfl 3 Tryz.underlying22 hsi (some ⟨h, 0, none⟩) (some ⟨g0, 0, none⟩) n n 1 1 rfl rfl h 0 (fil n v 0) 3 HH0.out C1 (HRL.out.trans HK0.out) (fun _ => ⟨rfl, _, rfl, fun j u hu => by rw [HC1.out] at hu; obtain ⟨rfl, hj⟩ := rep_cell v hu; obtain rfl : j = 0 := (by have := HK0.out; omega); exact C0.out⟩) (by rw [HRL.out, fil_len (Nat.zero_le _)]; omega) (fun u hu => rep_one v k0 u (by rw [← HC1.out]; exact hu)) w1.heap.size w1 HB0.out HG.out ?_); intro w3 HW3 hB3; have HB3 := Lib.hid hB3; clear hB3))
  rw [HRL.out]
  rw [HSP.out] at HW3
  clear HSP HC1 HRL HK0 HH0 HB0 C0
  go_loopw [8] (fun iv wr => ∃ k : Nat, k ≤ n ∧ iv = .int .i64 (k : Int) ∧ Hid (0 < k ∨ n = 0) ∧ Hid (wr.heap[h]? = some (.cells (fil n v k).toArray 3 (0, 0))) ∧ Hid (Below w1.heap.size w1 wr)) (fun iv _ => n - (intOf iv).toNat)
  case atStart => exact ⟨k0, hk0n, rfl, HP0, HW3, HB3⟩
  case round =>
    clear HP0 HW3 HB3
    obtain ⟨k, hk, rfl, HP, HW, HB⟩ := hrel
    by_cases hlt : k < n
    · have hltz : (k : Int) < (n : Int) := by omega
      have hk1 : 0 < k := by have := HP.out; omega
      obtain ⟨j, hj⟩ : ∃ j, j = min k (n - k) := ⟨_, rfl⟩
      have HJE := Lib.hid hj
      have hj1 : 0 < j := by omega
      have hjk : j ≤ k ∧ k + j ≤ n := by omega
      obtain ⟨hjk1, hjk2⟩ := hjk
      have HWD := Lib.hid (show wr.drew.heap[h]? = some (.cells (fil n v k).toArray 3 (0, 0)) from HW.out)
      have HBD := Lib.hid HB.out.drew
      clear hj
      go_upto_region 9 with fail
      have hs1 := fun W => slice_from h n k W hlt (by omega)
      have hs2 := fun W => slice_to (some ⟨h, 0, none⟩) n n k W hk
      have hkj : IntKind.i64.wrap ((k : Int) + (j : Int)) = (k : Int) + (j : Int) := IntWalk.i64_in _ (by omega)
      obtain ⟨q0, e0⟩ : ∃ q, q = wr.drew := ⟨_, rfl⟩
      rw [← e0] at HWD HBD
      have HE0 := Lib.hid e0
      clear e0
      refine AnyT.begin_at tlNo TrueA (by kernel_rfl) HE0.out (TrueA.i _) ?_
      intro F0
-- TAKES A1
      refine AnyT.takeD (i := 0) (d := some 38) (v := .int .i64 (k : Int)) rfl rfl (by kernel_rfl) (by kernel_rfl) (by kernel_rfl) (by kernel_rfl) (fun _ _ _ h => h) (Or.inl ⟨by rfl, fun wz _ => by go_simp⟩) F0 ?_
      simp only [Act.put, List.setIfInBounds_toArray, List.set_cons_zero, List.set_cons_succ]
      refine AnyT.takeD (i := 1) (d := some 39) (v := .slice (some ⟨h, 0, none⟩) n n) rfl rfl (by kernel_rfl) (by kernel_rfl) (by kernel_rfl) (by kernel_rfl) (fun _ _ _ h => h) (Or.inl ⟨by rfl, fun wz _ => by go_simp⟩) F0 ?_
      simp only [Act.put, List.setIfInBounds_toArray, List.set_cons_zero, List.set_cons_succ]
      refine AnyT.takeD (i := 2) (d := some 40) (v := .int .i64 (k : Int)) rfl rfl (by kernel_rfl) (by kernel_rfl) (by kernel_rfl) (by kernel_rfl) (fun _ _ _ h => h) (Or.inl ⟨by rfl, fun wz _ => by go_simp⟩) F0 ?_
      simp only [Act.put, List.setIfInBounds_toArray, List.set_cons_zero, List.set_cons_succ]
      refine AnyT.takeD (i := 3) (d := some 41) (v := .slice (some ⟨h, k, none⟩) (n - k) (n - k)) rfl rfl (by kernel_rfl) (by kernel_rfl) (by kernel_rfl) (by kernel_rfl) (fun _ _ _ h => h) (Or.inl ⟨by rfl, fun wz _ => by go_simp⟩) F0 ?_
      simp only [Act.put, List.setIfInBounds_toArray, List.set_cons_zero, List.set_cons_succ]
      refine AnyT.takeD (i := 4) (d := some 42) (v := .slice (some ⟨h, 0, none⟩) n n) rfl rfl (by kernel_rfl) (by kernel_rfl) (by kernel_rfl) (by kernel_rfl) (fun _ _ _ h => h) (Or.inl ⟨by rfl, fun wz _ => by go_simp⟩) F0 ?_
      simp only [Act.put, List.setIfInBounds_toArray, List.set_cons_zero, List.set_cons_succ]
      refine AnyT.takeD (i := 5) (d := some 43) (v := .int .i64 (k : Int)) rfl rfl (by kernel_rfl) (by kernel_rfl) (by kernel_rfl) (by kernel_rfl) (fun _ _ _ h => h) (Or.inl ⟨by rfl, fun wz _ => by go_simp⟩) F0 ?_
      simp only [Act.put, List.setIfInBounds_toArray, List.set_cons_zero, List.set_cons_succ]
      refine AnyT.takeD (i := 6) (d := some 44) (v := .slice (some ⟨h, 0, none⟩) k n) rfl rfl (by kernel_rfl) (by kernel_rfl) (by kernel_rfl) (by kernel_rfl) (fun _ _ _ h => h) (Or.inl ⟨by rfl, fun wz _ => by go_simp⟩) F0 ?_
      simp only [Act.put, List.setIfInBounds_toArray, List.set_cons_zero, List.set_cons_succ]
-- TAKEN A1
      refine AnyT.branch (rs := [7]) (by kernel_rfl) (by simp) ?_
      refine all_cons ?_ all_nil
      refine AnyT.step (i := 7) rfl (fun KK hK => ?_)
      refine step_fil rfl (.tmp 41) (.tmp 44) rfl h n k j v rfl rfl HJE hk HWD (some 45) rfl w1.heap.size w1 HBD HG ?_
      intro w4 HW4 HB4
      have F1 := TrueA.i w4
      refine hK.out _ _ (fun _ => F1) ?_
      simp only [Act.put, List.setIfInBounds_toArray, List.set_cons_zero, List.set_cons_succ]
-- TAKES A2
      refine AnyT.takeD (i := 8) (d := some 46) (v := .int .i64 ((k : Int) + (j : Int))) rfl rfl (by kernel_rfl) (by kernel_rfl) (by kernel_rfl) (by kernel_rfl) (fun _ _ _ h => h) (Or.inl ⟨by rfl, fun wz _ => by go_simp⟩) F1 ?_
      simp only [Act.put, List.setIfInBounds_toArray, List.set_cons_zero, List.set_cons_succ]
      refine AnyT.takeD (i := 9) (d := some 8) (v := .int .i64 ((k : Int) + (j : Int))) rfl rfl (by kernel_rfl) (by kernel_rfl) (by kernel_rfl) (by kernel_rfl) (fun _ _ _ h => h) (Or.inl ⟨by rfl, fun wz _ => by go_simp⟩) F1 ?_
      simp only [Act.put, List.setIfInBounds_toArray, List.set_cons_zero, List.set_cons_succ]
-- TAKEN A2
      refine AnyT.done_ (by kernel_rfl) ?_ _
      go_wp2_with fail
      go_roundw
      case rel => exact ⟨k + j, hjk2, by go_num, Lib.hid (Or.inl (by omega)), HW4, HB4⟩
      case measure => simp [intOf]; omega
    · obtain rfl : k = n := by omega
      have HO := Lib.hid (own_fil HW.out HG.out (by omega))
      clear HW HP
      go_wp2_with fail
      go_ret
      exact ⟨h, rfl, HO.out, HB.out⟩
end Go.Proofs.YtimkmieohkefiaaGreat

namespace Go.Proofs.YtimkmieohkefiaaGreat
open Go.RowKit Go.Maps Go.Sort Go.Shelf

set_option maxRecDepth 100000 in
set_option maxHeartbeats 1000000 in
/-- Handing a list over: whatever the caller keeps between rounds, so long as it leaves what lay before as it was. -/
theorem values1_any (l Bs : Nat) (A : Option Addr) (c L : Nat) (zs : List Int) (hL : zs.length = L) (hm : L ≤ 1000000) (w0 : World) (hc : w0.cell? ⟨Bs, 0, none⟩ = some (.slice A L c)) (hr : Row .i64 w0 w0.heap.size A zs) (J : List Int → World → Prop)
    (hB : ∀ pre W, J pre W → Below w0.heap.size w0 W)
    (hY : ∀ pre x W, J pre W → pre.length < L → YieldAt Fence.wide 1 Tryz.prog l #[encZ x] W fun e W' => e = .returned (.bool true) ∧ J (pre ++ [x]) W' ∧ KeepsWalks W W')
    (W : World) (h0 : J [] W) :
    CallsIn Fence.wide 2 Tryz.prog 130 #[.func (.yield l) #[] #[], .pointer (some ⟨Bs, 0, none⟩)] W fun e W' => (∃ v, e = .returned v) ∧ J zs W' := by
  have HC := Lib.hid hc
  have HR := Lib.hid hr
  have HB := Lib.hid hB
  have HY := Lib.hid hY
  have HL := Lib.hid hL
  have hlt0 := lt_of_cell hc
  have hcW : W.cell? ⟨Bs, 0, none⟩ = some (.slice A L c) := ((hB [] W h0).cell (p := ⟨Bs, 0, none⟩) hlt0).trans hc
  have HJ := Lib.hid h0
  clear hc hr hB hY hL h0
  have h40 : Fence.wide.fn 130 := trivial
  refine callsIn_of_wp Tryz.func130 rfl trivial ?_ rfl
  simp only [Tryz.ntmps130, List.size_toArray, List.length_cons, List.length_nil, Nat.reduceAdd, Nat.reduceSub, Array.replicate_succ, Array.replicate_zero, List.push_toArray, List.append_toArray, List.nil_append, List.cons_append]
  gi_wp2
  gi_loopw [7] (fun iv wr => ∃ k : Nat, k ≤ L ∧ iv = .int .i64 (k : Int) ∧ Hid (J (zs.take k) wr)) (fun iv _ => L - (intOf iv).toNat)
  case atStart => exact ⟨0, by omega, rfl, HJ⟩
  case round =>
    clear HJ hcW
    obtain ⟨k, hk, rfl, J0⟩ := hrel
    by_cases hlt : k < L
    · obtain ⟨ad, rfl, hb, c1⟩ := HR.out k (by rw [HL.out]; exact hlt)
      have c2 : wr.cell? (ad.add k) = some (.int .i64 (zs.getD k 0)) := ((HB.out _ _ J0.out).cell (by rw [add_block]; exact hb)).trans c1
      obtain ⟨x, hx⟩ : ∃ x, x = zs.getD k 0 := ⟨_, rfl⟩
      rw [← hx] at c2
      have HT := Lib.hid (show zs.take (k + 1) = zs.take k ++ [x] by
        rw [List.take_succ_eq_append_getElem (by rw [HL.out]; exact hlt), hx, List.getD_eq_getElem?_getD, List.getElem?_eq_getElem (by rw [HL.out]; exact hlt)]; rfl)
      obtain ⟨fn, tmps, assign, body, hy, hR⟩ := HY.out (zs.take k) x wr J0.out (by rw [List.length_take]; have := HL.out; omega)
      have hltz : (k : Int) < (L : Int) := by omega
      clear c1 hx
      gi_wp2
      refine hR.mono ?_
      rintro e W3 ⟨rfl, hJ3, hk3⟩
      rw [← HT.out] at hJ3
      have J3 := Lib.hid hJ3
      clear hJ3 hk3 c2 hy hR
      gi_wp2
      go_roundw
      case rel => exact ⟨k + 1, by omega, by go_num, J3⟩
      case measure => simp [intOf]; omega
    · obtain rfl : k = L := by omega
      have hltz : ¬ (k : Int) < (k : Int) := by omega
      have HF := Lib.hid (show J zs wr from by have := J0.out; rw [← HL.out, List.take_length] at this; exact this)
      gi_wp2
      go_end0
      exact ⟨⟨_, rfl⟩, HF.out⟩
set_option maxRecDepth 100000 in
set_option maxHeartbeats 2000000 in
/-- .. gathered into a list of the call's own. -/
theorem gather_any (Bs : Nat) (A : Option Addr) (c L : Nat) (zs : List Int) (hL : zs.length = L) (hm : L ≤ 1000000) (w : World) (hc : w.cell? ⟨Bs, 0, none⟩ = some (.slice A L c)) (hr : Row .i64 w w.heap.size A zs) :
    CallsIn Fence.wide 3 Tryz.prog 155 #[.slice none 0 0, .func (.func 130) #[] #[.pointer (some ⟨Bs, 0, none⟩)]] w fun e w' => ∃ v, e = .returned v ∧ Own .i64 3 w' w.heap.size v zs ∧ Below w.heap.size w w' := by
  have HC := Lib.hid hc
  have HR := Lib.hid hr
  have HL := Lib.hid hL
  have Ly : SlLaysZI.n11 Tryz.prog sortedL_ren := { sortedL with }
  have HLY := Lib.hid Ly
  have eg : ∀ args w, (callFunc 130 args).run Tryz.prog w = .ok (.enter 130 args) w := enters_of Tryz.func130 (by kernel_rfl) rfl
  have u0 := run_underlying Ly.t0; have u24 := run_underlying Ly.t24; have u26 := run_underlying Ly.t26; have u28 := run_underlying Ly.t28
  have t0 := Ly.t0; have a0 := Ly.a0; have z0 := Ly.z0; have v0 := Ly.v0; have t24 := Ly.t24; have a24 := Ly.a24; have z24 := Ly.z24; have v24 := Ly.v24; have t26 := Ly.t26; have a26 := Ly.a26; have z26 := Ly.z26; have v26 := Ly.v26
  have h11 : Fence.wide.fn (sortedL_ren.f 11) := trivial
  obtain ⟨_, _, FG⟩ := Ly.f11
  clear hc hr hL Ly
  have e45 : sortedL_ren.f 11 = 155 := rfl
  rw [← e45]
  refine callsIn_of_wp_marks FG rfl h11 ?_ rfl
  simp only [SlBodyZ.n11_ntmps sortedL_ren, List.size_toArray, List.length_cons, List.length_nil, Nat.reduceAdd, Nat.reduceSub, Array.replicate_succ, Array.replicate_zero, List.push_toArray, List.append_toArray, List.nil_append, List.cons_append]
  gi_wp2
  refine wpIn_rangeFunc ?_
  intro fn hfn
  obtain ⟨sv, hsv⟩ : ∃ s, s = Value.func (.func 130) #[] #[.pointer (some ⟨Bs, 0, none⟩)] := ⟨_, rfl⟩
  obtain ⟨W0, hW0⟩ : ∃ W0, w.alloc (.cells #[.slice none 0 0] (sortedL_ren.t 24)) = W0 := ⟨_, rfl⟩
  have hs0 : W0.heap.size = w.heap.size + 1 := by rw [← hW0]; simp
  have hv0 : W0.heap[w.heap.size]? = some (.cells #[.slice none 0 0] (sortedL_ren.t 24) (0, 0)) := by rw [← hW0]; exact World.alloc_heap_new w _
  have hb0 : Below w.heap.size w W0 := by rw [← hW0]; exact (Below.refl _ w).alloc (Nat.le_refl _) _
  rw [hW0]
  obtain ⟨W1, hW1⟩ : ∃ W1, (W0.alloc (.deferred (some []))).alloc (.loop (AnyZI.apRec sortedL_ren fn sv w.heap.size W0.heap.size .ready none)) = W1 := ⟨_, rfl⟩
  have hold : ∀ k, k < W0.heap.size → W1.heap[k]? = W0.heap[k]? := fun k hk => by
    rw [← hW1]; exact (Below.heap_alloc _ _ k (by simp; omega)).trans (Below.heap_alloc _ _ k hk)
  have hb1 : Below w.heap.size w W1 := by rw [← hW1]; exact (hb0.alloc hb0.size _).alloc (by have := hb0.size; simp; omega) _
  have hM : AnyZI.ApAt sortedL_ren w fn sv w.heap.size (W0.heap.size + 1) W0.heap.size [] W1 :=
    ⟨⟨_, (hold w.heap.size (by omega)).trans hv0, ⟨rfl, .inl ⟨rfl, rfl⟩⟩, by simp⟩,
     by rw [← hW1]; have := World.alloc_heap_new (W0.alloc (.deferred (some []))) (.loop (AnyZI.apRec sortedL_ren fn sv w.heap.size W0.heap.size .ready none)); rwa [World.size_alloc] at this,
     by rw [← hW1]; exact (Below.heap_alloc _ _ _ (by simp)).trans (World.alloc_heap_new W0 _), hb1⟩
  rw [hsv] at hW1
  refine ⟨W0.heap.size + 1, [{ target := .collected W0.heap.size, args := #[] }], W1, { target := .fn (.func 130) #[.pointer (some ⟨Bs, 0, none⟩)], args := #[.func (.yield (W0.heap.size + 1)) #[] #[]] }, W1, 130,
    #[.func (.yield (W0.heap.size + 1)) #[] #[]] ++ #[.pointer (some ⟨Bs, 0, none⟩)], W1, ?_, ?_, ?_, ?_, fun _ => by omega, ?_⟩
  · rw [← hW1]; exact run_enterLoop_outer _ _ _ _ _
  · simp [resolve, go_sem]
  · intro f' hf'; exact trivial
  · simp [invoke, go_sem, eg]
  · have hv := values1_any (W0.heap.size + 1) Bs A c L zs HL.out hm w HC.out HR.out (AnyZI.ApAt sortedL_ren w fn sv w.heap.size (W0.heap.size + 1) W0.heap.size) (fun pre W h => h.below)
      (fun pre x W hJ hl => AnyZI.apYield HLY.out Fence.wide 1 w fn hfn sv w.heap.size (W0.heap.size + 1) W0.heap.size (by omega) (by omega) (by omega) (Nat.le_refl _) (by omega) L (by unfold maxLen; omega) (by omega) pre x W hJ hl) W1 hM
    refine hv.mono ?_
    rintro e W2 ⟨⟨v0, rfl⟩, h2⟩
    obtain ⟨v, hv, hrow, hnil⟩ := h2.box
    have hend := run_endLoop (P := Tryz.prog) h2.L (by simp [AnyZI.apRec])
    obtain ⟨W3, hW3⟩ : ∃ W3, W2.putObj (W0.heap.size + 1) (.loop { AnyZI.apRec sortedL_ren fn sv w.heap.size W0.heap.size .ready none with state := .exhausted }) = W3 := ⟨_, rfl⟩
    rw [hW3] at hend
    have hne : sortedL_ren.t 24 ≠ sortedL_ren.t 26 := by decide
    have hg3 : W2.grownBy W3 (some (W0.heap.size + 1)) := by rw [← hW3]; exact grownBy_putObj_a _ _ _
    have hv3 : W3.heap[w.heap.size]? = some (.cells #[v] (sortedL_ren.t 24) (0, 0)) := by rw [← hW3]; exact (World.putObj_heap_other (by omega)).trans hv
    have hK3 : W3.heap[W0.heap.size]? = some (.deferred (some [])) := by rw [← hW3]; exact (World.putObj_heap_other (by omega)).trans h2.K
    have hrow3 := hrow.kept hg3 (ownsRow_ne_a hrow h2.L (fun cur e => by first | cases e | exact hne (Obj.cells.inj e).2.1))
    have hb3 : Below w.heap.size w W3 := h2.below.grown hg3 h2.below.size (fun k e => by cases e; omega)
    obtain ⟨hc3, hf3⟩ := cell_of_box_a hv3
    clear hW3
    refine ⟨none, W3, hend, ?_⟩
    gi_wp2
    rw [← hs0]
    refine ⟨by simp, .inl ⟨_, _, rfl, run_takeDeferred hK3, ?_⟩⟩
    exact ⟨_, results_tmp rfl _ _ _, v, rfl, hrow3.kept (grownBy_putObj_a _ _ _) (ownsRow_ne_a hrow3 hK3 (fun cur e => by first | cases e | exact hne (Obj.cells.inj e).2.1)), hb3.grown (grownBy_putObj_a _ _ _) hb3.size (fun k e => by cases e; omega)⟩
end Go.Proofs.YtimkmieohkefiaaGreat

namespace Go.Proofs.YtimkmieohkefiaaGreat
open Go.RowKit Go.Maps Go.Sort Go.Shelf

abbrev srt (zs : List Int) : List Int := zs.mergeSort fun x y => decide (x ≤ y)
def OwnPost (zs : List Int) (w : World) (e : Ending) (w' : World) : Prop := ∃ v, e = .returned v ∧ Own .i64 3 w' w.heap.size v zs ∧ Below w.heap.size w w'
theorem values_any (A : Option Addr) (c L : Nat) (w : World) : Calls Tryz.prog 85 #[.slice A L c] w fun e w' => e = .returned (.func (.func 130) #[] #[.pointer (some ⟨w.heap.size, 0, none⟩)]) ∧ w' = w.alloc (.cells #[.slice A L c] 22) := by
  go_enter Tryz.func85, Tryz.ntmps85
  go_wp2_with fail
  go_ret
  exact ⟨rfl, rfl⟩
theorem collect_any (Bs : Nat) (A : Option Addr) (c L : Nat) (zs : List Int) (hL : zs.length = L) (hm : L ≤ 1000000) (w : World) (hc : w.cell? ⟨Bs, 0, none⟩ = some (.slice A L c)) (hr : Row .i64 w w.heap.size A zs) :
    Calls Tryz.prog 128 #[.func (.func 130) #[] #[.pointer (some ⟨Bs, 0, none⟩)]] w (OwnPost zs w) := by
  have HG := Lib.hid (callsIn_wide.1 (gather_any Bs A c L zs hL hm w hc hr))
  clear hL hc hr
  go_enter Tryz.func128, Tryz.ntmps128
  go_wp2_with fail
  refine HG.out.mono ?_
  rintro e w1 ⟨v, rfl, O, B⟩
  have HO := Lib.hid O
  have HB := Lib.hid B
  clear O B HG
  go_wp2_with fail
  go_ret
  exact ⟨v, rfl, HO.out, HB.out⟩
theorem sortI_any (base : Nat) (v : Value) (zs : List Int) (w : World) (hm : zs.length ≤ 1000000) (O : Own .i64 3 w base v zs) :
    Calls Tryz.prog 129 #[v] w fun e w' => e = .returned (.tuple #[]) ∧ Own .i64 3 w' base v (srt zs) ∧ w.grownBy w' v.ownBlock := by
  rcases O.2 with ⟨rfl, hz⟩ | ⟨gb, cap, cur, rfl, hbase, hgb, r1, r2, r3, r4⟩
  · obtain rfl : zs = [] := List.eq_nil_of_length_eq_zero hz
    have h := Any.slices_Sort_int_none sortI none 0 w
    change Calls Tryz.prog 129 _ _ _ at h
    refine h.mono ?_
    rintro e w' ⟨rfl, rfl⟩
    exact ⟨rfl, by simpa using O, World.grownBy.refl _ _⟩
  · have hH : Holds (Value.int .i64) w gb 0 zs.toArray := holds_of_block_i hgb (by simpa using r4)
    have hgl : gb < w.heap.size := (Array.getElem?_eq_some_iff.1 hgb).1
    have h := Any.slices_Sort_int sortI gb 0 cap zs w hH hgl (by omega)
    change Calls Tryz.prog 129 _ _ _ at h
    refine h.mono ?_
    rintro e w' ⟨rfl, nn, os, rfl⟩
    refine ⟨rfl, ?_, grownBy_sorted_i _⟩
    unfold Own
    rw [show (srt zs).length = zs.length by simp]
    exact ownsRow_sorted_i (by simp) hbase hgb r1 r2 r3
theorem asorted_any (Bs : Nat) (A : Option Addr) (c L : Nat) (zs : List Int) (hL : zs.length = L) (hm : L ≤ 1000000) (w : World) (hc : w.cell? ⟨Bs, 0, none⟩ = some (.slice A L c)) (hr : Row .i64 w w.heap.size A zs) :
    Calls Tryz.prog 84 #[.func (.func 130) #[] #[.pointer (some ⟨Bs, 0, none⟩)]] w (OwnPost (srt zs) w) := by
  have HG := Lib.hid (collect_any Bs A c L zs hL hm w hc hr)
  have HL := Lib.hid (show zs.length ≤ 1000000 by omega)
  clear hL hc hr
  go_enter Tryz.func84, Tryz.ntmps84
  go_wp2_with fail
  refine HG.out.mono ?_
  rintro e w1 ⟨v, rfl, O, B⟩
  have HO := Lib.hid O
  have HB := Lib.hid B
  clear O B HG
  go_wp2_with fail
  refine (sortI_any w.heap.size v zs w1 HL.out HO.out).mono ?_
  rintro e w2 ⟨rfl, O2, G2⟩
  have HO2 := Lib.hid O2
  have HB2 := Lib.hid (HB.out.grown G2 HB.out.size (fun j hj => (own_block HO.out hj).1))
  clear O2 G2
  go_wp2_with fail
  go_ret
  exact ⟨v, rfl, HO2.out, HB2.out⟩
end Go.Proofs.YtimkmieohkefiaaGreat

namespace Go.Proofs.YtimkmieohkefiaaGreat
open Go.RowKit Go.Lib

theorem asetCell_grown (w : World) (p : Addr) (u : Value) : w.grownBy (w.setCell p u) (some p.block) :=
  ⟨rfl, rfl, rfl, by rw [World.size_setCell]; exact Nat.le_refl _, fun j hj hn => Below.heap_setCell _ _ _ _ (fun e => hn (by rw [e]))⟩
theorem Own.setNA {k : IntKind} {e : TypeId} {W : World} {base : Nat} {v : Value} {zs : List Int} (h : Own k e W base v zs) {p : Addr} (hp : ∀ g, v.ownBlock = some g → g ≠ p.block) (u : Value) : Own k e (W.setCell p u) base v zs := by
  refine h.kept (asetCell_grown W p u) ?_
  cases hq : v.ownBlock with
  | none => exact Or.inl rfl
  | some g => exact Or.inr (fun e => hp g hq (by injection e))
theorem ABSet.setNA {W : World} {b : Nat} {bs : List Bool} (h : ABSet W b bs) {p : Addr} (hp : b ≠ p.block) (u : Value) : ABSet (W.setCell p u) b bs :=
  ((asetCell_grown W p u).block b h.lt (fun e => hp (by injection e))).trans h
/-- The indexes of a refusal. -/
def refN (a : List Int) (os : List Nat) (n : Nat) : List Nat := (List.range a.length).filter fun x => (os.take (n + 1)).contains x
def refL (a : List Int) (os : List Nat) (n : Nat) : List Int := atoZ (refN a os n)
def MOut (a b : List Int) (os : List Nat) (l r : List Int) (e : Int) : Prop :=
  (valR a b ≠ 0 ∧ l = [] ∧ r = [] ∧ e = valR a b) ∨ (valR a b = 0 ∧ OkTo a b os os.length ∧ l = (stM a b os os.length).2 ∧ r = [] ∧ e = 0) ∨ (valR a b = 0 ∧ ∃ n, n < os.length ∧ OkTo a b os n ∧ yM a b os n = -1 ∧ l = [] ∧ r = refL a os n ∧ e = 14)
theorem MOut.uniq {a b : List Int} {os : List Nat} {l r l' r' : List Int} {e e' : Int} (h : MOut a b os l r e) (h' : MOut a b os l' r' e') : l = l' ∧ r = r' ∧ e = e' := by
  rcases h with ⟨h1, rfl, rfl, rfl⟩ | ⟨h1, ok, rfl, rfl, rfl⟩ | ⟨h1, n, hn, ok, bad, rfl, rfl, rfl⟩ <;> rcases h' with ⟨g1, rfl, rfl, rfl⟩ | ⟨g1, ok', rfl, rfl, rfl⟩ | ⟨g1, n', hn', ok', bad', rfl, rfl, rfl⟩
  · exact ⟨rfl, rfl, rfl⟩
  · exact absurd g1 h1
  · exact absurd g1 h1
  · exact absurd h1 g1
  · exact ⟨rfl, rfl, rfl⟩
  · exact absurd bad' (ok n' hn')
  · exact absurd h1 g1
  · exact absurd bad (ok' n hn)
  · have : n = n' := by
      rcases Nat.lt_trichotomy n n' with g | g | g
      · exact absurd bad (ok' n g)
      · exact g
      · exact absurd bad' (ok n' g)
    subst this
    exact ⟨rfl, rfl, rfl⟩
theorem mem_refN {a : List Int} {os : List Nat} {n x : Nat} : x ∈ refN a os n ↔ x < a.length ∧ x ∈ os.take (n + 1) := by unfold refN; simp
theorem refN_perm {a : List Int} {os : List Nat} (O : IsOrd a os) (n : Nat) : (refN a os n).Perm (os.take (n + 1)) := by
  refine (List.perm_ext_iff_of_nodup ?_ ?_).2 fun x => ?_
  · exact List.Pairwise.filter _ List.nodup_range
  · exact List.Pairwise.sublist (List.take_sublist _ _) O.nodup
  · rw [mem_refN]
    exact ⟨fun h => h.2, fun h => ⟨(O.mem.1 (List.mem_of_mem_take h)).1, h⟩⟩
theorem srt_take {a : List Int} {os : List Nat} (O : IsOrd a os) (n : Nat) : srt (atoZ (os.take (n + 1))) = refL a os n := by
  have h1 : (srt (atoZ (os.take (n + 1)))).Pairwise (fun x y => x ≤ y) := by
    have := List.pairwise_mergeSort (le := fun x y : Int => decide (x ≤ y)) (fun x y z h1 h2 => decide_eq_true (Int.le_trans (of_decide_eq_true h1) (of_decide_eq_true h2))) (fun x y => by rcases Int.le_total x y with h | h <;> simp [h]) (atoZ (os.take (n + 1)))
    exact this.imp fun h => of_decide_eq_true h
  have h2 : (refL a os n).Pairwise (fun x y => x ≤ y) := by
    unfold refL atoZ refN
    rw [List.pairwise_map]
    exact List.Pairwise.filter _ (List.pairwise_lt_range.imp fun h => by omega)
  refine List.Perm.eq_of_pairwise (fun x y _ _ h3 h4 => Int.le_antisymm h3 h4) h1 h2 ?_
  refine (List.mergeSort_perm _ _).trans ?_
  exact ((refN_perm O n).map _).symm
def MatPost (a b : List Int) (w : World) (e : Ending) (w' : World) : Prop :=
  ∃ os vl vr l r er, e = .returned (.tuple #[vl, vr, .int .i64 er]) ∧ IsOrd a os ∧ MOut a b os l r er ∧ Own .i64 3 w' w.heap.size vl l ∧ Own .i64 3 w' w.heap.size vr r ∧ Below w.heap.size w w'
/-- The state while the loads are treated: g is the assignment, t the marks, vo the order. -/
structure MSt (a b : List Int) (os : List Nat) (L : Nat) (w : World) (g t B : Nat) (vo : Value) (k : Nat) (wr : World) : Prop where
  lo : Own .i64 3 wr w.heap.size (.slice (some ⟨g, 0, none⟩) L L) (stM a b os k).2
  bs : ABSet wr t (stM a b os k).1
  ord : Own .i64 3 wr B vo (atoZ os)
  gt : g ≠ t
  gB : g < B
  tB : t < B
  gw : w.heap.size ≤ g
  tw : w.heap.size ≤ t
  bel : Below w.heap.size w wr
theorem MSt.step {a b : List Int} {os : List Nat} {L : Nat} {w : World} {g t B : Nat} {vo : Value} {k : Nat} {wr : World} (h : MSt a b os L w g t B vo k wr) (hL : L = a.length) {x y : Nat} (hx : os.getD k 0 = x) (hy : yM a b os k = (y : Int)) :
    MSt a b os L w g t B vo (k + 1) ((wr.setCell ⟨g, x, none⟩ (.int .i64 (y : Int))).setCell ⟨t, y, none⟩ (.bool true)) := by
  have es := stM_succ a b os k
  rw [hy, Int.toNat_natCast, hx] at es
  refine ⟨?_, ?_, ?_, h.gt, h.gB, h.tB, h.gw, h.tw, (h.bel.setCell (p := ⟨g, x, none⟩) h.gw _).setCell (p := ⟨t, y, none⟩) h.tw _⟩
  · rw [es]
    refine (h.lo.store (by rw [(stM_len a b os k).2, hL]) x (y : Int)).setNA (fun g' hg' => ?_) _
    have e : g = g' := by simpa [Value.ownBlock] using hg'
    subst e
    exact h.gt
  · rw [es]
    exact (h.bs.setNA (p := ⟨g, x, none⟩) (Ne.symm h.gt) _).set y true
  · exact (h.ord.setNA (p := ⟨g, x, none⟩) (fun g' hg' => by have := (own_block h.ord hg').1; have h2 := h.gB; show g' ≠ g; omega) _).setNA (p := ⟨t, y, none⟩) (fun g' hg' => by
      have := (own_block (h.ord.setNA (p := ⟨g, x, none⟩) (fun g' hg' => by have := (own_block h.ord hg').1; have h2 := h.gB; show g' ≠ g; omega) (.int .i64 (y : Int))) hg').1
      have h2 := h.tB
      show g' ≠ t; omega) _
set_option maxRecDepth 100000 in
set_option maxHeartbeats 6400000 in
theorem match_any (a b : List Int) (A Bb : Option Addr) (ca cb : Nat) (w : World) (ha : Row .i64 w w.heap.size A a) (hla : a.length ≤ maxLen) (hb : Row .i64 w w.heap.size Bb b) (hlb : b.length ≤ maxLen) :
    Calls Tryz.prog 44 #[.slice A a.length ca, .slice Bb b.length cb] w (MatPost a b w) := by
  have HV := Lib.hid (avalid_any a b A Bb ca cb w ha hla hb hlb)
  have HA := Lib.hid ha
  have HB := Lib.hid hb
  obtain ⟨os0, hos0⟩ := exists_ord a
  have HO0 := Lib.hid hos0
  by_cases hv : valR a b = 0
  · have V := vd_of hv
    have HVD := Lib.hid V
    have HVR := Lib.hid hv
    have hl1 := V.la
    have hl2 := V.lb
    rw [hv] at HV
    obtain ⟨L, hL⟩ : ∃ n, n = a.length := ⟨_, rfl⟩
    obtain ⟨M, hM⟩ : ∃ n, n = b.length := ⟨_, rfl⟩
    have HL := Lib.hid hL
    have HM := Lib.hid hM
    rw [← hL] at HV hl1 ⊢
    rw [← hM] at HV hl2 ⊢
    clear ha hla hb hlb V hv hL hM hos0 HO0
    go_enter Tryz.func44, Tryz.ntmps44
    go_wp2_with fail
    refine HV.out.mono ?_
    rintro e w1 ⟨rfl, hw⟩
    subst hw
    clear HV
    go_wp2_with fail
    have hc1 : (w.alloc (.cells #[.int .i64 (-1)] 3)).cell? ⟨w.heap.size, 0, none⟩ = some (.int .i64 (-1)) := by rw [cell_new]; rfl
    have B0 := Lib.hid ((Below.refl w.heap.size w).alloc (Nat.le_refl _) (.cells #[.int .i64 (-1)] 3))
    refine (repeat_any (-1) L w.heap.size (by omega) _ hc1).mono ?_
    rintro e w2 ⟨g, rfl, og, bg⟩
    have B1 := Lib.hid (B0.out.trans (bg.mono B0.out.size))
    have O1 := Lib.hid (og.base B0.out.size)
    clear hc1 og bg B0
    have mk := amake_bools w2 M (by omega)
    obtain ⟨CB, hCB⟩ : ∃ C, C = ((List.replicate M false).map Value.bool).toArray := ⟨_, rfl⟩
    have hbs := ABSet.new w2 (List.replicate M false) w2.heap.size rfl
    rw [← hCB] at mk hbs
    clear hCB
    have B2 := Lib.hid (B1.out.alloc B1.out.size (.cells CB 4))
    have HGL := Lib.hid (own_block O1.out (g := g) rfl)
    have O2 := Lib.hid (O1.out.alloc (.cells CB 4))
    have HS2 := Lib.hid (show w2.heap.size < (w2.alloc (.cells CB 4)).heap.size by simp)
    have BS2 := Lib.hid hbs
    clear hbs
    go_upto_region 6 with fail
    clear mk
    obtain ⟨t, ht⟩ : ∃ t, t = w2.heap.size := ⟨_, rfl⟩
    have HW2 := Lib.hid B1.out.size
    rw [← ht] at BS2 HS2 HGL HW2 ⊢
    generalize w2.alloc (.cells CB 4) = w3 at *
    clear ht B1 O1
    have HA3 := Lib.hid (HA.out.below B2.out)
    have HG3 := Lib.hid (show Calls Tryz.prog 82 #[.slice A L ca] w3 (GrtPost a w3) by rw [HL.out]; exact greatest_any a A ca w3 HA3.out (by rw [← HL.out]; exact hl1))
    go_wp2_with fail
    refine HG3.out.mono ?_
    rintro e w4 ⟨vo, os, rfl, hO, oo, bo⟩
    have HO := Lib.hid hO
    have S0 := Lib.hid (show MSt a b os L w g t w3.heap.size vo 0 w4 from ⟨by
        have h0 := O2.out.below bo
        rw [HL.out] at h0 ⊢
        exact h0, by
        have h0 := BS2.out.below bo HS2.out
        rw [HM.out] at h0
        exact h0, oo, by have := HGL.out; omega, by have := HGL.out; have := HS2.out; omega, HS2.out, HGL.out.1, HW2.out, B2.out.trans (bo.mono B2.out.size)⟩)
    obtain ⟨Ao, co, eo, ro, hoc, hom, -⟩ := oo.slice
    have hol : (atoZ os).length = os.length := by simp
    rw [hol] at eo hoc
    have hosl := hO.len
    rw [← HL.out] at hosl
    obtain ⟨n, hn⟩ : ∃ n, n = os.length := ⟨_, rfl⟩
    rw [← hn] at eo hosl hoc
    have HN := Lib.hid hn
    have HOC := Lib.hid hoc
    subst eo
    clear hO oo bo ro hol hn HG3 HA3 O2 BS2 HS2 HGL HW2 B2 hom hoc
    go_wp2_with fail
    go_loopw [4, 30] (fun lv iv wr => ∃ k : Nat, k ≤ n ∧ iv = .int .i64 (k : Int) ∧ lv = .slice (some ⟨g, 0, none⟩) L L ∧ Hid (OkTo a b os k) ∧ Hid (MSt a b os L w g t w3.heap.size (.slice Ao n co) k wr)) (fun _ iv _ => n - (intOf iv).toNat)
    case atStart => exact ⟨0, by omega, rfl, rfl, Lib.hid (fun k hk => absurd hk (Nat.not_lt_zero _)), S0⟩
    case round =>
      clear S0
      obtain ⟨k, hk, rfl, rfl, OK, S⟩ := hrel
      have HAR := Lib.hid (HA.out.below S.out.bel)
      have HBR := Lib.hid (HB.out.below S.out.bel)
      by_cases hlt : k < n
      · have hltz : (k : Int) < (n : Int) := by omega
        obtain ⟨Ao', co', e2, ro, -, -, -⟩ := S.out.ord.slice
        injection e2 with e2 e3 e4
        subst e2
        subst e4
        clear e3
        have hkl : k < os.length := by rw [← HN.out]; exact hlt
        obtain ⟨ad, rfl, -, c1⟩ := ro k (by simpa using hkl)
        obtain ⟨x, hx⟩ : ∃ x, x = os.getD k 0 := ⟨_, rfl⟩
        have hxz : (atoZ os).getD k 0 = (x : Int) := by rw [hx]; simp [List.getD_eq_getElem?_getD, hkl]
        rw [hxz] at c1
        have hxL : x < L := by rw [hx, HL.out]; exact (HO.out.at_ hkl).1
        obtain ⟨aa, rfl, -, c2⟩ := HAR.out x (by rw [← HL.out]; exact hxL)
        obtain ⟨zx, hzx⟩ : ∃ z, z = ld a x := ⟨_, rfl⟩
        change wr.cell? _ = some (Value.int .i64 (ld a x)) at c2
        rw [← hzx] at c2
        have HX := Lib.hid hx
        have hxLz : (x : Int) < (L : Int) := by omega
        have hlb := (stM_len a b os k).1
        have HSH := Lib.hid (show Calls Tryz.prog 83 #[.slice Bb M cb, .slice (some ⟨t, 0, none⟩) M M, .int .i64 zx] wr fun e w' => e = .returned (.int .i64 (yM a b os k)) ∧ wr = w' from by
          have h0 := shortest_any b (stM a b os k).1 zx Bb cb t M wr HBR.out (by unfold maxLen; have := HM.out; omega) S.out.bs hlb
          rw [hlb, ← HM.out] at h0
          unfold yM
          rw [← hx, ← hzx, ← HM.out]
          exact h0)
        clear ro hxz hlb hx hzx
        go_wp2_with fail
        refine HSH.out.mono ?_
        rintro e w5 ⟨rfl, hw⟩
        subst hw
        clear HSH c1 c2
        by_cases hy : yM a b os k = -1
        · have HBAD := Lib.hid hy
          rw [hy]
          clear hy
          have hsl := slice_to (some ad) n co (k + 1) wr (by have := HOC.out; omega)
          have eKc : ((k + 1 : Nat) : Int) = (k : Int) + 1 := by omega
          rw [eKc] at hsl
          have hr1 : Row .i64 wr wr.heap.size (some ad) (atoZ (os.take (k + 1))) := by
            obtain ⟨A2, c2, e5, r5, -⟩ := S.out.ord.slice
            injection e5 with e5
            subst e5
            have h7 := r5.take (k + 1)
            rwa [← List.map_take] at h7
          have HR1 := Lib.hid hr1
          have HTL := Lib.hid (show (atoZ (os.take (k + 1))).length = k + 1 by simp; rw [← HN.out]; omega)
          clear hr1 eKc
          go_wp2_with fail
          clear hsl
          refine (values_any (some ad) co (k + 1) wr).mono ?_
          rintro e w6 ⟨rfl, rfl⟩
          have hbc : (wr.alloc (.cells #[.slice (some ad) (k + 1) co] 22)).cell? ⟨wr.heap.size, 0, none⟩ = some (.slice (some ad) (k + 1) co) := by rw [cell_new]; rfl
          have BA := Lib.hid ((Below.refl wr.heap.size wr).alloc (Nat.le_refl _) (.cells #[.slice (some ad) (k + 1) co] 22))
          have HSD := Lib.hid (asorted_any wr.heap.size (some ad) co (k + 1) (atoZ (os.take (k + 1))) HTL.out (by omega) _ hbc (HR1.out.below BA.out))
          clear hbc
          go_wp2_with fail
          refine HSD.out.mono ?_
          rintro e w7 ⟨vr, rfl, ov, bv⟩
          have HOV := Lib.hid ov
          have HBV := Lib.hid bv
          clear ov bv HSD
          go_wp2_with fail
          go_ret3
          refine ⟨os, _, vr, [], refL a os k, 14, rfl, HO.out, Or.inr (Or.inr ⟨HVR.out, k, by rw [← HN.out]; exact hlt, OK.out, HBAD.out, rfl, rfl, rfl⟩), Own.nil, ?_, ?_⟩
          · rw [← srt_take HO.out]
            exact HOV.out.base (Nat.le_trans S.out.bel.size BA.out.size)
          · exact S.out.bel.trans ((BA.out.trans (HBV.out.mono BA.out.size)).mono S.out.bel.size)
        · have I := invM HO.out (k + 1) (by rw [← HN.out]; exact hlt) (OK.out.succ hy)
          obtain ⟨y, hyy, hyl, -⟩ := I.fit k (by omega)
          have HOK := Lib.hid (OK.out.succ hy)
          have HS2 := Lib.hid (S.out.step HL.out HX.out.symm hyy)
          have cg := S.out.lo.cell (by rw [(stM_len a b os k).2, HL.out]) x (by rw [(stM_len a b os k).2, ← HL.out]; exact hxL)
          have fg := S.out.lo.frozen (by rw [(stM_len a b os k).2, HL.out]) x
          have ct0 := S.out.bs.cell y (by rw [(stM_len a b os k).1]; exact hyl)
          have ft0 := S.out.bs.frozen y
          have hyM : (y : Int) < (M : Int) := by have := HM.out; omega
          have hyM2 : y < M := by omega
          have ct : (wr.setCell ⟨g, x, none⟩ (.int .i64 (y : Int))).cell? ⟨t, y, none⟩ = some (.bool ((stM a b os k).1.getD y false)) := (World.cell?_setCell_other _ _ _ _ (fun e => S.out.gt (congrArg Addr.block e))).trans ct0
          have ft : (wr.setCell ⟨g, x, none⟩ (.int .i64 (y : Int))).frozen? ⟨t, y, none⟩ = false := by rw [World.frozen?_setCell]; exact ft0
          have hyn : ((y : Int) == -1) = false := by first | (simp; done) | (simp; omega)
          generalize (stM a b os k).2.getD x 0 = q1 at *
          generalize (stM a b os k).1.getD y false = q2 at *
          rw [hyy]
          clear I hy hyy hyl ct0 ft0 HAR HBR OK
          go_wp2_with fail
          go_roundw
          case rel => exact ⟨k + 1, by omega, by go_num, rfl, HOK, HS2⟩
          case measure => simp [intOf]; omega
      · obtain rfl : k = n := by omega
        have hltz : ¬ (k : Int) < (k : Int) := by omega
        go_wp2_with fail
        go_ret3
        refine ⟨os, _, _, (stM a b os k).2, [], 0, rfl, HO.out, Or.inr (Or.inl ⟨HVR.out, by rw [← HN.out]; exact OK.out, by rw [← HN.out], rfl, rfl⟩), S.out.lo, Own.nil, S.out.bel⟩
  · have HVR := Lib.hid hv
    obtain ⟨ev, hev⟩ : ∃ z, z = valR a b := ⟨_, rfl⟩
    rw [← hev] at HV
    have HEV := Lib.hid hev
    have hne : (ev != 0) = true := by rw [hev]; simpa using hv
    obtain ⟨L, hL⟩ : ∃ n, n = a.length := ⟨_, rfl⟩
    obtain ⟨M, hM⟩ : ∃ n, n = b.length := ⟨_, rfl⟩
    rw [← hL] at HV ⊢
    rw [← hM] at HV ⊢
    clear ha hla hb hlb hv hL hM hos0 hev
    go_enter Tryz.func44, Tryz.ntmps44
    go_wp2_with fail
    refine HV.out.mono ?_
    rintro e w1 ⟨rfl, hw⟩
    subst hw
    clear HV
    go_wp2_with fail
    go_ret3
    exact ⟨os0, _, _, [], [], ev, rfl, HO0.out, Or.inl ⟨HVR.out, rfl, rfl, HEV.out⟩, Own.nil, Own.nil, Below.refl _ _⟩
end Go.Proofs.YtimkmieohkefiaaGreat

namespace Go.Proofs.YtimkmieohkefiaaGreat
open Go.RowKit Go.Lib

theorem getD_z {l : List Int} {k : Nat} (h : k < l.length) : l.getD k (-1) = ld l k := by
  unfold ld; rw [List.getD_eq_getElem?_getD, List.getD_eq_getElem?_getD, List.getElem?_eq_getElem h]; rfl
theorem Vd.ge {a b : List Int} (V : Vd a b) {i : Nat} (h : i < a.length) : 0 ≤ ld a i ∧ ld a i ≤ 38400 := V.oa _ (ld_mem h)
theorem fit_part {a b l : List Int} (V : Vd a b) (G : Asg a b l) : ∀ k, k ≤ a.length → ∃ tk, fitK a b l k = some tk ∧ ∀ t : Nat, tk.getD t false = true → ∃ i, i < k ∧ 0 < ld a i ∧ l.getD i (-1) = (t : Int)
  | 0, _ => ⟨_, rfl, fun t h => by
      rw [List.getD_eq_getElem?_getD, List.getElem?_replicate] at h
      split at h <;> cases h⟩
  | k + 1, hk => by
    obtain ⟨tk, h1, h2⟩ := fit_part V G k (by omega)
    have hl : k < l.length := by rw [G.len]; omega
    by_cases h0 : ld a k = 0
    · exact ⟨tk, fitK_zero h1 h0 (by rw [← getD_z hl]; exact G.zero k (by omega) h0), fun t ht => by
        obtain ⟨i, i1, i2⟩ := h2 t ht
        exact ⟨i, by omega, i2⟩⟩
    · have hp : 0 < ld a k := by have := (V.ge (show k < a.length by omega)).1; omega
      obtain ⟨y, y1, y2, y3⟩ := G.fit k (by omega) hp
      have hfree : tk.getD y false = false := by
        cases hq : tk.getD y false with
        | false => rfl
        | true =>
          obtain ⟨i, i1, i2, i3⟩ := h2 y hq
          exact absurd (i3.trans y1.symm) (G.inj i k i1 (by omega) i2 hp)
      refine ⟨_, fitK_good h1 h0 (by rw [← getD_z hl]; exact y1) y2 (by omega) hfree, fun t ht => ?_⟩
      rw [getD_setB (by rw [fitK_len h1]; exact y2), Bool.or_eq_true] at ht
      rcases ht with ht | ht
      · have := of_decide_eq_true ht
        subst this
        exact ⟨k, by omega, hp, y1⟩
      · obtain ⟨i, i1, i2⟩ := h2 t ht
        exact ⟨i, by omega, i2⟩
theorem fit_asg {a b l : List Int} (V : Vd a b) (G : Asg a b l) : fitR a b l = true := by
  obtain ⟨tk, h, _⟩ := fit_part V G a.length (Nat.le_refl _)
  unfold fitR
  rw [V.val, G.len, h]; simp
theorem risK_of {r : List Int} (h : r.Pairwise (· < ·)) : risK r r.length = true := by
  unfold risK
  rw [List.all_eq_true]
  intro i hi
  have hi := List.mem_range.1 hi
  refine decide_eq_true ?_
  rcases Nat.eq_zero_or_pos i with h0 | h0
  · exact Or.inl h0
  · have := List.pairwise_iff_getElem.1 h (i - 1) i (by omega) hi (by omega)
    refine Or.inr ?_
    unfold ld
    rw [List.getD_eq_getElem?_getD, List.getElem?_eq_getElem (by omega : i - 1 < r.length), List.getD_eq_getElem?_getD, List.getElem?_eq_getElem hi]
    exact this
theorem leastK_ge {a r : List Int} {h : Int} (hh : h ≤ 38400) : ∀ k, (∀ i, i < k → h ≤ ld a (ld r i).toNat) → h ≤ aleastK a r k
  | 0, _ => hh
  | k + 1, hk => by
    have ih := leastK_ge hh k (fun i hi => hk i (by omega))
    have h1 := hk k (by omega)
    show h ≤ min2 _ _
    unfold min2; split <;> omega
theorem leastK_le {a r : List Int} : ∀ k i, i < k → aleastK a r k ≤ ld a (ld r i).toNat
  | 0, i, h => absurd h (Nat.not_lt_zero _)
  | k + 1, i, h => by
    show min2 _ _ ≤ _
    rcases Nat.lt_or_ge i k with g | g
    · have ih := leastK_le (a := a) (r := r) k i g
      unfold min2; split <;> omega
    · have : i = k := by omega
      subst this
      unfold min2; split <;> omega
theorem ref_at {a : List Int} {os : List Nat} {n i : Nat} (hi : i < (refN a os n).length) : ld (refL a os n) i = (((refN a os n)[i] : Nat) : Int) := by
  unfold refL ld atoZ
  rw [List.getD_eq_getElem?_getD, List.getElem?_map, List.getElem?_eq_getElem hi]; rfl
theorem refL_len {a : List Int} {os : List Nat} (n : Nat) : (refL a os n).length = (refN a os n).length := by unfold refL; simp
theorem ref_stuck {a b : List Int} {os : List Nat} (V : Vd a b) (O : IsOrd a os) {n : Nat} (hn : n < os.length) (hc : cF b (ld a (os.getD n 0)) = n) : refR a b (refL a os n) = true ∧ (refL a os n).length = n + 1 := by
  have hlen : (refN a os n).length = n + 1 := by rw [(refN_perm O n).length_eq, List.length_take]; omega
  have hmem : ∀ i (hi : i < (refN a os n).length), (refN a os n)[i] < a.length ∧ 0 < ld a (refN a os n)[i] ∧ ld a (os.getD n 0) ≤ ld a (refN a os n)[i] := fun i hi => by
    have h1 := mem_refN.1 (List.getElem_mem hi)
    have h2 := O.mem.1 (List.mem_of_mem_take h1.2)
    refine ⟨h1.1, h2.2, ?_⟩
    obtain ⟨k, hk, e⟩ := List.getElem_of_mem h1.2
    rw [List.length_take] at hk
    rw [List.getElem_take] at e
    have e2 : os.getD k 0 = (refN a os n)[i] := by rw [getD_ge (by omega)]; exact e
    rw [← e2]
    rcases Nat.lt_or_ge k n with g | g
    · exact O.le g hn
    · have : k = n := by omega
      subst this; exact Int.le_refl _
  have hrl := refL_len (a := a) (os := os) n
  have hleast : aleastK a (refL a os n) (n + 1) = ld a (os.getD n 0) := by
    have hx : os.getD n 0 ∈ refN a os n := mem_refN.2 ⟨(O.at_ hn).1, by
      rw [getD_ge hn]
      exact List.mem_take_iff_getElem.2 ⟨n, by omega, rfl⟩⟩
    obtain ⟨j, hj, e⟩ := List.getElem_of_mem hx
    refine Int.le_antisymm ?_ ?_
    · have := leastK_le (a := a) (r := refL a os n) (n + 1) j (by omega)
      rw [ref_at hj, Int.toNat_natCast, e] at this
      exact this
    · refine leastK_ge (V.ge (O.at_ hn).1).2 _ (fun i hi => ?_)
      rw [ref_at (by omega), Int.toNat_natCast]
      exact (hmem i (by omega)).2.2
  refine ⟨?_, by rw [hrl, hlen]⟩
  unfold refR
  rw [V.val, hrl, hlen, hleast, hc]
  have h1 : risK (refL a os n) (n + 1) = true := by
    rw [← hlen, ← hrl]
    refine risK_of ?_
    unfold refL atoZ refN
    rw [List.pairwise_map]
    exact List.Pairwise.filter _ (List.pairwise_lt_range.imp fun h => by omega)
  have h2 : okK a (refL a os n) (n + 1) = true := by
    unfold okK
    rw [List.all_eq_true]
    intro i hi
    have hi := List.mem_range.1 hi
    unfold okx
    rw [ref_at (by omega), Int.toNat_natCast]
    have := hmem i (by omega)
    exact decide_eq_true ⟨by omega, by omega, by omega⟩
  rw [h1, h2]
  simp; omega
/-- Some number of loads has too few tracks. -/
def refdK (a b : List Int) (k : Nat) : Bool := (List.range k).any fun i => decide (0 < ld a i ∧ cF b (ld a i) < cF a (ld a i))
theorem refdK_at {a b : List Int} {k i : Nat} (hi : i < k) (h : 0 < ld a i ∧ cF b (ld a i) < cF a (ld a i)) : refdK a b k = true := by
  unfold refdK
  rw [List.any_eq_true]
  exact ⟨i, List.mem_range.2 hi, decide_eq_true h⟩
/-- What Match's answer tells, if the lists are valid. -/
theorem mout_cases {a b : List Int} {os : List Nat} {l r : List Int} {e : Int} (V : Vd a b) (O : IsOrd a os) (h : MOut a b os l r e) :
    (e = 0 ∧ r = [] ∧ Asg a b l ∧ Hall a b) ∨ (e = 14 ∧ l = [] ∧ refR a b r = true ∧ refdK a b a.length = true ∧ ¬ Hall a b ∧ ∃ n, n < os.length ∧ r.length = n + 1 ∧ cF b (ld a (os.getD n 0)) = n) := by
  rcases h with ⟨h1, _⟩ | ⟨h1, ok, rfl, rfl, rfl⟩ | ⟨h1, n, hn, ok, bad, rfl, rfl, rfl⟩
  · exact absurd V.val h1
  · exact Or.inl ⟨rfl, rfl, asg_of O ok, hall_of O ok⟩
  · obtain ⟨s1, s2⟩ := stuck_of O hn ok bad
    obtain ⟨r1, r2⟩ := ref_stuck V O hn s1
    have hp := O.at_ hn
    refine Or.inr ⟨rfl, rfl, r1, refdK_at hp.1 ⟨hp.2, by omega⟩, fun H => ?_, n, hn, r2, s1⟩
    have := H _ hp.2
    omega
theorem ord_ex2 : IsOrd [7, 8] [1, 0] := ⟨by decide, by unfold Rk; decide⟩
theorem mout_ex2 : MOut [7, 8] [9, 6] [1, 0] [] [0, 1] 14 := Or.inr (Or.inr ⟨by decide, 1, by decide, by unfold OkTo; decide, by decide, rfl, by decide, rfl⟩)
theorem ex2 {os : List Nat} {l r : List Int} {e : Int} (O : IsOrd [7, 8] os) (h : MOut [7, 8] [9, 6] os l r e) : l = [] ∧ r = [0, 1] ∧ e = 14 := by
  obtain rfl := O.uniq ord_ex2
  exact h.uniq mout_ex2
end Go.Proofs.YtimkmieohkefiaaGreat

namespace Go.Proofs.YtimkmieohkefiaaGreat
open Go.RowKit Go.Lib

end Go.Proofs.YtimkmieohkefiaaGreat

namespace Go.Proofs.YtimkmieohkefiaaGreat
open Go.RowKit Go.Lib

theorem addAt_at {ls : List Nat} {i n x : Nat} (h : x < ls.length) : (addAt ls i n).getD x 0 = ls.getD x 0 + if x = i then n else 0 := by
  unfold addAt
  by_cases e : i < ls.length
  · rw [getD_setN e]
    by_cases g : i = x
    · subst g; rw [if_pos rfl, if_pos rfl]
    · rw [if_neg g, if_neg (fun k => g k.symm)]; rfl
  · rw [List.set_eq_of_length_le (by omega), if_neg (by omega)]; rfl
theorem foldL_atX (n x : Nat) : ∀ (q : List Nat) (ls : List Nat), x < ls.length → (q.foldl (addL n) ls).getD x 0 = ls.getD x 0 + n * q.count x := by
  intro q
  induction q with
  | nil => intro ls _; simp
  | cons y q ih =>
    intro ls h
    rw [List.foldl_cons, ih (addL n ls y) (by unfold addL; rw [addAt_len]; exact h), List.count_cons]
    unfold addL
    rw [addAt_at h]
    by_cases g : x = y
    · subst g
      rw [if_pos rfl, if_pos (by simp), Nat.mul_add, Nat.mul_one]; omega
    · rw [if_neg g, if_neg (by simp; exact fun k => g k.symm)]; rfl
/-- What item x adds to track j. -/
def addX (S : Nat) (cd rd tn ln : Nat → Nat) (j x : Nat) : Nat := ln x * (blM (cd x) (rd x) 12).count j + if j = S + tn x then ln x else 0
theorem ldN_at (S T : Nat) (cd rd tn ln : Nat → Nat) (j : Nat) (hj : j < S + T) : ∀ k, (ldN S T cd rd tn ln k).getD j 0 = sumN (addX S cd rd tn ln j) k := by
  intro k
  induction k with
  | zero =>
    unfold ldN sumN
    rw [List.getD_eq_getElem?_getD, List.getElem?_replicate, if_pos hj]; rfl
  | succ k ih =>
    unfold ldN sumN
    rw [addAt_at (by rw [foldL_len, ldN_len]; exact hj), foldL_atX _ _ _ _ (by rw [ldN_len]; exact hj), ih]
    unfold addX
    omega
theorem bit_lt {K b S : Nat} (h : bitN K b = true) (hK : K < 2 ^ S) : b < S := by
  rcases Nat.lt_or_ge b S with g | g
  · exact g
  · have h2 : 2 ^ S ≤ 2 ^ b := Nat.pow_le_pow_right (by decide) g
    have : K / 2 ^ b = 0 := Nat.div_eq_of_lt (by omega)
    unfold bitN at h
    rw [this] at h
    cases h
theorem cnt_le1 {K R b j : Nat} : (blM K R b).count j ≤ 1 := by
  have hn : (blM K R b).Nodup := (blM_asc b).imp fun {x y} h e => by omega
  exact List.nodup_iff_count.1 hn j
theorem addX_le {S L T : Nat} {cd rd tn ln : Nat → Nat} (hf : FitN S L T cd rd tn) {j x : Nat} (hx : x < L) : addX S cd rd tn ln j x ≤ ln x := by
  unfold addX
  by_cases e : j = S + tn x
  · have h0 : (blM (cd x) (rd x) 12).count j = 0 := List.count_eq_zero.2 fun hm => by
      have := bit_lt ((blM_mem 12 j).1 hm).2.2 (hf.cdl x hx)
      omega
    rw [if_pos e, h0]; omega
  · rw [if_neg e, Nat.add_zero]
    calc ln x * _ ≤ ln x * 1 := Nat.mul_le_mul_left _ cnt_le1
      _ = ln x := Nat.mul_one _
theorem sumN_le {f : Nat → Nat} {B : Nat} : ∀ k, (∀ x, x < k → f x ≤ B) → sumN f k ≤ B * k := by
  intro k
  induction k with
  | zero => intro _; simp [sumN]
  | succ k ih =>
    intro h
    have h1 := ih fun x hx => h x (by omega)
    have h2 := h k (by omega)
    unfold sumN
    rw [Nat.mul_succ]
    omega
/-- The loads of a plan that fits can be asked for. -/
theorem loads_ok {l : List It} {wt : Int} {S : Nat} {v : List Int} (h : Pl l wt S v) (h14 : val14 l wt (S : Int) v = 0) : (loadL l wt (S : Int) v).length ≤ 28 ∧ ∀ n ∈ loadL l wt (S : Int) v, 0 ≤ n ∧ n ≤ 38400 := by
  have hS := h.s12
  have hL := h.l96
  have hT : tnT l ≤ 16 := by
    have := (tcI_bd (valid_ok h.val).2.1 l.length (Nat.le_refl _)).1
    unfold tnT; omega
  unfold loadL
  rw [if_pos h14]
  have e : ((S : Int)).toNat = S := by omega
  rw [e]
  refine ⟨by rw [toZ_len, ldN_len]; omega, fun n hn => ?_⟩
  obtain ⟨x, hx, rfl⟩ := List.mem_map.1 hn
  obtain ⟨j, hj⟩ := List.mem_iff_getElem?.1 hx
  have hjl := (List.getElem?_eq_some_iff.1 hj).1
  rw [ldN_len] at hjl
  have h1 := ldN_at S (tnT l) (cdN v) (rdN l) (tnN l) (lnN l) j hjl l.length
  rw [List.getD_eq_getElem?_getD, hj] at h1
  have h2 : sumN (addX S (cdN v) (rdN l) (tnN l) (lnN l) j) l.length ≤ 400 * l.length := sumN_le _ fun x hx => Nat.le_trans (addX_le h.fitN hx) (h.lns x)
  have h3 : x = sumN (addX S (cdN v) (rdN l) (tnN l) (lnN l) j) l.length := h1
  omega
/-- What Match answers. -/
def MatR (a b l r : List Int) (e : Int) : Prop := ∃ os, IsOrd a os ∧ MOut a b os l r e
theorem MatR.uniq {a b l r l' r' : List Int} {e e' : Int} (h : MatR a b l r e) (k : MatR a b l' r' e') : l = l' ∧ r = r' ∧ e = e' := by
  obtain ⟨os, h1, h2⟩ := h
  obtain ⟨os', k1, k2⟩ := k
  obtain rfl := h1.uniq k1
  exact h2.uniq k2
theorem MatR.err {a b l r : List Int} {e : Int} (h : MatR a b l r e) : (valR a b ≠ 0 ∧ l = [] ∧ r = [] ∧ e = valR a b) ∨ (valR a b = 0 ∧ r = [] ∧ e = 0) ∨ (valR a b = 0 ∧ l = [] ∧ e = 14) := by
  obtain ⟨os, _, h1 | ⟨h1, _, _, h2, h3⟩ | ⟨h1, n, _, _, _, h2, _, h3⟩⟩ := h
  · exact Or.inl h1
  · exact Or.inr (Or.inl ⟨h1, h2, h3⟩)
  · exact Or.inr (Or.inr ⟨h1, h2, h3⟩)
/-- The error of the tracks. -/
def trkE (b : List Int) : Int := if 32 < b.length then 3 else if okF 1 b = true then 0 else 2
theorem valR_trk {a b : List Int} (h1 : a.length ≤ 28) (h2 : ∀ n ∈ a, 0 ≤ n ∧ n ≤ 38400) : valR a b = trkE b := by
  unfold valR trkE
  have e : okF 0 a = true := okF_of h2
  by_cases h : 32 < b.length
  · rw [if_pos (Or.inr h), if_pos h]
  · rw [if_neg (by omega), if_neg h]
    by_cases g : okF 1 b = true
    · rw [if_pos ⟨e, g⟩, if_pos g]
    · rw [if_neg (fun k => g k.2), if_neg g]
abbrev ldS (l : List It) (s : Sc) : List Int := loadL l s.wt s.st s.v
theorem scr_loads {l : List It} {s : Sc} (h : ScR l s) (b : List Int) : val14 l s.wt s.st s.v = 0 ∧ valR (ldS l s) b = trkE b := by
  obtain ⟨_, h14, S, hS, hp⟩ := make_pl h.1
  refine ⟨h14, ?_⟩
  have h14' := h14
  rw [hS] at h14'
  obtain ⟨h1, h2⟩ := loads_ok hp h14'
  rw [← hS] at h1 h2
  exact valR_trk h1 h2
theorem trkE_14 (b : List Int) : trkE b ≠ 14 := by unfold trkE; split; decide; split <;> decide
/-- No scheme before the i-th finds tracks. -/
def NoRoom (l : List It) (b : List Int) (q : List Sc) (i : Nat) : Prop := ∀ j t, j < i → q[j]? = some t → ∃ rs, MatR (ldS l t) b [] rs 14
/-- What Plan answers, for the schemes q. -/
def PlanR (l : List It) (b : List Int) (q : List Sc) (res : Option (Sc × List Int)) (rf : List Int) (er : Int) : Prop :=
  (trkE b ≠ 0 ∧ res = none ∧ rf = [] ∧ er = trkE b) ∨
  (trkE b = 0 ∧ ∃ i s tk, q[i]? = some s ∧ NoRoom l b q i ∧ MatR (ldS l s) b tk [] 0 ∧ res = some (s, tk) ∧ rf = [] ∧ er = 0) ∨
  (trkE b = 0 ∧ NoRoom l b q q.length ∧ (∃ s, q[0]? = some s ∧ MatR (ldS l s) b [] rf 14) ∧ res = none ∧ er = 14)
theorem PlanR.uniq {l : List It} {b : List Int} {q : List Sc} {res res' : Option (Sc × List Int)} {rf rf' : List Int} {er er' : Int} (h : PlanR l b q res rf er) (k : PlanR l b q res' rf' er') : res = res' ∧ rf = rf' ∧ er = er' := by
  rcases h with ⟨h0, rfl, rfl, rfl⟩ | ⟨h0, i, s, tk, hi, hn, hm, rfl, rfl, rfl⟩ | ⟨h0, hn, ⟨s, hs, hm⟩, rfl, rfl⟩ <;> rcases k with ⟨k0, rfl, rfl, rfl⟩ | ⟨k0, i', s', tk', hi', hn', hm', rfl, rfl, rfl⟩ | ⟨k0, hn', ⟨s', hs', hm'⟩, rfl, rfl⟩
  · exact ⟨rfl, rfl, rfl⟩
  · exact absurd k0 h0
  · exact absurd k0 h0
  · exact absurd h0 k0
  · have : i = i' := by
      rcases Nat.lt_trichotomy i i' with g | g | g
      · obtain ⟨rs, hr⟩ := hn' i s g hi
        have := (hm.uniq hr).2.2
        omega
      · exact g
      · obtain ⟨rs, hr⟩ := hn i' s' g hi'
        have := (hm'.uniq hr).2.2
        omega
    subst this
    rw [hi] at hi'
    injection hi' with hi'
    subst hi'
    obtain ⟨rfl, -, -⟩ := hm.uniq hm'
    exact ⟨rfl, rfl, rfl⟩
  · obtain ⟨rs, hr⟩ := hn' i s (List.getElem?_eq_some_iff.1 hi).1 hi
    have := (hm.uniq hr).2.2
    omega
  · exact absurd h0 k0
  · obtain ⟨rs, hr⟩ := hn i' s' (List.getElem?_eq_some_iff.1 hi').1 hi'
    have := (hm'.uniq hr).2.2
    omega
  · rw [hs] at hs'
    injection hs' with hs'
    subst hs'
    exact ⟨rfl, (hm.uniq hm').2.1, rfl⟩
end Go.Proofs.YtimkmieohkefiaaGreat

namespace Go.Proofs.YtimkmieohkefiaaGreat
open Go.RowKit Go.Lib

theorem Own.put6 {k : IntKind} {T : TypeId} {w : World} {base b : Nat} {v : Value} {zs : List Int} (h : Own k T w base v zs) (hb : v.ownBlock ≠ some b) (u0 u1 u2 u3 u4 u5 : Value) : Own k T (set6 w b u0 u1 u2 u3 u4 u5) base v zs := (ownsRow_setO (ownsRow_setO (ownsRow_setO (ownsRow_setO (ownsRow_setO (ownsRow_setO h (p := ⟨b, 0, none⟩) hb u0) (p := ⟨b, 1, none⟩) hb u1) (p := ⟨b, 2, none⟩) hb u2) (p := ⟨b, 3, none⟩) hb u3) (p := ⟨b, 4, none⟩) hb u4) (p := ⟨b, 5, none⟩) hb u5)
theorem results_rec3 {α : Type} {R : Rec α} {fn : Func} {p q r : Tmp} {T : TypeId} {d : TypeDesc} (hf : fn.results = #[.cell p T, .tmp q, .tmp r]) (hu : Tryz.prog.underlying T = some d) (hd : (match d with | .struct _ | .array _ _ => true | _ => false) = true) (hi : (Tryz.prog.info? T).map (·.size) = some R.m) (tmps : Array Value) (w : World) (b : Nat) (x : α) {u t : Value}
    (hp : tmps.getD p undef = .pointer (some ⟨b, 0, none⟩)) (hq : tmps.getD q undef = u) (hr : tmps.getD r undef = t) (h : RBlk R w b x) : (results fn tmps).run Tryz.prog w = .ok (.tuple #[.agg (R.cells x).toArray, u, t]) w := by
  have hp' : tmps[p]?.getD undef = .pointer (some ⟨b, 0, none⟩) := by simpa using hp
  have hq' : tmps[q]?.getD undef = u := by simpa using hq
  have hr' : tmps[r]?.getD undef = t := by simpa using hr
  have hL := loadVar_rec hu hd hi h
  simp [results, hf, hp', hq', hr', asAddr, hL, Sem.run_bind]
/-- A sheet of some items. -/
structure ShSome (l : List It) (w' : World) (base : Nat) (s : Sh) (sc : Sc) (tk : List Int) : Prop where
  wt : s.wt = sc.wt
  st : s.st = sc.st
  il : s.il = l.length
  row : IRow w' s.iA l
  ov : Own .i64 3 w' base (.slice s.vA s.vn s.vc) sc.v
  ou : Own .i64 3 w' base (.slice s.uA s.un s.uc) sc.ch
  ot : Own .i64 3 w' base (.slice s.tA s.tn s.tc) tk
def ShOk (l : List It) (w' : World) (base : Nat) (s : Sh) : Option (Sc × List Int) → Prop
  | none => s = sh0
  | some (sc, tk) => ShSome l w' base s sc tk
def PlanPost17 (l : List It) (b : List Int) (w : World) (e : Ending) (w' : World) : Prop :=
  ∃ res rf er s vr, e = .returned (.tuple #[shv s, vr, .int .i64 er]) ∧ ((solE l ≠ 0 ∧ res = none ∧ rf = [] ∧ er = solE l) ∨ (solE l = 0 ∧ ∃ q, Srt17 (scL l) q ∧ PlanR l b q res rf er)) ∧
    ShOk l w' w.heap.size s res ∧ Own .i64 3 w' w.heap.size vr rf ∧ Below w.heap.size w w'
/-- What is known while Plan goes through the schemes. -/
structure PlSt (l : List It) (b : List Int) (q : List Sc) (k : Nat) (rf : List Int) : Prop where
  no : NoRoom l b q k
  zero : k = 0 → rf = []
  pos : 0 < k → trkE b = 0 ∧ ∃ s, q[0]? = some s ∧ MatR (ldS l s) b [] rf 14
theorem NoRoom.succ {l : List It} {b : List Int} {q : List Sc} {k : Nat} (h : NoRoom l b q k) {s : Sc} (hs : q[k]? = some s) {rs : List Int} (hm : MatR (ldS l s) b [] rs 14) : NoRoom l b q (k + 1) := fun j t hj ht => by
  rcases Nat.lt_or_ge j k with g | g
  · exact h j t g ht
  · obtain rfl : j = k := by omega
    rw [hs] at ht
    injection ht with ht
    subst ht
    exact ⟨rs, hm⟩
set_option maxRecDepth 100000 in
set_option maxHeartbeats 12800000 in
theorem pplan_any (l : List It) (A : Option Addr) (c L : Nat) (b : List Int) (tA : Option Addr) (tn tc : Nat) (hL : L = l.length) (hA : A = none → L = 0 ∧ c = 0) (htn : tn = b.length) (htm : b.length ≤ maxLen) (w : World) (h : IRow w A l) (ht : Row .i64 w w.heap.size tA b) :
    Calls Tryz.prog 13 #[.slice A L c, .slice tA tn tc] w (PlanPost17 l b w) := by
  have HSV := Lib.hid (fun (W : World) (k : Below w.heap.size w W) => psolve_any l A c L hL W (h.below k))
  have HLD := Lib.hid (fun (wt st : Int) (v : List Int) (vA : Option Addr) (vn vc : Nat) (hn : vn = v.length) (hm : v.length ≤ maxLen) (W : World) (k : Below w.heap.size w W) (hp : Row .i64 W W.heap.size vA v) => loads_any l A c L wt st v vA vn vc hL hn W (h.below k) hp hm)
  have HMT := Lib.hid (fun (a : List Int) (X : Option Addr) (xn xc : Nat) (hx : xn = a.length) (hxm : a.length ≤ maxLen) (W : World) (k : Below w.heap.size w W) (hr : Row .i64 W W.heap.size X a) => (show Calls Tryz.prog 44 #[.slice X xn xc, .slice tA tn tc] W (MatPost a b W) from by
    subst hx; subst htn
    exact match_any a b X tA xc tc W hr hxm (ht.below k) htm))
  have HSO := Lib.hid (fun (h96 : L ≤ 1000) (x : Sl) (kA : Option Addr) (kn kc : Nat) (W : World) (k : Below w.heap.size w W) => sheetof_any l A L c x kA kn kc hL hA h96 W (h.below k))
  have HIR := Lib.hid h
  have HLL := Lib.hid hL
  have HB := Lib.hid (box1W w (.cells #[.slice none 0 0, .int .i64 0, .int .i64 0, .slice none 0 0, .slice none 0 0, .slice none 0 0] 43))
  have Z0 := Lib.hid (show AB 43 (w.alloc (.cells #[.slice none 0 0, .int .i64 0, .int .i64 0, .slice none 0 0, .slice none 0 0, .slice none 0 0] 43)) w.heap.size zeroH from AB.new w zeroH 43 w.heap.size rfl)
  obtain ⟨zb, hzb⟩ : ∃ y, y = w.heap.size := ⟨_, rfl⟩
  have HZB := Lib.hid hzb
  clear hL hA htn htm h ht
  go_enter Tryz.func13, Tryz.ntmps13
  go_upto_region 1 with fail
  rw [← hzb] at Z0 ⊢
  generalize w.alloc (.cells #[.slice none 0 0, .int .i64 0, .int .i64 0, .slice none 0 0, .slice none 0 0, .slice none 0 0] 43) = w1 at *
  clear hzb
  go_wp2_with fail
  refine (HSV.out w1 HB.out).mono ?_
  rintro e w2 (⟨he, rfl, B2⟩ | ⟨he, xs, g, cap, rfl, hs, S2, B2⟩)
  · have hne : (solE l != 0) = true := bne_iff_ne.2 he
    have HB2 := Lib.hid (HB.out.trans (B2.mono HB.out.size))
    have Z2 := Lib.hid (Z0.out.below B2 Z0.out.lt)
    have HE := Lib.hid he
    clear he B2 Z0 HB
    obtain ⟨r, hr⟩ : ∃ r, r = solE l := ⟨_, rfl⟩
    rw [← hr] at hne ⊢
    have HRE := Lib.hid hr
    clear hr
    have z0 := Z2.out.cell 0 (u := .slice none 0 0) rfl
    have f0 := Z2.out.frozen 0
    have z1 := Z2.out.cell 1 (u := .int .i64 0) rfl
    have f1 := Z2.out.frozen 1
    have z2 := Z2.out.cell 2 (u := .int .i64 0) rfl
    have f2 := Z2.out.frozen 2
    have z3 := Z2.out.cell 3 (u := .slice none 0 0) rfl
    have f3 := Z2.out.frozen 3
    have z4 := Z2.out.cell 4 (u := .slice none 0 0) rfl
    have f4 := Z2.out.frozen 4
    have z5 := Z2.out.cell 5 (u := .slice none 0 0) rfl
    have f5 := Z2.out.frozen 5
    have HP := Lib.hid (Z2.out.put6)
    go_wp2_with fail
    refine bodyPost_ret (results_rec3 (R := ShR) (x := sh0) rfl Tryz.underlying43 rfl infoSheet _ _ zb rfl rfl rfl ((HP.out _ _ _ _ _ _).rblk rfl)) rfl ?_
    exact ⟨none, [], r, sh0, _, rfl, Or.inl ⟨HE.out, rfl, rfl, HRE.out⟩, rfl, Own.nil, Below.put6 HB2.out (Nat.le_of_eq HZB.out.symm) _ _ _ _ _ _⟩
  · have HE := Lib.hid he
    have HQ := Lib.hid hs
    have HB2 := Lib.hid (HB.out.trans (B2.mono HB.out.size))
    have Z2 := Lib.hid (Z0.out.below B2 Z0.out.lt)
    have HS2 := Lib.hid S2
    have HZ1 := Lib.hid (And.intro Z0.out.lt HB.out.size)
    have HLN := Lib.hid (show xs.length ≤ 4 by have := sch_len hs; rwa [List.length_map] at this)
    have HL0 := Lib.hid (show xs.length ≠ 0 by
      have h1 : (scL l).length ≠ 0 := fun g => by
        unfold solE at he
        by_cases h0 : validR l 0 ≠ 0
        · rw [if_pos h0] at he; exact h0 he
        · rw [if_neg h0, if_pos g] at he; cases he
      have := hs.len
      rw [List.length_map] at this
      omega)
    have HSC := Lib.hid (show ∀ x ∈ xs, ScR l x.s from fun x hx => (scL_mem.1 (hs.perm.mem_iff.1 (List.mem_map.2 ⟨x, hx, rfl⟩))).1)
    have HV0 := Lib.hid (show L ≤ 1000 by
      have h0 : validR l 0 = 0 := by
        unfold solE at he
        by_cases h0 : validR l 0 ≠ 0
        · rw [if_pos h0] at he; exact absurd he h0
        · exact Classical.not_not.1 h0
      have := (valid_ok h0).1
      rw [HLL.out]; omega)
    obtain ⟨ad, had⟩ : ∃ ad : Addr, ad = ⟨g, 0, none⟩ := ⟨_, rfl⟩
    rw [← had] at HS2 ⊢
    obtain ⟨A', c', ea, RW⟩ := HS2.out.own.slice
    injection ea with ea
    subst ea
    have HRW := Lib.hid RW
    obtain ⟨n, hn⟩ : ∃ n, n = xs.length := ⟨_, rfl⟩
    have HN := Lib.hid hn
    rw [← hn] at HLN HL0 ⊢
    clear he hs S2 B2 had RW hn HSV Z0 HB
    have hn4 := HLN.out
    go_upto_region 6 with fail
    obtain ⟨bb, hbb⟩ : ∃ b, b = w2.heap.size := ⟨_, rfl⟩
    have HBB := Lib.hid hbb
    have HWB := Lib.hid (show w.heap.size ≤ bb by rw [hbb]; exact HB2.out.size)
    have HZL := Lib.hid (show zb < bb by rw [hbb]; exact Z2.out.lt)
    clear hbb
    go_loopw [9, 28] (fun v9 iv wr => ∃ (k : Nat) (rf : List Int), k ≤ n ∧ iv = .int .i64 (k : Int) ∧ Hid (PlSt l b (xs.map Sl.s) k rf) ∧ Hid (Own .i64 3 wr bb v9 rf) ∧ Hid (Below bb w2 wr)) (fun _ iv _ => n - (intOf iv).toNat)
    case atStart => exact ⟨0, [], Nat.zero_le _, rfl, Lib.hid ⟨fun j t hj => absurd hj (Nat.not_lt_zero _), fun _ => rfl, fun h => absurd h (Nat.lt_irrefl _)⟩, Lib.hid Own.nil, Lib.hid (by rw [HBB.out]; exact Below.refl _ _)⟩
    case round =>
      obtain ⟨k, rf, hk, rfl, HP, HO, HR⟩ := hrel
      have HZ := Lib.hid (show bb ≤ wr.heap.size by rw [HBB.out]; exact HR.out.size)
      by_cases hlt : k < n
      · obtain ⟨x, hx⟩ : ∃ x, xs[k]? = some x := ⟨_, List.getElem?_eq_getElem (by rw [← HN.out]; exact hlt)⟩
        obtain ⟨ad', e', CX⟩ := (HRW.out.below (by rw [← HBB.out]; exact HR.out)).at_ hx
        injection e' with e'
        subst e'
        have hxm : x ∈ xs := List.mem_of_getElem? hx
        have HXS := Lib.hid (HSC.out x hxm)
        have HXV := Lib.hid ((HS2.out.ov x hxm).below (by rw [← HBB.out]; exact HR.out))
        have HXU := Lib.hid ((HS2.out.ou x hxm).below (by rw [← HBB.out]; exact HR.out))
        have HXQ := Lib.hid (show (xs.map Sl.s)[k]? = some x.s by rw [List.getElem?_map, hx]; rfl)
        clear hxm
        obtain ⟨⟨x0, x1, x2, x3, xv, xh⟩, xA, xn, xc, xB, xm, xd⟩ := x
        simp only at HXS HXV HXU HXQ
        have c0 : wr.cell? (ad.add (k * 9)) = some (.int .i64 x0) := CX.first rfl
        have c1 : wr.cell? ⟨(ad.add (k * 9)).block, (ad.add (k * 9)).off + 1, none⟩ = some (.int .i64 x1) := CX.next 1 (by decide) rfl
        have c2 : wr.cell? ⟨(ad.add (k * 9)).block, (ad.add (k * 9)).off + 2, none⟩ = some (.int .i64 x2) := CX.next 2 (by decide) rfl
        have c3 : wr.cell? ⟨(ad.add (k * 9)).block, (ad.add (k * 9)).off + 3, none⟩ = some (.int .i64 x3) := CX.next 3 (by decide) rfl
        have c4 : wr.cell? ⟨(ad.add (k * 9)).block, (ad.add (k * 9)).off + 4, none⟩ = some (.slice A L c) := CX.next 4 (by decide) rfl
        have c5 : wr.cell? ⟨(ad.add (k * 9)).block, (ad.add (k * 9)).off + 5, none⟩ = some (.int .i64 x0) := CX.next 5 (by decide) rfl
        have c6 : wr.cell? ⟨(ad.add (k * 9)).block, (ad.add (k * 9)).off + 6, none⟩ = some (.int .i64 x1) := CX.next 6 (by decide) rfl
        have c7 : wr.cell? ⟨(ad.add (k * 9)).block, (ad.add (k * 9)).off + 7, none⟩ = some (.slice xA xn xc) := CX.next 7 (by decide) rfl
        have c8 : wr.cell? ⟨(ad.add (k * 9)).block, (ad.add (k * 9)).off + 8, none⟩ = some (.slice xB xm xd) := CX.next 8 (by decide) rfl
        have HLB := Lib.hid CX.lt
        have B4 := Lib.hid (box1W wr (.cells #[.int .i64 x0, .int .i64 x1, .int .i64 x2, .int .i64 x3, .slice A L c, .int .i64 x0, .int .i64 x1, .slice xA xn xc, .slice xB xm xd] 97))
        have O4 := Lib.hid (HO.out.below B4.out)
        have XV4 := Lib.hid (HXV.out.below B4.out)
        have XU4 := Lib.hid (HXU.out.below B4.out)
        have Y4 := Lib.hid (show AB 97 (wr.alloc (.cells #[.int .i64 x0, .int .i64 x1, .int .i64 x2, .int .i64 x3, .slice A L c, .int .i64 x0, .int .i64 x1, .slice xA xn xc, .slice xB xm xd] 97)) wr.heap.size [.int .i64 x0, .int .i64 x1, .int .i64 x2, .int .i64 x3, .slice A L c, .int .i64 x0, .int .i64 x1, .slice xA xn xc, .slice xB xm xd] from AB.new wr [.int .i64 x0, .int .i64 x1, .int .i64 x2, .int .i64 x3, .slice A L c, .int .i64 x0, .int .i64 x1, .slice xA xn xc, .slice xB xm xd] 97 wr.heap.size rfl)
        have R4 := Lib.hid (HR.out.trans (B4.out.mono HZ.out))
        have HLT := Lib.hid hlt
        clear CX hx HO HR HXV HXU
        go_upto_region 8 with fail
        obtain ⟨y, hy⟩ : ∃ y, y = wr.heap.size := ⟨_, rfl⟩
        rw [← hy] at Y4 ⊢
        generalize wr.alloc (.cells #[.int .i64 x0, .int .i64 x1, .int .i64 x2, .int .i64 x3, .slice A L c, .int .i64 x0, .int .i64 x1, .slice xA xn xc, .slice xB xm xd] 97) = w4 at *
        clear hy c0 c1 c2 c3 c4 c5 c6 c7 c8 B4
        obtain ⟨h14, htr⟩ := scr_loads HXS.out b
        have H14 := Lib.hid h14
        have HTR := Lib.hid htr
        clear h14 htr
        simp only at H14 HTR
        have W4 := Lib.hid (HB2.out.trans (R4.out.mono HWB.out))
        have hrd := own_read XV4.out
        have HLC := Lib.hid (HLD.out x0 x1 xv xA xn xc hrd.1 hrd.2.2 w4 W4.out hrd.2.1)
        rw [H14.out] at HLC
        clear hrd
        have y4 := Y4.out.cell 4 (u := .slice A L c) rfl
        have y5 := Y4.out.cell 5 (u := .int .i64 x0) rfl
        have y6 := Y4.out.cell 6 (u := .int .i64 x1) rfl
        have y7 := Y4.out.cell 7 (u := .slice xA xn xc) rfl
        go_wp2_with fail
        refine HLC.out.mono ?_
        rintro e w5 ⟨lv, rfl, OL, B5⟩
        have O5 := Lib.hid (O4.out.below B5)
        have XV5 := Lib.hid (XV4.out.below B5)
        have XU5 := Lib.hid (XU4.out.below B5)
        have Y5 := Lib.hid (Y4.out.below B5 Y4.out.lt)
        have R5 := Lib.hid (R4.out.trans (B5.mono (show bb ≤ w4.heap.size by rw [HBB.out]; exact R4.out.size)))
        have W5 := Lib.hid (HB2.out.trans (R5.out.mono HWB.out))
        have HOL := Lib.hid OL
        clear y4 y5 y6 y7 O4 XV4 XU4 Y4 R4 W4 B5 OL HLC
        obtain ⟨lA, lc, rfl, -, -, -, -⟩ := HOL.out.slice
        obtain ⟨ln, hln⟩ : ∃ m, m = (loadL l x0 x1 xv).length := ⟨_, rfl⟩
        have hrd := own_read HOL.out
        rw [← hln] at ⊢
        have HMC := Lib.hid (HMT.out (loadL l x0 x1 xv) lA ln lc hln hrd.2.2 w5 W5.out hrd.2.1)
        clear hln hrd HOL
        go_wp2_with fail
        refine HMC.out.mono ?_
        rintro e w6 ⟨os, vl, vr, tk, rs, er, rfl, h1, h2, OT, OR, B6⟩
        have HM := Lib.hid (show MatR (ldS l ⟨x0, x1, x2, x3, xv, xh⟩) b tk rs er from ⟨os, h1, h2⟩)
        have O6 := Lib.hid (O5.out.below B6)
        have XV6 := Lib.hid (XV5.out.below B6)
        have XU6 := Lib.hid (XU5.out.below B6)
        have Y6 := Lib.hid (Y5.out.below B6 Y5.out.lt)
        have hs5 : bb ≤ w5.heap.size := by rw [HBB.out]; exact R5.out.size
        have R6 := Lib.hid (R5.out.trans (B6.mono hs5))
        have W6 := Lib.hid (HB2.out.trans (R6.out.mono HWB.out))
        have OT6 := Lib.hid (OT.base hs5)
        have OR6 := Lib.hid (OR.base hs5)
        have Z6 := Lib.hid (show AB 43 w6 zb zeroH from (R6.out.block zb HZL.out).trans Z2.out)
        clear h1 h2 hs5 OT OR B6 O5 XV5 XU5 Y5 R5 W5 HMC
        by_cases her : er = 0
        · subst her
          obtain ⟨kA, kc, rfl, -, -, -, -⟩ := OT6.out.slice
          obtain ⟨kn, hkn⟩ : ∃ m, m = tk.length := ⟨_, rfl⟩
          rw [← hkn] at OT6 ⊢
          have HSC2 := Lib.hid (HSO.out HV0.out ⟨⟨x0, x1, x2, x3, xv, xh⟩, xA, xn, xc, xB, xm, xd⟩ kA kn kc w6 W6.out)
          rw [aggS_lit] at HSC2
          simp only at HSC2
          clear hkn
          have y0 := Y6.out.cell 0 (u := .int .i64 x0) rfl
          have y1 := Y6.out.cell 1 (u := .int .i64 x1) rfl
          have y2 := Y6.out.cell 2 (u := .int .i64 x2) rfl
          have y3 := Y6.out.cell 3 (u := .int .i64 x3) rfl
          have y4 := Y6.out.cell 4 (u := .slice A L c) rfl
          have y5 := Y6.out.cell 5 (u := .int .i64 x0) rfl
          have y6 := Y6.out.cell 6 (u := .int .i64 x1) rfl
          have y7 := Y6.out.cell 7 (u := .slice xA xn xc) rfl
          have y8 := Y6.out.cell 8 (u := .slice xB xm xd) rfl
          go_wp2_with fail
          refine HSC2.out.mono ?_
          rintro e w7 ⟨Bx, dx, rfl, IO, B7⟩
          have hs6 : bb ≤ w6.heap.size := by rw [HBB.out]; exact R6.out.size
          have HIO := Lib.hid (IO.base hs6)
          have Z7 := Lib.hid (Z6.out.below B7 Z6.out.lt)
          have W7 := Lib.hid (W6.out.trans (B7.mono W6.out.size))
          have OT7 := Lib.hid (OT6.out.below B7)
          have XV7 := Lib.hid (XV6.out.below B7)
          have XU7 := Lib.hid (XU6.out.below B7)
          have HVR := Lib.hid (show trkE b = 0 by
            rcases HM.out.err with ⟨h1, _, _, h2⟩ | ⟨h1, _⟩ | ⟨_, _, h2⟩
            · exact absurd h2.symm h1
            · rw [← HTR.out]; exact h1
            · cases h2)
          have HRS := Lib.hid (show rs = [] by
            rcases HM.out.err with ⟨h1, _, _, h2⟩ | ⟨_, h1, _⟩ | ⟨_, _, h2⟩
            · exact absurd h2.symm h1
            · exact h1
            · cases h2)
          clear y0 y1 y2 y3 y4 y5 y6 y7 y8 hs6 IO B7 O6 XV6 XU6 Y6 R6 W6 OT6 OR6 Z6 HSC2
          have z0 := Z7.out.cell 0 (u := .slice none 0 0) rfl
          have f0 := Z7.out.frozen 0
          have z1 := Z7.out.cell 1 (u := .int .i64 0) rfl
          have f1 := Z7.out.frozen 1
          have z2 := Z7.out.cell 2 (u := .int .i64 0) rfl
          have f2 := Z7.out.frozen 2
          have z3 := Z7.out.cell 3 (u := .slice none 0 0) rfl
          have f3 := Z7.out.frozen 3
          have z4 := Z7.out.cell 4 (u := .slice none 0 0) rfl
          have f4 := Z7.out.frozen 4
          have z5 := Z7.out.cell 5 (u := .slice none 0 0) rfl
          have f5 := Z7.out.frozen 5
          have HPZ := Lib.hid (Z7.out.put6)
          go_wp2_with fail
          refine bodyPost_ret (results_rec3 (R := ShR) (x := ⟨Bx, L, dx, x0, x1, xA, xn, xc, xB, xm, xd, kA, kn, kc⟩) rfl Tryz.underlying43 rfl infoSheet _ _ zb rfl rfl rfl ((HPZ.out _ _ _ _ _ _).rblk rfl)) rfl ?_
          have q1 := HZ1.out
          have q2 := HZL.out
          have q3 := HWB.out
          refine ⟨some (⟨x0, x1, x2, x3, xv, xh⟩, tk), [], 0, ⟨Bx, L, dx, x0, x1, xA, xn, xc, xB, xm, xd, kA, kn, kc⟩, _, rfl, Or.inr ⟨HE.out, xs.map Sl.s, HQ.out, Or.inr (Or.inl ⟨HVR.out, k, _, tk, HXQ.out, HP.out.no, ?_, rfl, rfl, rfl⟩)⟩, ⟨rfl, rfl, HLL.out, ?_, ?_, ?_, ?_⟩, Own.nil, Below.put6 W7.out (Nat.le_of_eq HZB.out.symm) _ _ _ _ _ _⟩
          · have := HM.out
            rw [HRS.out] at this
            exact this
          · exact (IOwn.put6 HIO.out (fun e => by have := (HIO.out.block e).1; omega) _ _ _ _ _ _).irow
          · exact (Own.put6 XV7.out (fun e => by have := (own_block XV7.out e).1; omega) _ _ _ _ _ _).base (by omega)
          · exact (Own.put6 XU7.out (fun e => by have := (own_block XU7.out e).1; omega) _ _ _ _ _ _).base (by omega)
          · exact (Own.put6 OT7.out (fun e => by have := (own_block OT7.out e).1; omega) _ _ _ _ _ _).base (by omega)
        · by_cases h14 : er = 14
          · subst h14
            have HMM := Lib.hid (show trkE b = 0 ∧ MatR (ldS l ⟨x0, x1, x2, x3, xv, xh⟩) b [] rs 14 by
              rcases HM.out.err with ⟨h1, _, _, h2⟩ | ⟨_, _, h2⟩ | ⟨h1, h2, _⟩
              · rw [HTR.out] at h2; exact absurd h2.symm (trkE_14 b)
              · cases h2
              · refine ⟨by rw [← HTR.out]; exact h1, ?_⟩
                have := HM.out
                rw [h2] at this
                exact this)
            have HNR := Lib.hid (HP.out.no.succ HXQ.out HMM.out.2)
            have HKL := Lib.hid (show k + 1 ≤ n by have := HLT.out; omega)
            clear her HM XV6 XU6 Y6 W6 OT6 Z6
            by_cases hk0 : k = 0
            · have hkb : ((k : Int) == 0) = true := by simp; exact hk0
              have HN' := Lib.hid (show PlSt l b (xs.map Sl.s) (k + 1) rs from ⟨HNR.out, fun e => absurd e (Nat.succ_ne_zero _), fun _ => ⟨HMM.out.1, _, by have := HXQ.out; rw [hk0] at this; exact this, HMM.out.2⟩⟩)
              clear hk0 HP O6
              go_wp2_with fail
              go_roundw
              case rel => exact ⟨k + 1, rs, HKL.out, by go_num, HN', OR6, R6⟩
              case measure => simp [intOf]; have := HLT.out; omega
            · have hkb : ((k : Int) == 0) = false := by simp; exact hk0
              have HN' := Lib.hid (show PlSt l b (xs.map Sl.s) (k + 1) rf from ⟨HNR.out, fun e => absurd e (Nat.succ_ne_zero _), fun _ => HP.out.pos (by omega)⟩)
              clear hk0 HP OR6
              go_wp2_with fail
              go_roundw
              case rel => exact ⟨k + 1, rf, HKL.out, by go_num, HN', O6, R6⟩
              case measure => simp [intOf]; have := HLT.out; omega
          · have hn14 : (er != 14) = true := bne_iff_ne.2 h14
            have hn0 : (er == 0) = false := by simp; exact her
            have HER := Lib.hid (show trkE b ≠ 0 ∧ er = trkE b by
              rcases HM.out.err with ⟨h1, _, _, h2⟩ | ⟨_, _, h2⟩ | ⟨_, _, h2⟩
              · rw [HTR.out] at h1 h2; exact ⟨h1, h2⟩
              · exact absurd h2 her
              · exact absurd h2 h14)
            clear her h14 O6 XV6 XU6 Y6 OT6 OR6 R6
            have z0 := Z6.out.cell 0 (u := .slice none 0 0) rfl
            have f0 := Z6.out.frozen 0
            have z1 := Z6.out.cell 1 (u := .int .i64 0) rfl
            have f1 := Z6.out.frozen 1
            have z2 := Z6.out.cell 2 (u := .int .i64 0) rfl
            have f2 := Z6.out.frozen 2
            have z3 := Z6.out.cell 3 (u := .slice none 0 0) rfl
            have f3 := Z6.out.frozen 3
            have z4 := Z6.out.cell 4 (u := .slice none 0 0) rfl
            have f4 := Z6.out.frozen 4
            have z5 := Z6.out.cell 5 (u := .slice none 0 0) rfl
            have f5 := Z6.out.frozen 5
            have HPZ := Lib.hid (Z6.out.put6)
            go_wp2_with fail
            refine bodyPost_ret (results_rec3 (R := ShR) (x := sh0) rfl Tryz.underlying43 rfl infoSheet _ _ zb rfl rfl rfl ((HPZ.out _ _ _ _ _ _).rblk rfl)) rfl ?_
            exact ⟨none, [], er, sh0, _, rfl, Or.inr ⟨HE.out, xs.map Sl.s, HQ.out, Or.inl ⟨HER.out.1, rfl, rfl, HER.out.2⟩⟩, rfl, Own.nil, Below.put6 W6.out (Nat.le_of_eq HZB.out.symm) _ _ _ _ _ _⟩
      · have HKN := Lib.hid (show k = (xs.map Sl.s).length ∧ 0 < k by rw [List.length_map, ← HN.out]; have := HL0.out; omega)
        have W9 := Lib.hid (HB2.out.trans (HR.out.mono HWB.out))
        have Z9 := Lib.hid (show AB 43 wr zb zeroH from (HR.out.block zb HZL.out).trans Z2.out)
        have HO9 := Lib.hid HO.out
        clear HO HR
        have z0 := Z9.out.cell 0 (u := .slice none 0 0) rfl
        have f0 := Z9.out.frozen 0
        have z1 := Z9.out.cell 1 (u := .int .i64 0) rfl
        have f1 := Z9.out.frozen 1
        have z2 := Z9.out.cell 2 (u := .int .i64 0) rfl
        have f2 := Z9.out.frozen 2
        have z3 := Z9.out.cell 3 (u := .slice none 0 0) rfl
        have f3 := Z9.out.frozen 3
        have z4 := Z9.out.cell 4 (u := .slice none 0 0) rfl
        have f4 := Z9.out.frozen 4
        have z5 := Z9.out.cell 5 (u := .slice none 0 0) rfl
        have f5 := Z9.out.frozen 5
        have HPZ := Lib.hid (Z9.out.put6)
        go_wp2_with fail
        refine bodyPost_ret (results_rec3 (R := ShR) (x := sh0) rfl Tryz.underlying43 rfl infoSheet _ _ zb rfl rfl rfl ((HPZ.out _ _ _ _ _ _).rblk rfl)) rfl ?_
        obtain ⟨p1, p2⟩ := HP.out.pos HKN.out.2
        have q2 := HZL.out
        exact ⟨none, rf, 14, sh0, _, rfl, Or.inr ⟨HE.out, xs.map Sl.s, HQ.out, Or.inr (Or.inr ⟨p1, by rw [← HKN.out.1]; exact HP.out.no, p2, rfl, rfl⟩)⟩, rfl, (Own.put6 HO9.out (fun e => by have := (own_block HO9.out e).1; omega) _ _ _ _ _ _).base HWB.out, Below.put6 W9.out (Nat.le_of_eq HZB.out.symm) _ _ _ _ _ _⟩
end Go.Proofs.YtimkmieohkefiaaGreat

namespace Go.Proofs.YtimkmieohkefiaaGreat
open Go.RowKit

theorem take_snoc (s : ByteArray) (k : Nat) (h : k < s.size) : s.data.toList.take (k + 1) = s.data.toList.take k ++ [s[k]] := by
  rw [List.take_succ_eq_append_getElem (by simpa using h)]; rfl

theorem all_snocD (s : ByteArray) (k : Nat) (h : k < s.size) : (s.data.toList.take (k + 1)).all dig = ((s.data.toList.take k).all dig && dig s[k]) := by
  rw [take_snoc s k h, List.all_append]; simp

theorem all_take (s : ByteArray) (k : Nat) (h : (s.data.toList.take k).all dig = false) : s.data.toList.all dig = false := by
  have : s.data.toList.all dig = ((s.data.toList.take k).all dig && (s.data.toList.drop k).all dig) := by rw [← List.all_append, List.take_append_drop]
  rw [this, h]; rfl

set_option maxHeartbeats 400000 in
theorem digits_any (s : ByteArray) (n : Int) (w : World) (h0 : 0 ≤ n) (h1 : n ≤ 1000) :
    Calls Tryz.prog 120 #[.string s, .int .i64 n] w fun e w' => e = .returned (.bool (dgs s n.toNat)) ∧ w = w' := by
  obtain ⟨N, rfl⟩ := Int.eq_ofNat_of_zero_le h0
  rw [Int.toNat_natCast]
  by_cases hs : s.size = N
  · subst hs
    have HF : Hid (dgs s s.size = s.data.toList.all dig) := Lib.hid (by unfold dgs; simp)
    go_enter Tryz.func120, Tryz.ntmps120
    go_wp2_with fail
    go_loop [5] (fun i => ∃ k : Nat, k ≤ s.size ∧ i = .int .i64 k ∧ (s.data.toList.take k).all dig = true) (fun i => s.size - (intOf i).toNat)
    case atStart => exact ⟨0, by omega, rfl, by simp⟩
    case round =>
      obtain ⟨k, hk, rfl, hall⟩ := hrel
      have HA := Lib.hid hall
      clear hall
      by_cases hlt : k < s.size
      · have HS := Lib.hid (all_snocD s k hlt)
        by_cases c1 : (s[k].toNat : Int) < 48
        · have hd : dig s[k] = false := decide_eq_false (by omega)
          have HD := Lib.hid hd
          clear hd
          go_wp2
          go_ret
          exact ⟨ret_bool (by rw [HF.out, all_take s (k + 1) (by rw [HS.out, HD.out]; simp)]), rfl⟩
        · by_cases c2 : 57 < (s[k].toNat : Int)
          · have hd : dig s[k] = false := decide_eq_false (by omega)
            have HD := Lib.hid hd
            clear hd
            go_wp2
            go_ret
            exact ⟨ret_bool (by rw [HF.out, all_take s (k + 1) (by rw [HS.out, HD.out]; simp)]), rfl⟩
          · have hd : dig s[k] = true := decide_eq_true ⟨by omega, by omega⟩
            have HD := Lib.hid hd
            clear hd
            go_wp2
            go_round
            case rel => exact ⟨k + 1, by omega, by go_num, by rw [HS.out, HA.out, HD.out]; rfl⟩
            case measure => simp [intOf]; omega
      · go_wp2
        go_ret
        exact ⟨ret_bool (by rw [HF.out]; have e : k = s.size := by omega
                            have g := HA.out; rw [e, List.take_of_length_le (by simp)] at g; exact g.symm), rfl⟩
  · have HF : Hid (dgs s N = false) := Lib.hid (by unfold dgs; simp [hs])
    have hne : ((s.size : Int) != (N : Int)) = true := by rw [bne_iff_ne]; omega
    clear hs
    go_enter Tryz.func120, Tryz.ntmps120
    go_wp2_with fail
    go_ret
    exact ⟨ret_bool HF.out.symm, rfl⟩

end Go.Proofs.YtimkmieohkefiaaGreat

namespace Go.Proofs.YtimkmieohkefiaaGreat
open Go.RowKit

/-- A digit's value, and what it adds at place i. -/
def dv (c : UInt8) : Int := (c.toNat : Int) - 48
def wt (i : Nat) (c : UInt8) : Int := if i % 2 = 0 then (if 9 < 2 * dv c then 2 * dv c - 9 else 2 * dv c) else dv c
/-- The sum of the first n digits. -/
def sumTo (l : List UInt8) : Nat → Int
  | 0 => 0
  | n + 1 => sumTo l n + wt n (l.getD n 48)

theorem dig_all {s : ByteArray} (h : s.data.toList.all dig = true) (k : Nat) (hk : k < s.size) : 48 ≤ s[k].toNat ∧ s[k].toNat ≤ 57 := by
  have hm : s[k] ∈ s.data.toList := by
    have e : s[k] = s.data.toList[k]'(by simpa using hk) := rfl
    rw [e]; exact List.getElem_mem _
  have := List.all_eq_true.1 h _ hm
  simpa [dig] using this
theorem getD_byte (s : ByteArray) (k : Nat) (hk : k < s.size) (d : UInt8) : s.data.toList.getD k d = s[k] := by
  rw [List.getD_eq_getElem?_getD, List.getElem?_eq_getElem (by simpa using hk)]; rfl
theorem wt_bd (i : Nat) (c : UInt8) (h : 48 ≤ c.toNat ∧ c.toNat ≤ 57) : 0 ≤ wt i c ∧ wt i c ≤ 9 := by
  unfold wt dv; split <;> (try split) <;> omega
theorem sumTo_bd {s : ByteArray} (h : s.data.toList.all dig = true) (n : Nat) (hn : n ≤ s.size) : 0 ≤ sumTo s.data.toList n ∧ sumTo s.data.toList n ≤ 9 * n := by
  induction n with
  | zero => exact ⟨by simp [sumTo], by simp [sumTo]⟩
  | succ n ih =>
    have := ih (by omega)
    have hw := wt_bd n (s.data.toList.getD n 48) (by rw [getD_byte s n (by omega)]; exact dig_all h n (by omega))
    unfold sumTo
    omega

set_option maxHeartbeats 800000 in
theorem sum_any (s : ByteArray) (n : Int) (w : World) (h0 : 0 ≤ n) (h1 : n ≤ s.size) (h2 : s.size ≤ 1000) (hd : s.data.toList.all dig = true) :
    Calls Tryz.prog 121 #[.string s, .int .i64 n] w fun e w' => e = .returned (.int .i64 (sumTo s.data.toList n.toNat)) ∧ w = w' := by
  obtain ⟨N, rfl⟩ := Int.eq_ofNat_of_zero_le h0
  rw [Int.toNat_natCast]
  have HD := Lib.hid hd
  clear hd
  go_enter Tryz.func121, Tryz.ntmps121
  go_wp2_with fail
  go_loop [5, 6] (fun t i => ∃ k : Nat, k ≤ N ∧ i = .int .i64 k ∧ t = .int .i64 (sumTo s.data.toList k)) (fun _ i => N - (intOf i).toNat)
  case atStart => exact ⟨0, by omega, rfl, by simp [sumTo]⟩
  case round =>
    obtain ⟨k, hk, rfl, rfl⟩ := hrel
    have hb := sumTo_bd HD.out k (by omega)
    obtain ⟨b1, b2⟩ := hb
    by_cases hlt : k < N
    · obtain ⟨c1, c2⟩ := dig_all HD.out k (by omega)
      have hks : k < s.size := by omega
      have HS : Hid (sumTo s.data.toList (k + 1) = sumTo s.data.toList k + wt k s[k]) := Lib.hid (by rw [sumTo, getD_byte s k hks])
      have d1 : 48 ≤ (s[k].toNat : Int) := by omega
      have d2 : (s[k].toNat : Int) ≤ 57 := by omega
      by_cases p : k % 2 = 0
      · have pe : ((k : Int) % 2 == 0) = true := beq_iff_eq.2 (by omega)
        have HW : Hid (wt k s[k] = if 9 < 2 * dv s[k] then 2 * dv s[k] - 9 else 2 * dv s[k]) := Lib.hid (by unfold wt; rw [if_pos p])
        clear p
        by_cases g : 9 < 2 * dv s[k]
        all_goals
          have HG := Lib.hid g
          have g' := g
          unfold dv at g'
          clear g
          go_wp2
          go_round
          case rel => exact ⟨k + 1, by omega, by go_num, congrArg (Value.int .i64) (by rw [HS.out, HW.out]; have hg := HG.out; unfold dv at hg ⊢; first | (rw [if_pos hg]; omega) | (rw [if_neg hg]; omega))⟩
          case measure => simp [intOf]; omega
      · have pe : ((k : Int) % 2 == 0) = false := beq_eq_false_iff_ne.2 (by omega)
        have HW : Hid (wt k s[k] = dv s[k]) := Lib.hid (by unfold wt; rw [if_neg p])
        clear p
        go_wp2
        go_round
        case rel => exact ⟨k + 1, by omega, by go_num, congrArg (Value.int .i64) (by rw [HS.out, HW.out]; unfold dv; omega)⟩
        case measure => simp [intOf]; omega
    · obtain rfl : N = k := by omega
      go_wp2
      go_ret
      exact ⟨rfl, rfl⟩

/-- The check digit of eleven digits. -/
def chkS (l : List UInt8) : Int := (10 - sumTo l 11 % 10) % 10
def digitR (s : ByteArray) : Int × Int := if dgs s 11 = true then (chkS s.data.toList, 0) else (0, 11)

theorem dgs_t {s : ByteArray} {n : Nat} (h : dgs s n = true) : s.size = n ∧ s.data.toList.all dig = true := by
  unfold dgs at h
  simpa using h

set_option maxHeartbeats 400000 in
theorem rdigit_any (s : ByteArray) (w : World) :
    Calls Tryz.prog 76 #[.string s] w fun e w' => e = .returned (R2 (digitR s)) ∧ w = w' := by
  cases hs : dgs s 11
  · have HF : Hid (digitR s = (0, 11)) := Lib.hid (by unfold digitR; rw [hs]; rfl)
    go_enter Tryz.func76, Tryz.ntmps76
    go_wp2_with fail
    refine (digits_any _ _ _ (by omega) (by omega)).mono ?_
    rintro e w' ⟨rfl, rfl⟩
    go_wp2_with fail
    go_ret2
    exact ⟨ret_r2 HF.out, rfl⟩
  · have HF : Hid (digitR s = (chkS s.data.toList, 0)) := Lib.hid (by unfold digitR; rw [if_pos hs])
    obtain ⟨hz, hd⟩ := dgs_t hs
    have hb := sumTo_bd hd 11 (by omega)
    obtain ⟨b1, b2⟩ := hb
    have HD := Lib.hid hd
    have HZ := Lib.hid hz
    clear hz hd
    go_enter Tryz.func76, Tryz.ntmps76
    go_wp2_with fail
    refine (digits_any _ _ _ (by omega) (by omega)).mono ?_
    rintro e w' ⟨rfl, rfl⟩
    go_wp2_with fail
    refine (sum_any _ _ _ (by omega) (by have := HZ.out; omega) (by have := HZ.out; omega) HD.out).mono ?_
    rintro e w' ⟨rfl, rfl⟩
    go_wp2_with fail
    go_ret2
    exact ⟨ret_r2 HF.out, rfl⟩

/-- The last digit is the check digit. -/
def oks (l : List UInt8) : Bool := decide ((sumTo l 11 + dv (l.getD 11 48)) % 10 = 0)
def validS (s : ByteArray) : Int := if dgs s 12 = true then (if oks s.data.toList = true then 0 else 9) else 11

theorem validR_ok {s : ByteArray} (h : dgs s 12 = true) (k : oks s.data.toList = true) : validS s = 0 := by unfold validS; rw [if_pos h, if_pos k]

theorem sumTo_append (l l' : List UInt8) (n : Nat) (h : n ≤ l.length) : sumTo (l ++ l') n = sumTo l n := by
  induction n with
  | zero => rfl
  | succ n ih =>
    unfold sumTo
    rw [ih (by omega), List.getD_eq_getElem?_getD, List.getD_eq_getElem?_getD, List.getElem?_append_left (by omega)]
theorem chk_bd (l : List UInt8) : 0 ≤ chkS l ∧ chkS l ≤ 9 := by unfold chkS; omega

end Go.Proofs.YtimkmieohkefiaaGreat

namespace Go.Proofs.YtimkmieohkefiaaGreat
open Go.RowKit

end Go.Proofs.YtimkmieohkefiaaGreat

namespace Go.Proofs.YtimkmieohkefiaaGreat
open Go.RowKit

def knd (c : UInt8) : Int := if c.toNat = 55 ∨ c.toNat = 56 then 1 else if c.toNat = 50 ∨ c.toNat = 52 then 2 else if c.toNat = 57 then 3 else 0
def kindR (s : ByteArray) : Int × Int := if validS s = 0 then (knd (s.data.toList.getD 4 48), 0) else (0, validS s)

theorem validR_size {s : ByteArray} (h : validS s = 0) : s.size = 12 ∧ s.data.toList.all dig = true ∧ oks s.data.toList = true := by
  unfold validS at h
  cases hd : dgs s 12
  · rw [hd] at h; simp at h
  · cases ho : oks s.data.toList
    · rw [hd, ho] at h; simp at h
    · obtain ⟨h1, h2⟩ := dgs_t hd
      exact ⟨h1, h2, rfl⟩

end Go.Proofs.YtimkmieohkefiaaGreat

namespace Go.Proofs.YtimkmieohkefiaaGreat
open Go.RowKit

/-- The bytes of a string as numbers. -/
def nums (s : ByteArray) : List Int := s.data.toList.map fun b => (b.toNat : Int)
theorem nums_length (s : ByteArray) : (nums s).length = s.size := by unfold nums; rw [List.length_map]; rfl
theorem nums_getD (s : ByteArray) (j : Nat) (hj : j < s.size) : (nums s).getD j 0 = (s[j].toNat : Int) := by
  have h : j < s.data.toList.length := by simpa using hj
  rw [List.getD_eq_getElem?_getD]
  simp [nums, List.getElem?_map, List.getElem?_eq_getElem h]
  rfl
theorem Byts.ofString {w : World} {s : ByteArray} {c : Nat} {T : TypeId} (b : Nat) (hb : b = w.heap.size) :
    Byts (w.drew.alloc (.cells (bytesRow s c) T ((bytesRow s c).size, (bytesRow s c).size + 1))) b (nums s) := by
  subst hb
  have e : (w.drew.alloc (.cells (bytesRow s c) T ((bytesRow s c).size, (bytesRow s c).size + 1))).heap[w.heap.size]? = some (.cells (bytesRow s c) T ((bytesRow s c).size, (bytesRow s c).size + 1)) := by
    show (w.heap.push _)[w.heap.size]? = _
    rw [Array.getElem?_push, if_pos rfl]
  have hsz : s.size ≤ (bytesRow s c).size := by unfold bytesRow; rw [Array.size_append, Array.size_map]; exact Nat.le_add_right _ _
  refine ⟨fun j hj => ?_, fun j hj => ?_, by show w.heap.size < (w.heap.push _).size; simp⟩
  · rw [nums_length] at hj
    rw [nums_getD s j hj]
    unfold World.cell?
    rw [e]
    simp only [Option.isSome_none, Bool.false_eq_true, if_false]
    unfold bytesRow
    have hj' : j < s.data.size := hj
    rw [Array.getElem?_append_left (by simpa using hj')]
    simp [hj']
    exact ⟨s.data[j], by simp, rfl⟩
  · rw [nums_length] at hj
    unfold World.frozen?
    rw [e]
    simp
    omega

/-- string([]byte{v}). -/
theorem one_byte (W : World) (v : Int) : (convert 127 9 (.slice (some ⟨W.heap.size, 0, none⟩) 1 1)).run Tryz.prog (W.alloc (.cells #[.int .u8 v] 5)) = .ok (.string (strOfNums [v])) (W.alloc (.cells #[.int .u8 v] 5)) :=
  run_convert_bytes_arg _ 127 5 Tryz.underlying127 Tryz.underlying5 W.heap.size 0 1 1 [v] rfl (fun i hi => by
    obtain rfl : i = 0 := by omega
    rw [Nat.zero_add, cell_new]; rfl) 9 Tryz.underlying9

theorem bytes_of (w : World) (s : ByteArray) : (convert 9 127 (.string s)).run Tryz.prog w = .ok (.slice (some ⟨w.heap.size, 0, none⟩) s.size (grownCap w s.size 0 5))
      (w.drew.alloc (.cells (bytesRow s (grownCap w s.size 0 5)) 5 ((bytesRow s (grownCap w s.size 0 5)).size, (bytesRow s (grownCap w s.size 0 5)).size + 1))) :=
  run_bytes_of_string w 9 127 5 s Tryz.underlying9 Tryz.underlying127 Tryz.underlying5

theorem rdigit_ok (s : ByteArray) (w : World) (h : dgs s 11 = true) :
    Calls Tryz.prog 76 #[.string s] w fun e w' => e = .returned (.tuple #[.int .i64 (chkS s.data.toList), .int .i64 0]) ∧ w = w' := by
  have g := rdigit_any s w
  have e : digitR s = (chkS s.data.toList, 0) := if_pos h
  rw [e] at g
  exact g

theorem strOfNums_getD (xs : List Int) (j : Nat) (hj : j < xs.length) (d : UInt8) : (strOfNums xs).data.toList.getD j d = UInt8.ofNat (xs.getD j 0).toNat := by
  rw [strOfNums_data, List.getD_eq_getElem?_getD, List.getElem?_map, List.getElem?_eq_getElem hj, List.getD_eq_getElem?_getD, List.getElem?_eq_getElem hj]
  rfl
theorem strOfNums_append (xs ys : List Int) : strOfNums xs ++ strOfNums ys = strOfNums (xs ++ ys) := by
  unfold strOfNums
  rw [List.map_append]
  show (ByteArray.append _ _) = _
  cases xs <;> simp [ByteArray.append_eq, ByteArray.ext_iff]

/-- Eleven digits and their check digit. -/
theorem num_ok {xs : List Int} (hx : xs.length = 11) (hd : ∀ j, j < 11 → 48 ≤ xs.getD j 0 ∧ xs.getD j 0 ≤ 57) :
    dgs (strOfNums (xs ++ [48 + chkS (strOfNums xs).data.toList])) 12 = true ∧ validS (strOfNums (xs ++ [48 + chkS (strOfNums xs).data.toList])) = 0 := by
  have hc := chk_bd (strOfNums xs).data.toList
  generalize hg : chkS (strOfNums xs).data.toList = c at *
  have h12 : (xs ++ [48 + c]).length = 12 := by simp [hx]
  have g1 : dgs (strOfNums (xs ++ [48 + c])) 12 = true := by
    rw [← h12]
    refine dgs_strOfNums fun j hj => ?_
    by_cases e : j < 11
    · rw [List.getD_eq_getElem?_getD, List.getElem?_append_left (by omega), ← List.getD_eq_getElem?_getD]; exact hd j e
    · obtain rfl : j = 11 := by omega
      rw [List.getD_eq_getElem?_getD, List.getElem?_append_right (by omega), hx]
      show 48 ≤ 48 + c ∧ 48 + c ≤ 57
      omega
  refine ⟨g1, validR_ok g1 ?_⟩
  unfold oks
  have e1 : (strOfNums (xs ++ [48 + c])).data.toList = (strOfNums xs).data.toList ++ [UInt8.ofNat (48 + c).toNat] := by
    rw [strOfNums_data, List.map_append, strOfNums_data]; rfl
  have hl : (strOfNums xs).data.toList.length = 11 := by rw [strOfNums_data, List.length_map, hx]
  rw [e1, sumTo_append _ _ _ (by omega)]
  have e2 : ((strOfNums xs).data.toList ++ [UInt8.ofNat (48 + c).toNat]).getD 11 48 = UInt8.ofNat (48 + c).toNat := by
    rw [List.getD_eq_getElem?_getD, List.getElem?_append_right (by omega), hl]; rfl
  rw [e2]
  have e3 : dv (UInt8.ofNat (48 + c).toNat) = c := by unfold dv; rw [UInt8.toNat_ofNat']; omega
  rw [e3]
  refine decide_eq_true ?_
  rw [← hg]
  unfold chkS
  omega

/-- A valid number, whose digits 8 to 10 are those of i. -/
def IsNum (i : Int) (t : ByteArray) : Prop := dgs t 12 = true ∧ validS t = 0 ∧ t.data.toList.getD 8 0 = UInt8.ofNat (48 + i / 100 % 10).toNat ∧ t.data.toList.getD 9 0 = UInt8.ofNat (48 + i / 10 % 10).toNat ∧ t.data.toList.getD 10 0 = UInt8.ofNat (48 + i % 10).toNat

set_option maxHeartbeats 1600000 in
theorem mnumber_any (m N : Nat) (i : Int) (w : World) (h : IsMk w m N) (hN : N ≤ 10000000000) (i1 : 0 ≤ i) (i2 : i ≤ 1000000) :
    Calls Tryz.prog 41 #[.pointer (some ⟨m, 0, none⟩), .int .i64 i] w (StrPost m (N + 11) (IsNum i) w) := by
  have hm := h.lt
  have hcv := bytes_of
  have hob := one_byte
  go_enter Tryz.func41, Tryz.ntmps41
  go_wp2_with fail
  refine (mdigits_any m N 11 w h (by omega) (by omega)).mono ?_
  rintro e w1 ⟨s, rfl, hs, k1, k2⟩
  obtain ⟨hz, hd⟩ := dgs_t hs
  have HD := Lib.hid hd
  have HSs := Lib.hid hs
  clear hs hd
  go_upto_region 2 with fail
  generalize grownCap w1 11 0 5 = cap at *
  have B0 : Byts ((w1.alloc (.cells (bytesRow s cap) 5 ((bytesRow s cap).size, (bytesRow s cap).size + 1))).drew) w1.heap.size (nums s) := Byts.ofString _ rfl
  have M0 : IsMk ((w1.alloc (.cells (bytesRow s cap) 5 ((bytesRow s cap).size, (bytesRow s cap).size + 1))).drew) m (N + 11) := (k1.stays' ((Below.refl _ _).alloc (Nat.le_refl _) _)).drew
  have V0 : Moves m w ((w1.alloc (.cells (bytesRow s cap) 5 ((bytesRow s cap).size, (bytesRow s cap).size + 1))).drew) := (k2.alloc _).drewN (n := 1)
  generalize ((w1.alloc (.cells (bytesRow s cap) 5 ((bytesRow s cap).size, (bytesRow s cap).size + 1))).drew) = wq at *
  have hb : m < w1.heap.size := k1.lt
  have hw : w.heap.size ≤ w1.heap.size := k2.size
  have hl : (nums s).length = 11 := by rw [nums_length, hz]
  have c8 := B0.cs 8 (by omega)
  have c9 := B0.cs 9 (by omega)
  have c10 := B0.cs 10 (by omega)
  have f8 := B0.fs 8 (by omega)
  have f9 := B0.fs 9 (by omega)
  have f10 := B0.fs 10 (by omega)
  have B3 : Byts (((wq.setCell ⟨w1.heap.size, 8, none⟩ (.int .u8 (48 + i / 100 % 10))).setCell ⟨w1.heap.size, 9, none⟩ (.int .u8 (48 + i / 10 % 10))).setCell ⟨w1.heap.size, 10, none⟩ (.int .u8 (48 + i % 10))) w1.heap.size ((((nums s).set 8 (48 + i / 100 % 10)).set 9 (48 + i / 10 % 10)).set 10 (48 + i % 10)) :=
    ((B0.store 8 (by omega) _).store 9 (by rw [List.length_set]; omega) _).store 10 (by rw [List.length_set, List.length_set]; omega) _
  have M3 : IsMk (((wq.setCell ⟨w1.heap.size, 8, none⟩ (.int .u8 (48 + i / 100 % 10))).setCell ⟨w1.heap.size, 9, none⟩ (.int .u8 (48 + i / 10 % 10))).setCell ⟨w1.heap.size, 10, none⟩ (.int .u8 (48 + i % 10))) m (N + 11) := ((M0.setCell hb _).setCell hb _).setCell hb _
  have V3 : Moves m w (((wq.setCell ⟨w1.heap.size, 8, none⟩ (.int .u8 (48 + i / 100 % 10))).setCell ⟨w1.heap.size, 9, none⟩ (.int .u8 (48 + i / 10 % 10))).setCell ⟨w1.heap.size, 10, none⟩ (.int .u8 (48 + i % 10))) :=
    Moves.setCell (m := m) (Moves.setCell (m := m) (Moves.setCell (m := m) V0 (Or.inr hw) _) (Or.inr hw) _) (Or.inr hw) _
  go_upto_region 3 with fail
  have hx : ((((nums s).set 8 (48 + i / 100 % 10)).set 9 (48 + i / 10 % 10)).set 10 (48 + i % 10)).length = 11 := by rw [List.length_set, List.length_set, List.length_set, hl]
  have hd : ∀ j, j < 11 → 48 ≤ ((((nums s).set 8 (48 + i / 100 % 10)).set 9 (48 + i / 10 % 10)).set 10 (48 + i % 10)).getD j 0 ∧ ((((nums s).set 8 (48 + i / 100 % 10)).set 9 (48 + i / 10 % 10)).set 10 (48 + i % 10)).getD j 0 ≤ 57 := fun j hj => by
    rw [getD_set _ _ _ _ (by rw [List.length_set, List.length_set]; omega), getD_set _ _ _ _ (by rw [List.length_set]; omega), getD_set _ _ _ _ (by omega)]
    have := dig_all HD.out j (by omega)
    rw [nums_getD s j (by omega)]
    split
    · omega
    · split
      · omega
      · split
        · omega
        · omega
  have h8 : ((((nums s).set 8 (48 + i / 100 % 10)).set 9 (48 + i / 10 % 10)).set 10 (48 + i % 10)).getD 8 0 = 48 + i / 100 % 10 := by
    rw [getD_set _ _ _ _ (by rw [List.length_set, List.length_set]; omega), getD_set _ _ _ _ (by rw [List.length_set]; omega), getD_set _ _ _ _ (by omega)]; rfl
  have h9 : ((((nums s).set 8 (48 + i / 100 % 10)).set 9 (48 + i / 10 % 10)).set 10 (48 + i % 10)).getD 9 0 = 48 + i / 10 % 10 := by
    rw [getD_set _ _ _ _ (by rw [List.length_set, List.length_set]; omega), getD_set _ _ _ _ (by rw [List.length_set]; omega)]; rfl
  have h10 : ((((nums s).set 8 (48 + i / 100 % 10)).set 9 (48 + i / 10 % 10)).set 10 (48 + i % 10)).getD 10 0 = 48 + i % 10 := by
    rw [getD_set _ _ _ _ (by rw [List.length_set, List.length_set]; omega)]; rfl
  generalize ((((nums s).set 8 (48 + i / 100 % 10)).set 9 (48 + i / 10 % 10)).set 10 (48 + i % 10)) = xs at *
  generalize (((wq.setCell ⟨w1.heap.size, 8, none⟩ (.int .u8 (48 + i / 100 % 10))).setCell ⟨w1.heap.size, 9, none⟩ (.int .u8 (48 + i / 10 % 10))).setCell ⟨w1.heap.size, 10, none⟩ (.int .u8 (48 + i % 10))) = wt at *
  have hc := fun (cap : Nat) => B3.str (P := Tryz.prog) (cap := cap) 127 5 9 Tryz.underlying127 Tryz.underlying5 Tryz.underlying9
  rw [hx] at hc
  have hn := num_ok hx hd
  have hdg := dgs_strOfNums (xs := xs) (fun j hj => hd j (by omega))
  rw [hx] at hdg
  have HX := Lib.hid (And.intro hx (And.intro h8 (And.intro h9 h10)))
  have HN := Lib.hid hn
  have HG := Lib.hid hdg
  obtain ⟨q1, q2⟩ := chk_bd (strOfNums xs).data.toList
  clear hx hd h8 h9 h10 hn hdg c8 c9 c10 f8 f9 f10 B0 M0 V0 hl
  go_wp2_with fail
  refine (rdigit_ok _ _ HG.out).mono ?_
  rintro e w' ⟨rfl, rfl⟩
  generalize chkS (strOfNums xs).data.toList = c at *
  have z1 : (strOfNums xs).size = 11 := by rw [strOfNums_size]; exact HX.out.1
  have z2 : (strOfNums [48 + c]).size = 1 := by rw [strOfNums_size]; rfl
  go_wp2_with fail
  go_ret
  refine ⟨_, rfl, ?_, M3.alloc _, V3.alloc _⟩
  rw [strOfNums_append]
  obtain ⟨hx, h8, h9, h10⟩ := HX.out
  have hl12 : (xs ++ [48 + c]).length = 12 := by simp [hx]
  refine ⟨HN.out.1, HN.out.2, ?_, ?_, ?_⟩
  · rw [strOfNums_getD _ _ (by omega), List.getD_eq_getElem?_getD, List.getElem?_append_left (by omega), ← List.getD_eq_getElem?_getD, h8]
  · rw [strOfNums_getD _ _ (by omega), List.getD_eq_getElem?_getD, List.getElem?_append_left (by omega), ← List.getD_eq_getElem?_getD, h9]
  · rw [strOfNums_getD _ _ (by omega), List.getD_eq_getElem?_getD, List.getElem?_append_left (by omega), ← List.getD_eq_getElem?_getD, h10]

end Go.Proofs.YtimkmieohkefiaaGreat

namespace Go.Proofs.YtimkmieohkefiaaGreat
open Go.RowKit

structure Wag where
  num : ByteArray
  len : Int
  axl : Int
  mas : Int
  brk : Int
  gds : Int
  gen : Bool
  dst : ByteArray
deriving DecidableEq
def cellsW (x : Wag) : List Value := [.string x.num, .int .i64 x.len, .int .i64 x.axl, .int .i64 x.mas, .int .i64 x.brk, .int .i64 x.gds, .bool x.gen, .string x.dst]
abbrev aggW (x : Wag) : Value := .agg #[.string x.num, .int .i64 x.len, .int .i64 x.axl, .int .i64 x.mas, .int .i64 x.brk, .int .i64 x.gds, .bool x.gen, .string x.dst]
def WR : Rec Wag := ⟨8, by decide, cellsW, fun _ => rfl, fun x u hu => by
  simp only [cellsW, List.mem_cons, List.not_mem_nil, or_false] at hu
  rcases hu with h | h | h | h | h | h | h | h <;> subst h <;> rfl⟩
/-- The cells of wagon k of a slice, spelt as the walks ask for them. -/
structure WSpelt (w : World) (ad : Addr) (x : Wag) : Prop where
  c0 : w.cell? ad = some (.string x.num)
  c1 : w.cell? ⟨ad.block, ad.off + 1, none⟩ = some (.int .i64 x.len)
  c2 : w.cell? ⟨ad.block, ad.off + 2, none⟩ = some (.int .i64 x.axl)
  c3 : w.cell? ⟨ad.block, ad.off + 3, none⟩ = some (.int .i64 x.mas)
  c4 : w.cell? ⟨ad.block, ad.off + 4, none⟩ = some (.int .i64 x.brk)
  c5 : w.cell? ⟨ad.block, ad.off + 5, none⟩ = some (.int .i64 x.gds)
  c6 : w.cell? ⟨ad.block, ad.off + 6, none⟩ = some (.bool x.gen)
  c7 : w.cell? ⟨ad.block, ad.off + 7, none⟩ = some (.string x.dst)
theorem WSpelt.of {w : World} {ad : Addr} {k : Nat} {x : Wag} (h : RCel WR w ad k x) : WSpelt w (ad.add (k * 8)) x :=
  ⟨h.first (R := WR) rfl, h.next (R := WR) 1 (by decide) rfl, h.next (R := WR) 2 (by decide) rfl, h.next (R := WR) 3 (by decide) rfl, h.next (R := WR) 4 (by decide) rfl, h.next (R := WR) 5 (by decide) rfl, h.next (R := WR) 6 (by decide) rfl, h.next (R := WR) 7 (by decide) rfl⟩
/-- The cells of a block that holds a wagon. -/
structure WBlk (w : World) (b : Nat) (x : Wag) : Prop where
  c0 : w.cell? ⟨b, 0, none⟩ = some (.string x.num)
  c1 : w.cell? ⟨b, 1, none⟩ = some (.int .i64 x.len)
  c2 : w.cell? ⟨b, 2, none⟩ = some (.int .i64 x.axl)
  c3 : w.cell? ⟨b, 3, none⟩ = some (.int .i64 x.mas)
  c4 : w.cell? ⟨b, 4, none⟩ = some (.int .i64 x.brk)
  c5 : w.cell? ⟨b, 5, none⟩ = some (.int .i64 x.gds)
  c6 : w.cell? ⟨b, 6, none⟩ = some (.bool x.gen)
  c7 : w.cell? ⟨b, 7, none⟩ = some (.string x.dst)
  lt : b < w.heap.size
theorem WBlk.of {w : World} {b : Nat} {x : Wag} (h : RBlk WR w b x) : WBlk w b x :=
  ⟨h.cs 0 _ rfl, h.cs 1 _ rfl, h.cs 2 _ rfl, h.cs 3 _ rfl, h.cs 4 _ rfl, h.cs 5 _ rfl, h.cs 6 _ rfl, h.cs 7 _ rfl, h.lt⟩
theorem newW (w : World) (x : Wag) (T : TypeId) (b : Nat) (hb : b = w.heap.size) : RBlk WR (w.alloc (.cells #[.string x.num, .int .i64 x.len, .int .i64 x.axl, .int .i64 x.mas, .int .i64 x.brk, .int .i64 x.gds, .bool x.gen, .string x.dst] T)) b x := RBlk.new (R := WR) (x := x) b hb

/-- A byte of a name; a name. -/
def nmc (c : UInt8) : Bool := decide ((97 ≤ c.toNat ∧ c.toNat ≤ 122) ∨ (48 ≤ c.toNat ∧ c.toNat ≤ 57))
def nameS (s : ByteArray) : Bool := decide (1 ≤ s.size ∧ s.size ≤ 12) && s.data.toList.all nmc
theorem nm_snoc (s : ByteArray) (k : Nat) (h : k < s.size) : (s.data.toList.take (k + 1)).all nmc = ((s.data.toList.take k).all nmc && nmc s[k]) := by
  rw [take_snoc s k h, List.all_append]; simp
theorem nm_take (s : ByteArray) (k : Nat) (h : (s.data.toList.take k).all nmc = false) : s.data.toList.all nmc = false := by
  have : s.data.toList.all nmc = ((s.data.toList.take k).all nmc && (s.data.toList.drop k).all nmc) := by rw [← List.all_append, List.take_append_drop]
  rw [this, h]; rfl
def axlK (k : Int) : Int := if k = 2 then 2 else if k = 3 then 6 else 4
def leastK (k : Int) : Int := if k = 3 then 120 else 80
def rngW (x : Wag) (k : Int) : Prop := leastK k ≤ x.len ∧ x.len ≤ 400 ∧ 50 ≤ x.mas ∧ x.mas ≤ 2000 ∧ 0 ≤ x.brk ∧ x.brk ≤ x.mas ∧ 0 ≤ x.gds ∧ x.gds ≤ 9
instance (x : Wag) (k : Int) : Decidable (rngW x k) := by unfold rngW; infer_instance
/-- The first error of a wagon of kind k. -/
def valK (x : Wag) (k : Int) : Int := if x.axl = axlK k then (if rngW x k then (if nameS x.dst = true then 0 else 7) else 2) else 1
def validW (x : Wag) : Int := if (kindR x.num).2 = 0 then valK x (kindR x.num).1 else (kindR x.num).2
instance memDec (a : ByteArray) (l : List ByteArray) : Decidable (a ∈ l) := decidable_of_iff (∃ t ∈ l, t = a) ⟨fun ⟨t, h, e⟩ => e ▸ h, fun h => ⟨a, h, rfl⟩⟩
/-- The first error of a list, behind some numbers. -/
def vl (seen : List ByteArray) : List Wag → Int
  | [] => 0
  | x :: l => if validW x = 0 then (if x.num ∈ seen then 8 else vl (seen ++ [x.num]) l) else validW x
def validL (l : List Wag) : Int := if 96 < l.length then 3 else vl [] l
theorem vl_bad {seen : List ByteArray} {x : Wag} {l : List Wag} (h : validW x ≠ 0) : vl seen (x :: l) = validW x := by
  show (if validW x = 0 then _ else _) = _
  rw [if_neg h]
theorem vl_dup {seen : List ByteArray} {x : Wag} {l : List Wag} (h : validW x = 0) (hd : x.num ∈ seen) : vl seen (x :: l) = 8 := by
  show (if validW x = 0 then (if x.num ∈ seen then 8 else _) else _) = _
  rw [if_pos h, if_pos hd]
theorem vl_ok {seen : List ByteArray} {x : Wag} {l : List Wag} (h : validW x = 0) (hd : x.num ∉ seen) : vl seen (x :: l) = vl (seen ++ [x.num]) l := by
  show (if validW x = 0 then (if x.num ∈ seen then 8 else _) else _) = _
  rw [if_pos h, if_neg hd]
theorem vl_zero {seen : List ByteArray} {l : List Wag} (h : vl seen l = 0) : (∀ x ∈ l, validW x = 0) ∧ (∀ x ∈ l, x.num ∉ seen) ∧ (l.map Wag.num).Nodup := by
  induction l generalizing seen with
  | nil => exact ⟨by simp, by simp, by simp⟩
  | cons x l ih =>
    by_cases hv : validW x = 0
    · by_cases hd : x.num ∈ seen
      · rw [vl_dup hv hd] at h; cases h
      · rw [vl_ok hv hd] at h
        obtain ⟨h1, h2, h3⟩ := ih h
        refine ⟨?_, ?_, ?_⟩
        · intro y hy
          rcases List.mem_cons.1 hy with rfl | hy
          · exact hv
          · exact h1 y hy
        · intro y hy
          rcases List.mem_cons.1 hy with rfl | hy
          · exact hd
          · exact fun g => h2 y hy (List.mem_append_left _ g)
        · rw [List.map_cons, List.nodup_cons]
          refine ⟨fun g => ?_, h3⟩
          obtain ⟨y, hy, e⟩ := List.mem_map.1 g
          exact h2 y hy (by rw [e]; simp)
    · rw [vl_bad hv] at h; exact absurd h hv
theorem vl_good {seen : List ByteArray} {l : List Wag} (h1 : ∀ x ∈ l, validW x = 0) (h2 : ∀ x ∈ l, x.num ∉ seen) (h3 : (l.map Wag.num).Nodup) : vl seen l = 0 := by
  induction l generalizing seen with
  | nil => rfl
  | cons x l ih =>
    rw [vl_ok (h1 x (by simp)) (h2 x (by simp))]
    rw [List.map_cons, List.nodup_cons] at h3
    refine ih (fun y hy => h1 y (by simp [hy])) (fun y hy g => ?_) h3.2
    rcases List.mem_append.1 g with g | g
    · exact h2 y (by simp [hy]) g
    · simp at g
      exact h3.1 (List.mem_map.2 ⟨y, hy, g⟩)
theorem validL_zero {l : List Wag} : validL l = 0 ↔ l.length ≤ 96 ∧ (∀ x ∈ l, validW x = 0) ∧ (l.map Wag.num).Nodup := by
  unfold validL
  by_cases h : 96 < l.length
  · rw [if_pos h]
    exact ⟨fun e => (by cases e), fun e => absurd e.1 (by omega)⟩
  · rw [if_neg h]
    refine ⟨fun e => ?_, fun e => vl_good e.2.1 (by simp) e.2.2⟩
    obtain ⟨h1, _, h3⟩ := vl_zero e
    exact ⟨by omega, h1, h3⟩
theorem validW_of {x : Wag} (h0 : validS x.num = 0) (h1 : x.axl = axlK (knd (x.num.data.toList.getD 4 48))) (h2 : rngW x (knd (x.num.data.toList.getD 4 48))) (h3 : nameS x.dst = true) : validW x = 0 := by
  have e : kindR x.num = (knd (x.num.data.toList.getD 4 48), 0) := by unfold kindR; rw [if_pos h0]
  unfold validW valK
  rw [e]
  simp only [if_true]
  rw [if_pos h1, if_pos h2, if_pos h3]
end Go.Proofs.YtimkmieohkefiaaGreat

namespace Go.Proofs.YtimkmieohkefiaaGreat
open Go.RowKit

end Go.Proofs.YtimkmieohkefiaaGreat

namespace Go.Proofs.YtimkmieohkefiaaGreat
open Go.RowKit

set_option maxHeartbeats 400000 in
theorem pdigits_any (s : ByteArray) (n : Int) (w : World) (h0 : 0 ≤ n) (h1 : n ≤ 1000) :
    Calls Tryz.prog 166 #[.string s, .int .i64 n] w fun e w' => e = .returned (.bool (dgs s n.toNat)) ∧ w = w' := by
  obtain ⟨N, rfl⟩ := Int.eq_ofNat_of_zero_le h0
  rw [Int.toNat_natCast]
  by_cases hs : s.size = N
  · subst hs
    have HF : Hid (dgs s s.size = s.data.toList.all dig) := Lib.hid (by unfold dgs; simp)
    go_enter Tryz.func166, Tryz.ntmps166
    go_wp2_with fail
    go_loop [12] (fun i => ∃ k : Nat, k ≤ s.size ∧ i = .int .i64 k ∧ (s.data.toList.take k).all dig = true) (fun i => s.size - (intOf i).toNat)
    case atStart => exact ⟨0, by omega, rfl, by simp⟩
    case round =>
      obtain ⟨k, hk, rfl, hall⟩ := hrel
      have HA := Lib.hid hall
      clear hall
      by_cases hlt : k < s.size
      · have HS := Lib.hid (all_snocD s k hlt)
        by_cases c1 : (s[k].toNat : Int) < 48
        · have hd : dig s[k] = false := decide_eq_false (by omega)
          have HD := Lib.hid hd
          clear hd
          go_wp2
          go_ret
          exact ⟨ret_bool (by rw [HF.out, all_take s (k + 1) (by rw [HS.out, HD.out]; simp)]), rfl⟩
        · by_cases c2 : 57 < (s[k].toNat : Int)
          · have hd : dig s[k] = false := decide_eq_false (by omega)
            have HD := Lib.hid hd
            clear hd
            go_wp2
            go_ret
            exact ⟨ret_bool (by rw [HF.out, all_take s (k + 1) (by rw [HS.out, HD.out]; simp)]), rfl⟩
          · have hd : dig s[k] = true := decide_eq_true ⟨by omega, by omega⟩
            have HD := Lib.hid hd
            clear hd
            go_wp2
            go_round
            case rel => exact ⟨k + 1, by omega, by go_num, by rw [HS.out, HA.out, HD.out]; rfl⟩
            case measure => simp [intOf]; omega
      · go_wp2
        go_ret
        exact ⟨ret_bool (by rw [HF.out]; have e : k = s.size := by omega
                            have g := HA.out; rw [e, List.take_of_length_le (by simp)] at g; exact g.symm), rfl⟩
  · have HF : Hid (dgs s N = false) := Lib.hid (by unfold dgs; simp [hs])
    have hne : ((s.size : Int) != (N : Int)) = true := by rw [bne_iff_ne]; omega
    clear hs
    go_enter Tryz.func166, Tryz.ntmps166
    go_wp2_with fail
    go_ret
    exact ⟨ret_bool HF.out.symm, rfl⟩

set_option maxHeartbeats 800000 in
theorem psum_any (s : ByteArray) (w : World) (h2 : s.size ≤ 1000) (hd : s.data.toList.all dig = true) :
    Calls Tryz.prog 182 #[.string s] w fun e w' => e = .returned (.int .i64 (sumTo s.data.toList s.size)) ∧ w = w' := by
  have HD := Lib.hid hd
  clear hd
  go_enter Tryz.func182, Tryz.ntmps182
  go_wp2_with fail
  go_loop [3, 8] (fun t i => ∃ k : Nat, k ≤ s.size ∧ i = .int .i64 k ∧ t = .int .i64 (sumTo s.data.toList k)) (fun _ i => s.size - (intOf i).toNat)
  case atStart => exact ⟨0, by omega, rfl, by simp [sumTo]⟩
  case round =>
    obtain ⟨k, hk, rfl, rfl⟩ := hrel
    have hb := sumTo_bd HD.out k (by omega)
    obtain ⟨b1, b2⟩ := hb
    by_cases hlt : k < s.size
    · obtain ⟨c1, c2⟩ := dig_all HD.out k (by omega)
      have hks : k < s.size := by omega
      have HS : Hid (sumTo s.data.toList (k + 1) = sumTo s.data.toList k + wt k s[k]) := Lib.hid (by rw [sumTo, getD_byte s k hks])
      have d1 : 48 ≤ (s[k].toNat : Int) := by omega
      have d2 : (s[k].toNat : Int) ≤ 57 := by omega
      by_cases p : k % 2 = 0
      · have pe : ((k : Int) % 2 == 0) = true := beq_iff_eq.2 (by omega)
        have HW : Hid (wt k s[k] = if 9 < 2 * dv s[k] then 2 * dv s[k] - 9 else 2 * dv s[k]) := Lib.hid (by unfold wt; rw [if_pos p])
        clear p
        by_cases g : 9 < 2 * dv s[k]
        all_goals
          have HG := Lib.hid g
          have g' := g
          unfold dv at g'
          clear g
          go_wp2
          go_round
          case rel => exact ⟨k + 1, by omega, by go_num, congrArg (Value.int .i64) (by rw [HS.out, HW.out]; have hg := HG.out; unfold dv at hg ⊢; first | (rw [if_pos hg]; omega) | (rw [if_neg hg]; omega))⟩
          case measure => simp [intOf]; omega
      · have pe : ((k : Int) % 2 == 0) = false := beq_eq_false_iff_ne.2 (by omega)
        have HW : Hid (wt k s[k] = dv s[k]) := Lib.hid (by unfold wt; rw [if_neg p])
        clear p
        go_wp2
        go_round
        case rel => exact ⟨k + 1, by omega, by go_num, congrArg (Value.int .i64) (by rw [HS.out, HW.out]; unfold dv; omega)⟩
        case measure => simp [intOf]; omega
    · obtain rfl : s.size = k := by omega
      go_wp2
      go_ret
      exact ⟨rfl, rfl⟩

/-- The sum of all bytes is a multiple of ten. -/
def okP (s : ByteArray) : Bool := decide (sumTo s.data.toList s.size % 10 = 0)

set_option maxHeartbeats 400000 in
theorem pchecks_any (s : ByteArray) (w : World) (h2 : s.size ≤ 1000) (hd : s.data.toList.all dig = true) :
    Calls Tryz.prog 167 #[.string s] w fun e w' => e = .returned (.bool (okP s)) ∧ w = w' := by
  have hb := sumTo_bd hd s.size (by omega)
  obtain ⟨b1, b2⟩ := hb
  have HD := Lib.hid hd
  have WC : (sumTo s.data.toList s.size).tmod 10 = sumTo s.data.toList s.size % 10 := IntWalk.rem_in _ _ (by omega)
  by_cases g : sumTo s.data.toList s.size % 10 = 0
  · have g' : (sumTo s.data.toList s.size % 10 == 0) = true := by simp [g]
    have HF : Hid (okP s = true) := Lib.hid (by unfold okP; exact decide_eq_true g)
    clear hd g
    go_enter Tryz.func167, Tryz.ntmps167
    go_wp2_with fail
    refine (psum_any _ _ h2 HD.out).mono ?_
    rintro e w' ⟨rfl, rfl⟩
    go_wp2_with fail
    go_ret
    exact ⟨ret_bool HF.out.symm, rfl⟩
  · have g' : (sumTo s.data.toList s.size % 10 == 0) = false := by simp [g]
    have HF : Hid (okP s = false) := Lib.hid (by unfold okP; exact decide_eq_false g)
    clear hd g
    go_enter Tryz.func167, Tryz.ntmps167
    go_wp2_with fail
    refine (psum_any _ _ h2 HD.out).mono ?_
    rintro e w' ⟨rfl, rfl⟩
    go_wp2_with fail
    go_ret
    exact ⟨ret_bool HF.out.symm, rfl⟩

/-- Of twelve digits the sum is that of the first eleven and the last. -/
theorem okP_12 {s : ByteArray} (h : s.size = 12) : okP s = oks s.data.toList := by
  unfold okP oks
  rw [h]
  have e : sumTo s.data.toList 12 = sumTo s.data.toList 11 + dv (s.data.toList.getD 11 48) := by
    rw [sumTo]; unfold wt; rw [if_neg (by decide)]
  rw [e]

end Go.Proofs.YtimkmieohkefiaaGreat

namespace Go.Proofs.YtimkmieohkefiaaGreat
open Go.RowKit

set_option maxHeartbeats 400000 in
theorem pvalid_any (s : ByteArray) (w : World) :
    Calls Tryz.prog 137 #[.string s] w fun e w' => e = .returned (.int .i64 (validS s)) ∧ w = w' := by
  cases hs : dgs s 12
  · have HF : Hid (validS s = 11) := Lib.hid (by unfold validS; rw [hs]; rfl)
    go_enter Tryz.func137, Tryz.ntmps137
    go_wp2_with fail
    refine (pdigits_any _ _ _ (by omega) (by omega)).mono ?_
    rintro e w' ⟨rfl, rfl⟩
    go_wp2_with fail
    go_ret
    exact ⟨ret_int HF.out.symm, rfl⟩
  · obtain ⟨hz, hd⟩ := dgs_t hs
    have HD := Lib.hid hd
    have HE : Hid (validS s = if okP s = true then 0 else 9) := Lib.hid (by unfold validS; rw [if_pos hs, okP_12 hz])
    have hz2 : s.size ≤ 1000 := by omega
    have hs' := Lib.hid hs
    clear hz hd
    cases ho : okP s
    · have HF : Hid (validS s = 9) := Lib.hid (by rw [HE.out, ho]; rfl)
      go_enter Tryz.func137, Tryz.ntmps137
      go_wp2_with fail
      refine (pdigits_any _ _ _ (by omega) (by omega)).mono ?_
      rintro e w' ⟨rfl, rfl⟩
      go_wp2_with fail
      refine (pchecks_any _ _ hz2 HD.out).mono ?_
      rintro e w' ⟨rfl, rfl⟩
      go_wp2_with fail
      go_ret
      exact ⟨ret_int HF.out.symm, rfl⟩
    · have HF : Hid (validS s = 0) := Lib.hid (by rw [HE.out, ho]; rfl)
      go_enter Tryz.func137, Tryz.ntmps137
      go_wp2_with fail
      refine (pdigits_any _ _ _ (by omega) (by omega)).mono ?_
      rintro e w' ⟨rfl, rfl⟩
      go_wp2_with fail
      refine (pchecks_any _ _ hz2 HD.out).mono ?_
      rintro e w' ⟨rfl, rfl⟩
      go_wp2_with fail
      go_ret
      exact ⟨ret_int HF.out.symm, rfl⟩

set_option maxHeartbeats 400000 in
theorem pkind_any (s : ByteArray) (w : World) :
    Calls Tryz.prog 90 #[.string s] w fun e w' => e = .returned (R2 (kindR s)) ∧ w = w' := by
  by_cases hv : validS s = 0
  · obtain ⟨hz, hd, ho⟩ := validR_size hv
    have hk : 4 < s.size := by omega
    have HF : Hid (kindR s = (knd s[4], 0)) := Lib.hid (by unfold kindR; rw [if_pos hv, getD_byte s 4 hk])
    have HV := Lib.hid hv
    have ev : (validS s != 0) = false := by simp [hv]
    clear hv hd ho hz
    have fin : ∀ (v : Int), knd s[4] = v → kindR s = (v, 0) := fun v h => by rw [HF.out, h]
    have HFn := Lib.hid fin
    clear fin
    by_cases c0 : s[4].toNat = 55
    · have HC : Hid (knd s[4] = 1) := Lib.hid (by unfold knd; rw [c0]; rfl)
      go_enter Tryz.func90, Tryz.ntmps90
      go_wp2_with fail
      refine (pvalid_any _ _).mono ?_
      rintro e w' ⟨rfl, rfl⟩
      go_wp2_with fail
      go_ret2
      exact ⟨ret_r2 (HFn.out _ HC.out), rfl⟩
    by_cases c1 : s[4].toNat = 56
    · have HC : Hid (knd s[4] = 1) := Lib.hid (by unfold knd; rw [c1]; rfl)
      go_enter Tryz.func90, Tryz.ntmps90
      go_wp2_with fail
      refine (pvalid_any _ _).mono ?_
      rintro e w' ⟨rfl, rfl⟩
      go_wp2_with fail
      go_ret2
      exact ⟨ret_r2 (HFn.out _ HC.out), rfl⟩
    by_cases c2 : s[4].toNat = 50
    · have HC : Hid (knd s[4] = 2) := Lib.hid (by unfold knd; rw [c2]; rfl)
      go_enter Tryz.func90, Tryz.ntmps90
      go_wp2_with fail
      refine (pvalid_any _ _).mono ?_
      rintro e w' ⟨rfl, rfl⟩
      go_wp2_with fail
      go_ret2
      exact ⟨ret_r2 (HFn.out _ HC.out), rfl⟩
    by_cases c3 : s[4].toNat = 52
    · have HC : Hid (knd s[4] = 2) := Lib.hid (by unfold knd; rw [c3]; rfl)
      go_enter Tryz.func90, Tryz.ntmps90
      go_wp2_with fail
      refine (pvalid_any _ _).mono ?_
      rintro e w' ⟨rfl, rfl⟩
      go_wp2_with fail
      go_ret2
      exact ⟨ret_r2 (HFn.out _ HC.out), rfl⟩
    by_cases c4 : s[4].toNat = 57
    · have HC : Hid (knd s[4] = 3) := Lib.hid (by unfold knd; rw [c4]; rfl)
      go_enter Tryz.func90, Tryz.ntmps90
      go_wp2_with fail
      refine (pvalid_any _ _).mono ?_
      rintro e w' ⟨rfl, rfl⟩
      go_wp2_with fail
      go_ret2
      exact ⟨ret_r2 (HFn.out _ HC.out), rfl⟩
    · have HC : Hid (knd s[4] = 0) := Lib.hid (by unfold knd; rw [if_neg (by omega), if_neg (by omega), if_neg c4])
      go_enter Tryz.func90, Tryz.ntmps90
      go_wp2_with fail
      refine (pvalid_any _ _).mono ?_
      rintro e w' ⟨rfl, rfl⟩
      go_wp2_with fail
      go_ret2
      exact ⟨ret_r2 (HFn.out _ HC.out), rfl⟩
  · have HF : Hid (kindR s = (0, validS s)) := Lib.hid (by unfold kindR; rw [if_neg hv])
    have ev : (validS s != 0) = true := by simp [hv]
    clear hv
    go_enter Tryz.func90, Tryz.ntmps90
    go_wp2_with fail
    refine (pvalid_any _ _).mono ?_
    rintro e w' ⟨rfl, rfl⟩
    go_wp2_with fail
    go_ret2
    exact ⟨ret_r2 HF.out, rfl⟩

end Go.Proofs.YtimkmieohkefiaaGreat

namespace Go.Proofs.YtimkmieohkefiaaGreat
open Go.RowKit

theorem nm_false {s : ByteArray} {k : Nat} (h : (s.data.toList.take k).all nmc = false) : nameS s = false := by
  unfold nameS; rw [nm_take s k h, Bool.and_false]
set_option maxHeartbeats 800000 in
theorem pname_any (s : ByteArray) (w : World) :
    Calls Tryz.prog 93 #[.string s] w fun e w' => e = .returned (.bool (nameS s)) ∧ w = w' := by
  by_cases h0 : s.size = 0
  · have HF := Lib.hid (show nameS s = false by unfold nameS; rw [h0]; rfl)
    have hz : ((s.size : Int) == 0) = true := by rw [h0]; rfl
    go_enter Tryz.func93, Tryz.ntmps93
    go_wp2_with fail
    go_ret
    exact ⟨ret_bool HF.out.symm, rfl⟩
  have hz : ((s.size : Int) == 0) = false := by rw [beq_eq_false_iff_ne]; omega
  by_cases h1 : 12 < s.size
  · have HF := Lib.hid (show nameS s = false by unfold nameS; rw [decide_eq_false (by omega)]; rfl)
    have hl : (12 : Int) < (s.size : Int) := by omega
    clear h0 h1
    go_enter Tryz.func93, Tryz.ntmps93
    go_wp2_with fail
    go_ret
    exact ⟨ret_bool HF.out.symm, rfl⟩
  have HF := Lib.hid (show nameS s = s.data.toList.all nmc by unfold nameS; rw [decide_eq_true (by omega), Bool.true_and])
  clear h0
  go_enter Tryz.func93, Tryz.ntmps93
  go_wp2_with fail
  go_loop [14] (fun i => ∃ k : Nat, k ≤ s.size ∧ i = .int .i64 k ∧ (s.data.toList.take k).all nmc = true) (fun i => s.size - (intOf i).toNat)
  case atStart => exact ⟨0, by omega, rfl, by simp⟩
  case round =>
    obtain ⟨k, hk, rfl, hall⟩ := hrel
    have HA := Lib.hid hall
    clear hall hz
    by_cases hlt : k < s.size
    · have HS := Lib.hid (nm_snoc s k hlt)
      have bad : nmc s[k] = false → nameS s = false := fun h => nm_false (k := k + 1) (by rw [HS.out, h, Bool.and_false])
      have HB := Lib.hid bad
      clear bad
      have good : nmc s[k] = true → (s.data.toList.take (k + 1)).all nmc = true := fun h => by rw [HS.out, HA.out, h]; rfl
      have HG := Lib.hid good
      clear good
      by_cases c1 : (s[k].toNat : Int) < 97
      · by_cases c2 : (s[k].toNat : Int) < 48
        · have HD := Lib.hid (show nmc s[k] = false from decide_eq_false (by omega))
          go_wp2
          go_ret
          exact ⟨ret_bool (HB.out HD.out).symm, rfl⟩
        · by_cases c3 : 57 < (s[k].toNat : Int)
          · have HD := Lib.hid (show nmc s[k] = false from decide_eq_false (by omega))
            go_wp2
            go_ret
            exact ⟨ret_bool (HB.out HD.out).symm, rfl⟩
          · have HD := Lib.hid (show nmc s[k] = true from decide_eq_true (by omega))
            go_wp2
            go_round
            case rel => exact ⟨k + 1, by omega, by go_num, HG.out HD.out⟩
            case measure => simp [intOf]; omega
      · by_cases c4 : 122 < (s[k].toNat : Int)
        · have c3 : 57 < (s[k].toNat : Int) := by omega
          have c2 : ¬ (s[k].toNat : Int) < 48 := by omega
          have HD := Lib.hid (show nmc s[k] = false from decide_eq_false (by omega))
          go_wp2
          go_ret
          exact ⟨ret_bool (HB.out HD.out).symm, rfl⟩
        · have HD := Lib.hid (show nmc s[k] = true from decide_eq_true (by omega))
          go_wp2
          go_round
          case rel => exact ⟨k + 1, by omega, by go_num, HG.out HD.out⟩
          case measure => simp [intOf]; omega
    · have HE := Lib.hid (show nameS s = true by rw [HF.out]; have e : k = s.size := by omega
                                                 have g := HA.out; rw [e, List.take_of_length_le (by simp)] at g; exact g)
      go_wp2
      go_ret
      exact ⟨ret_bool HE.out.symm, rfl⟩

set_option maxHeartbeats 400000 in
theorem axles_any (k : Int) (w : World) :
    Calls Tryz.prog 91 #[.int .i64 k] w fun e w' => e = .returned (.int .i64 (axlK k)) ∧ w = w' := by
  by_cases h2 : k = 2
  · subst h2
    go_enter Tryz.func91, Tryz.ntmps91
    go_wp2
    go_ret
    exact ⟨rfl, rfl⟩
  · by_cases h3 : k = 3
    · subst h3
      go_enter Tryz.func91, Tryz.ntmps91
      go_wp2
      go_ret
      exact ⟨rfl, rfl⟩
    · have HF := Lib.hid (show axlK k = 4 by unfold axlK; rw [if_neg h2, if_neg h3])
      have e2 : (k == 2) = false := beq_eq_false_iff_ne.2 h2
      have e3 : (k == 3) = false := beq_eq_false_iff_ne.2 h3
      clear h2 h3
      go_enter Tryz.func91, Tryz.ntmps91
      go_wp2
      go_ret
      exact ⟨ret_int HF.out.symm, rfl⟩
end Go.Proofs.YtimkmieohkefiaaGreat

namespace Go.Proofs.YtimkmieohkefiaaGreat
open Go.RowKit

theorem rng_t {x : Wag} {k v : Int} (hv : leastK k = v) (h1 : v ≤ x.len) (h2 : x.len ≤ 400) (h3 : 50 ≤ x.mas) (h4 : x.mas ≤ 2000) (h5 : 0 ≤ x.brk) (h6 : x.brk ≤ x.mas) (h7 : 0 ≤ x.gds) (h8 : x.gds ≤ 9) : decide (rngW x k) = true := by
  subst hv; exact decide_eq_true ⟨h1, h2, h3, h4, h5, h6, h7, h8⟩
theorem rng_f {x : Wag} {k v : Int} (hv : leastK k = v) (h : ¬ (v ≤ x.len ∧ x.len ≤ 400 ∧ 50 ≤ x.mas ∧ x.mas ≤ 2000 ∧ 0 ≤ x.brk ∧ x.brk ≤ x.mas ∧ 0 ≤ x.gds ∧ x.gds ≤ 9)) : decide (rngW x k) = false := by
  subst hv; exact decide_eq_false h
theorem box1 (w : World) (o : Obj) : Below w.heap.size w (w.alloc o) := (Below.refl _ _).alloc (Nat.le_refl _) _

set_option maxHeartbeats 1600000 in
theorem prange_any (x : Wag) (k : Int) (w : World) :
    Calls Tryz.prog 92 #[aggW x, .int .i64 k] w fun e w' => e = .returned (.bool (decide (rngW x k))) ∧ Below w.heap.size w w' := by
  by_cases hk : k = 3
  · have hv : leastK k = 120 := by unfold leastK; rw [if_pos hk]
    have ek : (k == 3) = true := beq_iff_eq.2 hk
    by_cases r1 : ¬ (120 ≤ x.len)
    · have HF := Lib.hid (rng_f hv (fun g => absurd g.1 r1))
      clear hk
      go_enter Tryz.func92, Tryz.ntmps92
      go_wp2
      go_ret
      exact ⟨ret_bool HF.out.symm, box1 _ _⟩
    replace r1 := Decidable.of_not_not r1
    by_cases r2 : ¬ (x.len ≤ 400)
    · have HF := Lib.hid (rng_f hv (fun g => absurd g.2.1 r2))
      clear hk
      go_enter Tryz.func92, Tryz.ntmps92
      go_wp2
      go_ret
      exact ⟨ret_bool HF.out.symm, box1 _ _⟩
    replace r2 := Decidable.of_not_not r2
    by_cases r3 : ¬ (50 ≤ x.mas)
    · have HF := Lib.hid (rng_f hv (fun g => absurd g.2.2.1 r3))
      clear hk
      go_enter Tryz.func92, Tryz.ntmps92
      go_wp2
      go_ret
      exact ⟨ret_bool HF.out.symm, box1 _ _⟩
    replace r3 := Decidable.of_not_not r3
    by_cases r4 : ¬ (x.mas ≤ 2000)
    · have HF := Lib.hid (rng_f hv (fun g => absurd g.2.2.2.1 r4))
      clear hk
      go_enter Tryz.func92, Tryz.ntmps92
      go_wp2
      go_ret
      exact ⟨ret_bool HF.out.symm, box1 _ _⟩
    replace r4 := Decidable.of_not_not r4
    by_cases r5 : ¬ (0 ≤ x.brk)
    · have HF := Lib.hid (rng_f hv (fun g => absurd g.2.2.2.2.1 r5))
      clear hk
      go_enter Tryz.func92, Tryz.ntmps92
      go_wp2
      go_ret
      exact ⟨ret_bool HF.out.symm, box1 _ _⟩
    replace r5 := Decidable.of_not_not r5
    by_cases r6 : ¬ (x.brk ≤ x.mas)
    · have HF := Lib.hid (rng_f hv (fun g => absurd g.2.2.2.2.2.1 r6))
      clear hk
      go_enter Tryz.func92, Tryz.ntmps92
      go_wp2
      go_ret
      exact ⟨ret_bool HF.out.symm, box1 _ _⟩
    replace r6 := Decidable.of_not_not r6
    by_cases r7 : ¬ (0 ≤ x.gds)
    · have HF := Lib.hid (rng_f hv (fun g => absurd g.2.2.2.2.2.2.1 r7))
      clear hk
      go_enter Tryz.func92, Tryz.ntmps92
      go_wp2
      go_ret
      exact ⟨ret_bool HF.out.symm, box1 _ _⟩
    replace r7 := Decidable.of_not_not r7
    by_cases r8 : ¬ (x.gds ≤ 9)
    · have HF := Lib.hid (rng_f hv (fun g => absurd g.2.2.2.2.2.2.2 r8))
      clear hk
      go_enter Tryz.func92, Tryz.ntmps92
      go_wp2
      go_ret
      exact ⟨ret_bool HF.out.symm, box1 _ _⟩
    replace r8 := Decidable.of_not_not r8
    have HF := Lib.hid (rng_t hv r1 r2 r3 r4 r5 r6 r7 r8)
    clear hk
    go_enter Tryz.func92, Tryz.ntmps92
    go_wp2
    go_ret
    exact ⟨ret_bool HF.out.symm, box1 _ _⟩
  · have hv : leastK k = 80 := by unfold leastK; rw [if_neg hk]
    have ek : (k == 3) = false := beq_eq_false_iff_ne.2 hk
    by_cases r1 : ¬ (80 ≤ x.len)
    · have HF := Lib.hid (rng_f hv (fun g => absurd g.1 r1))
      clear hk
      go_enter Tryz.func92, Tryz.ntmps92
      go_wp2
      go_ret
      exact ⟨ret_bool HF.out.symm, box1 _ _⟩
    replace r1 := Decidable.of_not_not r1
    by_cases r2 : ¬ (x.len ≤ 400)
    · have HF := Lib.hid (rng_f hv (fun g => absurd g.2.1 r2))
      clear hk
      go_enter Tryz.func92, Tryz.ntmps92
      go_wp2
      go_ret
      exact ⟨ret_bool HF.out.symm, box1 _ _⟩
    replace r2 := Decidable.of_not_not r2
    by_cases r3 : ¬ (50 ≤ x.mas)
    · have HF := Lib.hid (rng_f hv (fun g => absurd g.2.2.1 r3))
      clear hk
      go_enter Tryz.func92, Tryz.ntmps92
      go_wp2
      go_ret
      exact ⟨ret_bool HF.out.symm, box1 _ _⟩
    replace r3 := Decidable.of_not_not r3
    by_cases r4 : ¬ (x.mas ≤ 2000)
    · have HF := Lib.hid (rng_f hv (fun g => absurd g.2.2.2.1 r4))
      clear hk
      go_enter Tryz.func92, Tryz.ntmps92
      go_wp2
      go_ret
      exact ⟨ret_bool HF.out.symm, box1 _ _⟩
    replace r4 := Decidable.of_not_not r4
    by_cases r5 : ¬ (0 ≤ x.brk)
    · have HF := Lib.hid (rng_f hv (fun g => absurd g.2.2.2.2.1 r5))
      clear hk
      go_enter Tryz.func92, Tryz.ntmps92
      go_wp2
      go_ret
      exact ⟨ret_bool HF.out.symm, box1 _ _⟩
    replace r5 := Decidable.of_not_not r5
    by_cases r6 : ¬ (x.brk ≤ x.mas)
    · have HF := Lib.hid (rng_f hv (fun g => absurd g.2.2.2.2.2.1 r6))
      clear hk
      go_enter Tryz.func92, Tryz.ntmps92
      go_wp2
      go_ret
      exact ⟨ret_bool HF.out.symm, box1 _ _⟩
    replace r6 := Decidable.of_not_not r6
    by_cases r7 : ¬ (0 ≤ x.gds)
    · have HF := Lib.hid (rng_f hv (fun g => absurd g.2.2.2.2.2.2.1 r7))
      clear hk
      go_enter Tryz.func92, Tryz.ntmps92
      go_wp2
      go_ret
      exact ⟨ret_bool HF.out.symm, box1 _ _⟩
    replace r7 := Decidable.of_not_not r7
    by_cases r8 : ¬ (x.gds ≤ 9)
    · have HF := Lib.hid (rng_f hv (fun g => absurd g.2.2.2.2.2.2.2 r8))
      clear hk
      go_enter Tryz.func92, Tryz.ntmps92
      go_wp2
      go_ret
      exact ⟨ret_bool HF.out.symm, box1 _ _⟩
    replace r8 := Decidable.of_not_not r8
    have HF := Lib.hid (rng_t hv r1 r2 r3 r4 r5 r6 r7 r8)
    clear hk
    go_enter Tryz.func92, Tryz.ntmps92
    go_wp2
    go_ret
    exact ⟨ret_bool HF.out.symm, box1 _ _⟩

theorem validW_num {x : Wag} {k e : Int} (h : kindR x.num = (k, e)) (he : e ≠ 0) : validW x = e := by
  unfold validW; rw [h]; exact if_neg he
theorem validW_kind {x : Wag} {k : Int} (h : kindR x.num = (k, 0)) : validW x = valK x k := by
  unfold validW; rw [h]; exact if_pos rfl
theorem valK_axl {x : Wag} {k : Int} (h : ¬ x.axl = axlK k) : valK x k = 1 := by unfold valK; rw [if_neg h]
theorem valK_rng {x : Wag} {k : Int} (h : x.axl = axlK k) (hr : decide (rngW x k) = false) : valK x k = 2 := by
  unfold valK; rw [if_pos h, if_neg (of_decide_eq_false hr)]
theorem valK_nam {x : Wag} {k : Int} (h : x.axl = axlK k) (hr : decide (rngW x k) = true) (hn : nameS x.dst = false) : valK x k = 7 := by
  unfold valK; rw [if_pos h, if_pos (of_decide_eq_true hr), hn]; rfl
theorem valK_ok {x : Wag} {k : Int} (h : x.axl = axlK k) (hr : decide (rngW x k) = true) (hn : nameS x.dst = true) : valK x k = 0 := by
  unfold valK; rw [if_pos h, if_pos (of_decide_eq_true hr), hn]; rfl
/-- The error of Valid, and what is left of the world. -/
def ValPost (x : Wag) (w : World) (e : Ending) (w' : World) : Prop := e = .returned (.int .i64 (validW x)) ∧ Below w.heap.size w w'
theorem ValPost.mk' {x : Wag} {w w' : World} {v : Int} (h : validW x = v) (b : Below w.heap.size w w') : ValPost x w (.returned (.int .i64 v)) w' := ⟨by rw [h], b⟩

set_option maxHeartbeats 1600000 in
theorem cvalid_any (x : Wag) (w : World) : Calls Tryz.prog 49 #[aggW x] w (ValPost x w) := by
  obtain ⟨k, e, hke⟩ : ∃ k e, kindR x.num = (k, e) := ⟨_, _, rfl⟩
  have HK := Lib.hid hke
  clear hke
  obtain ⟨c0, c1, c2, c3, c4, c5, c6, c7, lt⟩ := WBlk.of (newW w x 33 w.heap.size rfl)
  have HB := Lib.hid (box1 w (.cells #[.string x.num, .int .i64 x.len, .int .i64 x.axl, .int .i64 x.mas, .int .i64 x.brk, .int .i64 x.gds, .bool x.gen, .string x.dst] 33))
  go_enter Tryz.func49, Tryz.ntmps49
  go_wp2_with fail
  refine (pkind_any x.num _).mono ?_
  rintro e' w' ⟨rfl, rfl⟩
  rw [HK.out]
  by_cases he : e ≠ 0
  · have HV := Lib.hid (validW_num HK.out he)
    have ev : (e != 0) = true := bne_iff_ne.2 he
    clear he
    go_wp2_with fail
    go_ret
    exact ValPost.mk' HV.out HB.out
  obtain rfl := Decidable.of_not_not he
  have HV := Lib.hid (validW_kind HK.out)
  go_wp2_with fail
  have HC := Lib.hid (newW w x 33 w.heap.size rfl)
  go_quiet ((go_at_call 91; exact Calls.quiet_of_same ((axles_any _ _).mono fun _ _ h => ⟨h.1, h.2.symm⟩)))
  clear he
  by_cases ha : ¬ x.axl = axlK k
  · have HV2 := Lib.hid (HV.out.trans (valK_axl ha))
    have ev : (x.axl != axlK k) = true := bne_iff_ne.2 ha
    clear ha
    go_wp2_with fail
    go_ret
    exact ValPost.mk' HV2.out (bdn HB.out)
  replace ha := Decidable.of_not_not ha
  have HA := Lib.hid ha
  have ev : (x.axl != axlK k) = false := bne_eq_false_iff_eq.2 ha
  clear ha
  go_wp2_with fail
  refine (prange_any x k _).mono ?_
  rintro e' w2 ⟨rfl, B2⟩
  have HB2 := Lib.hid ((bdn (n := nq) HB.out).trans (B2.mono (Nat.le_of_lt (by show w.heap.size < (World.alloc w _).heap.size; simp))))
  have HC2 := Lib.hid ((HC.out.drewN nq).below B2)
  clear c0 c1 c2 c3 c4 c5 c6 c7 lt B2 ev
  cases hr : decide (rngW x k) with
  | false =>
    have HV2 := Lib.hid (HV.out.trans (valK_rng HA.out hr))
    clear hr
    go_wp2_with fail
    go_ret
    exact ValPost.mk' HV2.out HB2.out
  | true =>
    have HR := Lib.hid hr
    clear hr
    have c7 := (WBlk.of HC2.out).c7
    go_wp2_with fail
    refine (pname_any x.dst _).mono ?_
    rintro e' w' ⟨rfl, rfl⟩
    cases hn : nameS x.dst with
    | false =>
      have HV2 := Lib.hid (HV.out.trans (valK_nam HA.out HR.out hn))
      clear hn
      go_wp2_with fail
      go_ret
      exact ValPost.mk' HV2.out HB2.out
    | true =>
      have HV2 := Lib.hid (HV.out.trans (valK_ok HA.out HR.out hn))
      clear hn
      go_wp2_with fail
      go_ret
      exact ValPost.mk' HV2.out HB2.out

end Go.Proofs.YtimkmieohkefiaaGreat

namespace Go.Proofs.YtimkmieohkefiaaGreat
open Go.RowKit Go.Lib

/-- The slice from A on reads as the strings bs. -/
def SRow (w : World) (A : Option Addr) (bs : List ByteArray) : Prop := VRow w w.heap.size A (bs.map Value.string)
theorem SRow.below {w w' : World} {A : Option Addr} {bs : List ByteArray} (h : SRow w A bs) (k : Below w.heap.size w w') : SRow w' A bs := VRow.below h k
theorem SRow.cell {w : World} {A : Option Addr} {bs : List ByteArray} (h : SRow w A bs) {k : Nat} {s : ByteArray} (hk : bs[k]? = some s) : ∃ ad : Addr, A = some ad ∧ ad.block < w.heap.size ∧ w.cell? (ad.add k) = some (.string s) :=
  h k (.string s) (by rw [List.getElem?_map, hk]; rfl)
/-- The slice from A on reads as orders, each a list of strings. -/
def ORw (w : World) (A : Option Addr) (os : List (List ByteArray)) : Prop :=
  ∀ k bs, os[k]? = some bs → ∃ (ad : Addr) (a : Option Addr) (c : Nat), A = some ad ∧ ad.block < w.heap.size ∧ w.cell? (ad.add k) = some (.slice a bs.length c) ∧ SRow w a bs ∧ bs.length ≤ maxLen
theorem ORw.below {w w' : World} {A : Option Addr} {os : List (List ByteArray)} (h : ORw w A os) (k : Below w.heap.size w w') : ORw w' A os := fun i bs hi => by
  obtain ⟨ad, a, c, e, hb, hc, hs, hm⟩ := h i bs hi
  exact ⟨ad, a, c, e, Nat.lt_of_lt_of_le hb k.size, (k.cell (by rw [add_block]; exact hb)).trans hc, hs.below k, hm⟩
theorem bytes_inj17 {a b : ByteArray} (h : a.toList = b.toList) : a = b := by
  apply ByteArray.ext
  rw [ByteArray.toList_eq, ByteArray.toList_eq] at h
  exact Array.toList_inj.1 h
theorem toList_ne17 {a b : ByteArray} (h : a ≠ b) : (a.toList == b.toList) = false := beq_eq_false_iff_ne.2 fun e => h (bytes_inj17 e)
/-- The index of a string, from the k-th on. -/
def idxZ (d : ByteArray) : Nat → List ByteArray → Int
  | _, [] => -1
  | k, x :: l => if x = d then (k : Int) else idxZ d (k + 1) l
theorem idxZ_at (d : ByteArray) (k0 : Nat) : ∀ (bs : List ByteArray) (k : Nat) (x : ByteArray), bs[k]? = some x → idxZ d (k0 + k) (bs.drop k) = if x = d then ((k0 + k : Nat) : Int) else idxZ d (k0 + (k + 1)) (bs.drop (k + 1)) := by
  intro bs k x hk
  obtain ⟨hl, rfl⟩ := List.getElem?_eq_some_iff.1 hk
  rw [List.drop_eq_getElem_cons hl]; rfl
set_option maxHeartbeats 1600000 in
theorem idxS_any (bs : List ByteArray) (d : ByteArray) (A : Option Addr) (n c : Nat) (hn : n = bs.length) (hm : n ≤ maxLen) (w : World) (h : SRow w A bs) :
    Calls Tryz.prog 94 #[.slice A n c, .string d] w fun e w' => e = .returned (.int .i64 (idxZ d 0 bs)) ∧ w' = w := by
  have hl : n ≤ 9223372036854775807 := hm
  have H := Lib.hid h
  have HN := Lib.hid hn
  obtain ⟨r, hr⟩ : ∃ r, r = idxZ d 0 bs := ⟨_, rfl⟩
  have HR := Lib.hid hr
  rw [← hr]
  clear h hr hn hm
  go_enter Tryz.func94, Tryz.ntmps94
  go_wp2_with fail
  go_loopw [8] (fun iv wr => ∃ k : Nat, k ≤ n ∧ iv = .int .i64 (k : Int) ∧ Hid (idxZ d k (bs.drop k) = r) ∧ Hid (wr = w)) (fun iv _ => n - (intOf iv).toNat)
  case atStart => exact ⟨0, by omega, rfl, Lib.hid (by rw [List.drop_zero]; exact HR.out.symm), Lib.hid rfl⟩
  case round =>
    obtain ⟨k, hk, rfl, F, HW⟩ := hrel
    obtain rfl := HW.out
    by_cases hlt : k < n
    · obtain ⟨x, hx⟩ : ∃ x, bs[k]? = some x := ⟨_, List.getElem?_eq_getElem (by rw [← HN.out]; exact hlt)⟩
      obtain ⟨ad, rfl, -, ck⟩ := H.out.cell hx
      have hat := idxZ_at d 0 bs k x hx
      rw [Nat.zero_add, Nat.zero_add, F.out] at hat
      have HLT := Lib.hid hlt
      by_cases hz : x = d
      · rw [if_pos hz] at hat
        subst hz
        have HA := Lib.hid hat
        have hq : (x.toList == x.toList) = true := by simp
        clear hat hx
        go_wp2_with fail
        go_ret
        exact ⟨by rw [HA.out]; rfl, rfl⟩
      · rw [if_neg hz] at hat
        have HA := Lib.hid hat.symm
        have hq : (d.toList == x.toList) = false := toList_ne17 (Ne.symm hz)
        clear hat hx hz
        go_wp2_with fail
        go_roundw
        case rel => exact ⟨k + 1, by omega, by go_num, Lib.hid HA.out, Lib.hid trivial⟩
        case measure => simp [intOf]; omega
    · have hkn := F.out
      rw [List.drop_of_length_le (by rw [← HN.out]; omega)] at hkn
      have HE := Lib.hid (show r = -1 from hkn.symm)
      clear hkn
      go_wp2_with fail
      go_ret
      exact ⟨by rw [HE.out]; rfl, rfl⟩
/-- Not too many orders, wagons or blocks of an order. -/
def okBs (os : List (List ByteArray)) : Bool := os.all fun bs => decide (bs.length ≤ 32)
def limB (os : List (List ByteArray)) (n : Nat) : Bool := decide (os.length ≤ 16) && (decide (n ≤ 96) && okBs os)
theorem okBs_at {os : List (List ByteArray)} {k : Nat} {bs : List ByteArray} (hk : os[k]? = some bs) : okBs (os.drop k) = (decide (bs.length ≤ 32) && okBs (os.drop (k + 1))) := by
  obtain ⟨hl, rfl⟩ := List.getElem?_eq_some_iff.1 hk
  rw [List.drop_eq_getElem_cons hl]; rfl
set_option maxHeartbeats 1600000 in
theorem limits_any (os : List (List ByteArray)) (A W : Option Addr) (n c m d : Nat) (hn : n = os.length) (hm : n ≤ maxLen) (hm2 : m ≤ maxLen) (w : World) (h : ORw w A os) :
    Calls Tryz.prog 48 #[.slice A n c, .slice W m d] w fun e w' => e = .returned (.bool (limB os m)) ∧ Below w.heap.size w w' := by
  have hl : n ≤ 9223372036854775807 := hm
  have hl2 : m ≤ 9223372036854775807 := hm2
  have H := Lib.hid h
  have HN := Lib.hid hn
  obtain ⟨r, hr⟩ : ∃ r, r = limB os m := ⟨_, rfl⟩
  have HR := Lib.hid hr
  rw [← hr]
  clear h hr hn hm hm2
  by_cases h16 : n ≤ 16
  · by_cases h96 : m ≤ 96
    · have HR2 := Lib.hid (show r = okBs os by rw [HR.out]; unfold limB; rw [decide_eq_true (by rw [← HN.out]; exact h16), decide_eq_true h96]; rfl)
      have g1 : ¬ (16 : Int) < (n : Int) := by omega
      have g2 : ¬ (96 : Int) < (m : Int) := by omega
      clear HR h96
      go_enter Tryz.func48, Tryz.ntmps48
      go_wp2_with fail
      go_loopw [17] (fun iv wr => ∃ k : Nat, k ≤ n ∧ iv = .int .i64 (k : Int) ∧ Hid (okBs (os.drop k) = r) ∧ Hid (Below w.heap.size w wr)) (fun iv _ => n - (intOf iv).toNat)
      case atStart => exact ⟨0, by omega, rfl, Lib.hid (by rw [List.drop_zero]; exact HR2.out.symm), Lib.hid (Below.refl _ _)⟩
      case round =>
        obtain ⟨k, hk, rfl, F, HB⟩ := hrel
        by_cases hlt : k < n
        · obtain ⟨bs, hx⟩ : ∃ x, os[k]? = some x := ⟨_, List.getElem?_eq_getElem (by rw [← HN.out]; exact hlt)⟩
          obtain ⟨ad, a, bc, rfl, hb, ck, -, hbm⟩ := (H.out.below HB.out) k bs hx
          have hat := okBs_at hx
          rw [F.out] at hat
          have HLT := Lib.hid hlt
          have B2 := Lib.hid (HB.out.trans ((box1W wr (.cells #[.slice a bs.length bc] 29)).mono HB.out.size))
          have y0 : (wr.alloc (.cells #[.slice a bs.length bc] 29)).cell? ⟨wr.heap.size, 0, none⟩ = some (.slice a bs.length bc) := by rw [cell_new]; rfl
          obtain ⟨bn, hbn⟩ : ∃ q, q = bs.length := ⟨_, rfl⟩
          rw [← hbn] at ck B2 y0 hat hbm
          have hl3 : bn ≤ 9223372036854775807 := hbm
          clear hbm hbn
          by_cases h32 : bn ≤ 32
          · rw [decide_eq_true h32, Bool.true_and] at hat
            have HA := Lib.hid hat.symm
            have g3 : ¬ (32 : Int) < (bn : Int) := by omega
            clear hat hx h32
            go_wp2_with fail
            go_roundw
            case rel => exact ⟨k + 1, by omega, by go_num, HA, B2⟩
            case measure => simp [intOf]; omega
          · rw [decide_eq_false h32, Bool.false_and] at hat
            have HA := Lib.hid hat
            have g3 : (32 : Int) < (bn : Int) := by omega
            clear hat hx h32
            go_wp2_with fail
            go_ret
            exact ⟨by rw [HA.out]; rfl, B2.out⟩
        · have hkn := F.out
          rw [List.drop_of_length_le (by rw [← HN.out]; omega)] at hkn
          have HE := Lib.hid (show r = true from hkn.symm)
          clear hkn
          go_wp2_with fail
          go_ret
          exact ⟨by rw [HE.out]; rfl, HB.out⟩
    · have HR2 := Lib.hid (show r = false by rw [HR.out]; unfold limB; rw [decide_eq_false h96]; simp)
      have g1 : ¬ (16 : Int) < (n : Int) := by omega
      have g2 : (96 : Int) < (m : Int) := by omega
      clear HR h96
      go_enter Tryz.func48, Tryz.ntmps48
      go_wp2_with fail
      go_ret
      exact ⟨by rw [HR2.out]; rfl, Below.refl _ _⟩
  · have HR2 := Lib.hid (show r = false by rw [HR.out]; unfold limB; rw [decide_eq_false (by rw [← HN.out]; exact h16)]; rfl)
    have g1 : (16 : Int) < (n : Int) := by omega
    clear HR h16
    go_enter Tryz.func48, Tryz.ntmps48
    go_wp2_with fail
    go_ret
    exact ⟨by rw [HR2.out]; rfl, Below.refl _ _⟩
/-- The train and the block of a destination, from the t-th order on. -/
def plcZ (d : ByteArray) : Nat → List (List ByteArray) → Int × Int × Bool
  | _, [] => (0, 0, false)
  | t, bs :: os => if 0 ≤ idxZ d 0 bs then ((t : Int), idxZ d 0 bs, true) else plcZ d (t + 1) os
theorem plcZ_at (d : ByteArray) {os : List (List ByteArray)} {k : Nat} {bs : List ByteArray} (hk : os[k]? = some bs) : plcZ d k (os.drop k) = if 0 ≤ idxZ d 0 bs then ((k : Int), idxZ d 0 bs, true) else plcZ d (k + 1) (os.drop (k + 1)) := by
  obtain ⟨hl, rfl⟩ := List.getElem?_eq_some_iff.1 hk
  rw [List.drop_eq_getElem_cons hl]; rfl
set_option maxHeartbeats 1600000 in
theorem place_any (os : List (List ByteArray)) (d : ByteArray) (A : Option Addr) (n c : Nat) (hn : n = os.length) (hm : n ≤ maxLen) (w : World) (h : ORw w A os) :
    Calls Tryz.prog 50 #[.string d, .slice A n c] w fun e w' => e = .returned (.tuple #[.int .i64 (plcZ d 0 os).1, .int .i64 (plcZ d 0 os).2.1, .bool (plcZ d 0 os).2.2]) ∧ Below w.heap.size w w' := by
  have hl : n ≤ 9223372036854775807 := hm
  have H := Lib.hid h
  have HN := Lib.hid hn
  have HI := Lib.hid (fun (bs : List ByteArray) => idxS_any bs d)
  obtain ⟨r, hr⟩ : ∃ r, r = plcZ d 0 os := ⟨_, rfl⟩
  have HR := Lib.hid hr
  rw [← hr]
  clear h hr hn hm
  go_enter Tryz.func50, Tryz.ntmps50
  go_wp2_with fail
  go_loopw [12] (fun iv wr => ∃ k : Nat, k ≤ n ∧ iv = .int .i64 (k : Int) ∧ Hid (plcZ d k (os.drop k) = r) ∧ Hid (Below w.heap.size w wr)) (fun iv _ => n - (intOf iv).toNat)
  case atStart => exact ⟨0, by omega, rfl, Lib.hid (by rw [List.drop_zero]; exact HR.out.symm), Lib.hid (Below.refl _ _)⟩
  case round =>
    obtain ⟨k, hk, rfl, F, HB⟩ := hrel
    by_cases hlt : k < n
    · obtain ⟨bs, hx⟩ : ∃ x, os[k]? = some x := ⟨_, List.getElem?_eq_getElem (by rw [← HN.out]; exact hlt)⟩
      obtain ⟨ad, a, bc, rfl, hb, ck, hsr, hbm⟩ := (H.out.below HB.out) k bs hx
      have hat := plcZ_at d hx
      rw [F.out] at hat
      have HLT := Lib.hid hlt
      obtain ⟨bn, hbn⟩ : ∃ q, q = bs.length := ⟨_, rfl⟩
      rw [← hbn] at ck hbm
      have B2 := Lib.hid (HB.out.trans ((box1W wr (.cells #[.slice a bn bc] 29)).mono HB.out.size))
      have y0 : (wr.alloc (.cells #[.slice a bn bc] 29)).cell? ⟨wr.heap.size, 0, none⟩ = some (.slice a bn bc) := by rw [cell_new]; rfl
      have HC := Lib.hid (HI.out bs a bn bc hbn hbm _ (hsr.below (box1W wr (.cells #[.slice a bn bc] 29))))
      obtain ⟨z, hz⟩ : ∃ z, z = idxZ d 0 bs := ⟨_, rfl⟩
      rw [← hz] at HC hat
      clear hbm hbn hsr hz
      go_wp2_with fail
      refine HC.out.mono ?_
      rintro e w3 ⟨rfl, hw3⟩
      subst hw3
      by_cases hz0 : 0 ≤ z
      · rw [if_pos hz0] at hat
        have HA := Lib.hid hat
        clear hat hx HC
        go_wp2_with fail
        go_ret3
        exact ⟨by rw [HA.out]; rfl, B2.out⟩
      · rw [if_neg hz0] at hat
        have HA := Lib.hid hat.symm
        clear hat hx HC
        go_wp2_with fail
        go_roundw
        case rel => exact ⟨k + 1, by have := HLT.out; omega, by go_num, HA, B2⟩
        case measure => simp [intOf]; have := HLT.out; omega
    · have hkn := F.out
      rw [List.drop_of_length_le (by rw [← HN.out]; omega)] at hkn
      have HE := Lib.hid (show r = (0, 0, false) from hkn.symm)
      clear hkn
      go_wp2_with fail
      go_ret3
      exact ⟨by rw [HE.out]; rfl, HB.out⟩
end Go.Proofs.YtimkmieohkefiaaGreat
