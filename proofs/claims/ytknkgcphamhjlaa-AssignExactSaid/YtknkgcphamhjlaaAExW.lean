/-
  Stage 16: the walk of AssignExact.
-/
import Derived.Test.YtknkgcphamhjlaaAExa
import Derived.Test.YtknkgcphamhjlaaAMoW
set_option linter.unusedSimpArgs false
set_option linter.unusedVariables false
namespace Go.Proofs.Ytknkgcphamhjlaa
open Go.RowKit Go.Lib

theorem rmatch_n (a b : List Int) (n m : Nat) (hn : n = a.length) (hm : m = b.length) (A Bb : Option Addr) (ca cb : Nat) (w : World) (ha : Row .i64 w w.heap.size A a) (hla : n ≤ maxLen) (hb : Row .i64 w w.heap.size Bb b) (hlb : m ≤ maxLen) :
    Calls Try.prog 14 #[.slice A n ca, .slice Bb m cb] w (MatPost a b w) := by
  subst hn; subst hm
  exact rmatch_any a b A Bb ca cb w ha hla hb hlb
theorem mout_len {a b : List Int} {os : List Nat} {l r : List Int} {e : Int} (h : MOut a b os l r e) : l.length ≤ a.length ∧ r.length ≤ a.length := by
  rcases h with ⟨_, rfl, rfl, _⟩ | ⟨_, _, rfl, rfl, _⟩ | ⟨_, n, _, _, _, rfl, rfl, _⟩
  · simp
  · exact ⟨by rw [(stM_len a b os _).2]; exact Nat.le_refl _, Nat.zero_le _⟩
  · refine ⟨Nat.zero_le _, ?_⟩
    unfold refL refN toZ
    rw [List.length_map]
    exact Nat.le_trans (List.length_filter_le _ _) (by simp)
theorem own_row {w : World} {base n c : Nat} {A : Option Addr} {zs : List Int} (h : Own .i64 3 w base (.slice A n c) zs) : Row .i64 w w.heap.size A zs ∧ zs.length ≤ maxLen := by
  obtain ⟨A', c', e1, r, -, m, -⟩ := h.slice
  injection e1 with e1
  subst e1
  exact ⟨r, m⟩
/-- The four lists of a round, and the maker. -/
structure XSt (w : World) (m N P0 P1 P2 P3 : Nat) (vx vy vm vw : Value) (L M Z1 Z2 : Nat) (wr : World) : Prop where
  x : ∃ l : List Int, L = l.length ∧ Own .i64 3 wr P0 vx l
  y : ∃ l : List Int, M = l.length ∧ Own .i64 3 wr P1 vy l
  z : ∃ l : List Int, Z1 = l.length ∧ Own .i64 3 wr P2 vm l
  v : ∃ l : List Int, Z2 = l.length ∧ Own .i64 3 wr P3 vw l
  bx : ∀ g, vx.ownBlock = some g → g < P1
  by_ : ∀ g, vy.ownBlock = some g → g < P2
  bz : ∀ g, vm.ownBlock = some g → g < P3
  wm : w.heap.size ≤ m
  p0 : m < P0
  p1 : P0 ≤ P1
  p2 : P1 ≤ P2
  p3 : P2 ≤ P3
  k : IsMk wr m N
  bel : Below w.heap.size w wr
theorem XSt.more {w : World} {m N N' P0 P1 P2 P3 : Nat} {vx vy vm vw : Value} {L M Z1 Z2 : Nat} {wr : World} (h : XSt w m N P0 P1 P2 P3 vx vy vm vw L M Z1 Z2 wr) (hn : N ≤ N') : XSt w m N' P0 P1 P2 P3 vx vy vm vw L M Z1 Z2 wr :=
  ⟨h.x, h.y, h.z, h.v, h.bx, h.by_, h.bz, h.wm, h.p0, h.p1, h.p2, h.p3, h.k.more hn, h.bel⟩
theorem XSt.moves {w : World} {m N N' P0 P1 P2 P3 : Nat} {vx vy vm vw : Value} {L M Z1 Z2 : Nat} {wr w' : World} (h : XSt w m N P0 P1 P2 P3 vx vy vm vw L M Z1 Z2 wr) (k : IsMk w' m N') (mv : Moves m wr w') : XSt w m N' P0 P1 P2 P3 vx vy vm vw L M Z1 Z2 w' := by
  have q0 := h.p0
  have q1 := h.p1
  have q2 := h.p2
  have q3 := h.p3
  refine ⟨?_, ?_, ?_, ?_, h.bx, h.by_, h.bz, h.wm, h.p0, h.p1, h.p2, h.p3, k, mv.below h.bel h.wm h.bel.size⟩
  · obtain ⟨l, e, o⟩ := h.x; exact ⟨l, e, o.moves mv (by omega)⟩
  · obtain ⟨l, e, o⟩ := h.y; exact ⟨l, e, o.moves mv (by omega)⟩
  · obtain ⟨l, e, o⟩ := h.z; exact ⟨l, e, o.moves mv (by omega)⟩
  · obtain ⟨l, e, o⟩ := h.v; exact ⟨l, e, o.moves mv (by omega)⟩
theorem XSt.sety {w : World} {m N P0 P1 P2 P3 : Nat} {vx vm vw : Value} {L M Z1 Z2 g c : Nat} {wr : World} (h : XSt w m N P0 P1 P2 P3 vx (.slice (some ⟨g, 0, none⟩) M c) vm vw L M Z1 Z2 wr) (j : Nat) (u : Int) : XSt w m N P0 P1 P2 P3 vx (.slice (some ⟨g, 0, none⟩) M c) vm vw L M Z1 Z2 (wr.setCell ⟨g, j, none⟩ (.int .i64 u)) := by
  have q0 := h.p0
  have q1 := h.p1
  have q2 := h.p2
  have q3 := h.p3
  have q4 := h.wm
  obtain ⟨lx, ex, ox⟩ := h.x
  obtain ⟨ly, ey, oy⟩ := h.y
  obtain ⟨lz, ez, oz⟩ := h.z
  obtain ⟨lv, ev, ov⟩ := h.v
  have hg := own_block oy (g := g) rfl
  have hg2 := h.by_ g rfl
  refine ⟨⟨lx, ex, ox.setN (p := ⟨g, j, none⟩) (fun g' hg' => by have := h.bx g' hg'; show g' ≠ g; omega) _⟩, ⟨ly.set j u, by rw [List.length_set]; exact ey, oy.store ey j u⟩, ⟨lz, ez, oz.setN (p := ⟨g, j, none⟩) (fun g' hg' => by have := (own_block oz hg').1; show g' ≠ g; omega) _⟩, ⟨lv, ev, ov.setN (p := ⟨g, j, none⟩) (fun g' hg' => by have := (own_block ov hg').1; show g' ≠ g; omega) _⟩, h.bx, h.by_, h.bz, h.wm, h.p0, h.p1, h.p2, h.p3, h.k.setCell (p := ⟨g, j, none⟩) (by show m < g; omega) _, h.bel.setCell (p := ⟨g, j, none⟩) (by show _ ≤ g; omega) _⟩
theorem XSt.setz {w : World} {m N P0 P1 P2 P3 : Nat} {vx vy vw : Value} {L M Z1 Z2 g c : Nat} {wr : World} (h : XSt w m N P0 P1 P2 P3 vx vy (.slice (some ⟨g, 0, none⟩) Z1 c) vw L M Z1 Z2 wr) (j : Nat) (u : Int) : XSt w m N P0 P1 P2 P3 vx vy (.slice (some ⟨g, 0, none⟩) Z1 c) vw L M Z1 Z2 (wr.setCell ⟨g, j, none⟩ (.int .i64 u)) := by
  have q0 := h.p0
  have q1 := h.p1
  have q2 := h.p2
  have q3 := h.p3
  have q4 := h.wm
  obtain ⟨lx, ex, ox⟩ := h.x
  obtain ⟨ly, ey, oy⟩ := h.y
  obtain ⟨lz, ez, oz⟩ := h.z
  obtain ⟨lv, ev, ov⟩ := h.v
  have hg := own_block oz (g := g) rfl
  have hg2 := h.bz g rfl
  refine ⟨⟨lx, ex, ox.setN (p := ⟨g, j, none⟩) (fun g' hg' => by have := h.bx g' hg'; show g' ≠ g; omega) _⟩, ⟨ly, ey, oy.setN (p := ⟨g, j, none⟩) (fun g' hg' => by have := h.by_ g' hg'; show g' ≠ g; omega) _⟩, ⟨lz.set j u, by rw [List.length_set]; exact ez, oz.store ez j u⟩, ⟨lv, ev, ov.setN (p := ⟨g, j, none⟩) (fun g' hg' => by have := (own_block ov hg').1; show g' ≠ g; omega) _⟩, h.bx, h.by_, h.bz, h.wm, h.p0, h.p1, h.p2, h.p3, h.k.setCell (p := ⟨g, j, none⟩) (by show m < g; omega) _, h.bel.setCell (p := ⟨g, j, none⟩) (by show _ ≤ g; omega) _⟩
theorem XSt.setv {w : World} {m N P0 P1 P2 P3 : Nat} {vx vy vm : Value} {L M Z1 Z2 g c : Nat} {wr : World} (h : XSt w m N P0 P1 P2 P3 vx vy vm (.slice (some ⟨g, 0, none⟩) Z2 c) L M Z1 Z2 wr) (j : Nat) (u : Int) : XSt w m N P0 P1 P2 P3 vx vy vm (.slice (some ⟨g, 0, none⟩) Z2 c) L M Z1 Z2 (wr.setCell ⟨g, j, none⟩ (.int .i64 u)) := by
  have q0 := h.p0
  have q1 := h.p1
  have q2 := h.p2
  have q3 := h.p3
  have q4 := h.wm
  obtain ⟨lx, ex, ox⟩ := h.x
  obtain ⟨ly, ey, oy⟩ := h.y
  obtain ⟨lz, ez, oz⟩ := h.z
  obtain ⟨lv, ev, ov⟩ := h.v
  have hg := own_block ov (g := g) rfl
  refine ⟨⟨lx, ex, ox.setN (p := ⟨g, j, none⟩) (fun g' hg' => by have := h.bx g' hg'; show g' ≠ g; omega) _⟩, ⟨ly, ey, oy.setN (p := ⟨g, j, none⟩) (fun g' hg' => by have := h.by_ g' hg'; show g' ≠ g; omega) _⟩, ⟨lz, ez, oz.setN (p := ⟨g, j, none⟩) (fun g' hg' => by have := h.bz g' hg'; show g' ≠ g; omega) _⟩, ⟨lv.set j u, by rw [List.length_set]; exact ev, ov.store ev j u⟩, h.bx, h.by_, h.bz, h.wm, h.p0, h.p1, h.p2, h.p3, h.k.setCell (p := ⟨g, j, none⟩) (by show m < g; omega) _, h.bel.setCell (p := ⟨g, j, none⟩) (by show _ ≤ g; omega) _⟩
theorem own_spot {w : World} {P n c : Nat} {A : Option Addr} (h : ∃ l : List Int, n = l.length ∧ Own .i64 3 w P (.slice A n c) l) (hn : 0 < n) : ∃ g, A = some ⟨g, 0, none⟩ := by
  obtain ⟨l, e, o⟩ := h
  exact own_at o (by omega)
theorem own_cell {w : World} {P n c g : Nat} (h : ∃ l : List Int, n = l.length ∧ Own .i64 3 w P (.slice (some ⟨g, 0, none⟩) n c) l) {j : Nat} (hj : j < n) : (∃ z, w.cell? ⟨g, j, none⟩ = some (.int .i64 z)) ∧ w.frozen? ⟨g, j, none⟩ = false := by
  obtain ⟨l, e, o⟩ := h
  exact ⟨⟨_, o.cell e j (by omega)⟩, o.frozen e j⟩
theorem exact_n {w : World} {m N P0 P1 P2 P3 L M Z1 Z2 c1 c2 c3 c4 : Nat} {A1 A2 A3 A4 : Option Addr} {wr : World} (h : XSt w m N P0 P1 P2 P3 (.slice A1 L c1) (.slice A2 M c2) (.slice A3 Z1 c3) (.slice A4 Z2 c4) L M Z1 Z2 wr) :
    Calls Try.prog 18 #[.slice A1 L c1, .slice A2 M c2, .slice A3 Z1 c3, .slice A4 Z2 c4] wr fun e w' => e = .returned (.bool true) ∧ Below wr.heap.size wr w' := by
  obtain ⟨lx, rfl, ox⟩ := h.x
  obtain ⟨ly, rfl, oy⟩ := h.y
  obtain ⟨lz, rfl, oz⟩ := h.z
  obtain ⟨lv, rfl, ov⟩ := h.v
  exact exact_any lx ly lz lv A1 A2 A3 A4 c1 c2 c3 c4 wr (own_row ox).1 (own_row ox).2 (own_row oy).1 (own_row oy).2 (own_row oz).1 (own_row oz).2 (own_row ov).1 (own_row ov).2
theorem own_mid {w : World} {P0 B0 : Nat} {vx vy : Value} {x y : List Int} (ox : Own .i64 3 w P0 vx x) (oy : Own .i64 3 w B0 vy y) (hab : ∀ g, vx.ownBlock = some g → g < B0) (h0 : P0 ≤ B0) (hs : P0 ≤ w.heap.size) :
    ∃ P1, Own .i64 3 w P1 vy y ∧ (∀ g, vx.ownBlock = some g → g < P1) ∧ P0 ≤ P1 ∧ P1 ≤ w.heap.size := by
  rcases oy.2 with ⟨e1, h⟩ | ⟨g, cap, cur, e1, h2, h3, _⟩
  · exact ⟨w.heap.size, ⟨oy.1, Or.inl ⟨e1, h⟩⟩, fun g hg => (own_block ox hg).2, hs, Nat.le_refl _⟩
  · exact ⟨B0, oy, hab, h0, by have := (Array.getElem?_eq_some_iff.1 h3).1; omega⟩
set_option maxRecDepth 400000 in
set_option maxHeartbeats 12800000 in
theorem exact_walk (A : Option Addr) (c : Nat) (zs : List Int) (w : World) (hr : Row .i64 w w.heap.size A zs) (hm : zs.length ≤ maxLen) (hw : ∀ n ∈ zs, (Lit.int .i64 n).wf = true)
    (a b l r : List Int) (Aa Ab Al Ar : Option Addr) (ca cb cl cr : Nat) (ha : Row .i64 w w.heap.size Aa a) (hla : a.length ≤ maxLen) (hb : Row .i64 w w.heap.size Ab b) (hlb : b.length ≤ maxLen) (hl : Row .i64 w w.heap.size Al l) (hll : l.length ≤ maxLen) (hrr : Row .i64 w w.heap.size Ar r) (hlr : r.length ≤ maxLen) :
    Calls Try.prog 4 #[.slice A zs.length c, .slice Aa a.length ca, .slice Ab b.length cb, .slice Al l.length cl, .slice Ar r.length cr] w fun e w' => e = .returned (.bool true) ∧ Below w.heap.size w w' := by
  have K := Lib.hid (mk_row (c := c) (T := 52) hr hm hw)
  have B := Lib.hid ((Below.refl w.heap.size w).alloc (Nat.le_refl _) (.cells #[.slice A zs.length c, .int .i64 0] 52))
  have HX := Lib.hid (fun W (k : Below w.heap.size w W) => exact_any a b l r Aa Ab Al Ar ca cb cl cr W (ha.below k) hla (hb.below k) hlb (hl.below k) hll (hrr.below k) hlr)
  obtain ⟨La, hLa⟩ : ∃ n, n = a.length := ⟨_, rfl⟩
  obtain ⟨Lb, hLb⟩ : ∃ n, n = b.length := ⟨_, rfl⟩
  obtain ⟨Ll, hLl⟩ : ∃ n, n = l.length := ⟨_, rfl⟩
  obtain ⟨Lr, hLr⟩ : ∃ n, n = r.length := ⟨_, rfl⟩
  rw [← hLa, ← hLb, ← hLl, ← hLr] at HX ⊢
  clear hr hw ha hla hb hlb hl hll hrr hlr hLa hLb hLl hLr
  obtain ⟨m, hmm⟩ : ∃ m, m = w.heap.size := ⟨_, rfl⟩
  go_enter Try.func4, Try.ntmps4
  go_wp2_with fail
  refine (new_any A zs.length c w).mono ?_
  rintro e w1 ⟨rfl, hw1⟩
  rw [← hw1] at K B
  rw [← hmm] at K ⊢
  have HMM := Lib.hid (show w.heap.size ≤ m by rw [hmm]; exact Nat.le_refl _)
  clear hw1 hm hmm
  go_wp2_with fail
  go_loopw [12] (fun iv wr => ∃ i : Nat, i ≤ 5 ∧ iv = .int .i64 (i : Int) ∧ Hid (IsMk wr m (100 * i)) ∧ Hid (Below w.heap.size w wr)) (fun iv _ => 5 - (intOf iv).toNat)
  case atStart => exact ⟨0, by omega, rfl, K, B⟩
  case round =>
    clear K B
    obtain ⟨i, hi, rfl, K, B⟩ := hrel
    by_cases hlt : i < 5
    · have hltz : (i : Int) < 5 := by omega
      have HKL := Lib.hid K.out.lt
      go_wp2_with fail
      refine (lists_any m (100 * i) 6 wr K.out (by omega) (by omega)).mono ?_
      rintro e w2 ⟨va, vb, x, y, B0, rfl, oa, ob, hab, hwb, la, lb, -, -, km, mv⟩
      have HB2 := Lib.hid (mv.below B.out HMM.out B.out.size)
      have HSZ := Lib.hid mv.size
      obtain ⟨A1, c1, rfl, r1, -, m1, -⟩ := oa.slice
      obtain ⟨A2, c2, rfl, r2, -, m2, -⟩ := ob.slice
      obtain ⟨L, hL⟩ : ∃ n, n = x.length := ⟨_, rfl⟩
      obtain ⟨M, hM⟩ : ∃ n, n = y.length := ⟨_, rfl⟩
      have HRM := Lib.hid (rmatch_n x y L M hL hM A1 A2 c1 c2 w2 r1 (by rw [hL]; exact m1) r2 (by rw [hM]; exact m2))
      rw [← hL] at oa hab la ⊢
      rw [← hM] at ob lb ⊢
      have HL := Lib.hid hL
      have HM := Lib.hid hM
      have OX := Lib.hid oa
      have OY := Lib.hid ob
      have HAB := Lib.hid hab
      have HWB := Lib.hid hwb
      have HLA := Lib.hid la
      have HLB := Lib.hid lb
      have KM := Lib.hid km
      clear oa ob hab hwb la lb km mv r1 r2 m1 m2 hL hM K B
      go_wp2_with fail
      refine HRM.out.mono ?_
      rintro e w3 ⟨os, vl, vr, ll, rr, er, rfl, O, MO, ol, orr, b3⟩
      have hlen := mout_len MO
      obtain ⟨A3, c3, rfl, r3, -, m3, -⟩ := ol.slice
      obtain ⟨A4, c4, rfl, r4, -, m4, -⟩ := orr.slice
      obtain ⟨Z1, hZ1⟩ : ∃ n, n = ll.length := ⟨_, rfl⟩
      obtain ⟨Z2, hZ2⟩ : ∃ n, n = rr.length := ⟨_, rfl⟩
      have HN3 := Lib.hid (own_nilc ol)
      have HN4 := Lib.hid (own_nilc orr)
      rw [← hZ1] at hlen HN3 ⊢
      rw [← hZ2] at hlen HN4 ⊢
      have hL6 : L ≤ 6 := HLA.out
      have hM8 : M ≤ 8 := HLB.out
      have hz1 : Z1 ≤ 6 := by have h1 := HL.out; have h2 := HLA.out; omega
      have hz2 : Z2 ≤ 6 := by have h1 := HL.out; have h2 := HLA.out; omega
      have HZ1 := Lib.hid hZ1
      have HZ2 := Lib.hid hZ2
      have R4 := Lib.hid r4
      have K3 := Lib.hid (KM.out.stays' b3)
      have OX3 := Lib.hid (OX.out.below b3)
      have OY3 := Lib.hid (OY.out.below b3)
      have HB3 := Lib.hid (HB2.out.trans (b3.mono HB2.out.size))
      obtain ⟨P1, oy1, hxb, hp0, hp1⟩ := own_mid OX3.out OY3.out HAB.out HWB.out (Nat.le_trans HSZ.out b3.size)
      have OY1 := Lib.hid oy1
      have HXB := Lib.hid hxb
      have HP0 := Lib.hid hp0
      have HP1 := Lib.hid hp1
      have HYB := Lib.hid (show ∀ g, (Value.slice A2 M c2).ownBlock = some g → g < w3.heap.size from fun g hg => (own_block OY1.out hg).2)
      have HCP1 := Lib.hid (r3.below (box1W w3 (.cells #[] 3)))
      clear HRM O MO ol orr b3 r3 r4 m3 m4 hZ1 hZ2 hlen KM OX OY HB2 hxb hp0 hp1 oy1 OY3 HAB HWB HLA HLB
      go_upto_region 8 with (first
        | (refine wpList_copyI _ rfl (.tmp 36) (.tmp 37) rfl w3 rfl rfl A3 Z1 c3 ll HZ1.out rfl HCP1.out HN3.out (by omega) ?_; intro Ac cc w4 oc bc; have OC := Lib.hid oc; have BC := Lib.hid bc; have R4b := Lib.hid ((R4.out.below bc).below (box1W w4 (.cells #[] 3))); clear oc bc)
        | (refine wpList_copyI _ rfl (.tmp 39) (.tmp 40) rfl w4 rfl rfl A4 Z2 c4 rr HZ2.out rfl R4b.out HN4.out (by omega) ?_; intro Ad cd w5 od bd; have OD := Lib.hid od; have BD := Lib.hid bd; clear od bd))
      have BCD := Lib.hid (BC.out.trans (BD.out.mono BC.out.size))
      have S := Lib.hid (show XSt w m (100 * i + 16) wr.heap.size P1 w3.heap.size w4.heap.size (.slice A1 L c1) (.slice A2 M c2) (.slice Ac Z1 cc) (.slice Ad Z2 cd) L M Z1 Z2 w5 from
        ⟨⟨x, HL.out, OX3.out.below BCD.out⟩, ⟨y, HM.out, OY1.out.below BCD.out⟩, ⟨ll, HZ1.out, OC.out.below BD.out⟩, ⟨rr, HZ2.out, OD.out⟩, HXB.out, HYB.out, fun g hg => (own_block OC.out hg).2, HMM.out, HKL.out, HP0.out, HP1.out, BC.out.size, (K3.out.stays' BCD.out).more (by omega), HB3.out.trans (BCD.out.mono HB3.out.size)⟩)
      generalize wr.heap.size = P0 at S
      generalize w3.heap.size = P2 at S
      generalize w4.heap.size = P3 at S
      clear BCD BC BD OC OD R4b HCP1 HB3 K3 OX3 OY1 HXB HYB HP0 HP1 HN3 HN4 R4 HL HM HZ1 HZ2 HKL
      go_cut [48] from 42 to 48 (fun bv wx => ∃ cb : Bool, bv = .bool cb ∧ Hid (cb = true → 0 < Z1) ∧ Hid (XSt w m (100 * i + 16) P0 P1 P2 P3 (.slice A1 L c1) (.slice A2 M c2) (.slice Ac Z1 cc) (.slice Ad Z2 cd) L M Z1 Z2 wx))
      case first =>
        by_cases h1 : 1 < i
        · have h1z : (1 : Int) < (i : Int) := by omega
          by_cases h2 : 0 < Z1
          · have h2z : (0 : Int) < (Z1 : Int) := by omega
            go_wp2_with fail
            go_meet
            case rel => exact ⟨true, rfl, Lib.hid (fun _ => h2), S⟩
          · have h2z : ¬ (0 : Int) < (Z1 : Int) := by omega
            go_wp2_with fail
            go_meet
            case rel => exact ⟨false, rfl, Lib.hid (fun h => by cases h), S⟩
        · have h1z : ¬ (1 : Int) < (i : Int) := by omega
          go_wp2_with fail
          go_meet
          case rel => exact ⟨false, rfl, Lib.hid (fun h => by cases h), S⟩
      case rest =>
        clear S
        obtain ⟨cb, rfl, HCB, S⟩ := hcut
        go_upto_if 48 with fail
        go_cut [] from 49 to 58 (fun wx => Hid (XSt w m (100 * i + 18) P0 P1 P2 P3 (.slice A1 L c1) (.slice A2 M c2) (.slice Ac Z1 cc) (.slice Ad Z2 cd) L M Z1 Z2 wx))
        case first =>
          cases cb with
          | true =>
            have h2 := HCB.out rfl
            clear HCB
            obtain ⟨g, rfl⟩ := own_spot S.out.z h2
            go_wp2_with fail
            refine (next_any m (100 * i + 16) (Z1 : Int) _ S.out.k (by omega) (by omega) (by omega)).mono ?_
            rintro e w6 ⟨j, rfl, j1, j2, k6, mv6⟩
            have S6 := Lib.hid (S.out.moves k6 mv6)
            obtain ⟨jn, rfl⟩ := Int.eq_ofNat_of_zero_le j1
            have hjz : (jn : Int) < (Z1 : Int) := by omega
            have HK6 := Lib.hid k6.lt
            clear k6 mv6 S
            go_wp2_with fail
            refine (from_any m (100 * i + 16 + 1) (-1) (M : Int) _ S6.out.k (by omega) (by omega) (by omega) (by omega)).mono ?_
            rintro e w7 ⟨u, rfl, -, -, k7, mv7⟩
            have S7 := Lib.hid (S6.out.moves k7 mv7)
            obtain ⟨⟨z, hz⟩, hf⟩ := own_cell S7.out.z (j := jn) (by omega)
            have S8 := Lib.hid ((S7.out.setz jn u).more (N' := 100 * i + 18) (by omega))
            clear k7 mv7 S6 S7
            go_wp2_with fail
            go_meet
            case rel => exact S8
          | false =>
            go_wp2_with fail
            go_meet
            case rel => exact Lib.hid (S.out.more (by omega))
        case rest =>
          clear S
          have S := hcut
          clear hcut
          go_upto_region 10 with fail
          go_cut [65] from 59 to 65 (fun bv wx => ∃ cb : Bool, bv = .bool cb ∧ Hid (cb = true → 0 < Z2) ∧ Hid (XSt w m (100 * i + 18) P0 P1 P2 P3 (.slice A1 L c1) (.slice A2 M c2) (.slice Ac Z1 cc) (.slice Ad Z2 cd) L M Z1 Z2 wx))
          case first =>
            by_cases h1 : 1 < i
            · have h1z : (1 : Int) < (i : Int) := by omega
              by_cases h2 : 0 < Z2
              · have h2z : (0 : Int) < (Z2 : Int) := by omega
                go_wp2_with fail
                go_meet
                case rel => exact ⟨true, rfl, Lib.hid (fun _ => h2), S⟩
              · have h2z : ¬ (0 : Int) < (Z2 : Int) := by omega
                go_wp2_with fail
                go_meet
                case rel => exact ⟨false, rfl, Lib.hid (fun h => by cases h), S⟩
            · have h1z : ¬ (1 : Int) < (i : Int) := by omega
              go_wp2_with fail
              go_meet
              case rel => exact ⟨false, rfl, Lib.hid (fun h => by cases h), S⟩
          case rest =>
            clear S
            obtain ⟨cb, rfl, HCB, S⟩ := hcut
            go_upto_if 65 with fail
            go_cut [] from 66 to 75 (fun wx => Hid (XSt w m (100 * i + 20) P0 P1 P2 P3 (.slice A1 L c1) (.slice A2 M c2) (.slice Ac Z1 cc) (.slice Ad Z2 cd) L M Z1 Z2 wx))
            case first =>
              cases cb with
              | true =>
                have h2 := HCB.out rfl
                clear HCB
                obtain ⟨g, rfl⟩ := own_spot S.out.v h2
                go_wp2_with fail
                refine (next_any m (100 * i + 18) (Z2 : Int) _ S.out.k (by omega) (by omega) (by omega)).mono ?_
                rintro e w6 ⟨j, rfl, j1, j2, k6, mv6⟩
                have S6 := Lib.hid (S.out.moves k6 mv6)
                obtain ⟨jn, rfl⟩ := Int.eq_ofNat_of_zero_le j1
                have hjz : (jn : Int) < (Z2 : Int) := by omega
                have HK6 := Lib.hid k6.lt
                clear k6 mv6 S
                go_wp2_with fail
                refine (from_any m (100 * i + 18 + 1) (-1) (L : Int) _ S6.out.k (by omega) (by omega) (by omega) (by omega)).mono ?_
                rintro e w7 ⟨u, rfl, -, -, k7, mv7⟩
                have S7 := Lib.hid (S6.out.moves k7 mv7)
                obtain ⟨⟨z, hz⟩, hf⟩ := own_cell S7.out.v (j := jn) (by omega)
                have S8 := Lib.hid ((S7.out.setv jn u).more (N' := 100 * i + 20) (by omega))
                clear k7 mv7 S6 S7
                go_wp2_with fail
                go_meet
                case rel => exact S8
              | false =>
                go_wp2_with fail
                go_meet
                case rel => exact Lib.hid (S.out.more (by omega))
            case rest =>
              clear S
              have S := hcut
              clear hcut
              go_upto_region 12 with fail
              go_cut [82] from 76 to 82 (fun bv wx => ∃ cb : Bool, bv = .bool cb ∧ Hid (cb = true → 0 < M) ∧ Hid (XSt w m (100 * i + 20) P0 P1 P2 P3 (.slice A1 L c1) (.slice A2 M c2) (.slice Ac Z1 cc) (.slice Ad Z2 cd) L M Z1 Z2 wx))
              case first =>
                by_cases h1 : i = 4
                · have h1z : ((i : Int) == 4) = true := by simp [h1]
                  clear h1
                  by_cases h2 : 0 < M
                  · have h2z : (0 : Int) < (M : Int) := by omega
                    go_wp2_with fail
                    go_meet
                    case rel => exact ⟨true, rfl, Lib.hid (fun _ => h2), S⟩
                  · have h2z : ¬ (0 : Int) < (M : Int) := by omega
                    go_wp2_with fail
                    go_meet
                    case rel => exact ⟨false, rfl, Lib.hid (fun h => by cases h), S⟩
                · have h1z : ((i : Int) == 4) = false := by simp; omega
                  go_wp2_with fail
                  go_meet
                  case rel => exact ⟨false, rfl, Lib.hid (fun h => by cases h), S⟩
              case rest =>
                clear S
                obtain ⟨cb, rfl, HCB, S⟩ := hcut
                go_upto_if 82 with fail
                go_cut [] from 83 to 91 (fun wx => Hid (XSt w m (100 * i + 22) P0 P1 P2 P3 (.slice A1 L c1) (.slice A2 M c2) (.slice Ac Z1 cc) (.slice Ad Z2 cd) L M Z1 Z2 wx))
                case first =>
                  cases cb with
                  | true =>
                    have h2 := HCB.out rfl
                    clear HCB
                    obtain ⟨g, rfl⟩ := own_spot S.out.y h2
                    go_wp2_with fail
                    refine (next_any m (100 * i + 20) (M : Int) _ S.out.k (by omega) (by omega) (by omega)).mono ?_
                    rintro e w6 ⟨j, rfl, j1, j2, k6, mv6⟩
                    have S6 := Lib.hid (S.out.moves k6 mv6)
                    obtain ⟨jn, rfl⟩ := Int.eq_ofNat_of_zero_le j1
                    have hjz : (jn : Int) < (M : Int) := by omega
                    have HK6 := Lib.hid k6.lt
                    clear k6 mv6 S
                    go_wp2_with fail
                    refine (pick_any m (100 * i + 20 + 1) (fun _ => True) _ 4 4 _ (S6.out.k.alloc _) (by omega) (by omega) (by omega) (by have := HK6.out; omega) (by simp) (by exact new_pick _ _ _ [0, -1, 38400, 38401] (fun _ _ => trivial) _ rfl)).mono ?_
                    rintro e w7 ⟨u, rfl, -, k7, mv7⟩
                    have S7 := Lib.hid (S6.out.moves k7 (((Moves.refl m w6).alloc _).trans mv7))
                    obtain ⟨⟨z, hz⟩, hf⟩ := own_cell S7.out.y (j := jn) (by omega)
                    have S8 := Lib.hid ((S7.out.sety jn u).more (N' := 100 * i + 22) (by omega))
                    clear k7 mv7 S6 S7
                    go_wp2_with fail
                    go_meet
                    case rel => exact S8
                  | false =>
                    go_wp2_with fail
                    go_meet
                    case rel => exact Lib.hid (S.out.more (by omega))
                case rest =>
                  clear S
                  have S := hcut
                  clear hcut
                  go_wp2_with fail
                  refine (exact_n S.out).mono ?_
                  rintro e w9 ⟨rfl, b9⟩
                  have K9 := Lib.hid ((S.out.k.stays' b9).more (M := 100 * (i + 1)) (by omega))
                  have B9 := Lib.hid (S.out.bel.trans (b9.mono S.out.bel.size))
                  clear S b9
                  go_wp2_with fail
                  go_roundw
                  case rel => exact ⟨i + 1, by omega, by go_num, K9, B9⟩
                  case measure => simp [intOf]; omega
    · have hltz : ¬ (i : Int) < 5 := by omega
      obtain ⟨s1, hs1⟩ : ∃ s, IntKind.i64.wrap ((La : Int) + (Lb : Int)) = s := ⟨_, rfl⟩
      obtain ⟨s2, hs2⟩ : ∃ s, IntKind.i64.wrap (s1 + (Ll : Int)) = s := ⟨_, rfl⟩
      obtain ⟨s3, hs3⟩ : ∃ s, IntKind.i64.wrap (s2 + (Lr : Int)) = s := ⟨_, rfl⟩
      clear K
      by_cases hs : 200 < s3
      · go_wp2_with fail
        go_ret
        exact ⟨rfl, B.out⟩
      · go_wp2_with fail
        refine (HX.out _ B.out).mono ?_
        rintro e w7 ⟨rfl, b7⟩
        have B7 := Lib.hid (B.out.trans (b7.mono B.out.size))
        clear b7 B HX
        go_wp2_with fail
        refine (sane_any w7).mono ?_
        rintro e w8 ⟨rfl, b8⟩
        have B8 := Lib.hid (B7.out.trans (b8.mono B7.out.size))
        clear b8
        go_wp2_with fail
        go_ret
        exact ⟨rfl, B8.out⟩
theorem exact_law (a0 : Option Addr) (len0 cap0 : Nat) (z0 : List Int) (w : World) (h0 : IsRow .i64 w a0 len0 cap0 z0) (a1 : Option Addr) (len1 cap1 : Nat) (z1 : List Int) (h1 : IsRow .i64 w a1 len1 cap1 z1) (a2 : Option Addr) (len2 cap2 : Nat) (z2 : List Int) (h2 : IsRow .i64 w a2 len2 cap2 z2) (a3 : Option Addr) (len3 cap3 : Nat) (z3 : List Int) (h3 : IsRow .i64 w a3 len3 cap3 z3) (a4 : Option Addr) (len4 cap4 : Nat) (z4 : List Int) (h4 : IsRow .i64 w a4 len4 cap4 z4) :
    Calls Try.prog 4 #[.slice a0 len0 cap0, .slice a1 len1 cap1, .slice a2 len2 cap2, .slice a3 len3 cap3, .slice a4 len4 cap4] w fun e w' => e = .returned (.bool true) ∧ Below w.heap.size w w' := by
  obtain ⟨l0, rfl, r0, m0, w0⟩ := h0.row
  obtain ⟨l1, rfl, r1, m1, -⟩ := h1.row
  obtain ⟨l2, rfl, r2, m2, -⟩ := h2.row
  obtain ⟨l3, rfl, r3, m3, -⟩ := h3.row
  obtain ⟨l4, rfl, r4, m4, -⟩ := h4.row
  exact exact_walk a0 cap0 l0 w r0 m0 w0 l1 l2 l3 l4 a1 a2 a3 a4 cap1 cap2 cap3 cap4 r1 m1 r2 m2 r3 m3 r4 m4
end Go.Proofs.Ytknkgcphamhjlaa
