/-
  Stage 9: the words of the line of an element (the program).
-/
import Derived.Test.YtdoifaifhikkjaaGreatDoorLWords
set_option linter.unusedSimpArgs false
set_option linter.unusedVariables false
namespace Go.Proofs.YtdoifaifhikkjaaGreatDoor
open Go.RowKit Go.Lib

/-- A list of strings of the call's own. -/
def SOwn (w : World) (base : Nat) (v : Value) (ws : List ByteArray) : Prop := w.ownsRow base 9 1 v ws.length (ws.map Value.string)
theorem SOwn.below {w w' : World} {base : Nat} {v : Value} {ws : List ByteArray} (h : SOwn w base v ws) (b : Below w.heap.size w w') : SOwn w' base v ws := by
  refine ⟨h.1, ?_⟩
  rcases h.2 with g | ⟨g, cap, cur, e1, e2, e3, e4⟩
  · exact Or.inl g
  · exact Or.inr ⟨g, cap, cur, e1, e2, (b.block g (Array.getElem?_eq_some_iff.1 e3).1).trans e3, e4⟩
theorem SOwn.alloc {w : World} {base : Nat} {v : Value} {ws : List ByteArray} (h : SOwn w base v ws) (o : Obj) : SOwn (w.alloc o) base v ws := World.ownsRow.alloc h o
theorem SOwn.laid (w : World) (base : Nat) (hb : base ≤ w.heap.size) (ws : List ByteArray) (n : Nat) (hn : ws.length = n) (hm : n ≤ 1000) : SOwn (w.alloc (.cells (ws.map Value.string).toArray 9)) base (.slice (some ⟨w.heap.size, 0, none⟩) n n) ws := by
  subst hn
  refine ⟨by simp, Or.inr ⟨w.heap.size, ws.length, (ws.map Value.string).toArray, rfl, hb, ?_, Nat.le_refl _, by unfold maxLen; omega, by simp, ?_⟩⟩
  · show (w.heap.push _)[w.heap.size]? = _
    rw [Array.getElem?_push, if_pos rfl]
  · rw [Nat.mul_one]; exact List.take_of_length_le (by simp)
theorem SOwn.full {w : World} {base : Nat} {v : Value} {ws : List ByteArray} (h : SOwn w base v ws) : ∃ A c, v = .slice A ws.length c ∧ SRow w A ws ∧ ws.length ≤ c ∧ (A = none → ws.length = 0) ∧ (∀ ad, A = some ad → ∃ g, ad = ⟨g, 0, none⟩ ∧ g < w.heap.size) := by
  rcases h.2 with ⟨rfl, hn⟩ | ⟨g, cap, cur, rfl, e2, e3, e4, e5, e6, e7⟩
  · have : ws = [] := List.length_eq_zero_iff.1 hn
    subst this
    exact ⟨none, 0, rfl, ⟨VRow.nil, Nat.zero_le _⟩, Nat.le_refl _, fun _ => rfl, fun _ e => by cases e⟩
  · have hg : g < w.heap.size := (Array.getElem?_eq_some_iff.1 e3).1
    refine ⟨_, cap, rfl, ⟨fun j u hj => ⟨_, rfl, hg, ?_⟩, by omega⟩, e4, (fun e => by cases e), fun ad e => by injection e with e; exact ⟨g, e.symm, hg⟩⟩
    rw [add_own]
    have hlt : j < (ws.map Value.string).length := (List.getElem?_eq_some_iff.1 hj).1
    have := World.ownsRow.cellAt h j (by simpa using hlt)
    rw [this]; exact hj
theorem newsS (w : World) (s : ByteArray) (T : TypeId) : ∀ ad, some (⟨w.heap.size, 0, none⟩ : Addr) = some ad → ∀ j u, ([s].map Value.string)[j]? = some u → (w.alloc (.cells #[.string s] T)).cell? (ad.add j) = some u := fun ad e j u hj => by
  injection e with e
  subst e
  rw [add_own, cell_new]
  match j, hj with
  | 0, hj => simpa using hj
  | j + 1, hj => simp at hj
def itoB (n : Int) : ByteArray := ⟨(Lib.itoa n).toArray⟩
theorem itoa_any (n : Int) (w : World) (h : -9223372036854775808 ≤ n ∧ n ≤ 9223372036854775807) (D : Dor w) :
    Calls Tryz.prog 27 #[.int .i64 n] w fun e w' => e = .returned (.string (itoB n)) ∧ Below w.heap.size w w' := by
  have hc := Any.strconv_Itoa itoaS n h.1 h.2 w D.vp
  change Calls Tryz.prog 27 _ _ _ at hc
  refine hc.mono ?_
  rintro e w' ⟨rfl, k, os, rfl⟩
  refine ⟨rfl, rfl, rfl, rfl, ?_, fun j hj => ?_⟩
  · show w.heap.size ≤ (w.heap ++ os).size
    rw [Array.size_append]; omega
  · show (w.heap ++ os)[j]? = _
    rw [Array.getElem?_append_left hj]
/-- What may be written: a valid element, and its parent's name. -/
structure OkW (x : El) (l : List El) : Prop where
  k : 0 ≤ x.kind ∧ x.kind ≤ 4
  s : 0 ≤ x.side ∧ x.side ≤ 2
  p : x.kind ≠ 0 → 0 ≤ x.par ∧ x.par < (l.length : Int)
  n : (-1000000000 ≤ x.len ∧ x.len ≤ 1000000000) ∧ (-1000000000 ≤ x.gra ∧ x.gra ≤ 1000000000) ∧ (-1000000000 ≤ x.cur ∧ x.cur ≤ 1000000000) ∧ (-1000000000 ≤ x.pow ∧ x.pow ≤ 1000000000)
  z : ∀ y ∈ l, y.name.size ≤ 12
def numbersE (x : El) : List Int := [x.len, x.gra, x.cur, x.pow]
def parW (x : El) (l : List El) : ByteArray := (l.getD x.par.toNat zeroE).name ++ bs (sxL.getD x.side.toNat [])
/-- The words of the line of x. -/
def wofE (x : El) (l : List El) : List ByteArray := [bs (kwL.getD x.kind.toNat []), x.name] ++ (if x.kind ≠ 0 then [parW x l] else []) ++ ((numbersE x).take (nlK x.kind.toNat)).map itoB
theorem infoStr1 : (Tryz.prog.info? 9).map (fun i => (i.zero, i.size, i.bytes)) = some (some (.string ⟨#[]⟩), 1, 16) := by kernel_rfl
theorem app_belowW {w3 w8 : World} {o : Obj} {row : Option Nat} {B : Nat} (g : (w3.alloc o).drew.grownBy w8 row) (hB : B ≤ w3.heap.size) (hr : ∀ j, row = some j → B ≤ j) : Below B w3 w8 := by
  have d : Below w3.heap.size w3 (w3.alloc o).drew := ((Below.refl _ _).alloc (Nat.le_refl _) _).trans ⟨rfl, rfl, rfl, Nat.le_refl _, fun _ _ => rfl⟩
  exact (d.mono hB).grown g (Nat.le_trans hB d.size) hr
theorem SOwn.ne {w : World} {base : Nat} {v : Value} {ws : List ByteArray} (h : SOwn w base v ws) (hw : ws ≠ []) {nb : Nat} {k : IntKind} {z : Int} (hc : w.cell? ⟨nb, 0, none⟩ = some (.int k z)) : v.ownBlock ≠ some nb := fun e => by
  obtain ⟨A, c, rfl, S, _, _, hA⟩ := h.full
  cases ws with
  | nil => exact hw rfl
  | cons s t =>
    obtain ⟨ad, rfl, _, hs⟩ := S.at_ (k := 0) (s := s) rfl
    obtain ⟨g, rfl, _⟩ := hA _ rfl
    rw [add_own] at hs
    have : g = nb := by simpa [Value.ownBlock] using e
    subst this
    rw [hs] at hc
    cases hc
theorem SOwn.block {w : World} {base : Nat} {v : Value} {ws : List ByteArray} (h : SOwn w base v ws) {g : Nat} (hg : v.ownBlock = some g) : base ≤ g := rows_block h hg
/-- An array of four numbers. -/
def Arr4 (w : World) (b : Nat) (zs : List Int) : Prop := ∀ j, j < 4 → w.cell? ⟨b, j, none⟩ = some (.int .i64 (zs.getD j 0))
theorem Arr4.lt {w : World} {b : Nat} {zs : List Int} (h : Arr4 w b zs) : b < w.heap.size := lt_of_cell (h 0 (by omega))
theorem Arr4.below {w w' : World} {b : Nat} {zs : List Int} (h : Arr4 w b zs) (k : Below w.heap.size w w') : Arr4 w' b zs := fun j hj => (k.cell (p := ⟨b, j, none⟩) h.lt).trans (h j hj)
theorem Arr4.grown {w w' : World} {b : Nat} {zs : List Int} {row : Option Nat} (h : Arr4 w b zs) (g : w.grownBy w' row) (hr : row ≠ some b) : Arr4 w' b zs := fun j hj => g.cell (a := ⟨b, j, none⟩) (h j hj) (fun e => hr e.symm)
theorem drew_below' (w : World) : Below w.heap.size w w.drew := ⟨rfl, rfl, rfl, Nat.le_refl _, fun _ _ => rfl⟩
set_option maxRecDepth 100000 in
set_option maxHeartbeats 3200000 in
theorem wof_any (x : El) (l : List El) (A : Option Addr) (c : Nat) (w : World) (h : RRow ER w A l) (D : Dor w) (O : OkW x l) :
    Calls Tryz.prog 17 #[aggE x, .slice A l.length c] w fun e w' => ∃ v, e = .returned v ∧ SOwn w' w.heap.size v (wofE x l) ∧ Below w.heap.size w w' := by
  have hl : l.length ≤ 9223372036854775807 := h.len
  obtain ⟨⟨k1, k2⟩, ⟨s1, s2⟩, hp, ⟨⟨n1, n2⟩, ⟨n3, n4⟩, ⟨n5, n6⟩, ⟨n7, n8⟩⟩, hz⟩ := O
  have HX := EBlk.of (newE w x 39 w.heap.size rfl)
  have b1 : Below w.heap.size w (w.alloc (.cells #[.int .i64 x.kind, .string x.name, .int .i64 x.par, .int .i64 x.side, .int .i64 x.len, .int .i64 x.gra, .int .i64 x.cur, .int .i64 x.pow] 39)) := (Below.refl _ _).alloc (Nat.le_refl _) _
  have D1 := D.below b1
  have H1 := h.below b1
  have HWO := Lib.hid (show wofE x l = wofE x l from rfl)
  obtain ⟨kd, nm, pa, si, le, gr, cu, po⟩ := x
  obtain ⟨kk, rfl⟩ := Int.eq_ofNat_of_zero_le k1
  obtain ⟨ss, rfl⟩ := Int.eq_ofNat_of_zero_le s1
  simp only at k1 k2 s1 s2 hp n1 n2 n3 n4 n5 n6 n7 n8
  have hk5 : kk < 5 := by omega
  obtain ⟨c0, c1, c2, c3, c4, c5, c6, c7, lt⟩ := HX
  simp only at c0 c1 c2 c3 c4 c5 c6 c7
  generalize hw1 : w.alloc (.cells #[.int .i64 (kk : Int), .string nm, .int .i64 pa, .int .i64 (ss : Int), .int .i64 le, .int .i64 gr, .int .i64 cu, .int .i64 po] 39) = w1 at c0 c1 c2 c3 c4 c5 c6 c7 b1 D1 H1 lt
  have d0 : w1.cell? ⟨0, kk * 4, none⟩ = some (.string (bs (kwL.getD kk []))) := by
    rw [D1.kd]
    rcases (by omega : kk = 0 ∨ kk = 1 ∨ kk = 2 ∨ kk = 3 ∨ kk = 4) with rfl | rfl | rfl | rfl | rfl <;> rfl
  have d1 : w1.cell? ⟨0, kk * 4 + 1, none⟩ = some (.int .i64 (wlK kk : Int)) := by
    rw [D1.kd]
    rcases (by omega : kk = 0 ∨ kk = 1 ∨ kk = 2 ∨ kk = 3 ∨ kk = 4) with rfl | rfl | rfl | rfl | rfl <;> rfl
  have d2 : w1.cell? ⟨0, kk * 4 + 2, none⟩ = some (.int .i64 (nlK kk : Int)) := by
    rw [D1.kd]
    rcases (by omega : kk = 0 ∨ kk = 1 ∨ kk = 2 ∨ kk = 3 ∨ kk = 4) with rfl | rfl | rfl | rfl | rfl <;> rfl
  have d3 : w1.cell? ⟨0, kk * 4 + 3, none⟩ = some (.int .i64 (chK kk : Int)) := by
    rw [D1.kd]
    rcases (by omega : kk = 0 ∨ kk = 1 ∨ kk = 2 ∨ kk = 3 ∨ kk = 4) with rfl | rfl | rfl | rfl | rfl <;> rfl
  go_enter Tryz.func17, Tryz.ntmps17
  have HEQ := Lib.hid (show wofE ⟨(kk : Int), nm, pa, (ss : Int), le, gr, cu, po⟩ l = ([bs (kwL.getD kk []), nm] ++ (if (kk : Int) ≠ 0 then [parW ⟨(kk : Int), nm, pa, (ss : Int), le, gr, cu, po⟩ l] else [])) ++ (([le, gr, cu, po] : List Int).take (nlK kk)).map itoB from rfl)
  have HPW := Lib.hid (show parW ⟨(kk : Int), nm, pa, (ss : Int), le, gr, cu, po⟩ l = (l.getD pa.toNat zeroE).name ++ bs (sxL.getD ss []) from rfl)
  have hnl4 : nlK kk ≤ 4 := by
    unfold nlK
    by_cases g : kk = 0
    · rw [if_pos g]; omega
    · rw [if_neg g]; split <;> omega
  have hsf : ∀ W, Below w1.heap.size w1 W → W.cell? ⟨1, ss, none⟩ = some (.string (bs (sxL.getD ss []))) := fun W hb => by
    rw [(D1.below hb).sf]
    rcases (by omega : ss = 0 ∨ ss = 1 ∨ ss = 2) with rfl | rfl | rfl <;> rfl
  have HSF := Lib.hid hsf
  generalize bs (kwL.getD kk []) = kw at d0 HEQ
  obtain ⟨nl, hnl⟩ : ∃ nl, nl = nlK kk := ⟨_, rfl⟩
  rw [← hnl] at d2 HEQ hnl4
  generalize wlK kk = wl at d1
  generalize chK kk = ch at d3
  have HB1 := Lib.hid b1
  have HD1 := Lib.hid D1
  have HH1 := Lib.hid H1
  have HO1 : Hid (SOwn ((w1.alloc (.cells #[.string kw, .int .i64 (wl : Int), .int .i64 (nl : Int), .int .i64 (ch : Int)] 69)).alloc (.cells #[.string kw, .string nm] 9)) w.heap.size (.slice (some ⟨(w1.alloc (.cells #[.string kw, .int .i64 (wl : Int), .int .i64 (nl : Int), .int .i64 (ch : Int)] 69)).heap.size, 0, none⟩) 2 2) [kw, nm]) := Lib.hid (SOwn.laid (w1.alloc (.cells #[.string kw, .int .i64 (wl : Int), .int .i64 (nl : Int), .int .i64 (ch : Int)] 69)) w.heap.size (by have := b1.size; simp; omega) [kw, nm] 2 rfl (by omega))
  have hs1 : (w1.alloc (.cells #[.string kw, .int .i64 (wl : Int), .int .i64 (nl : Int), .int .i64 (ch : Int)] 69)).heap.size = w1.heap.size + 1 := by simp
  rw [hs1] at HO1
  have b3 : Below w1.heap.size w1 ((w1.alloc (.cells #[.string kw, .int .i64 (wl : Int), .int .i64 (nl : Int), .int .i64 (ch : Int)] 69)).alloc (.cells #[.string kw, .string nm] 9)) := ((Below.refl _ _).alloc (Nat.le_refl _) _).alloc (by simp) _
  have hk0 : (w1.alloc (.cells #[.string kw, .int .i64 (wl : Int), .int .i64 (nl : Int), .int .i64 (ch : Int)] 69)).cell? ⟨w1.heap.size, 2, none⟩ = some (.int .i64 (nl : Int)) := by rw [cell_new]; rfl
  have hk3 : ((w1.alloc (.cells #[.string kw, .int .i64 (wl : Int), .int .i64 (nl : Int), .int .i64 (ch : Int)] 69)).alloc (.cells #[.string kw, .string nm] 9)).cell? ⟨w1.heap.size, 2, none⟩ = some (.int .i64 (nl : Int)) := (((Below.refl _ _).alloc (Nat.le_refl _) _).cell (p := ⟨w1.heap.size, 2, none⟩) (by simp)).trans hk0
  have HC := Lib.hid (fun (W : World) (hb : Below w1.heap.size w1 W) => (show W.cell? ⟨w.heap.size, 0, none⟩ = some (.int .i64 (kk : Int)) ∧ W.cell? ⟨w.heap.size, 2, none⟩ = some (.int .i64 pa) ∧ W.cell? ⟨w.heap.size, 3, none⟩ = some (.int .i64 (ss : Int)) ∧ W.cell? ⟨w.heap.size, 4, none⟩ = some (.int .i64 le) ∧ W.cell? ⟨w.heap.size, 5, none⟩ = some (.int .i64 gr) ∧ W.cell? ⟨w.heap.size, 6, none⟩ = some (.int .i64 cu) ∧ W.cell? ⟨w.heap.size, 7, none⟩ = some (.int .i64 po) from
    ⟨(hb.cell (p := ⟨w.heap.size, 0, none⟩) lt).trans c0, (hb.cell (p := ⟨w.heap.size, 2, none⟩) lt).trans c2, (hb.cell (p := ⟨w.heap.size, 3, none⟩) lt).trans c3, (hb.cell (p := ⟨w.heap.size, 4, none⟩) lt).trans c4, (hb.cell (p := ⟨w.heap.size, 5, none⟩) lt).trans c5, (hb.cell (p := ⟨w.heap.size, 6, none⟩) lt).trans c6, (hb.cell (p := ⟨w.heap.size, 7, none⟩) lt).trans c7⟩))
  clear hk0 hs1 b1 D1 H1 hsf hnl
  go_upto_region 3 with fail
  clear d0 d1 d2 d3 c0 c1 c2 c3 c4 c5 c6 c7
  generalize (w1.alloc (.cells #[.string kw, .int .i64 (wl : Int), .int .i64 (nl : Int), .int .i64 (ch : Int)] 69)).alloc (.cells #[.string kw, .string nm] 9) = w3 at b3 hk3 HO1 ⊢
  have HB3 := Lib.hid b3
  have HK3 := Lib.hid hk3
  have e0 := (HC.out w3 b3).1
  have hbk : w1.heap.size < w3.heap.size := lt_of_cell hk3
  have HBK := Lib.hid hbk
  clear b3 hk3
  go_upto_if 21 with fail
  go_cut [6] (fun v wx => Hid (SOwn wx w.heap.size v ([kw, nm] ++ (if (kk : Int) ≠ 0 then [parW ⟨(kk : Int), nm, pa, (ss : Int), le, gr, cu, po⟩ l] else []))) ∧ Hid (Below (w1.heap.size + 1) w3 wx))
  case first =>
    by_cases k0 : kk = 0
    · have kn : ((kk : Int) != 0) = false := by rw [k0]; rfl
      have HS0 := Lib.hid (show SOwn w3 w.heap.size (.slice (some ⟨w1.heap.size + 1, 0, none⟩) 2 2) ([kw, nm] ++ (if (kk : Int) ≠ 0 then [parW ⟨(kk : Int), nm, pa, (ss : Int), le, gr, cu, po⟩ l] else [])) from by
        rw [if_neg (by rw [k0]; exact fun g => g rfl), List.append_nil]; exact HO1.out)
      clear k0
      go_wp2_with fail
      go_meet
      case rel => exact ⟨HS0, Lib.hid (Below.refl _ _)⟩
    · have kn : ((kk : Int) != 0) = true := bne_iff_ne.2 (by omega)
      obtain ⟨hp1, hp2⟩ := hp (by omega)
      obtain ⟨pp, rfl⟩ := Int.eq_ofNat_of_zero_le hp1
      have hpl : pp < l.length := by omega
      obtain ⟨y, hy⟩ : ∃ y, l[pp]? = some y := ⟨_, List.getElem?_eq_getElem hpl⟩
      have hgd : l.getD ((pp : Int)).toNat zeroE = y := by simp [List.getD, hy]
      have hzy := hz y (List.mem_of_getElem? hy)
      rw [hgd] at HPW
      obtain ⟨ad, rfl, C⟩ := (HH1.out.below HB3.out).at_ hy
      have cy := (ESpelt.of C).c1
      have HCY := Lib.hid (fun (W : World) (hb : Below w3.heap.size w3 W) => (hb.cell (p := ⟨(ad.add (pp * 8)).block, (ad.add (pp * 8)).off + 1, none⟩) (by rw [add_block]; exact C.lt)).trans cy)
      have HS1 := Lib.hid (show [kw, nm] ++ (if (kk : Int) ≠ 0 then [parW ⟨(kk : Int), nm, (pp : Int), (ss : Int), le, gr, cu, po⟩ l] else []) = [kw, nm] ++ [y.name ++ bs (sxL.getD ss [])] from by rw [if_pos (by omega), HPW.out])
      have f1 := (HC.out w3 HB3.out).2.1
      have f2 := (HC.out w3 HB3.out).2.2.1
      have f3 := HSF.out w3 HB3.out
      have hsz : (bs (sxL.getD ss [])).size ≤ 6 := by
        rcases (by omega : ss = 0 ∨ ss = 1 ∨ ss = 2) with rfl | rfl | rfl <;> decide
      generalize bs (sxL.getD ss []) = sf at f3 hsz HS1 HSF HPW
      obtain ⟨yn, hyn⟩ : ∃ yn, yn = y.name := ⟨_, rfl⟩
      rw [← hyn] at cy hzy HS1
      have HSZ := Lib.hid (show (yn ++ sf).size ≤ 18 by rw [ByteArray.size_append]; omega)
      obtain ⟨i0, hi, hz0, hz1, hz2⟩ := info_parts infoStr1
      have hbw : w.heap.size ≤ w3.heap.size := by have := HB1.out.size; have := HB3.out.size; omega
      have HBW := Lib.hid hbw
      have hs3 : (ss : Int) < 3 := by omega
      have hcat : ¬ 9223372036854775807 < yn.size + sf.size := by omega
      have HP2 := Lib.hid (show ((pp : Int) < (l.length : Int)) by omega)
      clear k0 hgd C hy hz hp HPW hyn
      go_upto_region 4 with fail
      go_region_law? (refine step_app_src rfl (.tmp 22) (.tmp 34) 55 rfl w.heap.size 9 i0 (.string ⟨#[]⟩) 1 16 Tryz.underlying55 hi hz0 hz1 hz2 rfl (by decide) _ 2 ([kw, nm].map Value.string) rfl (HO1.out.alloc _) (some ⟨w3.heap.size, 0, none⟩) 1 1 ([yn ++ sf].map Value.string) rfl (fun e => by cases e) rfl (newsS w3.drew (yn ++ sf) _) (fun u hu => by simp at hu; subst hu; rfl) (by unfold maxLen; omega) (by omega) (by have := HBW.out; simp; omega) ?_; intro v8 w8 hown hg8; have O8 : Hid (SOwn w8 w.heap.size v8 ([kw, nm] ++ [yn ++ sf])) := Lib.hid hown; have G8 : Hid ((w3.alloc (.cells #[.string (yn ++ sf)] 9)).drew.grownBy w8 (some (w1.heap.size + 1))) := Lib.hid hg8; clear hown hg8)
      all_goals
        have HO8 := O8
        have B8 := Lib.hid (app_belowW G8.out (B := w1.heap.size + 1) (by have := HBK.out; omega) (fun j hj => by injection hj with hj; omega))
        rw [← HS1.out] at HO8
        clear f1 f2 f3 cy hcat
        go_wp2_with fail
        go_meet
        case rel => exact ⟨HO8, B8⟩
  obtain ⟨HS, HBX⟩ := hcut
  have HB4 := Lib.hid (show Below w1.heap.size w1 wc from HB3.out.trans (HBX.out.mono (by omega)))
  obtain ⟨g0, g2, g3, g4, g5, g6, g7⟩ := HC.out wc HB4.out
  have hnk : wc.cell? ⟨w1.heap.size, 2, none⟩ = some (.int .i64 (nl : Int)) := (HBX.out.cell (p := ⟨w1.heap.size, 2, none⟩) (by show w1.heap.size < w1.heap.size + 1; omega)).trans HK3.out
  have hn4i : (nl : Int) ≤ 4 := by omega
  have HNE : Hid (([kw, nm] ++ (if (kk : Int) ≠ 0 then [parW ⟨(kk : Int), nm, pa, (ss : Int), le, gr, cu, po⟩ l] else [])) ≠ []) := Lib.hid (by simp)
  have HWL : Hid (([kw, nm] ++ (if (kk : Int) ≠ 0 then [parW ⟨(kk : Int), nm, pa, (ss : Int), le, gr, cu, po⟩ l] else [])).length ≤ 3) := Lib.hid (by rw [List.length_append]; split <;> simp)
  generalize [kw, nm] ++ (if (kk : Int) ≠ 0 then [parW ⟨(kk : Int), nm, pa, (ss : Int), le, gr, cu, po⟩ l] else []) = ws1 at HS HEQ HNE HWL
  have hnk2 : (wc.alloc (.cells #[.int .i64 le, .int .i64 gr, .int .i64 cu, .int .i64 po] 72)).cell? ⟨w1.heap.size, 2, none⟩ = some (.int .i64 (nl : Int)) := (((Below.refl wc.heap.size wc).alloc (Nat.le_refl _) _).cell (p := ⟨w1.heap.size, 2, none⟩) (lt_of_cell hnk)).trans hnk
  clear e0 hp hz h
  go_upto_region 7 with fail
  have HA5 : Hid (Arr4 (wc.alloc (.cells #[.int .i64 le, .int .i64 gr, .int .i64 cu, .int .i64 po] 72)) wc.heap.size [le, gr, cu, po]) := Lib.hid (fun j hj => by
    rw [cell_new]
    rcases (by omega : j = 0 ∨ j = 1 ∨ j = 2 ∨ j = 3) with rfl | rfl | rfl | rfl <;> rfl)
  have HS5 := Lib.hid (HS.out.alloc (.cells #[.int .i64 le, .int .i64 gr, .int .i64 cu, .int .i64 po] 72))
  have HB5 := Lib.hid (show Below w.heap.size w (wc.alloc (.cells #[.int .i64 le, .int .i64 gr, .int .i64 cu, .int .i64 po] 72)) from (HB1.out.trans (HB4.out.mono HB1.out.size)).alloc (by have := HB1.out.size; have := HB4.out.size; omega) _)
  have HW1 : Hid (ws1 ≠ []) := HNE
  have HZN : Hid (∀ z ∈ ([le, gr, cu, po] : List Int), -9223372036854775808 ≤ z ∧ z ≤ 9223372036854775807) := Lib.hid (fun z hz => by simp at hz; rcases hz with rfl | rfl | rfl | rfl <;> omega)
  clear hnk hnk2 g0 g2 g3 g4 g5 g6 g7 HC HB4 HB3 HK3 HS HBX
  generalize wc.alloc (.cells #[.int .i64 le, .int .i64 gr, .int .i64 cu, .int .i64 po] 72) = w5 at HA5 HS5 HB5 ⊢
  generalize wc.heap.size = nb at HA5 ⊢
  have HD := Lib.hid D
  clear D
  obtain ⟨zs, hzs⟩ : ∃ zs : List Int, zs = [le, gr, cu, po] := ⟨_, rfl⟩
  have hzl : zs.length = 4 := by rw [hzs]; rfl
  rw [← hzs] at HA5 HZN HEQ
  have HZL := Lib.hid hzl
  clear hzs hzl n1 n2 n3 n4 n5 n6 n7 n8
  go_loopw [6, 49] (fun v i wr => ∃ j : Nat, j ≤ nl ∧ i = .int .i64 j ∧ Hid (SOwn wr w.heap.size v (ws1 ++ (zs.take j).map itoB)) ∧ Hid (Arr4 wr nb zs) ∧ Hid (Below w.heap.size w wr)) (fun _ i _ => nl - (intOf i).toNat)
  case atStart => exact ⟨0, by omega, rfl, Lib.hid (by rw [List.take_zero, List.map_nil, List.append_nil]; exact HS5.out), HA5, HB5⟩
  case round =>
    clear HS5 HA5 HB5
    obtain ⟨j, hj, rfl, S, A4, B⟩ := hrel
    by_cases hlt : j < nl
    · have hc := A4.out j (by omega)
      obtain ⟨z, hz⟩ : ∃ z, z = zs.getD j 0 := ⟨_, rfl⟩
      rw [← hz] at hc
      have hzz := HZN.out z (by rw [hz]; exact getD_mem (by rw [HZL.out]; omega))
      have HI := Lib.hid (itoa_any z wr hzz (HD.out.below B.out))
      have HT := Lib.hid (show ws1 ++ (zs.take (j + 1)).map itoB = (ws1 ++ (zs.take j).map itoB) ++ [itoB z] from by
        rw [List.append_assoc]
        congr 1
        have hjl : j < zs.length := by rw [HZL.out]; omega
        rw [List.take_succ_eq_append_getElem hjl, List.map_append, hz]
        simp [List.getD, hjl])
      clear hz hzz
      obtain ⟨ws, hws⟩ : ∃ ws, ws = ws1 ++ (zs.take j).map itoB := ⟨_, rfl⟩
      rw [← hws] at S HT
      have hne : ws ≠ [] := by rw [hws]; intro g; exact HW1.out (List.append_eq_nil_iff.1 g).1
      have hwl : ws.length ≤ 100 := by
        rw [hws, List.length_append, List.length_map, List.length_take]
        have := HWL.out
        omega
      have HNE2 := Lib.hid hne
      clear hws hne
      obtain ⟨A0, cc, rfl, _⟩ := S.out.full
      go_wp2_with fail
      refine HI.out.mono ?_
      rintro e w6 ⟨rfl, B6⟩
      have S6 := Lib.hid (S.out.below B6)
      have A6 := Lib.hid (A4.out.below B6)
      have HB6 := Lib.hid (B.out.trans (B6.mono B.out.size))
      generalize itoB z = iz at HT ⊢
      obtain ⟨i0, hi, hz0, hz1, hz2⟩ := info_parts infoStr1
      have hnr := S6.out.ne HNE2.out (A6.out 0 (by omega))
      have HNR := Lib.hid hnr
      clear HI B6 hc S A4 hnr
      go_wp2_with (at_builtin; refine wpList_app_src rfl (.tmp 53) (.tmp 56) 55 rfl w.heap.size 9 i0 (.string ⟨#[]⟩) 1 16 Tryz.underlying55 hi hz0 hz1 hz2 rfl (by decide) _ ws.length (ws.map Value.string) rfl (S6.out.alloc _) (some ⟨w6.heap.size, 0, none⟩) 1 1 ([iz].map Value.string) rfl (fun e => by cases e) rfl (newsS w6 iz _) (fun u hu => by simp at hu; subst hu; rfl) (by unfold maxLen; omega) (by omega) (by have := HB6.out.size; simp; omega) ?_; intro v8 w8 hown hg8; have hx8 : SOwn w8 w.heap.size v8 (ws ++ [iz]) := (by unfold SOwn; rw [List.length_append, List.map_append]; exact hown); have O8 := Lib.hid hx8; have G8 : Hid ((w6.alloc (.cells #[.string iz] 9)).grownBy w8 (Value.slice A0 ws.length cc).ownBlock) := Lib.hid hg8; clear hown hg8 hx8)
      have A8 := Lib.hid ((A6.out.below ((Below.refl _ _).alloc (Nat.le_refl _) _)).grown G8.out HNR.out)
      have B8 := Lib.hid ((HB6.out.alloc HB6.out.size (.cells #[.string iz] 9)).grown G8.out (by have := HB6.out.size; simp; omega) (fun j hj => S6.out.block hj))
      rw [← HT.out] at O8
      go_wp2_with fail
      go_roundw
      case rel => exact ⟨j + 1, by omega, by go_num, O8, A8, B8⟩
      case measure => simp [intOf]; omega
    · obtain rfl : j = nl := by omega
      clear hlt hj
      go_wp2_with fail
      go_ret
      exact ⟨_, rfl, by rw [HEQ.out]; exact S.out, B.out⟩
end Go.Proofs.YtdoifaifhikkjaaGreatDoor
