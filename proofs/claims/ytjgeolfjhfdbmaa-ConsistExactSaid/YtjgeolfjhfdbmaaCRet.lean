/-
  Stage 6, plain: what is read is what was written, and the other way round.
-/
import Derived.Test.YtjgeolfjhfdbmaaCOneW
set_option linter.unusedSimpArgs false
set_option linter.unusedVariables false
namespace Go.Proofs.Ytjgeolfjhfdbmaa
open Go.RowKit

theorem nums_str {zs : List Int} (h : BB zs) : nums (strOfNums zs) = zs := by
  unfold nums
  rw [strOfNums_data, List.map_map]
  conv => rhs; rw [← List.map_id zs]
  refine List.map_congr_left fun x hx => ?_
  obtain ⟨h0, h1⟩ := h x hx
  show ((UInt8.ofNat x.toNat).toNat : Int) = x
  rw [UInt8.toNat_ofNat']
  omega
theorem numB_bb {zs : List Int} (h : BB zs) : BB (numB zs) := by
  induction zs with
  | nil => exact BB.nil
  | cons z zs ih =>
    have hz := h z (by simp)
    intro y hy
    rcases List.mem_cons.1 hy with rfl | hy
    · omega
    · rcases List.mem_cons.1 hy with rfl | hy
      · omega
      · exact ih (fun w hw => h w (by simp [hw])) y hy
/-- The bytes of a wagon, one by one. -/
theorem bytesW_eq (x : Wag) : bytesW x = [dgB x.num 0, dgB x.num 1, dgB x.num 2, dgB x.num 3, dgB x.num 4, dgB x.num 5, x.len / 256, x.len % 256, x.axl, x.mas / 256, x.mas % 256, x.brk / 256, x.brk % 256, gdsB x, (x.dst.size : Int)] ++ nums x.dst := by
  unfold bytesW pair
  simp [dgs2]
theorem dgB_parts {s : ByteArray} (h : s.data.toList.all dig = true) (hs : s.size = 12) {j : Nat} (hj : j < 6) : 48 + dgB s j / 16 = (nums s).getD (2 * j) 0 ∧ 48 + dgB s j % 16 = (nums s).getD (2 * j + 1) 0 ∧ dgB s j / 16 ≤ 9 ∧ dgB s j % 16 ≤ 9 := by
  have h1 := dig_all h (2 * j) (by omega)
  have h2 := dig_all h (2 * j + 1) (by omega)
  unfold dgB
  rw [nums_getD s _ (by omega), nums_getD s _ (by omega)]
  omega
theorem list12 {l : List Int} (h : l.length = 12) : l = [l.getD 0 0, l.getD 1 0, l.getD 2 0, l.getD 3 0, l.getD 4 0, l.getD 5 0, l.getD 6 0, l.getD 7 0, l.getD 8 0, l.getD 9 0, l.getD 10 0, l.getD 11 0] := by
  match l, h with
  | [a, b, c, d, e, f, g, i, j, k, m, n], _ => rfl
/-- A wagon that stands in bytes is read. -/
theorem wagAt_in {pre post : List Int} {x : Wag} (h : validW x = 0) : wagAt (pre ++ bytesW x ++ post) pre.length = x ∧ badAt (pre ++ bytesW x ++ post) pre.length = false ∧ dAt (pre ++ bytesW x ++ post) pre.length = x.dst.size := by
  obtain ⟨hs, hdig, _⟩ := validR_size (validW_parts h).1
  obtain ⟨m1, m2, m3, m4, m5⟩ := wag_more h
  have hd := dst_le h
  have hbs : (pre ++ bytesW x ++ post).drop pre.length = [dgB x.num 0, dgB x.num 1, dgB x.num 2, dgB x.num 3, dgB x.num 4, dgB x.num 5, x.len / 256, x.len % 256, x.axl, x.mas / 256, x.mas % 256, x.brk / 256, x.brk % 256, gdsB x, (x.dst.size : Int)] ++ (nums x.dst ++ post) := by
    rw [List.append_assoc, List.drop_left, bytesW_eq, List.append_assoc]
  have hg : ∀ j, (pre ++ bytesW x ++ post).getD (pre.length + j) 0 = ([dgB x.num 0, dgB x.num 1, dgB x.num 2, dgB x.num 3, dgB x.num 4, dgB x.num 5, x.len / 256, x.len % 256, x.axl, x.mas / 256, x.mas % 256, x.brk / 256, x.brk % 256, gdsB x, (x.dst.size : Int)] ++ (nums x.dst ++ post)).getD j 0 := fun j => by
    rw [← hbs, List.getD_eq_getElem?_getD, List.getD_eq_getElem?_getD, List.getElem?_drop]
  have hdA : dAt (pre ++ bytesW x ++ post) pre.length = x.dst.size := by
    unfold dAt
    rw [hg 14]
    show ((x.dst.size : Int)).toNat = _
    omega
  have hsix : ((pre ++ bytesW x ++ post).drop pre.length).take 6 = [dgB x.num 0, dgB x.num 1, dgB x.num 2, dgB x.num 3, dgB x.num 4, dgB x.num 5] := by rw [hbs]; rfl
  have p0 := dgB_parts hdig hs (j := 0) (by decide)
  have p1 := dgB_parts hdig hs (j := 1) (by decide)
  have p2 := dgB_parts hdig hs (j := 2) (by decide)
  have p3 := dgB_parts hdig hs (j := 3) (by decide)
  have p4 := dgB_parts hdig hs (j := 4) (by decide)
  have p5 := dgB_parts hdig hs (j := 5) (by decide)
  have hgd : gdV (gdsB x) = x.gds ∧ decide (16 ≤ gdsB x) = x.gen := by
    unfold gdsB gdV
    cases x.gen with
    | true => simp only [if_true]; rw [if_pos (by omega)]; exact ⟨by omega, decide_eq_true (by omega)⟩
    | false => simp only [if_false, Bool.false_eq_true]; rw [if_neg (by omega)]; exact ⟨rfl, decide_eq_false (by omega)⟩
  refine ⟨?_, ?_, hdA⟩
  · unfold wagAt
    rw [hdA, hsix, hg 6, hg 7, hg 8, hg 9, hg 10, hg 11, hg 12, hg 13]
    have hdst : ((pre ++ bytesW x ++ post).drop (pre.length + 15)).take x.dst.size = nums x.dst := by
      rw [← List.drop_drop, hbs]
      show (nums x.dst ++ post).take x.dst.size = _
      rw [← nums_length]
      exact List.take_left
    rw [hdst, strOfNums_nums]
    have hnum : strOfNums (numB [dgB x.num 0, dgB x.num 1, dgB x.num 2, dgB x.num 3, dgB x.num 4, dgB x.num 5]) = x.num := by
      have e : numB [dgB x.num 0, dgB x.num 1, dgB x.num 2, dgB x.num 3, dgB x.num 4, dgB x.num 5] = nums x.num := by
        rw [list12 (l := nums x.num) (by rw [nums_length, hs])]
        show [_, _, _, _, _, _, _, _, _, _, _, _] = _
        rw [p0.1, p0.2.1, p1.1, p1.2.1, p2.1, p2.2.1, p3.1, p3.2.1, p4.1, p4.2.1, p5.1, p5.2.1]
      rw [e, strOfNums_nums]
    rw [hnum]
    show (⟨x.num, x.len / 256 * 256 + x.len % 256, x.axl, x.mas / 256 * 256 + x.mas % 256, x.brk / 256 * 256 + x.brk % 256, gdV (gdsB x), decide (16 ≤ gdsB x), x.dst⟩ : Wag) = x
    rw [hgd.1, hgd.2, show x.len / 256 * 256 + x.len % 256 = x.len by omega, show x.mas / 256 * 256 + x.mas % 256 = x.mas by omega, show x.brk / 256 * 256 + x.brk % 256 = x.brk by omega]
  · unfold badAt
    rw [hsix, hg 13]
    show (badB [dgB x.num 0, dgB x.num 1, dgB x.num 2, dgB x.num 3, dgB x.num 4, dgB x.num 5] || decide (9 < gdV (gdsB x))) = false
    rw [hgd.1]
    simp [badB]
    omega
theorem rd_in {pre post : List Int} {x : Wag} (h : validW x = 0) (g : Bool) : rdN (pre ++ bytesW x ++ post) pre.length = (pre ++ bytesW x).length ∧ rdX (pre ++ bytesW x ++ post) pre.length = x ∧ rdG (pre ++ bytesW x ++ post) pre.length g = g ∧ rdS (pre ++ bytesW x ++ post) pre.length false = false := by
  obtain ⟨h1, h2, h3⟩ := wagAt_in (pre := pre) (post := post) h
  have hl : pre.length + 15 + dAt (pre ++ bytesW x ++ post) pre.length ≤ (pre ++ bytesW x ++ post).length := by
    rw [h3, List.length_append, List.length_append, bytesW_len]; omega
  obtain ⟨r1, r2, r3⟩ := rd_ok g hl
  refine ⟨?_, by rw [r2, h1], by rw [r3, h2, Bool.or_false], rdS_false.2 ⟨rfl, hl⟩⟩
  rw [r1, h3, List.length_append, bytesW_len]; omega
theorem ls_in {l : List Wag} (h : ∀ x ∈ l, validW x = 0) (pre post : List Int) : lsN (pre ++ bytesL l ++ post) pre.length l.length = (pre ++ bytesL l).length ∧ lsX (pre ++ bytesL l ++ post) pre.length l.length = l ∧ lsG (pre ++ bytesL l ++ post) pre.length false l.length = false ∧ lsS (pre ++ bytesL l ++ post) pre.length false l.length = false := by
  induction l generalizing pre with
  | nil => refine ⟨by show pre.length = (pre ++ []).length; rw [List.append_nil], rfl, rfl, rfl⟩
  | cons x l ih =>
    have hx := h x (by simp)
    have e : pre ++ bytesL (x :: l) ++ post = pre ++ bytesW x ++ (bytesL l ++ post) := by
      show pre ++ (bytesW x ++ bytesL l) ++ post = _
      simp only [List.append_assoc]
    have e2 : pre ++ bytesW x ++ (bytesL l ++ post) = (pre ++ bytesW x) ++ bytesL l ++ post := by simp only [List.append_assoc]
    obtain ⟨r1, r2, r3, r4⟩ := rd_in (pre := pre) (post := bytesL l ++ post) hx false
    obtain ⟨i1, i2, i3, i4⟩ := ih (fun y hy => h y (by simp [hy])) (pre ++ bytesW x)
    rw [List.length_cons, lsN_front, lsX_front, lsG_front, lsS_front, e, r1, r2, r3, r4, e2, i1, i2, i3, i4]
    refine ⟨?_, rfl, rfl, rfl⟩
    show _ = (pre ++ (bytesW x ++ bytesL l)).length
    rw [← List.append_assoc]
theorem dec_enc {l : List Wag} (h : validL l = 0) : decR (enc l) = (l, 0) := by
  obtain ⟨h1, h2, _⟩ := validL_zero.1 h
  have e : enc l = [(l.length : Int)] ++ bytesL l ++ pair (chk (encB l)) := rfl
  obtain ⟨i1, i2, i3, i4⟩ := ls_in h2 [(l.length : Int)] (pair (chk (encB l)))
  rw [← e] at i1 i2 i3 i4
  have hl : (enc l).length = (bytesL l).length + 3 := by rw [e, List.length_append, List.length_append]; show 1 + (bytesL l).length + 2 = _; omega
  have hc : ((enc l).getD 0 0).toNat = l.length := by rw [e]; show ((l.length : Int)).toNat = _; omega
  have i1' : lsN (enc l) 1 l.length = 1 + (bytesL l).length := by have := i1; rw [List.length_append] at this; exact this
  have hE : endR (enc l) = (enc l).length := by
    rw [endR_eq (by omega), hc, endFrom_eq]
    have hs : tkS (enc l) (lsN (enc l) 1 l.length) 2 (lsS (enc l) 1 false l.length) = false := tkS_false.2 ⟨by omega, i4⟩
    rw [if_neg (by rw [hs]; decide)]
    show ((lsN (enc l) 1 l.length + 2 : Nat) : Int) = _
    omega
  obtain ⟨_, _, _, _, _, pG, pX, _, _, _⟩ := endR_pos (bs := enc l) (by rw [hE]; omega)
  rw [hc] at pG pX
  have hsum := enc_sum (l := l)
  have i2' : lsX (enc l) 1 l.length = l := i2
  have i3' : lsG (enc l) 1 false l.length = false := i3
  rw [dec_rest hE (by rw [chk_take (by omega)]; exact hsum), pG, i3', pX, i2', h]
  rfl
/-- The bytes of a wagon that was read. -/
theorem bytesW_at {bs : List Int} {n : Nat} (hb : BB bs) (hl : n + 15 + dAt bs n ≤ bs.length) (hbad : badAt bs n = false) : bytesW (wagAt bs n) = (bs.drop n).take (15 + dAt bs n) := by
  have hat := fun j => hb.at_ j
  unfold badAt at hbad
  rw [Bool.or_eq_false_iff] at hbad
  have hsix : (bs.drop n).take 6 = [bs.getD n 0, bs.getD (n + 1) 0, bs.getD (n + 2) 0, bs.getD (n + 3) 0, bs.getD (n + 4) 0, bs.getD (n + 5) 0] := by
    refine List.ext_getElem? fun j => ?_
    by_cases hj : j < 6
    · rw [List.getElem?_take, if_pos hj, List.getElem?_drop, List.getElem?_eq_getElem (by omega)]
      have e : ∀ i (h : i < bs.length), bs[i] = bs.getD i 0 := fun i h => by rw [List.getD_eq_getElem?_getD, List.getElem?_eq_getElem h]; rfl
      rw [e]
      obtain rfl | rfl | rfl | rfl | rfl | rfl : j = 0 ∨ j = 1 ∨ j = 2 ∨ j = 3 ∨ j = 4 ∨ j = 5 := by omega
      all_goals rfl
    · rw [List.getElem?_take, if_neg hj, List.getElem?_eq_none (by simp; omega)]
  have hb6 : BB ((bs.drop n).take 6) := (hb.drop n).take 6
  have hnb := numB_bb hb6
  have hdst : BB ((bs.drop (n + 15)).take (dAt bs n)) := (hb.drop _).take _
  have hz14 : ((dAt bs n : Nat) : Int) = bs.getD (n + 14) 0 := by unfold dAt; have := hat (n + 14); omega
  have hdg : ∀ j, j < 6 → dgB (strOfNums (numB ((bs.drop n).take 6))) j = bs.getD (n + j) 0 := fun j hj => by
    unfold dgB
    rw [nums_str hnb, hsix]
    obtain rfl | rfl | rfl | rfl | rfl | rfl : j = 0 ∨ j = 1 ∨ j = 2 ∨ j = 3 ∨ j = 4 ∨ j = 5 := by omega
    · show (48 + bs.getD n 0 / 16 - 48) * 16 + (48 + bs.getD n 0 % 16 - 48) = bs.getD n 0; omega
    · show (48 + bs.getD (n + 1) 0 / 16 - 48) * 16 + (48 + bs.getD (n + 1) 0 % 16 - 48) = bs.getD (n + 1) 0; omega
    · show (48 + bs.getD (n + 2) 0 / 16 - 48) * 16 + (48 + bs.getD (n + 2) 0 % 16 - 48) = bs.getD (n + 2) 0; omega
    · show (48 + bs.getD (n + 3) 0 / 16 - 48) * 16 + (48 + bs.getD (n + 3) 0 % 16 - 48) = bs.getD (n + 3) 0; omega
    · show (48 + bs.getD (n + 4) 0 / 16 - 48) * 16 + (48 + bs.getD (n + 4) 0 % 16 - 48) = bs.getD (n + 4) 0; omega
    · show (48 + bs.getD (n + 5) 0 / 16 - 48) * 16 + (48 + bs.getD (n + 5) 0 % 16 - 48) = bs.getD (n + 5) 0; omega
  have hgds : gdsB (wagAt bs n) = bs.getD (n + 13) 0 := by
    unfold gdsB wagAt gdV
    simp only
    by_cases h16 : 16 ≤ bs.getD (n + 13) 0
    · rw [decide_eq_true h16, if_pos h16, if_pos rfl]; omega
    · rw [decide_eq_false h16, if_neg h16]; rfl
  have hsz : ((wagAt bs n).dst.size : Int) = bs.getD (n + 14) 0 := by
    show ((strOfNums ((bs.drop (n + 15)).take (dAt bs n))).size : Int) = _
    rw [strOfNums_size, List.length_take, List.length_drop, ← hz14]
    omega
  have hnd : nums (wagAt bs n).dst = (bs.drop (n + 15)).take (dAt bs n) := nums_str hdst
  rw [bytesW_eq, hgds, hsz, hnd]
  have g0 := hdg 0 (by decide)
  have g1 := hdg 1 (by decide)
  have g2 := hdg 2 (by decide)
  have g3 := hdg 3 (by decide)
  have g4 := hdg 4 (by decide)
  have g5 := hdg 5 (by decide)
  have k6 := hat (n + 6)
  have k7 := hat (n + 7)
  have k9 := hat (n + 9)
  have k10 := hat (n + 10)
  have k11 := hat (n + 11)
  have k12 := hat (n + 12)
  show [dgB (strOfNums (numB ((bs.drop n).take 6))) 0, dgB (strOfNums (numB ((bs.drop n).take 6))) 1, dgB (strOfNums (numB ((bs.drop n).take 6))) 2, dgB (strOfNums (numB ((bs.drop n).take 6))) 3, dgB (strOfNums (numB ((bs.drop n).take 6))) 4, dgB (strOfNums (numB ((bs.drop n).take 6))) 5,
    (bs.getD (n + 6) 0 * 256 + bs.getD (n + 7) 0) / 256, (bs.getD (n + 6) 0 * 256 + bs.getD (n + 7) 0) % 256, bs.getD (n + 8) 0, (bs.getD (n + 9) 0 * 256 + bs.getD (n + 10) 0) / 256, (bs.getD (n + 9) 0 * 256 + bs.getD (n + 10) 0) % 256, (bs.getD (n + 11) 0 * 256 + bs.getD (n + 12) 0) / 256, (bs.getD (n + 11) 0 * 256 + bs.getD (n + 12) 0) % 256, bs.getD (n + 13) 0, bs.getD (n + 14) 0] ++ (bs.drop (n + 15)).take (dAt bs n) = _
  rw [g0, g1, g2, g3, g4, g5, show (bs.getD (n + 6) 0 * 256 + bs.getD (n + 7) 0) / 256 = bs.getD (n + 6) 0 by omega, show (bs.getD (n + 6) 0 * 256 + bs.getD (n + 7) 0) % 256 = bs.getD (n + 7) 0 by omega, show (bs.getD (n + 9) 0 * 256 + bs.getD (n + 10) 0) / 256 = bs.getD (n + 9) 0 by omega, show (bs.getD (n + 9) 0 * 256 + bs.getD (n + 10) 0) % 256 = bs.getD (n + 10) 0 by omega, show (bs.getD (n + 11) 0 * 256 + bs.getD (n + 12) 0) / 256 = bs.getD (n + 11) 0 by omega, show (bs.getD (n + 11) 0 * 256 + bs.getD (n + 12) 0) % 256 = bs.getD (n + 12) 0 by omega]
  have h15 : (bs.drop n).take 15 = [bs.getD (n + 0) 0, bs.getD (n + 1) 0, bs.getD (n + 2) 0, bs.getD (n + 3) 0, bs.getD (n + 4) 0, bs.getD (n + 5) 0, bs.getD (n + 6) 0, bs.getD (n + 7) 0, bs.getD (n + 8) 0, bs.getD (n + 9) 0, bs.getD (n + 10) 0, bs.getD (n + 11) 0, bs.getD (n + 12) 0, bs.getD (n + 13) 0, bs.getD (n + 14) 0] := by
    refine List.ext_getElem? fun j => ?_
    by_cases hj : j < 15
    · rw [List.getElem?_take, if_pos hj, List.getElem?_drop, List.getElem?_eq_getElem (by omega)]
      have e : ∀ i (h : i < bs.length), bs[i] = bs.getD i 0 := fun i h => by rw [List.getD_eq_getElem?_getD, List.getElem?_eq_getElem h]; rfl
      rw [e]
      obtain rfl | rfl | rfl | rfl | rfl | rfl | rfl | rfl | rfl | rfl | rfl | rfl | rfl | rfl | rfl : j = 0 ∨ j = 1 ∨ j = 2 ∨ j = 3 ∨ j = 4 ∨ j = 5 ∨ j = 6 ∨ j = 7 ∨ j = 8 ∨ j = 9 ∨ j = 10 ∨ j = 11 ∨ j = 12 ∨ j = 13 ∨ j = 14 := by omega
      all_goals rfl
    · rw [List.getElem?_take, if_neg hj, List.getElem?_eq_none (by simp; omega)]
  rw [← h15, ← List.drop_drop, List.take_add]
theorem bytesL_at {bs : List Int} (hb : BB bs) (c n : Nat) (hS : lsS bs n false c = false) (hG : lsG bs n false c = false) : n ≤ lsN bs n c ∧ bytesL (lsX bs n c) = (bs.drop n).take (lsN bs n c - n) := by
  induction c generalizing n with
  | zero => exact ⟨Nat.le_refl _, by show [] = (bs.drop n).take (n - n); rw [Nat.sub_self, List.take_zero]⟩
  | succ c ih =>
    rw [lsS_front] at hS
    rw [lsG_front] at hG
    have h1 : rdS bs n false = false := by
      cases h : rdS bs n false with
      | false => rfl
      | true => rw [h, lsS_true] at hS; cases hS
    have h2 : rdG bs n false = false := by
      cases h : rdG bs n false with
      | false => rfl
      | true => rw [h, lsG_true] at hG; cases hG
    have hl := (rdS_false.1 h1).2
    obtain ⟨r1, r2, r3⟩ := rd_ok false hl
    rw [h1] at hS
    rw [h2] at hG
    have hbad : badAt bs n = false := by rw [h2] at r3; simpa using r3.symm
    obtain ⟨i1, i2⟩ := ih (rdN bs n) hS hG
    rw [r1] at i1 i2
    rw [lsN_front, lsX_front, r1, r2]
    refine ⟨by omega, ?_⟩
    show bytesW (wagAt bs n) ++ bytesL (lsX bs (n + 15 + dAt bs n) c) = _
    rw [i2, bytesW_at hb hl hbad]
    generalize lsN bs (n + 15 + dAt bs n) c = N at i1 ⊢
    obtain ⟨m, rfl⟩ : ∃ m, N = n + 15 + dAt bs n + m := ⟨N - (n + 15 + dAt bs n), by omega⟩
    rw [show n + 15 + dAt bs n + m - n = (15 + dAt bs n) + m by omega, show n + 15 + dAt bs n + m - (n + 15 + dAt bs n) = m by omega, List.take_add (i := 15 + dAt bs n) (j := m), List.drop_drop, Nat.add_assoc n 15]
/-- What can be read is written with the same bytes. -/
theorem enc_dec {bs : List Int} {l : List Wag} (hb : BB bs) (h : decR bs = (l, 0)) : validL l = 0 ∧ enc l = bs := by
  have hE0 : 0 ≤ endR bs := by
    by_cases g : endR bs < 0
    · rw [dec_neg g] at h; cases h
    · omega
  obtain ⟨p0, p1, p2, p3, pN, pG, pX, p4, p5, pS⟩ := endR_pos hE0
  have hE : endR bs = bs.length := by
    by_cases g : endR bs < bs.length
    · rw [dec_less hE0 g] at h; cases h
    · omega
  have hsum : bs.getD (bs.length - 2) 0 * 256 + bs.getD (bs.length - 1) 0 = chk (bs.take (bs.length - 2)) := by
    by_cases g : bs.getD (bs.length - 2) 0 * 256 + bs.getD (bs.length - 1) 0 = chk (bs.take (bs.length - 2))
    · exact g
    · rw [dec_sum hE g] at h; cases h
  rw [dec_rest hE hsum] at h
  have hG : endG bs = false := by
    cases g : endG bs with
    | false => rfl
    | true => rw [g] at h; cases h
  rw [hG] at h
  simp only [Bool.false_eq_true, if_false] at h
  by_cases hv : validL (endX bs) ≠ 0
  · rw [if_pos hv] at h
    injection h with _ h
    exact absurd h hv
  · rw [if_neg hv] at h
    injection h with h _
    have hv0 := Decidable.of_not_not hv
    rw [h] at hv0
    refine ⟨hv0, ?_⟩
    rw [pG] at hG
    obtain ⟨q1, q2⟩ := bytesL_at hb _ 1 pS hG
    rw [← pX, h, ← pN] at q2
    have hlen : l.length = (bs.getD 0 0).toNat := by rw [← h, pX, lsX_len]
    have h00 := hb.at_ 0
    have hn2 : endN bs = bs.length - 2 := by omega
    have hB : encB l = bs.take (endN bs) := by
      unfold encB
      rw [q2, hlen]
      cases bs with
      | nil => simp at p0
      | cons z zs =>
        have hz : (((z :: zs).getD 0 0).toNat : Int) = z := by show (z.toNat : Int) = z; have : (z :: zs).getD 0 0 = z := rfl; omega
        rw [hz]
        obtain ⟨m, hm⟩ : ∃ m, endN (z :: zs) = m + 1 := ⟨endN (z :: zs) - 1, by rw [pN]; omega⟩
        rw [hm]
        rfl
    have hc : chk (encB l) = bs.getD (bs.length - 2) 0 * 256 + bs.getD (bs.length - 1) 0 := by rw [hB, hn2]; exact hsum.symm
    have k1 := hb.at_ (bs.length - 2)
    have k2 := hb.at_ (bs.length - 1)
    unfold enc pair
    rw [hc, hB, hn2, show (bs.getD (bs.length - 2) 0 * 256 + bs.getD (bs.length - 1) 0) / 256 = bs.getD (bs.length - 2) 0 by omega, show (bs.getD (bs.length - 2) 0 * 256 + bs.getD (bs.length - 1) 0) % 256 = bs.getD (bs.length - 1) 0 by omega]
    have hd : bs.drop (bs.length - 2) = [bs.getD (bs.length - 2) 0, bs.getD (bs.length - 1) 0] := by
      rw [List.drop_eq_getElem_cons (by omega), List.drop_eq_getElem_cons (by omega), List.drop_eq_nil_of_le (by omega)]
      have e : ∀ i (h : i < bs.length), bs[i] = bs.getD i 0 := fun i h => by rw [List.getD_eq_getElem?_getD, List.getElem?_eq_getElem h]; rfl
      rw [e, e, show bs.length - 2 + 1 = bs.length - 1 by omega]
    rw [← hd, List.take_append_drop]
end Go.Proofs.Ytjgeolfjhfdbmaa
