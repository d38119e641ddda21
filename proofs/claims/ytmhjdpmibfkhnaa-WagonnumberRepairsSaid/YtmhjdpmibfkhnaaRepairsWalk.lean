/-
  The walk of WagonnumberRepairs.
-/
import Derived.Test.YtmhjdpmibfkhnaaExchangeWalk
set_option linter.unusedSimpArgs false
set_option linter.unusedVariables false
namespace Go.Proofs.Ytmhjdpmibfkhnaa
open Go.RowKit

/-- Of the first n places those at which two strings differ. -/
def dfs (x s : ByteArray) (n : Nat) : List Nat := (List.range n).filter fun j => (bt x j).toNat != (bt s j).toNat
theorem dfs_succ (x s : ByteArray) (n : Nat) : dfs x s (n + 1) = dfs x s n ++ if (bt x n).toNat = (bt s n).toNat then [] else [n] := by
  unfold dfs
  rw [List.range_succ, List.filter_append, List.filter_cons, List.filter_nil]
  congr 1
  by_cases c : (bt x n).toNat = (bt s n).toNat
  · rw [if_pos c, if_neg (by rw [bne_iff_ne]; exact fun h => h c)]
  · rw [if_neg c, if_pos (by rw [bne_iff_ne]; exact c)]
theorem dfs_len (x s : ByteArray) (n : Nat) : (dfs x s n).length ≤ n := by
  unfold dfs
  exact Nat.le_trans (List.length_filter_le _ _) (by simp)
theorem dfs_one {x s : ByteArray} {i : Nat} (hi : i < 12) (h : ∀ j, j < 12 → ((bt x j).toNat ≠ (bt s j).toNat ↔ j = i)) : dfs x s 12 = [i] := by
  have g : ∀ n, n ≤ 12 → dfs x s n = if i < n then [i] else [] := by
    intro n hn
    induction n with
    | zero => rfl
    | succ n ih =>
      rw [dfs_succ, ih (by omega)]
      have := h n (by omega)
      by_cases e : n = i
      · subst e
        rw [if_neg (by omega), if_neg (this.2 rfl), if_pos (by omega)]; rfl
      · have c : (bt x n).toNat = (bt s n).toNat := Classical.not_not.1 fun c => e (this.1 c)
        rw [if_pos c, List.append_nil]
        by_cases f : i < n
        · rw [if_pos f, if_pos (by omega)]
        · rw [if_neg f, if_neg (by omega)]
  rw [g 12 (by omega), if_pos hi]
theorem dfs_two {x s : ByteArray} {i : Nat} (hi : i < 11) (h : ∀ j, j < 12 → ((bt x j).toNat ≠ (bt s j).toNat ↔ j = i ∨ j = i + 1)) : dfs x s 12 = [i, i + 1] := by
  have g : ∀ n, n ≤ 12 → dfs x s n = if i + 1 < n then [i, i + 1] else if i < n then [i] else [] := by
    intro n hn
    induction n with
    | zero => rfl
    | succ n ih =>
      rw [dfs_succ, ih (by omega)]
      have := h n (by omega)
      by_cases e : n = i
      · subst e
        rw [if_neg (by omega), if_neg (by omega), if_neg (this.2 (Or.inl rfl)), if_neg (by omega), if_pos (by omega)]; rfl
      · by_cases e' : n = i + 1
        · subst e'
          rw [if_neg (by omega), if_pos (by omega), if_neg (this.2 (Or.inr rfl)), if_pos (by omega)]; rfl
        · have c : (bt x n).toNat = (bt s n).toNat := Classical.not_not.1 fun c => by rcases this.1 c with g | g <;> omega
          rw [if_pos c, List.append_nil]
          by_cases f : i + 1 < n
          · rw [if_pos f, if_pos (by omega)]
          · rw [if_neg f, if_neg (by omega), if_neg (by omega), if_neg (by omega)]
  rw [g 12 (by omega), if_pos (by omega)]

/-- A repair: a number, not the string itself, and where it differs. -/
theorem repair_of {s x : ByteArray} (h : dgs s 12 = true) (hx : x ∈ srtB (repL s)) :
    x.size = 12 ∧ validR x = 0 ∧ x ≠ s ∧ ((∃ i, i < 12 ∧ dfs x s 12 = [i]) ∨ ∃ i, i < 11 ∧ dfs x s 12 = [i, i + 1] ∧ bt x i = bt s (i + 1) ∧ bt x (i + 1) = bt s i) := by
  have hz := (dgs_t h).1
  rcases mem_repL.1 (mem_srtB.1 hx) with ⟨i, k, hi, hk, n, ok, rfl⟩ | ⟨i, _, hi, n, ok, rfl⟩
  · refine ⟨rep_size hz i k hi, by rw [validR_12 (dgs_rep h i k hi hk), ok]; rfl, fun e => n ((rep_self hz hi hk).1 e), Or.inl ⟨i, hi, dfs_one hi fun j hj => ?_⟩⟩
    rw [bt_rep hz i k j hi]
    by_cases e : j = i
    · subst e; rw [if_pos rfl, dg_nat k hk]; exact ⟨fun _ => rfl, fun _ => n⟩
    · rw [if_neg e]; exact ⟨fun g => absurd rfl g, fun g => absurd g e⟩
  · have b : ∀ j, bt (exc1 s i) j = if j = i + 1 then bt s i else if j = i then bt s (i + 1) else bt s j := fun j => bt_exc hz i j hi
    have b0 : bt (exc1 s i) i = bt s (i + 1) := by rw [b, if_neg (by omega), if_pos rfl]
    have b1 : bt (exc1 s i) (i + 1) = bt s i := by rw [b, if_pos rfl]
    refine ⟨exc_size hz i hi, by rw [validR_12 (dgs_exc h i hi), ok]; rfl, fun e => n (by rw [e] at b0; rw [b0]), Or.inr ⟨i, hi, dfs_two hi fun j hj => ?_, b0, b1⟩⟩
    rw [b]
    by_cases e : j = i + 1
    · subst e; rw [if_pos rfl]; exact ⟨fun _ => Or.inr rfl, fun _ => n⟩
    · rw [if_neg e]
      by_cases e' : j = i
      · subst e'; rw [if_pos rfl]; exact ⟨fun _ => Or.inl rfl, fun _ => Ne.symm n⟩
      · rw [if_neg e']; exact ⟨fun g => absurd rfl g, fun g => by rcases g with g | g <;> omega⟩
/-- They ascend. -/
theorem asc_at {l : List ByteArray} (h : Asc l) (m : Nat) (hm : m + 1 < l.length) : Op.bytesLess (l[m]'(by omega)).toList (l[m + 1]'hm).toList = true := by
  rw [bytesLess_eq, ByteArray.toList_eq, ByteArray.toList_eq, decide_eq_true_eq]
  exact List.pairwise_iff_getElem.1 h m (m + 1) (by omega) hm (by omega)

theorem infoInt : (Try.prog.info? 3).map (fun i => (i.zero, i.size, i.bytes)) = some (some (.int .i64 0), 1, 8) := by kernel_rfl
/-- A list of numbers, as a value in a world. -/
abbrev Nums (w : World) (base : Nat) (v : Value) (l : List Nat) : Prop := w.ownsRow base 3 1 v l.length (l.map fun (n : Nat) => Value.int .i64 (n : Int))

set_option maxRecDepth 100000 in
set_option maxHeartbeats 6400000 in
theorem repairs_walk (t : Option Addr) (len cap : Nat) (zs : List Int) (w : World) (h : IsRow .i64 w t len cap zs) :
    Calls Try.prog 7 #[.slice t len cap] w fun e w' => e = .returned (.bool true) ∧ Below w.heap.size w w' := by
  have R0 := Rnd.new (T := 43) h
  obtain ⟨i0, hi, hz0, hz1, hz2⟩ := info_parts infoInt
  go_enter Try.func7, Try.ntmps7
  go_wp2_with fail
  refine (new_any t len cap _).mono ?_
  rintro e w0 ⟨rfl, rfl⟩
  go_wp2_with fail
  refine (mdigits_any w.heap.size 0 12 _ R0.mkr (by omega) (by omega)).mono ?_
  rintro e w1 ⟨s0, rfl, hs0, k1, k2⟩
  have R1 := R0.step k2 k1
  clear R0 k1 k2 h
  go_wp2_with fail
  refine (next_any w.heap.size _ 3 _ R1.mkr (by omega) (by omega) (by omega)).mono ?_
  rintro e w2 ⟨v, rfl, v1, v2, k1, k2⟩
  have R2 := R1.step k2 k1
  clear R1 k1 k2
  by_cases hv : v = 0
  subst hv
  go_wp2_with fail
  refine (mnumber_any w.heap.size _ 3 _ R2.mkr (by omega) (by omega) (by omega)).mono ?_
  rintro e w3 ⟨s, rfl, hs', k1, k2⟩
  have R3 := R2.step k2 k1
  have hs := (num_ok_of hs').1
  have B3 := R3.bel
  clear R2 R3 k1 k2 hs' hs0 v1 v2
  go_wp2_with fail
  rotate_left
  have hv' : (v == 0) = false := beq_eq_false_iff_ne.2 hv
  have B3 := R2.bel
  have hs := hs0
  clear R2 hs0 hv
  generalize s0 = s at *
  generalize w2 = w3 at *
  go_wp2_with fail
  all_goals
    refine (prepairs_any _ _).mono ?_
    rintro e w4 ⟨v4, rfl, O, B⟩
    rw [show repsP s = (srtB (repL s), 0) from if_pos hs] at O ⊢
    have B4 : Below w.heap.size w w4 := B3.trans (B.mono B3.size)
    clear B B3
    have hz := (dgs_t hs).1
    have HR := Lib.hid (fun x hx => repair_of (x := x) hs hx)
    have HA := Lib.hid (asc_srtB (repL_nodup hz))
    have hln : (srtB (repL s)).length ≤ 1000 := by rw [srtB_len]; exact repL_len s
    generalize srtB (repL s) = l at *
    obtain ⟨la, lc, rfl⟩ := O.len
    have HO := Lib.hid O
    have hb4 := B4.size
    clear O
    go_wp2_with fail
    go_loopw [27] (fun i wr => ∃ k : Nat, k ≤ l.length ∧ i = .int .i64 k ∧ Below w4.heap.size w4 wr) (fun i _ => l.length - (intOf i).toNat)
    case atStart => exact ⟨0, by omega, rfl, Below.refl _ _⟩
    case round =>
      obtain ⟨k, hk, rfl, B5⟩ := hrel
      by_cases hlt : k < l.length
      · obtain ⟨wo, hwo⟩ : ∃ x, x = wr := ⟨_, rfl⟩
        subst hwo
        obtain ⟨g, cp, e, hg1, hg2, hg3, hg4⟩ := Strs.form HO.out (by omega)
        cases e
        obtain ⟨xz, xv, xne, xd⟩ := HR.out l[k] (List.getElem_mem hlt)
        have hc : wo.cell? ⟨g, k, none⟩ = some (.string l[k]) := by
          rw [B5.cell (p := ⟨g, k, none⟩) hg2, HO.out.cellAt k (by omega)]; simp [hlt]
        have xne1 := toList_ne xne
        have HX := Lib.hid xd
        have q0 : (0 : Int) ≤ (k : Int) := by omega
        have q1 : (k : Int) < (l.length : Int) := by omega
        have hdk : decide ((k : Int) < (l.length : Int)) = true := decide_eq_true q1
        clear xne xd hg1 hg3 hg4
        have hpv : k = 0 ∨ ∃ (m : Nat) (z : ByteArray), k = m + 1 ∧ wo.cell? ⟨g, m, none⟩ = some (.string z) ∧ Op.bytesLess z.toList l[k].toList = true := by
          cases k with
          | zero => exact Or.inl rfl
          | succ m => exact Or.inr ⟨m, l[m], rfl, by rw [B5.cell (p := ⟨g, m, none⟩) hg2, HO.out.cellAt m (by omega)]; simp [show m < l.length by omega], asc_at HA.out m hlt⟩
        generalize l[k] = x at *
        rcases hpv with rfl | ⟨m, z, rfl, hcz, hpz⟩
        go_wp2_with fail
        refine (pvalid_any _ _).mono ?_
        rintro e w' ⟨rfl, rfl⟩
        go_wp2_with fail
        rotate_left
        have r0 : (0 : Int) ≤ (m : Int) := by omega
        have r1 : (m : Int) < (l.length : Int) := by omega
        have r2 : (0 : Int) < (m : Int) + 1 := by omega
        go_wp2_with fail
        refine (pvalid_any _ _).mono ?_
        rintro e w' ⟨rfl, rfl⟩
        go_wp2_with fail
        clear r0 r1 r2 hcz hpz
        all_goals
          have B6 : Below w.heap.size w wo := B4.trans (B5.mono hb4)
          have hbr := B6.size
          go_loopw [9, 10] (fun d j wr => ∃ n : Nat, n ≤ 12 ∧ j = .int .i64 n ∧ Nums wr wo.heap.size d (dfs x s n) ∧ Below wo.heap.size wo wr) (fun _ j _ => 12 - (intOf j).toNat)
          case atStart => exact ⟨0, by omega, rfl, World.ownsRow_nil _ _ _ _, Below.refl _ _⟩
          case round =>
            obtain ⟨n, hn, rfl, D, B7⟩ := hrel
            have hl7 := B7.size
            have hdl := dfs_len x s n
            by_cases hln : n < 12
            · have hnx : n < x.size := by omega
              have hns : n < s.size := by omega
              have HD := Lib.hid (dfs_succ x s n)
              have HB := Lib.hid (And.intro (getD_byte x n hnx 48) (getD_byte s n hns 48))
              have t0 : (0 : Int) ≤ (n : Int) := by omega
              have t1 : (n : Int) < 12 := by omega
              by_cases c : x[n].toNat = s[n].toNat
              · have hc' : ((x[n].toNat : Int) != (s[n].toNat : Int)) = false := by rw [bne_eq_false_iff_eq]; omega
                have HE : Hid (dfs x s (n + 1) = dfs x s n) := Lib.hid (by rw [HD.out, if_pos (by show (x.data.toList.getD n 48).toNat = (s.data.toList.getD n 48).toNat; rw [HB.out.1, HB.out.2, c]), List.append_nil])
                clear c
                go_wp2_with fail
                go_quiet (fail)
                go_wp2_with fail
                exact ⟨⟨n + 1, by omega, by go_num, by rw [HE.out]; exact D, bdn B7⟩, by simp [intOf]; omega⟩
              · have hc' : ((x[n].toNat : Int) != (s[n].toNat : Int)) = true := by rw [bne_iff_ne]; omega
                have HE : Hid (dfs x s (n + 1) = dfs x s n ++ [n]) := Lib.hid (by rw [HD.out, if_neg (by show ¬ (x.data.toList.getD n 48).toNat = (s.data.toList.getD n 48).toNat; rw [HB.out.1, HB.out.2]; exact c)])
                clear c
                go_wp2_with fail
                go_quiet (fail)
                have D1 : Nums (wr.drewN nq) wo.heap.size _ (dfs x s n) := D
                have B8 : Below wo.heap.size wo (wr.drewN nq) := bdn B7
                generalize wr.drewN nq = wy at *
                have hl8 := B8.size
                clear D B7
                go_wp2_with (at_builtin; refine wpList_append_own _ rfl (.tmp 69) (.tmp 71) 22 rfl wo.heap.size 3 i0 (.int .i64 0) 1 8 Try.underlying22 hi hz0 hz1 hz2 rfl (by decide) _ _ _ rfl (by exact D1.alloc _) ⟨wy.heap.size, 0, none⟩ 1 1 [.int .i64 (n : Int)] rfl rfl (World.news_of_block (cs := #[.int .i64 (n : Int)]) (t := 3) (fr := (0, 0)) (heap_alloc_new wy _)) (by intro u hu; simp only [List.mem_singleton] at hu; subst hu; rfl) (by unfold maxLen; omega) (by omega) (by simp; omega) ?_; intro v9 w9 hown9 hgrow9 hn9; clear hn9)
                have B9 : Below wo.heap.size wo w9 := (B8.alloc hl8 _).grown hgrow9 (by simp; omega) (fun q hq => (D1.lt q hq).1)
                refine ⟨⟨n + 1, by omega, by go_num, ?_, B9⟩, by simp [intOf]; omega⟩
                rw [HE.out]
                show World.ownsRow _ _ _ _ _ _ _
                rw [List.length_append, List.map_append]
                exact hown9
            · obtain rfl : n = 12 := by omega
              clear HR HA
              rcases HX.out with ⟨i, hi12, hdf⟩ | ⟨i, hi11, hdf, hx0, hx1⟩
              · rw [hdf] at D
                obtain ⟨gd, cd, e, _, _⟩ := World.ownsRow.form (n := 1) D (by omega)
                subst e
                clear D hdf
                go_wp2_with fail
                go_quiet (fail)
                go_wp2_with fail
                have BF : Below w4.heap.size w4 (wr.drewN nq) := bdn (B5.trans (B7.mono B5.size))
                first
                  | (refine ⟨⟨m + 1 + 1, ?_, ?_, BF⟩, ?_⟩
                     · omega
                     · go_num
                     · simp [intOf]; omega)
                  | (refine ⟨⟨1, ?_, rfl, BF⟩, ?_⟩
                     · omega
                     · simp [intOf]; omega)
              · rw [hdf] at D
                obtain ⟨gd, cd, e, _, _⟩ := World.ownsRow.form (n := 2) D (by omega)
                subst e
                have D1 : wr.ownsRow wo.heap.size 3 1 (.slice (some ⟨gd, 0, none⟩) 2 cd) 2 [.int .i64 (i : Int), .int .i64 ((i : Int) + 1)] := D
                have c0 : wr.cell? ⟨gd, 0, none⟩ = some (.int .i64 (i : Int)) := D1.cellAt 0 (by omega)
                have c1 : wr.cell? ⟨gd, 1, none⟩ = some (.int .i64 ((i : Int) + 1)) := D1.cellAt 1 (by omega)
                have k0 : i < x.size := by omega
                have k1 : i + 1 < x.size := by omega
                have k2 : i < s.size := by omega
                have k3 : i + 1 < s.size := by omega
                have f0 : ((x[i].toNat : Int) == (s[i + 1].toNat : Int)) = true := by
                  rw [← getD_byte x i k0 48, ← getD_byte s (i + 1) k3 48]; show ((bt x i).toNat : Int) == _; rw [hx0]; simp
                have f1 : ((x[i + 1].toNat : Int) == (s[i].toNat : Int)) = true := by
                  rw [← getD_byte x (i + 1) k1 48, ← getD_byte s i k2 48]; show ((bt x (i + 1)).toNat : Int) == _; rw [hx1]; simp
                have t0 : (0 : Int) ≤ (i : Int) := by omega
                have t1 : (i : Int) < 12 := by omega
                have t2 : (0 : Int) ≤ (i : Int) + 1 := by omega
                have t3 : (i : Int) + 1 < 12 := by omega
                have t4 : IntKind.i64.wrap ((i : Int) + 1) = (i : Int) + 1 := IntWalk.i64_in _ (by omega)
                clear D hdf hx0 hx1
                go_wp2_with fail
                go_quiet (fail)
                go_wp2_with fail
                have BF : Below w4.heap.size w4 (wr.drewN nq) := bdn (B5.trans (B7.mono B5.size))
                first
                  | (refine ⟨⟨m + 1 + 1, ?_, ?_, BF⟩, ?_⟩
                     · omega
                     · go_num
                     · simp [intOf]; omega)
                  | (refine ⟨⟨1, ?_, rfl, BF⟩, ?_⟩
                     · omega
                     · simp [intOf]; omega)
      · obtain rfl : k = l.length := by omega
        go_wp2_with fail
        refine (sane_any _).mono ?_
        rintro e w' ⟨rfl, B6⟩
        go_wp2_with fail
        go_ret
        have B7 := B4.trans (B5.mono hb4)
        exact ⟨rfl, B7.trans (B6.mono B7.size)⟩

end Go.Proofs.Ytmhjdpmibfkhnaa
