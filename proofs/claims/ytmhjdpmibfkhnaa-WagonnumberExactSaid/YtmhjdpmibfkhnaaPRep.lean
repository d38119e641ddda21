/-
  Stage 2: the program's Repairs.
-/
import Derived.Test.YtmhjdpmibfkhnaaRMath
import Derived.Test.YtmhjdpmibfkhnaaShelf
import Derived.Sort.OwnSorted
import Derived.Laws.AppendOwnNone
set_option linter.unusedSimpArgs false
set_option linter.unusedVariables false
namespace Go.Proofs.Ytmhjdpmibfkhnaa
open Go.RowKit

set_option maxHeartbeats 400000 in
theorem pdel_any (s : ByteArray) (w : World) (h2 : s.size ≤ 1000) (hd : s.data.toList.all dig = true) :
    Calls Try.prog 34 #[.string s] w fun e w' => e = .returned (.bool (!okP s)) ∧ w = w' := by
  go_enter Try.func34, Try.ntmps34
  go_wp2_with fail
  refine (pchecks_any _ _ h2 hd).mono ?_
  rintro e w' ⟨rfl, rfl⟩
  go_wp2_with fail
  go_ret
  exact ⟨rfl, rfl⟩

/-- At most twelve digits. -/
abbrev D12 := { l : List UInt8 // l.length ≤ 12 ∧ l.all dig = true }
def zD : D12 := ⟨[], by simp⟩
instance : Inhabited D12 := ⟨zD⟩
abbrev encD : D12 → Value := fun x => .string ⟨x.1.toArray⟩
def badD (x : D12) : Bool := !okP ⟨x.1.toArray⟩
def toD (x : ByteArray) : D12 := if h : x.data.toList.length ≤ 12 ∧ x.data.toList.all dig = true then ⟨x.data.toList, h⟩ else ⟨[], by simp⟩
theorem toD_val {x : ByteArray} (h : dgs x 12 = true) : (toD x).1 = x.data.toList := by
  obtain ⟨h1, h2⟩ := dgs_t h
  unfold toD
  rw [dif_pos ⟨by rw [len_data]; omega, h2⟩]
theorem encD_toD {x : ByteArray} (h : dgs x 12 = true) : encD (toD x) = .string x := by
  show Value.string ⟨(toD x).1.toArray⟩ = _
  rw [toD_val h]
theorem badD_toD {x : ByteArray} (h : dgs x 12 = true) : badD (toD x) = !okP x := by
  unfold badD; rw [toD_val h]

theorem gives_any (x : D12) (W : World) : FnGives Try.prog 34 #[] #[encD x] (.bool (badD x)) W := by
  show Calls Try.prog 34 #[.string ⟨x.1.toArray⟩] W _
  refine (pdel_any ⟨x.1.toArray⟩ W (by have := x.2.1; show x.1.toArray.size ≤ 1000; simp; omega) (by simpa using x.2.2)).mono ?_
  rintro e w' ⟨rfl, rfl⟩
  exact ⟨rfl, 0, rfl⟩

theorem putRow_val (w : World) (b o : Nat) (d : Array D12) : Go.Sort.putRow encD w b o d = Go.Sort.putRow encStr w b o (d.map Subtype.val) := by
  unfold Go.Sort.putRow Go.Sort.putCells
  congr 1
  funext c
  congr 1
  funext k x
  rw [Array.size_map]
  split
  · rename_i h
    rw [getElem!_pos d (k - o) (by omega), getElem!_pos (d.map Subtype.val) (k - o) (by simp; omega), Array.getElem_map]
  · rfl

/-- What DeleteFunc leaves of a list of our own. -/
theorem del_own (base g cap : Nat) (L : List ByteArray) (w : World) (h : Strs w base (.slice (some ⟨g, 0, none⟩) L.length cap) L) (hL : ∀ x ∈ L, dgs x 12 = true) (h0 : 0 < L.length) (hb : base ≤ w.heap.size) (hcm : cap ≤ maxLen) (hcap : L.length ≤ cap) (hg : base ≤ g) (hgw : g < w.heap.size) :
    Calls Try.prog 33 #[.slice (some ⟨g, 0, none⟩) L.length cap, .func (.func 34) #[] #[]] w fun e w' =>
      e = .returned (.slice (some ⟨g, 0, none⟩) (L.filter okP).length cap) ∧ Strs w' base (.slice (some ⟨g, 0, none⟩) (L.filter okP).length cap) (L.filter okP) ∧ Below base w w' ∧ g < w'.heap.size := by
  have eg : ∀ args w, (callFunc 34 args).run Try.prog w = .ok (.enter 34 args) w := enters_of Try.func34 (by kernel_rfl) rfl
  obtain ⟨hlen, hnil | ⟨g', cap', cur, hv, hbg, hcell, hc1, hc2, hc3, hc4⟩⟩ := h
  · cases hnil.1
  cases hv
  have hD : (L.map toD).toArray.toList = L.map toD := by simp
  have eC : (L.map toD).map encD = L.map Value.string := by
    rw [List.map_map]; exact List.map_congr_left fun x hx => encD_toD (hL x hx)
  have hH : Go.Sort.Holds encD w g 0 (L.map toD).toArray := by
    intro j hj
    have hj' : j < L.length := by simpa using hj
    refine ⟨?_, by simp [World.frozen?, hcell]⟩
    have h1 : (cur.toList.take L.length)[j]? = ((L.map toD).map encD)[j]? := by rw [eC, ← hc4, Nat.mul_one]
    rw [List.getElem?_take_of_lt hj'] at h1
    simp only [World.cell?, hcell, Nat.zero_add]
    simp only [Option.isSome_none, Bool.false_eq_true, if_false]
    rw [← Array.getElem?_toList, h1]
    rw [getElem!_pos (L.map toD).toArray j hj]
    simp [hj']
  have hcon := AnyE.slices_DeleteFunc delF encD (fun _ => rfl) badD 34 #[] eg zD Try.zeroValue9 g 0 cap (L.map toD).toArray w
    (fun W x _ => gives_any x W) (fun n os dk x _ => gives_any x _) hH (by simp; unfold maxLen at hcm; omega) (by simpa using hcap)
  change Calls Try.prog 33 _ _ _ at hcon
  have eF : ((L.map toD).toArray.toList.filter fun x => !badD x) = (L.filter okP).map toD := by
    rw [hD, List.filter_map]
    congr 1
    refine List.filter_congr fun x hx => ?_
    show (!badD (toD x)) = okP x
    rw [badD_toD (hL x hx)]; simp
  rw [eF] at hcon
  simp only [List.length_map, List.size_toArray] at hcon
  refine hcon.mono ?_
  rintro e w' ⟨rfl, q, rfl⟩
  have hl : (L.filter okP).length ≤ L.length := List.length_filter_le _ _
  have hgr := Go.grownBy_sorted (w := w) (g := g) (n := q) (os := #[]) (((L.filter okP).map toD ++ List.replicate (L.length - (L.filter okP).length) zD).toArray.map Subtype.val)
  have hhp := Go.heap_sorted (w := w) (g := g) (n := q) (os := #[]) (((L.filter okP).map toD ++ List.replicate (L.length - (L.filter okP).length) zD).toArray.map Subtype.val) hcell
  rw [Go.Sort.grow_empty, ← putRow_val] at hgr hhp
  refine ⟨rfl, ⟨by simp, Or.inr ⟨g, cap, _, rfl, hg, hhp, by omega, hc2, by simp [Go.Sort.putCells, hc3], ?_⟩⟩, ?_, ?_⟩
  · have e1 : ((L.filter okP).map toD ++ List.replicate (L.length - (L.filter okP).length) zD).toArray.map Subtype.val = (((L.filter okP).map toD ++ List.replicate (L.length - (L.filter okP).length) zD).map Subtype.val).toArray := by simp
    have e2 : (((L.filter okP).map toD ++ List.replicate (L.length - (L.filter okP).length) zD).map Subtype.val).length = L.length := by simp; omega
    have T := Go.take_putCells cur (((L.filter okP).map toD ++ List.replicate (L.length - (L.filter okP).length) zD).map Subtype.val) (by rw [e2, hc3]; omega)
    rw [e2] at T
    have e3 : ∀ X : List Value, X.take (L.filter okP).length = (X.take L.length).take (L.filter okP).length := fun X => by rw [List.take_take, Nat.min_eq_left hl]
    rw [e1, Nat.mul_one, e3, T, ← List.map_take, ← List.map_take, List.take_left' (by simp), List.map_map, List.map_map]
    exact List.map_congr_left fun x hx => encD_toD (hL x (List.mem_filter.1 hx).1)
  · exact (Below.refl _ w).grown hgr (by omega) (fun q hq => by cases hq; exact hg)
  · exact Nat.lt_of_lt_of_le hgw hgr.size

/-- The bytes of the strings, sorted. -/
def srt (L : List ByteArray) : List (List UInt8) := (L.map fun x => x.data.toList).mergeSort fun x y => decide (x ≤ y)
def srtB (L : List ByteArray) : List ByteArray := (srt L).map fun l => ⟨l.toArray⟩
theorem srt_len (L : List ByteArray) : (srt L).length = L.length := by unfold srt; simp
theorem srtB_len (L : List ByteArray) : (srtB L).length = L.length := by unfold srtB; rw [List.length_map, srt_len]

theorem sort_own (base g cap : Nat) (L : List ByteArray) (w : World) (h : Strs w base (.slice (some ⟨g, 0, none⟩) L.length cap) L) (hb : base ≤ w.heap.size) (hn : L.length ≤ 1000) :
    Calls Try.prog 35 #[.slice (some ⟨g, 0, none⟩) L.length cap] w fun e w' =>
      e = .returned (.tuple #[]) ∧ Strs w' base (.slice (some ⟨g, 0, none⟩) L.length cap) (srtB L) ∧ Below base w w' := by
  obtain ⟨hlen, hnil | ⟨g', cap', cur, hv, hbg, hcell, hc1, hc2, hc3, hc4⟩⟩ := h
  · cases hnil.1
  cases hv
  have eL : L.map Value.string = (L.map fun x => x.data.toList).map encStr := by
    rw [List.map_map]; exact List.map_congr_left fun x _ => rfl
  have hH : Go.Sort.Holds encStr w g 0 (L.map fun x => x.data.toList).toArray := Go.holds_of_block hcell (by rw [List.length_map, ← eL, ← hc4, Nat.mul_one])
  have hcon := Any.slices_Sort_string sortS g 0 cap (L.map fun x => x.data.toList) w hH (Array.getElem?_eq_some_iff.1 hcell).1 (by simp; omega)
  change Calls Try.prog 35 _ _ _ at hcon
  rw [List.length_map] at hcon
  refine hcon.mono ?_
  rintro e w' ⟨rfl, n, os, rfl⟩
  have ho := Go.ownsRow_sorted (n := n) (os := os) (ss := L.map fun x => x.data.toList) (ts := srt L) (by rw [srt_len]; simp) hbg hcell (by simpa using hc1) hc2 hc3
  rw [List.length_map] at ho
  have eS : (srt L).map encStr = (srtB L).map Value.string := by
    unfold srtB; rw [List.map_map]; rfl
  rw [eS] at ho
  refine ⟨rfl, ?_, (Below.refl _ w).grown (Go.grownBy_sorted _) (by omega) (fun q hq => by cases hq; exact hbg)⟩
  show World.ownsRow _ _ _ _ _ _ _
  rw [srtB_len]
  exact ho

theorem Strs.below {w w' : World} {base : Nat} {v : Value} {l : List ByteArray} (h : Strs w base v l) (k : Below w.heap.size w w') : Strs w' base v l :=
  World.ownsRow.kept h (row := none) ⟨k.os, k.tape, k.output, k.size, fun j hj _ => k.block j hj⟩ (by cases v.ownBlock <;> simp)
theorem Strs.form' {w : World} {base : Nat} {v : Value} {l : List ByteArray} (h : Strs w base v l) (hl : 0 < l.length) : ∃ g cap, v = .slice (some ⟨g, 0, none⟩) l.length cap ∧ base ≤ g ∧ g < w.heap.size ∧ l.length ≤ cap ∧ cap ≤ maxLen := Strs.form h hl
theorem reps_pos {s : ByteArray} (hz : s.size = 12) (hd : s.data.toList.all dig = true) : 0 < (reps s 12).length := by
  by_cases c : 48 + 0 = (bt s 0).toNat
  · exact List.length_pos_of_mem (mem_reps.2 ⟨0, 1, by omega, by omega, by omega, rfl⟩)
  · exact List.length_pos_of_mem (mem_reps.2 ⟨0, 0, by omega, by omega, c, rfl⟩)

/-- What Repairs leaves. -/
def RepPost (base : Nat) (t : List ByteArray × Int) (w : World) (e : Ending) (w' : World) : Prop := ∃ v, e = .returned (.tuple #[v, .int .i64 t.2]) ∧ Strs w' base v t.1 ∧ Below w.heap.size w w'
def allL (s : ByteArray) : List ByteArray := reps s 12 ++ excs s 11
def repL (s : ByteArray) : List ByteArray := (allL s).filter okP
def repsP (s : ByteArray) : List ByteArray × Int := if dgs s 12 = true then (srtB (repL s), 0) else ([], 11)
theorem del_own' (base g cap : Nat) (s : ByteArray) (w : World) (h : Strs w base (.slice (some ⟨g, 0, none⟩) (allL s).length cap) (allL s)) (hL : ∀ x ∈ allL s, dgs x 12 = true) (h0 : 0 < (allL s).length) (hb : base ≤ w.heap.size) (hcm : cap ≤ maxLen) (hcap : (allL s).length ≤ cap) (hg : base ≤ g) (hgw : g < w.heap.size) :
    Calls Try.prog 33 #[.slice (some ⟨g, 0, none⟩) (allL s).length cap, .func (.func 34) #[] #[]] w fun e w' =>
      e = .returned (.slice (some ⟨g, 0, none⟩) (repL s).length cap) ∧ Strs w' base (.slice (some ⟨g, 0, none⟩) (repL s).length cap) (repL s) ∧ Below base w w' ∧ g < w'.heap.size := del_own base g cap (allL s) w h hL h0 hb hcm hcap hg hgw
theorem repL_len (s : ByteArray) : (repL s).length ≤ 1000 := Nat.le_trans (List.length_filter_le _ _) (by unfold allL; rw [List.length_append]; have := reps_len s 12; have := excs_len s 11; omega)

set_option maxHeartbeats 1600000 in
theorem prepairs_ok (s : ByteArray) (w : World) (h : dgs s 12 = true) :
    Calls Try.prog 17 #[.string s] w (RepPost w.heap.size (srtB (repL s), 0) w) := by
  obtain ⟨hz, hd⟩ := dgs_t h
  obtain ⟨i0, hi, hz0, hz1, hz2⟩ := info_parts infoStr
  have hL : ∀ x ∈ allL s, dgs x 12 = true := fun x hx => by
    unfold allL at hx
    rcases List.mem_append.1 hx with hx | hx
    · obtain ⟨i, k, h1, h2, _, rfl⟩ := mem_reps.1 hx; exact dgs_rep h i k h1 h2
    · obtain ⟨i, h1, _, rfl⟩ := mem_excs.1 hx; exact dgs_exc h i h1
  have HL := Lib.hid hL
  have HD := Lib.hid hd
  have l1 := reps_len s 12
  have l2 := excs_len s 11
  clear hL hd
  go_enter Try.func17, Try.ntmps17
  go_wp2_with fail
  refine (pdigits_any _ _ _ (by omega) (by omega)).mono ?_
  rintro e w' ⟨rfl, rfl⟩
  go_wp2_with fail
  refine (reps_any _ _ hz HD.out).mono ?_
  rintro e w1 ⟨v1, rfl, O1, B1⟩
  have s1 := B1.size
  have hlen := reps_pos hz HD.out
  go_wp2_with fail
  refine (excs_any _ _ hz).mono ?_
  rintro e w2 ⟨v2, rfl, O2, B2⟩
  have s2 := B2.size
  have O1' := Strs.below O1 B2
  have B2' : Below w.heap.size w w2 := B1.trans (B2.mono s1)
  have L0 : 0 < (allL s).length := by unfold allL; rw [List.length_append]; omega
  clear O1 B1 B2
  have O2c := O2
  obtain ⟨hlen2, hnil | ⟨g2, cap2, cur2, rfl, hbg2, hcell2, hc1, hc2, hc3, hc4⟩⟩ := O2
  · obtain ⟨rfl, hz2⟩ := hnil
    have HX := Lib.hid (List.length_eq_zero_iff.1 hz2)
    go_wp2_with (at_builtin; refine wpList_append_own_none rfl (.tmp 10) (.tmp 12) 35 rfl w.heap.size 9 i0 1 Try.underlying35 hi _ _ _ rfl (by exact O1') rfl ?_)
    have O3 : Strs w2 w.heap.size v1 (allL s) := by unfold allL; rw [HX.out, List.append_nil]; exact O1'
    have B3 := B2'
    clear O1' O2c B2'
    obtain ⟨g, cap, rfl, hg1, hg2, hg3, hg4⟩ := Strs.form' O3 L0
    have hb3 := B3.size
    go_wp2_with fail
    refine (del_own' w.heap.size g cap s _ O3 HL.out L0 hb3 hg4 hg3 hg1 hg2).mono ?_
    rintro e w4 ⟨rfl, O4, B4, hg5⟩
    have hb4 := B4.size
    have B5 := B3.trans B4
    have hb5 := B5.size
    clear O3 B3 B4
    go_wp2_with fail
    refine (sort_own w.heap.size g cap (repL s) w4 O4 hb5 (repL_len s)).mono ?_
    rintro e w5 ⟨rfl, O5, B6⟩
    have B7 := B5.trans B6
    go_wp2_with fail
    go_ret2
    exact ⟨_, rfl, O5, B7⟩
  · have hn2 := O2c.cells (g := g2) rfl
    go_wp2_with (at_builtin; refine wpList_append_own _ rfl (.tmp 10) (.tmp 12) 35 rfl w.heap.size 9 i0 (.string ⟨#[]⟩) 1 16 Try.underlying35 hi hz0 hz1 hz2 rfl (by decide) _ _ _ rfl (by exact O1') ⟨g2, 0, none⟩ (excs s 11).length cap2 ((excs s 11).map Value.string) rfl (by simp) (by exact hn2) (by intro u hu; simp only [List.mem_map] at hu; obtain ⟨x, _, rfl⟩ := hu; rfl) (by unfold maxLen; omega) (by omega) (by omega) ?_; intro v3 w3 hown3 hgrow3 hn3; clear hn3)
    have O3 : Strs w3 w.heap.size v3 (allL s) := by
      unfold allL
      show World.ownsRow _ _ _ _ _ _ _
      rw [List.length_append, List.map_append]; exact hown3
    have B3 : Below w.heap.size w w3 := B2'.grown hgrow3 (by omega) (fun q hq => (O1'.lt q hq).1)
    clear O1' O2c B2' hn2 hown3 hgrow3
    obtain ⟨g, cap, rfl, hg1, hg2, hg3, hg4⟩ := Strs.form' O3 L0
    have hb3 := B3.size
    go_wp2_with fail
    refine (del_own' w.heap.size g cap s _ O3 HL.out L0 hb3 hg4 hg3 hg1 hg2).mono ?_
    rintro e w4 ⟨rfl, O4, B4, hg5⟩
    have hb4 := B4.size
    have B5 := B3.trans B4
    have hb5 := B5.size
    clear O3 B3 B4
    go_wp2_with fail
    refine (sort_own w.heap.size g cap (repL s) w4 O4 hb5 (repL_len s)).mono ?_
    rintro e w5 ⟨rfl, O5, B6⟩
    have B7 := B5.trans B6
    go_wp2_with fail
    go_ret2
    exact ⟨_, rfl, O5, B7⟩

set_option maxHeartbeats 400000 in
theorem prepairs_bad (s : ByteArray) (w : World) (h : dgs s 12 = false) :
    Calls Try.prog 17 #[.string s] w (RepPost w.heap.size ([], 11) w) := by
  go_enter Try.func17, Try.ntmps17
  go_wp2_with fail
  refine (pdigits_any _ _ _ (by omega) (by omega)).mono ?_
  rintro e w' ⟨rfl, rfl⟩
  go_wp2_with fail
  go_ret2
  exact ⟨_, rfl, World.ownsRow_nil _ _ _ _, Below.refl _ _⟩

theorem prepairs_any (s : ByteArray) (w : World) : Calls Try.prog 17 #[.string s] w (RepPost w.heap.size (repsP s) w) := by
  unfold repsP
  cases h : dgs s 12
  · exact prepairs_bad s w h
  · exact prepairs_ok s w h

end Go.Proofs.Ytmhjdpmibfkhnaa
