/-
  Stage 10: the program's Tracks, Beyond, Common.
-/
import Derived.Test.YteeoecegpnmafaaDoorTFn
set_option linter.unusedSimpArgs false
set_option linter.unusedVariables false
namespace Go.Proofs.YteeoecegpnmafaaDoor
open Go.RowKit Go.Lib

def kindA (l : List El) (i : Int) : Int := (l.getD i.toNat zeroE).kind
def sideA (l : List El) (i : Int) : Int := (l.getD i.toNat zeroE).side
theorem chk_ok {l : List El} {zs : List Int} (h : chkZ l zs = 0) : validE l = 0 ∧ ∀ z ∈ zs, 0 ≤ z ∧ z < (l.length : Int) := by
  unfold chkZ at h
  by_cases h1 : validE l = 0
  · rw [if_pos h1] at h
    refine ⟨h1, fun z hz => ?_⟩
    cases hb : zs.all (inR l)
    · rw [hb] at h; simp at h
    · have := List.all_eq_true.1 hb z hz
      unfold inR at this; simpa using this
  · rw [if_neg h1] at h; exact absurd h h1
theorem chk_of {l : List El} {zs : List Int} (h : validE l = 0) (h2 : ∀ z ∈ zs, 0 ≤ z ∧ z < (l.length : Int)) : chkZ l zs = 0 := by
  unfold chkZ
  rw [if_pos h, if_pos]
  rw [List.all_eq_true]
  intro z hz
  unfold inR; simpa using h2 z hz
/-- The set of the first k of those of which p holds. -/
def parB (n : Nat) (p : Nat → Bool) (k : Nat) : List Bool := (List.range n).map fun j => decide (j < k) && p j
theorem parB_len (n : Nat) (p : Nat → Bool) (k : Nat) : (parB n p k).length = n := by unfold parB; simp
theorem parB_zero (n : Nat) (p : Nat → Bool) : parB n p 0 = List.replicate n false := by
  refine List.ext_getElem? fun j => ?_
  unfold parB
  by_cases h : j < n <;> simp [h]
theorem parB_get {n : Nat} {p : Nat → Bool} {k j : Nat} (h : j < n) : (parB n p k).getD j false = (decide (j < k) && p j) := by
  unfold parB; simp [List.getD, h]
theorem parB_set {n : Nat} {p : Nat → Bool} {k : Nat} : (parB n p k).set k (p k) = parB n p (k + 1) := by
  refine List.ext_getElem? fun j => ?_
  rw [List.getElem?_set]
  unfold parB
  by_cases hj : k = j
  · subst hj
    by_cases h : k < n <;> simp [h]
  · rw [if_neg hj]
    by_cases h : j < n
    · simp only [List.getElem?_map, List.getElem?_range h, Option.map_some]
      congr 2
      exact decide_eq_decide.2 (by omega)
    · simp [h]
/-- The indexes below n of which p holds. -/
def idxZ (n : Nat) (p : Nat → Bool) : List Int := ((List.range n).filter p).map fun (j : Nat) => (j : Int)
theorem memZ_par (n : Nat) (p : Nat → Bool) : memZ (parB n p n) = idxZ n p := by
  unfold memZ idxZ
  rw [parB_len]
  congr 1
  refine List.filter_congr fun j hj => ?_
  have hj' := List.mem_range.1 hj
  rw [parB_get hj', decide_eq_true hj', Bool.true_and]
def isTrk (l : List El) (k : Nat) : Bool := decide (kindA l k = 4)
def trkZ (l : List El) : List Int := idxZ l.length (isTrk l)
def byZ (l : List El) (i : Int) : List Int := idxZ l.length fun k => isTrk l k && (onZ l k).getD i.toNat false
theorem kind_get {l : List El} {k : Nat} {x : El} (h : l[k]? = some x) : kindA l (k : Int) = x.kind := by
  unfold kindA
  rw [Int.toNat_natCast, List.getD_eq_getElem?_getD, h]; rfl
theorem replB (w : World) (n : Nat) (p : Nat → Bool) : BSet (w.alloc (.cells ((List.replicate n false).map Value.bool).toArray 4)) w.heap.size (parB n p 0) := by
  rw [parB_zero]; exact BSet.new w _ _ rfl
set_option maxHeartbeats 1600000 in
theorem tracks_any (l : List El) (A : Option Addr) (c : Nat) (w : World) (H : LRow w A c l) :
    Calls Tryd.prog 17 #[.slice A l.length c] w (PairPost (pairE (chkZ l []) (trkZ l)) (chkZ l []) w) := by
  have HC := Lib.hid (check_any l A c none 0 [] _ H Row.nil (by decide))
  have HH := Lib.hid H
  clear H
  go_enter Tryd.func17, Tryd.ntmps17
  go_wp2_with fail
  refine HC.out.mono ?_
  rintro e w1 ⟨rfl, B1⟩
  have B := Lib.hid B1
  clear B1 HC
  by_cases he : chkZ l [] = 0
  · obtain ⟨p1, p2, p3⟩ := valid_par (chk_ok he).1
    have HE0 := Lib.hid (show pairE (chkZ l []) (trkZ l) = trkZ l ∧ chkZ l [] = 0 from ⟨if_pos he, he⟩)
    have hmk := fun w => make_bools w l.length (by omega)
    have HS := Lib.hid (replB w1 l.length (isTrk l))
    obtain ⟨g, hg⟩ : ∃ g, g = w1.heap.size := ⟨_, rfl⟩
    have hwg : w.heap.size ≤ g := by have := B.out.size; omega
    have B2 := Lib.hid (B.out.alloc B.out.size (.cells ((List.replicate l.length false).map Value.bool).toArray 4))
    obtain ⟨L, hL⟩ : ∃ n, n = l.length := ⟨_, rfl⟩
    have HL := Lib.hid hL
    rw [he]
    rw [← hL] at hmk HS B2 p3 ⊢
    rw [← hg] at HS
    clear he p1 p2 hL
    generalize hW : w1.alloc (.cells ((List.replicate L false).map Value.bool).toArray 4) = W2 at HS B2
    have hmk1 := hmk w1
    rw [hW, ← hg] at hmk1
    clear hmk hW hg
    go_wp2_with fail
    go_loopw [18] (fun iv wr => ∃ k : Nat, k ≤ L ∧ iv = .int .i64 (k : Int) ∧ Hid (BSet wr g (parB L (isTrk l) k)) ∧ Hid (Below w.heap.size w wr)) (fun iv _ => L - (intOf iv).toNat)
    case atStart => exact ⟨0, by omega, rfl, HS, B2⟩
    case round =>
      clear HS B2 hmk1
      obtain ⟨k, hk, rfl, S, Bw⟩ := hrel
      by_cases hlt : k < L
      · obtain ⟨x, hx, _, _⟩ := drop_ex (l := l) (k := k) (by rw [← HL.out]; exact hlt)
        obtain ⟨ad, rfl, C⟩ := (HH.out.below Bw.out).row.at_ hx
        obtain ⟨c0, c1, c2, c3, c4, c5, c6, c7⟩ := ESpelt.of C
        have HX := Lib.hid (kind_get hx)
        have S1 := Lib.hid (S.out.alloc (.cells #[.int .i64 x.kind, .string x.name, .int .i64 x.par, .int .i64 x.side, .int .i64 x.len, .int .i64 x.gra, .int .i64 x.cur, .int .i64 x.pow] 37))
        have d := S1.out.cell k (by rw [parB_len]; exact hlt)
        have fz := S1.out.frozen k
        have S2 := Lib.hid (S1.out.set k (isTrk l k))
        rw [parB_set] at S2
        have B3 := Lib.hid ((Bw.out.alloc Bw.out.size (.cells #[.int .i64 x.kind, .string x.name, .int .i64 x.par, .int .i64 x.side, .int .i64 x.len, .int .i64 x.gra, .int .i64 x.cur, .int .i64 x.pow] 37)).setCell (p := ⟨g, k, none⟩) hwg (.bool (isTrk l k)))
        have hbk : (x.kind == 4) = isTrk l k := by
          unfold isTrk
          rw [HX.out]
          by_cases h4 : x.kind = 4 <;> simp [h4]
        clear C hx S Bw
        go_wp2_with fail
        go_roundw
        case rel => exact ⟨k + 1, by omega, by go_num, S2, B3⟩
        case measure => simp [intOf]; omega
      · obtain rfl : k = L := by omega
        have hm := members_any (parB k (isTrk l) k) g k wr S.out (by rw [parB_len]; omega)
        rw [parB_len, memZ_par] at hm
        have HM := Lib.hid hm
        clear hm
        go_wp2_with fail
        refine HM.out.mono ?_
        rintro e w2 ⟨v, rfl, O, Bm⟩
        have O2 := Lib.hid (O.base Bw.out.size)
        have B3 := Lib.hid (Bw.out.trans (Bm.mono Bw.out.size))
        clear O Bm
        go_wp2_with fail
        go_ret2
        rw [HE0.out.1, HE0.out.2]
        exact ⟨v, rfl, by unfold trkZ; rw [← HL.out]; exact O2.out, B3.out⟩
  · have HE := Lib.hid (show pairE (chkZ l []) (trkZ l) = [] from if_neg he)
    have hne : (chkZ l [] != 0) = true := bne_iff_ne.2 he
    clear he
    go_wp2_with fail
    go_ret2
    exact ⟨_, rfl, by rw [HE.out]; exact Own.nil, B.out⟩
end Go.Proofs.YteeoecegpnmafaaDoor
