/-
  Stage 16: the library's stable sort, of at most 39 elements.
-/
import Derived.Test.YtknkgcphamhjlaaASmm
import Derived.Test.YtknkgcphamhjlaaAShelf
set_option linter.unusedSimpArgs false
set_option linter.unusedVariables false
namespace Go.Proofs.Ytknkgcphamhjlaa
open Go.RowKit Go.Lib Go.Sort Go.Shelf

variable {α : Type} [Inhabited α]
theorem insertion_any {enc : α → Value} {cf : α → α → Int} {R : α → α → Prop} (hT : ∀ x y z, R x y → R y z → R x z) {g : Nat} {cb : Array Value} {blk off : Nat} {d0 : Array α} {w0 : World} (T : Srt enc cf g cb blk off d0 w0) (cap N a b : Nat) (p s q : List α) (w : World)
    (hN : N = d0.size) (hl : (p ++ (s ++ q)).length = N) (ha : a = p.length) (hb : b = a + s.length) (hs : s.Pairwise (Cr (ltOf cf) R)) (S : SL enc w0 blk off (p ++ (s ++ q)) w) :
    Calls Try.prog 48 #[.slice (some ⟨blk, off, none⟩) N cap, .int .i64 (a : Int), .int .i64 (b : Int), .func (.func g) #[] cb] w (MergePost enc R w0 blk off p s q) := by
  have hsz : (p ++ (s ++ q)).toArray.size = N := by simpa using hl
  have hT1 := T.small
  have h := Any.insertionSortCmpFunc_s insL enc cf g cb blk off cap a b d0 (p ++ (s ++ q)).toArray w0 w T.ent T.cmp T.row (by rw [hsz, hN]) S (by omega) (by rw [hsz]; simp at hl; omega) (by rw [hsz]; omega)
  rw [hsz] at h
  change Calls Try.prog 48 _ _ _ at h
  refine h.mono ?_
  rintro e w' ⟨rfl, h'⟩
  obtain ⟨z, z1, z2, z3⟩ := insertion_list (lt := ltOf cf) hT p s q hs
  subst ha; subst hb
  rw [z3] at h'
  exact ⟨rfl, z, z1, z2, h'⟩
/-- The first twenty are sorted, and the others too. -/
def Two20 (enc : α → Value) (R : α → α → Prop) (w0 : World) (blk off : Nat) (l : List α) (W : World) : Prop :=
  ∃ z z2, z.Perm (l.take 20) ∧ z.Pairwise R ∧ z2.Perm (l.drop 20) ∧ z2.Pairwise R ∧ SL enc w0 blk off (z ++ z2) W
def One20 (enc : α → Value) (R : α → α → Prop) (w0 : World) (blk off : Nat) (l : List α) (W : World) : Prop :=
  ∃ z, z.Perm (l.take 20) ∧ z.Pairwise R ∧ SL enc w0 blk off (z ++ l.drop 20) W
set_option maxHeartbeats 16000000 in
set_option maxRecDepth 1000000 in
theorem stable_any {enc : α → Value} {cf : α → α → Int} {R : α → α → Prop} (hT : ∀ x y z, R x y → R y z → R x z) {g : Nat} {cb : Array Value} {blk off : Nat} {d0 : Array α} {w0 : World} (T : Srt enc cf g cb blk off d0 w0) (cap N : Nat) (l : List α) (w : World)
    (hN : N = d0.size) (hl : l.length = N) (h39 : N ≤ 39) (hs : l.Pairwise (Cr (ltOf cf) R)) (S : SL enc w0 blk off l w) :
    Calls Try.prog 43 #[.slice (some ⟨blk, off, none⟩) N cap, .int .i64 (N : Int), .func (.func g) #[] cb] w (MergePost enc R w0 blk off ([] : List α) l ([] : List α)) := by
  have mixed : Try.prog.follows .mixedOrders = true := by kernel_rfl
  have HT := Lib.hid T
  have HN := Lib.hid hN
  have HL := Lib.hid hl
  have HS := Lib.hid hs
  have hcut := List.take_append_drop 20 l
  have hs2 := hs
  rw [← hcut, List.pairwise_append] at hs2
  have HS2 := Lib.hid hs2
  have S0 : Aside (SL enc w0 blk off l w) := S
  clear T hN hl hs S hs2 hcut
  go_enter Try.func43, Try.ntmps43
  go_wp2_with fail
  go_loopg [7, 8] 1 (fun g1 vi vj wr => (vi = .int .i64 0 ∧ vj = .int .i64 20 ∧ g1 = 1 ∧ Aside (SL enc w0 blk off l wr)) ∨ (vi = .int .i64 20 ∧ vj = .int .i64 40 ∧ 20 ≤ N ∧ Aside (One20 enc R w0 blk off l wr)))
  case atStart => exact Or.inl ⟨rfl, rfl, rfl, S0⟩
  case round =>
    clear S0
    rcases hrel with ⟨rfl, rfl, hg1, SJ⟩ | ⟨rfl, rfl, h20, SJ⟩
    · by_cases h20 : 20 ≤ N
      · have hz : (20 : Int) ≤ (N : Int) := by omega
        have HC := Lib.hid (show Calls Try.prog 48 #[.slice (some ⟨blk, off, none⟩) N cap, .int .i64 0, .int .i64 20, .func (.func g) #[] cb] wr (MergePost enc R w0 blk off [] (l.take 20) (l.drop 20)) from
          insertion_any hT HT.out cap N 0 20 [] (l.take 20) (l.drop 20) wr HN.out (by simp; have := HL.out; omega) rfl (by simp; have := HL.out; omega) HS2.out.1 (by simpa using SJ.out))
        clear SJ
        go_wp2_with fail
        refine HC.out.mono ?_
        rintro e w2 ⟨rfl, z, z1, z2, h⟩
        have S2 : Aside (One20 enc R w0 blk off l w2) := ⟨z, z1, z2, by simpa using h⟩
        clear h HC z1 z2
        go_wp2_with fail
        go_roundg 0
        case measure => omega
        case rel => exact Or.inr ⟨rfl, rfl, h20, S2⟩
      · have hz : ¬ (20 : Int) ≤ (N : Int) := by omega
        have HC := Lib.hid (show Calls Try.prog 48 #[.slice (some ⟨blk, off, none⟩) N cap, .int .i64 0, .int .i64 (N : Int), .func (.func g) #[] cb] wr (MergePost enc R w0 blk off ([] : List α) l ([] : List α)) from
          insertion_any hT HT.out cap N 0 N [] l [] wr HN.out (by simpa using HL.out) rfl (by have := HL.out; omega) HS.out (by simpa using SJ.out))
        clear SJ
        go_wp2_with fail
        refine HC.out.mono ?_
        rintro e w2 ⟨rfl, h⟩
        have S2 : Aside (MergePost enc R w0 blk off ([] : List α) l ([] : List α) (.returned (.tuple #[])) w2) := ⟨rfl, h⟩
        clear h HC
        have hz2 : ¬ (20 : Int) < (N : Int) := by omega
        go_wp2_with fail
        go_loopg [6] 0 (fun g1 vi wr => vi = .int .i64 20 ∧ Aside (MergePost enc R w0 blk off ([] : List α) l ([] : List α) (.returned (.tuple #[])) wr))
        case atStart => exact ⟨rfl, S2⟩
        case round =>
          clear S2
          obtain ⟨rfl, S2⟩ := hrel
          go_wp2_with fail
          go_end0
          exact S2.out
    · have hz : ¬ (40 : Int) ≤ (N : Int) := by omega
      obtain ⟨z, z1, z2, h⟩ := SJ
      have HZ1 := Lib.hid z1
      have HZ2 := Lib.hid z2
      have hzl : z.length = 20 := by have := z1.length_eq; have h2 := HL.out; simp at this; omega
      have HZL := Lib.hid hzl
      have HC := Lib.hid (show Calls Try.prog 48 #[.slice (some ⟨blk, off, none⟩) N cap, .int .i64 20, .int .i64 (N : Int), .func (.func g) #[] cb] wr (MergePost enc R w0 blk off z (l.drop 20) []) from
        insertion_any hT HT.out cap N 20 N z (l.drop 20) [] wr HN.out (by simp; have := HL.out; omega) hzl.symm (by simp; have := HL.out; omega) HS2.out.2.1 (by simpa using h))
      clear h z1 z2 hzl
      go_wp2_with fail
      refine HC.out.mono ?_
      rintro e w2 ⟨rfl, z2, q1, q2, h⟩
      have S2 : Aside (Two20 enc R w0 blk off l w2) := ⟨z, z2, HZ1.out, HZ2.out, q1, q2, by simpa using h⟩
      clear h HC q1 q2 HZ1 HZ2 HZL
      go_wp2_with fail
      go_loopg [6] 1 (fun g1 vi wr => (vi = .int .i64 20 ∧ g1 = 1 ∧ Aside (Two20 enc R w0 blk off l wr)) ∨ (vi = .int .i64 40 ∧ Aside (MergePost enc R w0 blk off ([] : List α) l ([] : List α) (.returned (.tuple #[])) wr)))
      case atStart => exact Or.inl ⟨rfl, rfl, S2⟩
      case round =>
        clear S2
        rcases hrel with ⟨rfl, hg2, S2⟩ | ⟨rfl, S2⟩
        · by_cases h21 : 20 < N
          · have hz3 : (20 : Int) < (N : Int) := by omega
            go_wp2_with fail
            go_loopg [7, 8] 0 (fun g1 vi vj wr => vi = .int .i64 0 ∧ vj = .int .i64 40 ∧ Aside (Two20 enc R w0 blk off l wr))
            case atStart => exact ⟨rfl, rfl, S2⟩
            case round =>
              clear S2
              obtain ⟨rfl, rfl, S2⟩ := hrel
              have HC := Lib.hid (show Calls Try.prog 49 #[.slice (some ⟨blk, off, none⟩) N cap, .int .i64 0, .int .i64 20, .int .i64 (N : Int), .func (.func g) #[] cb] wr (MergePost enc R w0 blk off ([] : List α) l ([] : List α)) from by
                obtain ⟨z, z2, p1, p2, p3, p4, h⟩ := S2
                have hzl : z.length = 20 := by have := p1.length_eq; have h2 := HL.out; simp at this; omega
                have hzl2 : z2.length = N - 20 := by have := p3.length_eq; have h2 := HL.out; simp at this; omega
                have := symMerge_any hT HT.out cap N HN.out N 0 20 N [] z z2 [] wr (by omega) (by simp; omega) rfl (by omega) (by omega) (by omega) (by omega) p2 p4
                  (fun u hu v hv => HS2.out.2.2 u (p1.mem_iff.1 hu) v (p3.mem_iff.1 hv)) (by simpa using h)
                refine this.mono ?_
                rintro e w' ⟨rfl, zz, r1, r2, r3⟩
                refine ⟨rfl, zz, r1.trans ((p1.append p3).trans (by rw [List.take_append_drop])), r2, r3⟩)
              clear S2
              go_wp2_with fail
              refine HC.out.mono ?_
              rintro e w3 ⟨rfl, h⟩
              have S3 : Aside (MergePost enc R w0 blk off ([] : List α) l ([] : List α) (.returned (.tuple #[])) w3) := ⟨rfl, h⟩
              clear h HC
              go_wp2_with fail
              go_roundg 0
              case measure => omega
              case rel => exact Or.inr ⟨rfl, S3⟩
          · have hz3 : ¬ (20 : Int) < (N : Int) := by omega
            have HF := Lib.hid (show MergePost enc R w0 blk off ([] : List α) l ([] : List α) (.returned (.tuple #[])) wr from by
              obtain ⟨z, z2, p1, p2, p3, p4, h⟩ := S2
              have hl := HL.out
              have hd : l.drop 20 = [] := List.drop_eq_nil_of_le (by omega)
              have ht : l.take 20 = l := List.take_of_length_le (by omega)
              rw [hd] at p3
              rw [ht] at p1
              obtain rfl : z2 = [] := p3.eq_nil
              exact ⟨rfl, z, p1, p2, by simpa using h⟩)
            clear S2
            go_wp2_with fail
            go_end0
            exact HF.out
        · have hz3 : ¬ (40 : Int) < (N : Int) := by omega
          go_wp2_with fail
          go_end0
          exact S2.out
set_option maxHeartbeats 1600000 in
theorem sortStable_any {enc : α → Value} {cf : α → α → Int} {R : α → α → Prop} (hT : ∀ x y z, R x y → R y z → R x z) {g : Nat} {cb : Array Value} {blk off : Nat} {d0 : Array α} {w0 : World} (T : Srt enc cf g cb blk off d0 w0) (cap N : Nat) (l : List α) (w : World)
    (hN : N = d0.size) (hl : l.length = N) (h39 : N ≤ 39) (hs : l.Pairwise (Cr (ltOf cf) R)) (S : SL enc w0 blk off l w) :
    Calls Try.prog 35 #[.slice (some ⟨blk, off, none⟩) N cap, .func (.func g) #[] cb] w (MergePost enc R w0 blk off ([] : List α) l ([] : List α)) := by
  have HC := Lib.hid (stable_any hT T cap N l w hN hl h39 hs S)
  clear T hs S hN hl
  generalize hQ : MergePost enc R w0 blk off ([] : List α) l ([] : List α) = Q at *
  go_enter Try.func35, Try.ntmps35
  go_wp2_with fail
  refine HC.out.mono ?_
  intro e w2 h
  have he : e = .returned (.tuple #[]) := by rw [← hQ] at h; exact h.1
  have HH := Lib.hid h
  clear h HC
  subst he
  go_wp2_with fail
  go_end0
  exact HH.out
end Go.Proofs.Ytknkgcphamhjlaa
