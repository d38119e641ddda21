/-
  Stage 16: the library's merging of two sorted pieces that lie side by side, in place.
-/
import Derived.Test.YtknkgcphamhjlaaARot
set_option linter.unusedSimpArgs false
set_option linter.unusedVariables false
namespace Go.Proofs.Ytknkgcphamhjlaa
open Go.RowKit Go.Lib Go.Sort Go.Shelf

variable {α : Type} [Inhabited α]
/-- What merging leaves. -/
def MergePost (enc : α → Value) (R : α → α → Prop) (w0 : World) (blk off : Nat) (p xy q : List α) (e : Ending) (w' : World) : Prop :=
  e = .returned (.tuple #[]) ∧ ∃ z, z.Perm xy ∧ z.Pairwise R ∧ SL enc w0 blk off (p ++ (z ++ q)) w'
/-- The call of merging, for pieces of at most K. -/
def MergeSays (enc : α → Value) (cf : α → α → Int) (R : α → α → Prop) (g : Nat) (cb : Array Value) (blk off : Nat) (w0 : World) (cap N K : Nat) : Prop :=
  ∀ (a m b : Nat) (p x y q : List α) (w : World), x.length + y.length ≤ K → (p ++ (x ++ (y ++ q))).length = N → a = p.length → m = a + x.length → b = m + y.length → 0 < x.length → 0 < y.length →
    x.Pairwise R → y.Pairwise R → (∀ u ∈ x, ∀ v ∈ y, Cr (ltOf cf) R u v) → SL enc w0 blk off (p ++ (x ++ (y ++ q))) w →
    Calls Try.prog 49 #[.slice (some ⟨blk, off, none⟩) N cap, .int .i64 (a : Int), .int .i64 (m : Int), .int .i64 (b : Int), .func (.func g) #[] cb] w (MergePost enc R w0 blk off p (x ++ y) q)
/-- How the bounds stand to the pivot: what lies just ahead of i comes before it, what lies at j comes behind. -/
def Bnds (R : α → α → Prop) (dj : Array α) (e : α) (lo i j hi : Nat) : Prop := (lo < i → R dj[i - 1]! e) ∧ (j < hi → R e dj[j]!)
set_option maxHeartbeats 16000000 in
set_option maxRecDepth 1000000 in
/-- One element on the left. -/
theorem merge_left {enc : α → Value} {cf : α → α → Int} {R : α → α → Prop} (hT : ∀ x y z, R x y → R y z → R x z) {g : Nat} {cb : Array Value} {blk off : Nat} {d0 : Array α} {w0 : World} (T : Srt enc cf g cb blk off d0 w0) (cap N a m b : Nat) (p y q : List α) (e : α) (w : World)
    (hN : N = d0.size) (hl : (p ++ ([e] ++ (y ++ q))).length = N) (ha : a = p.length) (hm : m = a + 1) (hb : b = m + y.length)
    (sy : y.Pairwise R) (hc : ∀ v ∈ y, Cr (ltOf cf) R e v) (S : SL enc w0 blk off (p ++ ([e] ++ (y ++ q))) w) :
    Calls Try.prog 49 #[.slice (some ⟨blk, off, none⟩) N cap, .int .i64 (a : Int), .int .i64 (m : Int), .int .i64 (b : Int), .func (.func g) #[] cb] w (MergePost enc R w0 blk off p ([e] ++ y) q) := by
  have RW := T.row
  have HC : Aside _ := T.cmp
  have hs := T.small
  have eg := T.ent
  have hcl0 := RW.hO.cells
  simp only [Value.cells] at hcl0
  have hst := RW.hO.store Try.prog
  have mixed : Try.prog.follows .mixedOrders = true := by kernel_rfl
  obtain ⟨dj, hdj⟩ : ∃ d, d = (p ++ ([e] ++ (y ++ q))).toArray := ⟨_, rfl⟩
  have S0 : Aside (SW enc w0 blk off dj w) := by rw [hdj]; exact S
  have HSZ := Lib.hid (show dj.size = N by rw [hdj]; simpa using hl)
  have HDS := Lib.hid (show dj.size = d0.size from HSZ.out.trans hN)
  have HE := Lib.hid (show dj[a]! = e by rw [hdj]; exact get_cut p (y ++ q) e a ha)
  have HMEM := Lib.hid (show ∀ h, m ≤ h → h < b → Cr (ltOf cf) R e dj[h]! from fun h h1 h2 => hc _ (by
    rw [hdj]
    have := mem_at (p ++ [e]) q y h (by simp; omega) (by simp; omega)
    simpa using this))
  have hN1 : N ≤ 1000000 := by omega
  have hbN : b ≤ N := by simp at hl; omega
  have HDJ := Lib.hid hdj
  have HA := Lib.hid ha
  have HM := Lib.hid hm
  have HB := Lib.hid hb
  have HN := Lib.hid hN
  have HL := Lib.hid hl
  have HSY := Lib.hid sy
  have ham : (m : Int) - (a : Int) = 1 := by omega
  have hamw : a < m := by omega
  have hmb : m ≤ b := by omega
  clear S T hs hN hl ha hm hb hdj hc sy
  go_enter Try.func49, Try.ntmps49
  go_wp2_with fail
  clear ham
  go_loopg [10, 11] (b - m) (fun g1 vi vj wr => ∃ (i j : Nat), vi = .int .i64 (i : Int) ∧ vj = .int .i64 (j : Int) ∧ m ≤ i ∧ i ≤ j ∧ j ≤ b ∧ j - i ≤ g1 ∧ Aside (SW enc w0 blk off dj wr) ∧ Hid (Bnds R dj e m i j b))
  case atStart => exact ⟨m, b, rfl, rfl, Nat.le_refl _, hmb, Nat.le_refl _, Nat.le_refl _, S0, Lib.hid ⟨fun h => absurd h (Nat.lt_irrefl _), fun h => absurd h (Nat.lt_irrefl _)⟩⟩
  case round =>
    clear S0
    obtain ⟨i, j, rfl, rfl, hmi, hij, hjb, hg1, SJ, HBD⟩ := hrel
    by_cases hlt : i < j
    · have hltz : (i : Int) < (j : Int) := by omega
      obtain ⟨h, hh⟩ : ∃ h, h = (i + j) / 2 := ⟨_, rfl⟩
      have hh1 : i ≤ h := by omega
      have hh2 : h < j := by omega
      have eh : ((i : Int) + (j : Int)) / 2 = (h : Int) := by omega
      have HEH := Lib.hid eh
      clear eh hh
      go_upto_region 5 with fail
      rw [HEH.out]
      clear HEH
      cases hlv : ltOf cf dj[h]! dj[a]! with
      | true =>
        have HB2 := Lib.hid (show Bnds R dj e m (h + 1) j b from ⟨fun _ => (HMEM.out h (by omega) (by omega)).1 (by rw [← HE.out]; exact hlv), HBD.out.2⟩)
        obtain ⟨iN, hiN⟩ : ∃ q, q = h := ⟨_, rfl⟩
        obtain ⟨jN, hjN⟩ : ∃ q, q = a := ⟨_, rfl⟩
        have eA : ((h : Int)).toNat = iN := by omega
        have pA : (0 : Int) ≤ (h : Int) := by omega
        have bA : (h : Int) < (N : Int) := by omega
        have rA : IntKind.i64.wrap ((h : Int)) = (h : Int) := by rw [IntKind.wrap_i64]; omega
        have eC : ((a : Int)).toNat = jN := by omega
        have pC : (0 : Int) ≤ (a : Int) := by omega
        have bC : (a : Int) < (N : Int) := by omega
        have rC : IntKind.i64.wrap ((a : Int)) = (a : Int) := by rw [IntKind.wrap_i64]; omega
        obtain ⟨xx, hxx⟩ : ∃ z, z = dj[h]! := ⟨_, rfl⟩
        obtain ⟨yy, hyy⟩ : ∃ z, z = dj[a]! := ⟨_, rfl⟩
        have la := SJ.out.cl RW HDS.out (h) (by rw [HSZ.out]; omega)
        have lb := SJ.out.cl RW HDS.out (a) (by rw [HSZ.out]; omega)
        rw [← hxx, ← hiN] at la
        rw [← hyy, ← hjN] at lb
        have hcm := SJ.out.cmp HC.out HDS.out xx yy
        have hv : cf xx yy < 0 := by rw [hxx, hyy]; exact of_decide_eq_true hlv
        have hd : decide (cf xx yy < 0) = true := decide_eq_true hv
        clear hxx hyy hiN hjN hlv
        go_quiet_grown (first | (go_at_fn g; refine Calls.grown_of (hcm _ _)))
        have S2 : Aside (SW enc w0 blk off dj (grow (wr.drewN nq) osq)) := SJ.out.grown nq osq
        clear la lb hcm SJ
        generalize grow (wr.drewN nq) osq = w2 at S2 ⊢
        clear nq osq
        clear eA eC
        go_wp2_with fail
        go_roundg (j - (h + 1))
        case measure => omega
        case rel => exact ⟨h + 1, j, by go_num, rfl, by omega, by omega, hjb, Nat.le_refl _, S2, HB2⟩
      | false =>
        have HB2 := Lib.hid (show Bnds R dj e m i h b from ⟨HBD.out.1, fun _ => (HMEM.out h (by omega) (by omega)).2 (by rw [← HE.out]; exact hlv)⟩)
        obtain ⟨iN, hiN⟩ : ∃ q, q = h := ⟨_, rfl⟩
        obtain ⟨jN, hjN⟩ : ∃ q, q = a := ⟨_, rfl⟩
        have eA : ((h : Int)).toNat = iN := by omega
        have pA : (0 : Int) ≤ (h : Int) := by omega
        have bA : (h : Int) < (N : Int) := by omega
        have rA : IntKind.i64.wrap ((h : Int)) = (h : Int) := by rw [IntKind.wrap_i64]; omega
        have eC : ((a : Int)).toNat = jN := by omega
        have pC : (0 : Int) ≤ (a : Int) := by omega
        have bC : (a : Int) < (N : Int) := by omega
        have rC : IntKind.i64.wrap ((a : Int)) = (a : Int) := by rw [IntKind.wrap_i64]; omega
        obtain ⟨xx, hxx⟩ : ∃ z, z = dj[h]! := ⟨_, rfl⟩
        obtain ⟨yy, hyy⟩ : ∃ z, z = dj[a]! := ⟨_, rfl⟩
        have la := SJ.out.cl RW HDS.out (h) (by rw [HSZ.out]; omega)
        have lb := SJ.out.cl RW HDS.out (a) (by rw [HSZ.out]; omega)
        rw [← hxx, ← hiN] at la
        rw [← hyy, ← hjN] at lb
        have hcm := SJ.out.cmp HC.out HDS.out xx yy
        have hv : ¬ cf xx yy < 0 := by rw [hxx, hyy]; exact of_decide_eq_false hlv
        have hd : decide (cf xx yy < 0) = false := decide_eq_false hv
        clear hxx hyy hiN hjN hlv
        go_quiet_grown (first | (go_at_fn g; refine Calls.grown_of (hcm _ _)))
        have S2 : Aside (SW enc w0 blk off dj (grow (wr.drewN nq) osq)) := SJ.out.grown nq osq
        clear la lb hcm SJ
        generalize grow (wr.drewN nq) osq = w2 at S2 ⊢
        clear nq osq
        clear eA eC
        go_wp2_with fail
        go_roundg (h - i)
        case measure => omega
        case rel => exact ⟨i, h, rfl, rfl, hmi, hh1, by omega, Nat.le_refl _, S2, HB2⟩
    · have hltz : ¬ (i : Int) < (j : Int) := by omega
      have hij' : i = j := by omega
      have HS := Lib.hid (show ∃ y1 y2, y = y1 ++ y2 ∧ a + 1 + y1.length = i ∧ (y1 ++ e :: y2).Pairwise R from by
        subst hij'
        have hcut : y = y.take (i - m) ++ y.drop (i - m) := (List.take_append_drop _ y).symm
        have h1 := HM.out
        have h2 := HB.out
        have ht : (y.take (i - m)).length = i - m := by rw [List.length_take]; omega
        refine ⟨_, _, hcut, by rw [ht]; omega, ins_one hT (by rw [← hcut]; exact HSY.out) (fun u hu => ?_) (fun v hv => ?_)⟩
        · have h3 : dj[i - 1]! = u := by
            rw [HDJ.out]
            have := last_at (p ++ [e]) (y.drop (i - m) ++ q) hu (i - 1) (by have := HA.out; simp; omega)
            rw [← this]
            congr 1
            try simp only [List.append_assoc]
            rw [← List.append_assoc (List.take _ _) (List.drop _ _), List.take_append_drop]
          have h4 : m < i := by
            rcases Nat.lt_or_ge m i with h | h
            · exact h
            · exfalso
              have : y.take (i - m) = [] := List.eq_nil_of_length_eq_zero (by omega)
              rw [this] at hu; simp at hu
          rw [← h3]; exact HBD.out.1 h4
        · have h3 : dj[i]! = v := by
            rw [HDJ.out]
            have := head_at (p ++ ([e] ++ y.take (i - m))) q hv i (by have := HA.out; simp; omega)
            rw [← this]
            congr 1
            try simp only [List.append_assoc]
            rw [← List.append_assoc (List.take _ _) (List.drop _ _), List.take_append_drop]
          have h4 : i < b := by
            rcases Nat.lt_or_ge i b with h | h
            · exact h
            · exfalso
              have : y.drop (i - m) = [] := List.eq_nil_of_length_eq_zero (by rw [List.length_drop]; omega)
              rw [this] at hv; simp at hv
          rw [← h3]; exact HBD.out.2 h4)
      obtain ⟨y1, y2, hy, hi, hp⟩ := HS.out
      have HY := Lib.hid hy
      have HI := Lib.hid hi
      have HP := Lib.hid hp
      have S1 : Aside (SL enc w0 blk off (p ++ ([] ++ ([e] ++ (y1 ++ (y2 ++ q))))) wr) := by
        have h1 := SJ.out
        rw [HDJ.out, hy] at h1
        show SL enc w0 blk off _ wr
        simpa using h1
      have h1i : 1 ≤ i := by omega
      have hib : i ≤ b := by omega
      clear HS hy hi hp HBD SJ hij' hij
      go_wp2_with fail
      go_loopg [13] (i - 1 - a) (fun g2 vk wr => ∃ (k : Nat), vk = .int .i64 (k : Int) ∧ a ≤ k ∧ k ≤ i - 1 ∧ i - 1 - k ≤ g2 ∧ Aside (∃ ya yb, y1 = ya ++ yb ∧ ya.length = k - a ∧ SL enc w0 blk off (p ++ (ya ++ ([e] ++ (yb ++ (y2 ++ q))))) wr))
      case atStart => exact ⟨a, rfl, Nat.le_refl _, by omega, Nat.le_refl _, ⟨[], y1, rfl, by simp, S1⟩⟩
      case round =>
        clear S1
        obtain ⟨k, rfl, hak, hki, hg2, SK⟩ := hrel
        by_cases hk : k < i - 1
        · have hkz : (k : Int) < (i : Int) - 1 := by omega
          obtain ⟨ya, yb, hy1, hya, S1⟩ := SK
          have hyb : ∃ v yc, yb = v :: yc := by
            cases yb with
            | nil => exfalso; have h1 := HI.out; rw [hy1] at h1; simp at h1; omega
            | cons v yc => exact ⟨v, yc, rfl⟩
          obtain ⟨v, yc, rfl⟩ := hyb
          obtain ⟨dk, hdk⟩ : ∃ d, d = (p ++ (ya ++ ([e] ++ (v :: yc ++ (y2 ++ q))))).toArray := ⟨_, rfl⟩
          have HKZ := Lib.hid (show dk.size = N by
            rw [hdk]; have h1 := HL.out; rw [HY.out, hy1] at h1; simp at h1 ⊢; omega)
          have HKS := Lib.hid (show dk.size = d0.size from HKZ.out.trans HN.out)
          have HSW := Lib.hid (show swp dk k (k + 1) = (p ++ ((ya ++ [v]) ++ ([e] ++ (yc ++ (y2 ++ q))))).toArray by
            rw [hdk]
            have h1 := HA.out
            have := swp_cut (p ++ ya) [] (yc ++ (y2 ++ q)) e v k (k + 1) (by simp; omega) (by simp; omega)
            simpa using this)
          have S2 : Aside (SW enc w0 blk off dk wr) := by rw [hdk]; exact S1
          have HNX := Lib.hid (show y1 = (ya ++ [v]) ++ yc ∧ (ya ++ [v]).length = k + 1 - a from ⟨by simp [hy1], by simp; omega⟩)
          clear hdk S1 hy1 hya
          obtain ⟨iN, hiN⟩ : ∃ z, z = k := ⟨_, rfl⟩
          obtain ⟨jN, hjN⟩ : ∃ z, z = k + 1 := ⟨_, rfl⟩
          have eA : ((k : Int)).toNat = iN := by omega
          have pA : (0 : Int) ≤ (k : Int) := by omega
          have bA : (k : Int) < (N : Int) := by omega
          have rA : IntKind.i64.wrap ((k : Int)) = (k : Int) := by rw [IntKind.wrap_i64]; omega
          have eC : ((k : Int) + 1).toNat = jN := by omega
          have pC : (0 : Int) ≤ (k : Int) + 1 := by omega
          have bC : (k : Int) + 1 < (N : Int) := by omega
          have rC : IntKind.i64.wrap ((k : Int) + 1) = (k : Int) + 1 := by rw [IntKind.wrap_i64]; omega
          obtain ⟨xx, hxx⟩ : ∃ z, z = dk[k]! := ⟨_, rfl⟩
          obtain ⟨yy, hyy⟩ : ∃ z, z = dk[k + 1]! := ⟨_, rfl⟩
          have S3 : Aside (SW enc w0 blk off (swp dk (k) (k + 1)) ((wr.setCell ⟨blk, off + iN, none⟩ (enc yy)).setCell ⟨blk, off + jN, none⟩ (enc xx)).drew) := by
            rw [hiN, hjN, hxx, hyy]; exact S2.out.swapped RW (k) (k + 1) (by rw [HKZ.out]; omega) (by rw [HKZ.out]; omega)
          have ca := S2.out.c1 RW HKS.out (k) (by rw [HKZ.out]; omega)
          have cb1 := S2.out.c1 RW HKS.out (k + 1) (by rw [HKZ.out]; omega)
          have fa := S2.out.f1 RW HKS.out (k) (by rw [HKZ.out]; omega)
          have fb := S2.out.f1 RW HKS.out (k + 1) (by rw [HKZ.out]; omega)
          obtain ⟨uu, cc⟩ := S2.out.c2 RW HKS.out (k) (k + 1) (by rw [HKZ.out]; omega) (by rw [HKZ.out]; omega) (enc yy)
          first | rw [← hjN, ← hiN] at cc | rw [← hiN, ← hjN] at cc
          rw [← hxx, ← hiN] at ca
          rw [← hyy, ← hjN] at cb1
          rw [← hiN] at fa
          rw [← hjN] at fb
          clear S2 hxx hyy hiN hjN
          go_wp2_with fail
          go_big_region_o
          clear ca cb1 cc fa fb
          generalize ((wr.setCell ⟨blk, off + iN, none⟩ (enc yy)).setCell ⟨blk, off + jN, none⟩ (enc xx)).drew = w3 at S3 ⊢
          rw [HSW.out] at S3
          clear eA eC
          go_wp2_with fail
          go_roundg (i - 1 - (k + 1))
          case measure => omega
          case rel => exact ⟨k + 1, by go_num, by omega, by omega, Nat.le_refl _, ⟨ya ++ [v], yc, HNX.out.1, HNX.out.2, S3⟩⟩
        · have hkz : ¬ (k : Int) < (i : Int) - 1 := by omega
          have HF := Lib.hid (show SL enc w0 blk off (p ++ ((y1 ++ e :: y2) ++ q)) wr from by
            obtain ⟨ya, yb, hy1, hya, S1⟩ := SK
            have h1 := HI.out
            rw [hy1] at h1
            simp at h1
            obtain rfl : yb = [] := List.eq_nil_of_length_eq_zero (by omega)
            rw [hy1]
            simpa using S1)
          clear SK
          go_wp2_with fail
          refine bodyPost_ret (results_none rfl _ _ _) rfl ?_
          exact ⟨rfl, y1 ++ e :: y2, by rw [HY.out]; exact List.perm_middle, HP.out, HF.out⟩
set_option maxHeartbeats 16000000 in
set_option maxRecDepth 1000000 in
/-- One element on the right. -/
theorem merge_right {enc : α → Value} {cf : α → α → Int} {R : α → α → Prop} (hT : ∀ x y z, R x y → R y z → R x z) {g : Nat} {cb : Array Value} {blk off : Nat} {d0 : Array α} {w0 : World} (T : Srt enc cf g cb blk off d0 w0) (cap N a m b : Nat) (p x q : List α) (e : α) (w : World)
    (hN : N = d0.size) (hl : (p ++ (x ++ ([e] ++ q))).length = N) (ha : a = p.length) (hm : m = a + x.length) (hb : b = m + 1) (hx1 : x.length ≠ 1)
    (sx : x.Pairwise R) (hc : ∀ u ∈ x, Cr (ltOf cf) R u e) (S : SL enc w0 blk off (p ++ (x ++ ([e] ++ q))) w) :
    Calls Try.prog 49 #[.slice (some ⟨blk, off, none⟩) N cap, .int .i64 (a : Int), .int .i64 (m : Int), .int .i64 (b : Int), .func (.func g) #[] cb] w (MergePost enc R w0 blk off p (x ++ [e]) q) := by
  have RW := T.row
  have HC : Aside _ := T.cmp
  have hs := T.small
  have eg := T.ent
  have hcl0 := RW.hO.cells
  simp only [Value.cells] at hcl0
  have hst := RW.hO.store Try.prog
  have mixed : Try.prog.follows .mixedOrders = true := by kernel_rfl
  obtain ⟨dj, hdj⟩ : ∃ d, d = (p ++ (x ++ ([e] ++ q))).toArray := ⟨_, rfl⟩
  have S0 : Aside (SW enc w0 blk off dj w) := by rw [hdj]; exact S
  have HSZ := Lib.hid (show dj.size = N by rw [hdj]; simpa using hl)
  have HDS := Lib.hid (show dj.size = d0.size from HSZ.out.trans hN)
  have HE := Lib.hid (show dj[m]! = e by
    rw [hdj]
    have := get_cut (p ++ x) q e m (by simp; omega)
    simpa using this)
  have HMEM := Lib.hid (show ∀ h, a ≤ h → h < m → Cr (ltOf cf) R dj[h]! e from fun h h1 h2 => hc _ (by
    rw [hdj]
    exact mem_at p ([e] ++ q) x h (by omega) (by omega)))
  have hN1 : N ≤ 1000000 := by omega
  have hbN : b ≤ N := by simp at hl; omega
  have HDJ := Lib.hid hdj
  have HA := Lib.hid ha
  have HM := Lib.hid hm
  have HB := Lib.hid hb
  have HN := Lib.hid hN
  have HL := Lib.hid hl
  have HSX := Lib.hid sx
  have ham : ((m : Int) - (a : Int) == 1) = false := by simp; omega
  have hbm : (b : Int) - (m : Int) = 1 := by omega
  have hamw : a ≤ m := by omega
  have hmb : m < b := by omega
  clear S T hs hN hl ha hm hb hdj hc sx hx1
  go_enter Try.func49, Try.ntmps49
  go_wp2_with fail
  clear ham hbm
  go_loopg [14, 15] (m - a) (fun g1 vi vj wr => ∃ (i j : Nat), vi = .int .i64 (i : Int) ∧ vj = .int .i64 (j : Int) ∧ a ≤ i ∧ i ≤ j ∧ j ≤ m ∧ j - i ≤ g1 ∧ Aside (SW enc w0 blk off dj wr) ∧ Hid (Bnds R dj e a i j m))
  case atStart => exact ⟨a, m, rfl, rfl, Nat.le_refl _, hamw, Nat.le_refl _, Nat.le_refl _, S0, Lib.hid ⟨fun h => absurd h (Nat.lt_irrefl _), fun h => absurd h (Nat.lt_irrefl _)⟩⟩
  case round =>
    clear S0
    obtain ⟨i, j, rfl, rfl, hmi, hij, hjb, hg1, SJ, HBD⟩ := hrel
    by_cases hlt : i < j
    · have hltz : (i : Int) < (j : Int) := by omega
      obtain ⟨h, hh⟩ : ∃ h, h = (i + j) / 2 := ⟨_, rfl⟩
      have hh1 : i ≤ h := by omega
      have hh2 : h < j := by omega
      have eh : ((i : Int) + (j : Int)) / 2 = (h : Int) := by omega
      have HEH := Lib.hid eh
      clear eh hh
      go_upto_region 17 with fail
      rw [HEH.out]
      clear HEH
      cases hlv : ltOf cf dj[m]! dj[h]! with
      | true =>
        have HB2 := Lib.hid (show Bnds R dj e a i h m from ⟨HBD.out.1, fun _ => (HMEM.out h (by omega) (by omega)).1 (by rw [← HE.out]; exact hlv)⟩)
        obtain ⟨iN, hiN⟩ : ∃ q, q = m := ⟨_, rfl⟩
        obtain ⟨jN, hjN⟩ : ∃ q, q = h := ⟨_, rfl⟩
        have eA : ((m : Int)).toNat = iN := by omega
        have pA : (0 : Int) ≤ (m : Int) := by omega
        have bA : (m : Int) < (N : Int) := by omega
        have rA : IntKind.i64.wrap ((m : Int)) = (m : Int) := by rw [IntKind.wrap_i64]; omega
        have eC : ((h : Int)).toNat = jN := by omega
        have pC : (0 : Int) ≤ (h : Int) := by omega
        have bC : (h : Int) < (N : Int) := by omega
        have rC : IntKind.i64.wrap ((h : Int)) = (h : Int) := by rw [IntKind.wrap_i64]; omega
        obtain ⟨xx, hxx⟩ : ∃ z, z = dj[m]! := ⟨_, rfl⟩
        obtain ⟨yy, hyy⟩ : ∃ z, z = dj[h]! := ⟨_, rfl⟩
        have la := SJ.out.cl RW HDS.out (m) (by rw [HSZ.out]; omega)
        have lb := SJ.out.cl RW HDS.out (h) (by rw [HSZ.out]; omega)
        rw [← hxx, ← hiN] at la
        rw [← hyy, ← hjN] at lb
        have hcm := SJ.out.cmp HC.out HDS.out xx yy
        have hv : cf xx yy < 0 := by rw [hxx, hyy]; exact of_decide_eq_true hlv
        have hd : decide (cf xx yy < 0) = true := decide_eq_true hv
        clear hxx hyy hiN hjN hlv
        go_quiet_grown (first | (go_at_fn g; refine Calls.grown_of (hcm _ _)))
        have S2 : Aside (SW enc w0 blk off dj (grow (wr.drewN nq) osq)) := SJ.out.grown nq osq
        clear la lb hcm SJ
        generalize grow (wr.drewN nq) osq = w2 at S2 ⊢
        clear nq osq
        clear eA eC
        go_wp2_with fail
        go_roundg (h - i)
        case measure => omega
        case rel => exact ⟨i, h, rfl, rfl, hmi, hh1, by omega, Nat.le_refl _, S2, HB2⟩
      | false =>
        have HB2 := Lib.hid (show Bnds R dj e a (h + 1) j m from ⟨fun _ => (HMEM.out h (by omega) (by omega)).2 (by rw [← HE.out]; exact hlv), HBD.out.2⟩)
        obtain ⟨iN, hiN⟩ : ∃ q, q = m := ⟨_, rfl⟩
        obtain ⟨jN, hjN⟩ : ∃ q, q = h := ⟨_, rfl⟩
        have eA : ((m : Int)).toNat = iN := by omega
        have pA : (0 : Int) ≤ (m : Int) := by omega
        have bA : (m : Int) < (N : Int) := by omega
        have rA : IntKind.i64.wrap ((m : Int)) = (m : Int) := by rw [IntKind.wrap_i64]; omega
        have eC : ((h : Int)).toNat = jN := by omega
        have pC : (0 : Int) ≤ (h : Int) := by omega
        have bC : (h : Int) < (N : Int) := by omega
        have rC : IntKind.i64.wrap ((h : Int)) = (h : Int) := by rw [IntKind.wrap_i64]; omega
        obtain ⟨xx, hxx⟩ : ∃ z, z = dj[m]! := ⟨_, rfl⟩
        obtain ⟨yy, hyy⟩ : ∃ z, z = dj[h]! := ⟨_, rfl⟩
        have la := SJ.out.cl RW HDS.out (m) (by rw [HSZ.out]; omega)
        have lb := SJ.out.cl RW HDS.out (h) (by rw [HSZ.out]; omega)
        rw [← hxx, ← hiN] at la
        rw [← hyy, ← hjN] at lb
        have hcm := SJ.out.cmp HC.out HDS.out xx yy
        have hv : ¬ cf xx yy < 0 := by rw [hxx, hyy]; exact of_decide_eq_false hlv
        have hd : decide (cf xx yy < 0) = false := decide_eq_false hv
        clear hxx hyy hiN hjN hlv
        go_quiet_grown (first | (go_at_fn g; refine Calls.grown_of (hcm _ _)))
        have S2 : Aside (SW enc w0 blk off dj (grow (wr.drewN nq) osq)) := SJ.out.grown nq osq
        clear la lb hcm SJ
        generalize grow (wr.drewN nq) osq = w2 at S2 ⊢
        clear nq osq
        clear eA eC
        go_wp2_with fail
        go_roundg (j - (h + 1))
        case measure => omega
        case rel => exact ⟨h + 1, j, by go_num, rfl, by omega, by omega, hjb, Nat.le_refl _, S2, HB2⟩
    · have hltz : ¬ (i : Int) < (j : Int) := by omega
      have hij' : i = j := by omega
      have HS := Lib.hid (show ∃ x1 x2, x = x1 ++ x2 ∧ a + x1.length = i ∧ (x1 ++ e :: x2).Pairwise R from by
        subst hij'
        have hcut : x = x.take (i - a) ++ x.drop (i - a) := (List.take_append_drop _ x).symm
        have h1 := HM.out
        have h2 := HB.out
        have ht : (x.take (i - a)).length = i - a := by rw [List.length_take]; omega
        refine ⟨_, _, hcut, by rw [ht]; omega, ins_one hT (by rw [← hcut]; exact HSX.out) (fun u hu => ?_) (fun v hv => ?_)⟩
        · have h3 : dj[i - 1]! = u := by
            rw [HDJ.out]
            have := last_at p (x.drop (i - a) ++ ([e] ++ q)) hu (i - 1) (by have := HA.out; omega)
            rw [← this]
            congr 1
            try simp only [List.append_assoc]
            rw [← List.append_assoc (List.take _ _) (List.drop _ _), List.take_append_drop]
          have h4 : a < i := by
            rcases Nat.lt_or_ge a i with h | h
            · exact h
            · exfalso
              have : x.take (i - a) = [] := List.eq_nil_of_length_eq_zero (by omega)
              rw [this] at hu; simp at hu
          rw [← h3]; exact HBD.out.1 h4
        · have h3 : dj[i]! = v := by
            rw [HDJ.out]
            have := head_at (p ++ x.take (i - a)) ([e] ++ q) hv i (by have := HA.out; simp; omega)
            rw [← this]
            congr 1
            try simp only [List.append_assoc]
            rw [← List.append_assoc (List.take _ _) (List.drop _ _), List.take_append_drop]
          have h4 : i < m := by
            rcases Nat.lt_or_ge i m with h | h
            · exact h
            · exfalso
              have : x.drop (i - a) = [] := List.eq_nil_of_length_eq_zero (by rw [List.length_drop]; omega)
              rw [this] at hv; simp at hv
          rw [← h3]; exact HBD.out.2 h4)
      obtain ⟨x1, x2, hy, hi, hp⟩ := HS.out
      have HY := Lib.hid hy
      have HI := Lib.hid hi
      have HP := Lib.hid hp
      have S1 : Aside (SL enc w0 blk off (p ++ (x1 ++ (x2 ++ ([e] ++ ([] ++ q))))) wr) := by
        have h1 := SJ.out
        rw [HDJ.out, hy] at h1
        show SL enc w0 blk off _ wr
        simpa using h1
      have hmi2 : i ≤ m := by omega
      have HMX := Lib.hid (show i + x2.length = m by have h1 := HM.out; rw [hy] at h1; simp at h1; omega)
      clear HS hy hi hp HBD SJ hij' hij
      go_wp2_with fail
      go_loopg [17] (m - i) (fun g2 vk wr => ∃ (k : Nat), vk = .int .i64 (k : Int) ∧ i ≤ k ∧ k ≤ m ∧ k - i ≤ g2 ∧ Aside (∃ xa xb, x2 = xa ++ xb ∧ i + xa.length = k ∧ SL enc w0 blk off (p ++ (x1 ++ (xa ++ ([e] ++ (xb ++ q))))) wr))
      case atStart => exact ⟨m, rfl, hmi2, Nat.le_refl _, Nat.le_refl _, ⟨x2, [], by simp, HMX.out, S1⟩⟩
      case round =>
        clear S1
        obtain ⟨k, rfl, hak, hki, hg2, SK⟩ := hrel
        by_cases hk : i < k
        · have hkz : (i : Int) < (k : Int) := by omega
          obtain ⟨xa, xb, hy1, hya, S1⟩ := SK
          have hxa : ∃ xc v, xa = xc ++ [v] := by
            rcases List.eq_nil_or_concat xa with rfl | ⟨xc, v, rfl⟩
            · simp at hya; omega
            · exact ⟨xc, v, List.concat_eq_append⟩
          obtain ⟨xc, v, rfl⟩ := hxa
          obtain ⟨kp, hkp⟩ : ∃ kp, kp + 1 = k := ⟨k - 1, by omega⟩
          subst hkp
          have ekp : (((kp + 1 : Nat) : Int)) = (kp : Int) + 1 := by omega
          obtain ⟨dk, hdk⟩ : ∃ d, d = (p ++ (x1 ++ ((xc ++ [v]) ++ ([e] ++ (xb ++ q))))).toArray := ⟨_, rfl⟩
          have HKZ := Lib.hid (show dk.size = N by
            rw [hdk]; have h1 := HL.out; rw [HY.out, hy1] at h1; simp at h1 ⊢; omega)
          have HKS := Lib.hid (show dk.size = d0.size from HKZ.out.trans HN.out)
          have HSW := Lib.hid (show swp dk (kp + 1) kp = (p ++ (x1 ++ (xc ++ ([e] ++ ((v :: xb) ++ q))))).toArray by
            rw [hdk]
            have h1 := HA.out
            have h2 := HI.out
            simp at hya
            have := swp_cut' (p ++ (x1 ++ xc)) [] (xb ++ q) v e kp (kp + 1) (by simp; omega) (by simp; omega)
            simpa using this)
          have S2 : Aside (SW enc w0 blk off dk wr) := by rw [hdk]; exact S1
          have HNX := Lib.hid (show x2 = xc ++ (v :: xb) ∧ i + xc.length = kp from ⟨by simp [hy1], by simp at hya; omega⟩)
          clear hdk S1 hy1 hya
          obtain ⟨iN, hiN⟩ : ∃ z, z = kp + 1 := ⟨_, rfl⟩
          obtain ⟨jN, hjN⟩ : ∃ z, z = kp := ⟨_, rfl⟩
          have eA : ((kp : Int) + 1).toNat = iN := by omega
          have pA : (0 : Int) ≤ (kp : Int) + 1 := by omega
          have bA : (kp : Int) + 1 < (N : Int) := by omega
          have rA : IntKind.i64.wrap ((kp : Int) + 1) = (kp : Int) + 1 := by rw [IntKind.wrap_i64]; omega
          have eC : ((kp : Int)).toNat = jN := by omega
          have pC : (0 : Int) ≤ (kp : Int) := by omega
          have bC : (kp : Int) < (N : Int) := by omega
          have rC : IntKind.i64.wrap ((kp : Int)) = (kp : Int) := by rw [IntKind.wrap_i64]; omega
          obtain ⟨xx, hxx⟩ : ∃ z, z = dk[kp + 1]! := ⟨_, rfl⟩
          obtain ⟨yy, hyy⟩ : ∃ z, z = dk[kp]! := ⟨_, rfl⟩
          have S3 : Aside (SW enc w0 blk off (swp dk (kp + 1) (kp)) ((wr.setCell ⟨blk, off + iN, none⟩ (enc yy)).setCell ⟨blk, off + jN, none⟩ (enc xx)).drew) := by
            rw [hiN, hjN, hxx, hyy]; exact S2.out.swapped RW (kp + 1) (kp) (by rw [HKZ.out]; omega) (by rw [HKZ.out]; omega)
          have ca := S2.out.c1 RW HKS.out (kp + 1) (by rw [HKZ.out]; omega)
          have cb1 := S2.out.c1 RW HKS.out (kp) (by rw [HKZ.out]; omega)
          have fa := S2.out.f1 RW HKS.out (kp + 1) (by rw [HKZ.out]; omega)
          have fb := S2.out.f1 RW HKS.out (kp) (by rw [HKZ.out]; omega)
          obtain ⟨uu, cc⟩ := S2.out.c2 RW HKS.out (kp + 1) (kp) (by rw [HKZ.out]; omega) (by rw [HKZ.out]; omega) (enc yy)
          first | rw [← hjN, ← hiN] at cc | rw [← hiN, ← hjN] at cc
          rw [← hxx, ← hiN] at ca
          rw [← hyy, ← hjN] at cb1
          rw [← hiN] at fa
          rw [← hjN] at fb
          clear S2 hxx hyy hiN hjN
          go_wp2_with fail
          go_big_region_o
          clear ca cb1 cc fa fb
          generalize ((wr.setCell ⟨blk, off + iN, none⟩ (enc yy)).setCell ⟨blk, off + jN, none⟩ (enc xx)).drew = w3 at S3 ⊢
          rw [HSW.out] at S3
          clear eA eC
          go_wp2_with fail
          go_roundg (kp - i)
          case measure => omega
          case rel => exact ⟨kp, by first | rfl | go_num | (congr 1; omega), by omega, by omega, Nat.le_refl _, ⟨xc, v :: xb, HNX.out.1, HNX.out.2, S3⟩⟩
        · have hkz : ¬ (i : Int) < (k : Int) := by omega
          have HF := Lib.hid (show SL enc w0 blk off (p ++ ((x1 ++ e :: x2) ++ q)) wr from by
            obtain ⟨xa, xb, hy1, hya, S1⟩ := SK
            obtain rfl : xa = [] := List.eq_nil_of_length_eq_zero (by omega)
            rw [hy1]
            simpa using S1)
          clear SK
          go_wp2_with fail
          refine bodyPost_ret (results_none rfl _ _ _) rfl ?_
          exact ⟨rfl, x1 ++ e :: x2, by rw [HY.out]; simpa using (List.perm_middle (l₁ := x1) (l₂ := x2) (a := e)).trans (by rw [← List.append_assoc]; exact (List.perm_append_comm (l₁ := [e]) (l₂ := x1 ++ x2))), HP.out, HF.out⟩
end Go.Proofs.Ytknkgcphamhjlaa
