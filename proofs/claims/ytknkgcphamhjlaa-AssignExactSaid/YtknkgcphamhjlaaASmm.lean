/-
  Stage 16: the library's merging of two sorted pieces that lie side by side, in place: cut, turn, and merge both halves.
-/
import Derived.Test.YtknkgcphamhjlaaASym
set_option linter.unusedSimpArgs false
set_option linter.unusedVariables false
namespace Go.Proofs.Ytknkgcphamhjlaa
open Go.RowKit Go.Lib Go.Sort Go.Shelf

variable {α : Type} [Inhabited α]
/-- Where the search begins and ends. -/
def Rg (a m b mid n s0 r0 : Nat) : Prop := (mid < m ∧ s0 + b = n ∧ r0 = mid) ∨ (m ≤ mid ∧ s0 = a ∧ r0 = m)
def Cross (R : α → α → Prop) (dj : Array α) (n s0 s r r0 : Nat) : Prop := (s0 < s → R dj[s - 1]! dj[n - s]!) ∧ (r < r0 → R dj[n - 1 - r]! dj[r]!)
/-- Both pieces, cut. -/
structure Cuts (R : α → α → Prop) (a m s en : Nat) (x y x1 x2 y1 y2 : List α) : Prop where
  ex : x = x1 ++ x2
  ey : y = y1 ++ y2
  lx : a + x1.length = s
  ly : m + y1.length = en
  h1 : ∀ u v, x1.getLast? = some u → y2.head? = some v → R u v
  h2 : ∀ u v, y1.getLast? = some u → x2.head? = some v → R u v
theorem cuts_of {R : α → α → Prop} {a m b mid n s0 s r0 : Nat} {p x y q : List α} (hmid : mid = (a + b) / 2) (hn : n = mid + m) (hg : Rg a m b mid n s0 r0) (h1 : s0 ≤ s) (h2 : s ≤ r0) (hc : Cross R (p ++ (x ++ (y ++ q))).toArray n s0 s s r0)
    (ha : a = p.length) (hm : m = a + x.length) (hb : b = m + y.length) (hx : 0 < x.length) (hy : 0 < y.length) : ∃ x1 x2 y1 y2, Cuts R a m s (n - s) x y x1 x2 y1 y2 := by
  have b1 : a ≤ s ∧ s ≤ m ∧ m ≤ n - s ∧ n - s ≤ b ∧ s ≤ n := by rcases hg with ⟨g1, g2, g3⟩ | ⟨g1, g2, g3⟩ <;> omega
  have cx : x = x.take (s - a) ++ x.drop (s - a) := (List.take_append_drop _ x).symm
  have cy : y = y.take (n - s - m) ++ y.drop (n - s - m) := (List.take_append_drop _ y).symm
  have tx : (x.take (s - a)).length = s - a := by rw [List.length_take]; omega
  have ty : (y.take (n - s - m)).length = n - s - m := by rw [List.length_take]; omega
  have dx : (x.drop (s - a)).length = m - s := by rw [List.length_drop]; omega
  have dy : (y.drop (n - s - m)).length = b - (n - s) := by rw [List.length_drop]; omega
  generalize x.take (s - a) = x1 at *
  generalize x.drop (s - a) = x2 at *
  generalize y.take (n - s - m) = y1 at *
  generalize y.drop (n - s - m) = y2 at *
  subst cx; subst cy
  have nz : ∀ {l : List α} {z : α}, l.getLast? = some z → 0 < l.length := fun {l z} h => by
    cases l with
    | nil => simp at h
    | cons _ _ => simp
  have nz' : ∀ {l : List α} {z : α}, l.head? = some z → 0 < l.length := fun {l z} h => by
    cases l with
    | nil => simp at h
    | cons _ _ => simp
  refine ⟨x1, x2, y1, y2, rfl, rfl, by omega, by omega, fun u v hu hv => ?_, fun u v hu hv => ?_⟩
  · have l1 := nz hu
    have l2 := nz' hv
    have e1 : (p ++ (x1 ++ x2 ++ (y1 ++ y2 ++ q))).toArray[s - 1]! = u := by
      have := last_at p (x2 ++ (y1 ++ y2 ++ q)) hu (s - 1) (by omega)
      simpa using this
    have e2 : (p ++ (x1 ++ x2 ++ (y1 ++ y2 ++ q))).toArray[n - s]! = v := by
      have := head_at (p ++ (x1 ++ x2) ++ y1) q hv (n - s) (by simp at hm ⊢; omega)
      simpa using this
    have := hc.1 (by rcases hg with ⟨g1, g2, g3⟩ | ⟨g1, g2, g3⟩ <;> omega)
    rw [e1, e2] at this
    exact this
  · have l1 := nz hu
    have l2 := nz' hv
    have e1 : (p ++ (x1 ++ x2 ++ (y1 ++ y2 ++ q))).toArray[n - 1 - s]! = u := by
      have := last_at (p ++ (x1 ++ x2)) (y2 ++ q) hu (n - 1 - s) (by simp at hm ⊢; omega)
      simpa using this
    have e2 : (p ++ (x1 ++ x2 ++ (y1 ++ y2 ++ q))).toArray[s]! = v := by
      have := head_at (p ++ x1) (y1 ++ y2 ++ q) hv s (by simp; omega)
      simpa using this
    have := hc.2 (by rcases hg with ⟨g1, g2, g3⟩ | ⟨g1, g2, g3⟩ <;> omega)
    rw [e1, e2] at this
    exact this
/-- A piece that is merged, or needs no merging. -/
def Half (enc : α → Value) (R : α → α → Prop) (w0 : World) (blk off : Nat) (p xy q : List α) (w' : World) : Prop := ∃ z, z.Perm xy ∧ z.Pairwise R ∧ SL enc w0 blk off (p ++ (z ++ q)) w'
set_option maxHeartbeats 16000000 in
set_option maxRecDepth 1000000 in
theorem merge_mid {enc : α → Value} {cf : α → α → Int} {R : α → α → Prop} (hT : ∀ x y z, R x y → R y z → R x z) {g : Nat} {cb : Array Value} {blk off : Nat} {d0 : Array α} {w0 : World} (T : Srt enc cf g cb blk off d0 w0) (cap N K a m b : Nat) (p x y q : List α) (w : World) (IH : MergeSays enc cf R g cb blk off w0 cap N K)
    (hK : x.length + y.length ≤ K + 1) (hN : N = d0.size) (hl : (p ++ (x ++ (y ++ q))).length = N) (ha : a = p.length) (hm : m = a + x.length) (hb : b = m + y.length) (hx : 0 < x.length) (hy : 0 < y.length) (hx1 : x.length ≠ 1) (hy1 : y.length ≠ 1)
    (sx : x.Pairwise R) (sy : y.Pairwise R) (hc : ∀ u ∈ x, ∀ v ∈ y, Cr (ltOf cf) R u v) (S : SL enc w0 blk off (p ++ (x ++ (y ++ q))) w) :
    Calls Try.prog 49 #[.slice (some ⟨blk, off, none⟩) N cap, .int .i64 (a : Int), .int .i64 (m : Int), .int .i64 (b : Int), .func (.func g) #[] cb] w (MergePost enc R w0 blk off p (x ++ y) q) := by
  have RW := T.row
  have HC : Aside _ := T.cmp
  have hs := T.small
  have eg := T.ent
  have hcl0 := RW.hO.cells
  simp only [Value.cells] at hcl0
  have hst := RW.hO.store Try.prog
  have mixed : Try.prog.follows .mixedOrders = true := by kernel_rfl
  have HT := Lib.hid T
  have HI := Lib.hid IH
  obtain ⟨dj, hdj⟩ : ∃ d, d = (p ++ (x ++ (y ++ q))).toArray := ⟨_, rfl⟩
  have S0 : Aside (SW enc w0 blk off dj w) := by rw [hdj]; exact S
  have HSZ := Lib.hid (show dj.size = N by rw [hdj]; simpa using hl)
  have HDS := Lib.hid (show dj.size = d0.size from HSZ.out.trans hN)
  have HMEM := Lib.hid (show ∀ u v, a ≤ u → u < m → m ≤ v → v < b → Cr (ltOf cf) R dj[u]! dj[v]! from fun u v h1 h2 h3 h4 => hc _ (by
    rw [hdj]
    exact mem_at p (y ++ q) x u (by omega) (by omega)) _ (by
    rw [hdj]
    have := mem_at (p ++ x) q y v (by simp; omega) (by simp; omega)
    simpa using this))
  have hN1 : N ≤ 1000000 := by omega
  have hbN : b ≤ N := by simp at hl; omega
  have hamw : a < m := by omega
  have hmb : m < b := by omega
  have ham : ((m : Int) - (a : Int) == 1) = false := by simp; omega
  have hbm : ((b : Int) - (m : Int) == 1) = false := by simp; omega
  obtain ⟨mid, hmid⟩ : ∃ z, z = (a + b) / 2 := ⟨_, rfl⟩
  have emid : ((a : Int) + (b : Int)) / 2 = (mid : Int) := by omega
  obtain ⟨n, hn⟩ : ∃ z, z = mid + m := ⟨_, rfl⟩
  have en : (mid : Int) + (m : Int) = (n : Int) := by omega
  have hamid : a < mid := by omega
  have hmidb : mid < b := by omega
  have hmidn : mid ≤ n := by omega
  have hn2 : n ≤ 2000000 := by omega
  have hn1 : 1 ≤ n := by omega
  have HDJ := Lib.hid hdj
  have HA := Lib.hid ha
  have HM := Lib.hid hm
  have HB := Lib.hid hb
  have HN := Lib.hid hN
  have HL := Lib.hid hl
  have HSX := Lib.hid sx
  have HSY := Lib.hid sy
  have HCC := Lib.hid hc
  have HMI := Lib.hid hmid
  have HNN := Lib.hid hn
  have HEM := Lib.hid emid
  have HEN := Lib.hid en
  have HXP := Lib.hid hx
  have HYP := Lib.hid hy
  have HKK := Lib.hid hK
  clear S T IH hs hN hl ha hm hb hdj hc sx sy hx hy hx1 hy1 hmid hn emid en hK
  go_enter Try.func49, Try.ntmps49
  go_upto_region 25 with fail
  rw [HEM.out]
  clear ham hbm
  go_upto_region 26 with fail
  rw [HEN.out]
  go_upto_if 140 with fail
  obtain ⟨cb0, hcb⟩ : ∃ cb, cb = decide (mid < m) := ⟨_, rfl⟩
  rw [← hcb]
  have HCB0 := Lib.hid hcb
  clear hcb
  go_cut [20, 21] from 141 to 146 (fun vs vr wx => ∃ s0 r0 : Nat, vs = .int .i64 (s0 : Int) ∧ vr = .int .i64 (r0 : Int) ∧ Hid (Rg a m b mid n s0 r0) ∧ Aside (SW enc w0 blk off dj wx))
  case first =>
    cases cb0 with
    | true =>
      have hmm : mid < m := by have := of_decide_eq_true HCB0.out.symm; omega
      have hnb : b ≤ n := by have := HNN.out; have := HMI.out; omega
      have enb : (n : Int) - (b : Int) = ((n - b : Nat) : Int) := by omega
      have HX := Lib.hid (show Rg a m b mid n (n - b) mid from Or.inl ⟨hmm, by omega, rfl⟩)
      go_wp2_with fail
      go_meet
      case rel => exact ⟨n - b, mid, by first | rfl | rw [enb], rfl, HX, S0⟩
    | false =>
      have hmm : ¬ mid < m := by have := of_decide_eq_false HCB0.out.symm; omega
      have HX := Lib.hid (show Rg a m b mid n a m from Or.inr ⟨by omega, rfl, rfl⟩)
      go_wp2_with fail
      go_meet
      case rel => exact ⟨a, m, rfl, rfl, HX, S0⟩
  case rest =>
    clear S0
    obtain ⟨s0, r0, rfl, rfl, HRG, SJ0⟩ := hcut
    obtain ⟨hs0, hr0, hsr⟩ : a ≤ s0 ∧ r0 ≤ m ∧ s0 ≤ r0 := by
      have h1 := HNN.out
      have h2 := HMI.out
      rcases HRG.out with ⟨g1, g2, g3⟩ | ⟨g1, g2, g3⟩ <;> exact ⟨by omega, by omega, by omega⟩
    have hn1z : (1 : Int) ≤ (n : Int) := by omega
    obtain ⟨pp, hpp⟩ : ∃ z, z = n - 1 := ⟨_, rfl⟩
    have epp : (n : Int) - 1 = (pp : Int) := by omega
    have hppn : pp + 1 = n := by omega
    have HEP := Lib.hid epp
    clear epp hpp
    go_wp2_with fail
    rw [HEP.out]
    clear HEP
    go_loopg [20, 21] (r0 - s0) (fun g1 vi vj wr => ∃ (s r : Nat), vi = .int .i64 (s : Int) ∧ vj = .int .i64 (r : Int) ∧ s0 ≤ s ∧ s ≤ r ∧ r ≤ r0 ∧ r - s ≤ g1 ∧ Aside (SW enc w0 blk off dj wr) ∧ Hid (Cross R dj n s0 s r r0))
    case atStart => exact ⟨s0, r0, rfl, rfl, Nat.le_refl _, hsr, Nat.le_refl _, Nat.le_refl _, SJ0, Lib.hid ⟨fun h => absurd h (Nat.lt_irrefl _), fun h => absurd h (Nat.lt_irrefl _)⟩⟩
    case round =>
      clear SJ0
      obtain ⟨s, r, rfl, rfl, hss, hsr1, hrr, hg1, SJ, HBD⟩ := hrel
      by_cases hlt : s < r
      · have hltz : (s : Int) < (r : Int) := by omega
        obtain ⟨c, hh⟩ : ∃ h, h = (s + r) / 2 := ⟨_, rfl⟩
        have hh1 : s ≤ c := by omega
        have hh2 : c < r := by omega
        have eh : ((s : Int) + (r : Int)) / 2 = (c : Int) := by omega
        have HEH := Lib.hid eh
        obtain ⟨hp1, hp2, hp3, hp4⟩ : c + 1 ≤ n ∧ m ≤ n - 1 - c ∧ n - 1 - c < b ∧ c < m := by
          have h1 := HNN.out
          have h2 := HMI.out
          rcases HRG.out with ⟨g1, g2, g3⟩ | ⟨g1, g2, g3⟩ <;> exact ⟨by omega, by omega, by omega, by omega⟩
        have hcp : c ≤ pp := by omega
        clear eh hh
        go_upto_region 35 with fail
        rw [HEH.out]
        clear HEH
        cases hlv : ltOf cf dj[n - 1 - c]! dj[c]! with
        | true =>
          have HB2 := Lib.hid (show Cross R dj n s0 s c r0 from ⟨HBD.out.1, fun _ => (HMEM.out c (n - 1 - c) (by omega) hp4 hp2 hp3).1 hlv⟩)
          obtain ⟨iN, hiN⟩ : ∃ q, q = n - 1 - c := ⟨_, rfl⟩
          obtain ⟨jN, hjN⟩ : ∃ q, q = c := ⟨_, rfl⟩
          have eN : pp - c = iN := by omega
          have eA : ((pp : Int) - (c : Int)).toNat = iN := by omega
          have pA : (0 : Int) ≤ (pp : Int) - (c : Int) := by omega
          have bA : (pp : Int) - (c : Int) < (N : Int) := by omega
          have rA : IntKind.i64.wrap ((pp : Int) - (c : Int)) = (pp : Int) - (c : Int) := by rw [IntKind.wrap_i64]; omega
          have eC : ((c : Int)).toNat = jN := by omega
          have pC : (0 : Int) ≤ (c : Int) := by omega
          have bC : (c : Int) < (N : Int) := by omega
          have rC : IntKind.i64.wrap ((c : Int)) = (c : Int) := by rw [IntKind.wrap_i64]; omega
          obtain ⟨xx, hxx⟩ : ∃ z, z = dj[n - 1 - c]! := ⟨_, rfl⟩
          obtain ⟨yy, hyy⟩ : ∃ z, z = dj[c]! := ⟨_, rfl⟩
          have la := SJ.out.cl RW HDS.out (n - 1 - c) (by rw [HSZ.out]; omega)
          have lb := SJ.out.cl RW HDS.out (c) (by rw [HSZ.out]; omega)
          rw [← hxx, ← hiN] at la
          rw [← hyy, ← hjN] at lb
          have hcm := SJ.out.cmp HC.out HDS.out xx yy
          have hv : cf xx yy < 0 := by rw [hxx, hyy]; exact of_decide_eq_true hlv
          have hd : decide (cf xx yy < 0) = true := decide_eq_true hv
          clear hxx hyy hiN hjN hlv
          go_quiet_grown (first | (go_at_fn g; refine Calls.grown_of (hcm _ _)))
          have S2 : Aside (SW enc w0 blk off dj (grow (wr.drewN nq) osq)) := SJ.out.grown nq osq
          clear la lb hcm SJ
          generalize grow (wr.drewN nq) osq = w2 at S2 ⊢
          clear nq osq
          clear eA eC
          go_wp2_with fail
          go_roundg (c - s)
          case measure => omega
          case rel => exact ⟨s, c, rfl, rfl, hss, hh1, by omega, Nat.le_refl _, S2, HB2⟩
        | false =>
          have HB2 := Lib.hid (show Cross R dj n s0 (c + 1) r r0 from ⟨fun _ => by
            have := (HMEM.out c (n - 1 - c) (by omega) hp4 hp2 hp3).2 hlv
            rw [show c + 1 - 1 = c by omega, show n - (c + 1) = n - 1 - c by omega]
            exact this, HBD.out.2⟩)
          obtain ⟨iN, hiN⟩ : ∃ q, q = n - 1 - c := ⟨_, rfl⟩
          obtain ⟨jN, hjN⟩ : ∃ q, q = c := ⟨_, rfl⟩
          have eN : pp - c = iN := by omega
          have eA : ((pp : Int) - (c : Int)).toNat = iN := by omega
          have pA : (0 : Int) ≤ (pp : Int) - (c : Int) := by omega
          have bA : (pp : Int) - (c : Int) < (N : Int) := by omega
          have rA : IntKind.i64.wrap ((pp : Int) - (c : Int)) = (pp : Int) - (c : Int) := by rw [IntKind.wrap_i64]; omega
          have eC : ((c : Int)).toNat = jN := by omega
          have pC : (0 : Int) ≤ (c : Int) := by omega
          have bC : (c : Int) < (N : Int) := by omega
          have rC : IntKind.i64.wrap ((c : Int)) = (c : Int) := by rw [IntKind.wrap_i64]; omega
          obtain ⟨xx, hxx⟩ : ∃ z, z = dj[n - 1 - c]! := ⟨_, rfl⟩
          obtain ⟨yy, hyy⟩ : ∃ z, z = dj[c]! := ⟨_, rfl⟩
          have la := SJ.out.cl RW HDS.out (n - 1 - c) (by rw [HSZ.out]; omega)
          have lb := SJ.out.cl RW HDS.out (c) (by rw [HSZ.out]; omega)
          rw [← hxx, ← hiN] at la
          rw [← hyy, ← hjN] at lb
          have hcm := SJ.out.cmp HC.out HDS.out xx yy
          have hv : ¬ cf xx yy < 0 := by rw [hxx, hyy]; exact of_decide_eq_false hlv
          have hd : decide (cf xx yy < 0) = false := decide_eq_false hv
          clear hxx hyy hiN hjN hlv
          go_quiet_grown (first | (go_at_fn g; refine Calls.grown_of (hcm _ _)))
          have S2 : Aside (SW enc w0 blk off dj (grow (wr.drewN nq) osq)) := SJ.out.grown nq osq
          clear la lb hcm SJ
          generalize grow (wr.drewN nq) osq = w2 at S2 ⊢
          clear nq osq
          clear eA eC
          go_wp2_with fail
          go_roundg (r - (c + 1))
          case measure => omega
          case rel => exact ⟨c + 1, r, by go_num, rfl, by omega, by omega, hrr, Nat.le_refl _, S2, HB2⟩
      · have hltz : ¬ (s : Int) < (r : Int) := by omega
        have hsr' : s = r := by omega
        have HS := Lib.hid (show ∃ x1 x2 y1 y2, Cuts R a m s (n - s) x y x1 x2 y1 y2 from by
          have h3 := HBD.out
          rw [← hsr', HDJ.out] at h3
          exact cuts_of HMI.out HNN.out HRG.out hss (by omega) h3 HA.out HM.out HB.out HXP.out HYP.out)
        obtain ⟨x1, x2, y1, y2, hcu⟩ := HS.out
        have HCU := Lib.hid hcu
        obtain ⟨en, hen⟩ : ∃ z, z = n - s := ⟨_, rfl⟩
        have hsn : s ≤ n := by have := HNN.out; omega
        have eE : (n : Int) - (s : Int) = (en : Int) := by omega
        have HEE := Lib.hid eE
        have HLX := Lib.hid hcu.lx
        have HLY := Lib.hid (show m + y1.length = en by rw [hen]; exact hcu.ly)
        have henb : en ≤ b := by have h1 := hcu.ly; have h2 := HB.out; have h3 := congrArg List.length hcu.ey; simp at h3; omega
        have hsm : s ≤ m := by have h1 := hcu.lx; have h2 := HM.out; have h3 := congrArg List.length hcu.ex; simp at h3; omega
        have hmen : m ≤ en := by have := HLY.out; omega
        have HX2 := Lib.hid (show s + x2.length = m by have h1 := hcu.lx; have h2 := HM.out; have h3 := congrArg List.length hcu.ex; simp at h3; omega)
        have HY2 := Lib.hid (show en + y2.length = b by have h1 := HLY.out; have h2 := HB.out; have h3 := congrArg List.length hcu.ey; simp at h3; omega)
        have HMD := Lib.hid (show a + x1.length + y1.length = mid by have h1 := hcu.lx; have h2 := HNN.out; have h3 := HLY.out; omega)
        have S1 : Aside (SL enc w0 blk off (p ++ (x1 ++ (x2 ++ (y1 ++ (y2 ++ q))))) wr) := by
          have h1 := SJ.out
          rw [HDJ.out, hcu.ex, hcu.ey] at h1
          show SL enc w0 blk off _ wr
          simpa using h1
        have HLL := Lib.hid (show p.length + (x1.length + (x2.length + (y1.length + (y2.length + q.length)))) = N by have h1 := HL.out; rw [hcu.ex, hcu.ey] at h1; simp at h1; omega)
        clear HS hcu hen SJ HBD hsr' hss hsr1 eE
        go_upto_region 39 with fail
        rw [HEE.out]
        go_cut [185] from 178 to 185 (fun vb wx => ∃ cb : Bool, vb = .bool cb ∧ Hid (cb = true ↔ (s < m ∧ m < en)) ∧ Aside (SL enc w0 blk off (p ++ (x1 ++ (x2 ++ (y1 ++ (y2 ++ q))))) wx))
        case first =>
          by_cases h1 : s < m
          · by_cases h2 : m < en
            · skip
              have z1 : (s : Int) < (m : Int) := by omega
              have z2 : (m : Int) < (en : Int) := by omega
              go_wp2_with fail
              go_meet
              case rel => exact ⟨true, rfl, Lib.hid ⟨fun _ => ⟨h1, h2⟩, fun _ => rfl⟩, S1⟩
            · skip
              have z1 : (s : Int) < (m : Int) := by omega
              have z2 : ¬ (m : Int) < (en : Int) := by omega
              go_wp2_with fail
              go_meet
              case rel => exact ⟨false, rfl, Lib.hid ⟨fun h => (by cases h), fun h => absurd h.2 h2⟩, S1⟩
          · skip
            have z1 : ¬ (s : Int) < (m : Int) := by omega
            go_wp2_with fail
            go_meet
            case rel => exact ⟨false, rfl, Lib.hid ⟨fun h => (by cases h), fun h => absurd h.1 h1⟩, S1⟩
        case rest =>
          clear S1
          obtain ⟨cb1, rfl, HCB, S1⟩ := hcut
          go_upto_if 185 with fail
          go_cut [] from 186 to 191 (fun wx => Aside (SL enc w0 blk off (p ++ (x1 ++ (y1 ++ (x2 ++ (y2 ++ q))))) wx))
          case first =>
            cases cb1 with
            | true =>
              have hc2 := HCB.out.1 rfl
              have HR := Lib.hid (rotate_any HT.out cap N s m en (p ++ x1) x2 y1 (y2 ++ q) wc HN.out (by have := HLL.out; simp; omega) (by have := HLX.out; have := HA.out; simp; omega) (by have := HX2.out; omega) (by have := HLY.out; omega) (by have := HX2.out; omega) (by have := HLY.out; omega) (by simpa using S1.out))
              go_wp2_with fail
              refine HR.out.mono ?_
              rintro e w2 ⟨rfl, h⟩
              have S2 : Aside (SL enc w0 blk off (p ++ (x1 ++ (y1 ++ (x2 ++ (y2 ++ q))))) w2) := by
                show SL enc w0 blk off _ w2
                simpa using h
              clear h
              go_wp2_with fail
              go_meet
              case rel => exact S2
            | false =>
              have S2 : Aside (SL enc w0 blk off (p ++ (x1 ++ (y1 ++ (x2 ++ (y2 ++ q))))) wc) := by
                show SL enc w0 blk off _ wc
                have h1 : ¬ (s < m ∧ m < en) := fun h => absurd (HCB.out.2 h) (by simp)
                have h2 := S1.out
                have h3 := HX2.out
                have h4 := HLY.out
                by_cases h5 : s < m
                · obtain rfl : y1 = [] := List.eq_nil_of_length_eq_zero (by omega)
                  simpa using h2
                · obtain rfl : x2 = [] := List.eq_nil_of_length_eq_zero (by omega)
                  simpa using h2
              go_wp2_with fail
              go_meet
              case rel => exact S2
          case rest =>
            clear S1 HCB
            have S1 : Aside (SL enc w0 blk off (p ++ (x1 ++ (y1 ++ (x2 ++ (y2 ++ q))))) wc) := hcut
            clear hcut
            go_upto_region 41 with fail
            go_cut [199] from 192 to 199 (fun vb wx => ∃ cb : Bool, vb = .bool cb ∧ Hid (cb = true ↔ (a < s ∧ s < mid)) ∧ Aside (SL enc w0 blk off (p ++ (x1 ++ (y1 ++ (x2 ++ (y2 ++ q))))) wx))
            case first =>
              by_cases h1 : a < s
              · by_cases h2 : s < mid
                · skip
                  have z1 : (a : Int) < (s : Int) := by omega
                  have z2 : (s : Int) < (mid : Int) := by omega
                  go_wp2_with fail
                  go_meet
                  case rel => exact ⟨true, rfl, Lib.hid ⟨fun _ => ⟨h1, h2⟩, fun _ => rfl⟩, S1⟩
                · skip
                  have z1 : (a : Int) < (s : Int) := by omega
                  have z2 : ¬ (s : Int) < (mid : Int) := by omega
                  go_wp2_with fail
                  go_meet
                  case rel => exact ⟨false, rfl, Lib.hid ⟨fun h => (by cases h), fun h => absurd h.2 h2⟩, S1⟩
              · skip
                have z1 : ¬ (a : Int) < (s : Int) := by omega
                go_wp2_with fail
                go_meet
                case rel => exact ⟨false, rfl, Lib.hid ⟨fun h => (by cases h), fun h => absurd h.1 h1⟩, S1⟩
            case rest =>
              clear S1
              obtain ⟨cb1, rfl, HCB, S1⟩ := hcut
              go_upto_if 199 with fail
              go_cut [] from 200 to 205 (fun wx => Aside (Half enc R w0 blk off p (x1 ++ y1) (x2 ++ (y2 ++ q)) wx))
              case first =>
                cases cb1 with
                | true =>
                  have hc2 := HCB.out.1 rfl
                  have HR := Lib.hid (HI.out a s mid p x1 y1 (x2 ++ (y2 ++ q)) wc (by have h1 := HMD.out; have h2 := HKK.out; have h3 := HM.out; have h4 := HB.out; omega) (by have := HLL.out; simp; omega) HA.out HLX.out.symm (by have := HMD.out; have := HLX.out; omega) (by have := HLX.out; omega) (by have := HMD.out; have := HLX.out; omega)
                    (by have h := HSX.out; rw [HCU.out.ex, List.pairwise_append] at h; exact h.1) (by have h := HSY.out; rw [HCU.out.ey, List.pairwise_append] at h; exact h.1)
                    (fun u hu v hv => HCC.out u (by rw [HCU.out.ex]; simp [hu]) v (by rw [HCU.out.ey]; simp [hv])) S1.out)
                  go_wp2_with fail
                  refine HR.out.mono ?_
                  rintro e w2 ⟨rfl, h⟩
                  have S2 : Aside (Half enc R w0 blk off p (x1 ++ y1) (x2 ++ (y2 ++ q)) w2) := h
                  clear h
                  go_wp2_with fail
                  go_meet
                  case rel => exact S2
                | false =>
                  have S2 : Aside (Half enc R w0 blk off p (x1 ++ y1) (x2 ++ (y2 ++ q)) wc) := by
                    have h1 : ¬ (a < s ∧ s < mid) := fun h => absurd (HCB.out.2 h) (by simp)
                    have h2 := S1.out
                    have h3 := HLX.out
                    have h4 := HMD.out
                    have h5 := HSX.out
                    have h6 := HSY.out
                    rw [HCU.out.ex, List.pairwise_append] at h5
                    rw [HCU.out.ey, List.pairwise_append] at h6
                    refine ⟨x1 ++ y1, List.Perm.refl _, ?_, by simpa using h2⟩
                    by_cases h7 : a < s
                    · obtain rfl : y1 = [] := List.eq_nil_of_length_eq_zero (by omega)
                      simpa using h5.1
                    · obtain rfl : x1 = [] := List.eq_nil_of_length_eq_zero (by omega)
                      simpa using h6.1
                  go_wp2_with fail
                  go_meet
                  case rel => exact S2
              case rest =>
                clear S1 HCB
                obtain ⟨z1, zp, zs, S1⟩ := hcut
                have HZP := Lib.hid zp
                have HZS := Lib.hid zs
                have HZL := Lib.hid (show p.length + z1.length = mid by have h1 := zp.length_eq; have h2 := HMD.out; have h3 := HA.out; simp at h1; omega)
                have S1 : Aside (SL enc w0 blk off (p ++ (z1 ++ (x2 ++ (y2 ++ q)))) wc) := S1
                clear zp zs
                go_upto_region 43 with fail
                go_cut [213] from 206 to 213 (fun vb wx => ∃ cb : Bool, vb = .bool cb ∧ Hid (cb = true ↔ (mid < en ∧ en < b)) ∧ Aside (SL enc w0 blk off (p ++ (z1 ++ (x2 ++ (y2 ++ q)))) wx))
                case first =>
                  by_cases h1 : mid < en
                  · by_cases h2 : en < b
                    · skip
                      have z1 : (mid : Int) < (en : Int) := by omega
                      have z2 : (en : Int) < (b : Int) := by omega
                      go_wp2_with fail
                      go_meet
                      case rel => exact ⟨true, rfl, Lib.hid ⟨fun _ => ⟨h1, h2⟩, fun _ => rfl⟩, S1⟩
                    · skip
                      have z1 : (mid : Int) < (en : Int) := by omega
                      have z2 : ¬ (en : Int) < (b : Int) := by omega
                      go_wp2_with fail
                      go_meet
                      case rel => exact ⟨false, rfl, Lib.hid ⟨fun h => (by cases h), fun h => absurd h.2 h2⟩, S1⟩
                  · skip
                    have z1 : ¬ (mid : Int) < (en : Int) := by omega
                    go_wp2_with fail
                    go_meet
                    case rel => exact ⟨false, rfl, Lib.hid ⟨fun h => (by cases h), fun h => absurd h.1 h1⟩, S1⟩
                case rest =>
                  clear S1
                  obtain ⟨cb1, rfl, HCB, S1⟩ := hcut
                  have HFIN := Lib.hid (show ∀ W z2, z2.Perm (x2 ++ y2) → z2.Pairwise R → SL enc w0 blk off (p ++ (z1 ++ (z2 ++ q))) W → MergePost enc R w0 blk off p (x ++ y) q (.returned (.tuple #[])) W from fun W z2 q1 q2 q3 => by
                    have h5 := HSX.out
                    have h6 := HSY.out
                    rw [HCU.out.ex] at h5
                    rw [HCU.out.ey] at h6
                    obtain ⟨m1, m2⟩ := merge_cut hT h5 h6 HCU.out.h1 HCU.out.h2 HZP.out q1 HZS.out q2
                    exact ⟨rfl, z1 ++ z2, by rw [HCU.out.ex, HCU.out.ey]; exact m1, m2, by simpa using q3⟩)
                  cases cb1 with
                  | true =>
                    have hc2 := HCB.out.1 rfl
                    have HR := Lib.hid (HI.out mid en b (p ++ z1) x2 y2 q wc (by have h1 := HMD.out; have h2 := HKK.out; have h3 := HM.out; have h4 := HB.out; have h5 := HX2.out; have h6 := HY2.out; have h7 := HLX.out; have h8 := HLY.out; omega) (by have h := HZP.out.length_eq; have := HLL.out; simp at h ⊢; omega) (by have := HZL.out; simp; omega) (by have h1 := HX2.out; have h2 := HLX.out; have h3 := HMD.out; have h4 := HLY.out; omega) HY2.out.symm (by have h1 := HX2.out; have h2 := HLX.out; have h3 := HMD.out; have h4 := HLY.out; omega) (by have := HY2.out; omega)
                      (by have h := HSX.out; rw [HCU.out.ex, List.pairwise_append] at h; exact h.2.1) (by have h := HSY.out; rw [HCU.out.ey, List.pairwise_append] at h; exact h.2.1)
                      (fun u hu v hv => HCC.out u (by rw [HCU.out.ex]; simp [hu]) v (by rw [HCU.out.ey]; simp [hv])) (by simpa using S1.out))
                    go_wp2_with fail
                    refine HR.out.mono ?_
                    rintro e w2 ⟨rfl, h⟩
                    have HF := Lib.hid h
                    clear h
                    go_wp2_with fail
                    go_end0
                    obtain ⟨z2, q1, q2, q3⟩ := HF.out
                    exact HFIN.out _ z2 q1 q2 (by simpa using q3)
                  | false =>
                    have HF := Lib.hid (show MergePost enc R w0 blk off p (x ++ y) q (.returned (.tuple #[])) wc from by
                      have h1 : ¬ (mid < en ∧ en < b) := fun h => absurd (HCB.out.2 h) (by simp)
                      have h5 := HSX.out
                      have h6 := HSY.out
                      rw [HCU.out.ex, List.pairwise_append] at h5
                      rw [HCU.out.ey, List.pairwise_append] at h6
                      refine HFIN.out wc (x2 ++ y2) (List.Perm.refl _) ?_ (by simpa using S1.out)
                      have e1 := HX2.out; have e2 := HLX.out; have e3 := HMD.out; have e4 := HLY.out; have e5 := HY2.out
                      by_cases h7 : mid < en
                      · obtain rfl : y2 = [] := List.eq_nil_of_length_eq_zero (by omega)
                        simpa using h5.2.1
                      · obtain rfl : x2 = [] := List.eq_nil_of_length_eq_zero (by omega)
                        simpa using h6.2.1)
                    go_wp2_with fail
                    go_end0
                    exact HF.out
/-- Merging, for pieces of any length. -/
theorem symMerge_any {enc : α → Value} {cf : α → α → Int} {R : α → α → Prop} (hT : ∀ x y z, R x y → R y z → R x z) {g : Nat} {cb : Array Value} {blk off : Nat} {d0 : Array α} {w0 : World} (T : Srt enc cf g cb blk off d0 w0) (cap N : Nat) (hN : N = d0.size) : ∀ K, MergeSays enc cf R g cb blk off w0 cap N K := by
  intro K
  induction K with
  | zero => intro a m b p x y q w hK hl ha hm hb hx hy; omega
  | succ K ih =>
    intro a m b p x y q w hK hl ha hm hb hx hy sx sy hc S
    by_cases h1 : x.length = 1
    · obtain ⟨e, rfl⟩ := List.length_eq_one_iff.1 h1
      exact merge_left hT T cap N a m b p y q e w hN hl ha hm hb sy (hc e (by simp)) S
    · by_cases h2 : y.length = 1
      · obtain ⟨e, rfl⟩ := List.length_eq_one_iff.1 h2
        exact merge_right hT T cap N a m b p x q e w hN hl ha hm hb h1 sx (fun u hu => hc u hu e (by simp)) S
      · exact merge_mid hT T cap N K a m b p x y q w ih hK hN hl ha hm hb hx hy h1 h2 sx sy hc S
end Go.Proofs.Ytknkgcphamhjlaa
