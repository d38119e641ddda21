/-
  Stage 11: the walk of JobFlat.
-/
import Derived.Test.YthedalfokekbkaaJLaw
set_option linter.unusedSimpArgs false
set_option linter.unusedVariables false
namespace Go.Proofs.Ythedalfokekbkaa
open Go.RowKit Go.Lib

def flatK (v : List Int) : Nat → Bool
  | 0 => true
  | k + 1 => flatK v k && (v.getD k 0 == 0)
def strX (l : List It) (y : Nat) (b : Bool) : Nat → Bool
  | 0 => b
  | k + 1 => strX l y b k || (rel l k y == 2)
def strY (l : List It) : Nat → Bool
  | 0 => false
  | k + 1 => strX l k (strY l k) l.length
theorem flatK_iff (v : List Int) (k : Nat) : flatK v k = true ↔ ∀ y, y < k → v.getD y 0 = 0 := by
  induction k with
  | zero => exact ⟨fun _ y h => absurd h (Nat.not_lt_zero _), fun _ => rfl⟩
  | succ k ih =>
    unfold flatK
    rw [Bool.and_eq_true, ih, beq_iff_eq]
    constructor
    · rintro ⟨h1, h2⟩ y hy
      rcases Nat.lt_or_ge y k with g | g
      · exact h1 y g
      · have : y = k := by omega
        rw [this]; exact h2
    · intro h
      exact ⟨fun y hy => h y (by omega), h k (by omega)⟩
theorem strX_iff (l : List It) (y : Nat) (b : Bool) (k : Nat) : strX l y b k = true ↔ b = true ∨ ∃ x, x < k ∧ rel l x y = 2 := by
  induction k with
  | zero => exact ⟨fun h => Or.inl h, fun h => by rcases h with h | ⟨x, hx, _⟩; exact h; exact absurd hx (Nat.not_lt_zero _)⟩
  | succ k ih =>
    unfold strX
    rw [Bool.or_eq_true, ih, beq_iff_eq]
    constructor
    · rintro ((h | ⟨x, h1, h2⟩) | h)
      · exact Or.inl h
      · exact Or.inr ⟨x, by omega, h2⟩
      · exact Or.inr ⟨k, by omega, h⟩
    · rintro (h | ⟨x, h1, h2⟩)
      · exact Or.inl (Or.inl h)
      · rcases Nat.lt_or_ge x k with g | g
        · exact Or.inl (Or.inr ⟨x, g, h2⟩)
        · have : x = k := by omega
          exact Or.inr (by rw [← this]; exact h2)
theorem strY_iff (l : List It) (k : Nat) : strY l k = true ↔ ∃ y x, y < k ∧ x < l.length ∧ rel l x y = 2 := by
  induction k with
  | zero => exact ⟨fun h => absurd h Bool.false_ne_true, fun ⟨y, x, h, _⟩ => absurd h (Nat.not_lt_zero _)⟩
  | succ k ih =>
    unfold strY
    rw [strX_iff, ih]
    constructor
    · rintro (⟨y, x, h1, h2, h3⟩ | ⟨x, h1, h2⟩)
      · exact ⟨y, x, by omega, h2, h3⟩
      · exact ⟨k, x, by omega, h1, h2⟩
    · rintro ⟨y, x, h1, h2, h3⟩
      rcases Nat.lt_or_ge y k with g | g
      · exact Or.inl ⟨y, x, g, h2, h3⟩
      · have : y = k := by omega
        exact Or.inr ⟨x, h2, by rw [← this]; exact h3⟩
/-- All levels are 0 if and only if nothing comes strictly before another. -/
theorem flat_strict {l : List It} {v : List Int} (hb : BlkOk l) (h : Lev l v) : flatK v l.length = !strY l l.length := by
  rw [Bool.eq_iff_iff, flatK_iff, Bool.not_eq_true', ← Bool.not_eq_true, strY_iff]
  constructor
  · rintro h1 ⟨y, x, hy, hx, hr⟩
    have h2 := (h.max y hy).le x hx
    have h3 : via l v x y ≤ v.getD y 0 := h2
    rw [via_pos (by omega), hr, h1 x hx, h1 y hy] at h3
    omega
  · intro hn
    have key : ∀ (n : Nat) (y : Nat), y < l.length → blk l y < n → v.getD y 0 = 0 := by
      intro n
      induction n with
      | zero => intro y hy hn; have := (hb y hy).1; omega
      | succ n ih =>
        intro y hy hlt
        rcases (h.max y hy).hit with e | ⟨x, hx, e⟩
        · exact e
        · have e' : via l v x y = v.getD y 0 := e
          by_cases g : rel l x y = 0
          · rw [via_zero g] at e'; omega
          · have h1 := (rel_pos g).2
            have h2 := ih x hx (by omega)
            rw [via_pos g, h2] at e'
            rcases rel_cases l x y with c | c | c
            · exact absurd c g
            · omega
            · exact absurd ⟨y, x, hy, hx, c⟩ hn
    intro y hy
    exact key 32 y hy (by have := (hb y hy).2; omega)
/-- The first k items in the order of the blocks. -/
def setB (p : It) (b : Int) : It := (p.1, b, p.2.2.1, p.2.2.2)
theorem runM_setB {r : Int} {l : List It} (h : runM r l) (k : Nat) (b : Int) (hb : 0 ≤ b ∧ b ≤ 5) : runM r (l.set k (setB (l.getD k it0) b)) := by
  induction l generalizing r k with
  | nil => exact h
  | cons p l ih =>
    cases k with
    | zero => exact ⟨⟨h.1.1, hb, h.1.2.2⟩, h.2⟩
    | succ k => exact ⟨h.1, ih h.2 k⟩
theorem flatI_setB (l : List It) (k : Nat) (b : Int) : flatI (l.set k (setB (l.getD k it0) b)) = (flatI l).set (k * 4 + 1) b := by
  induction l generalizing k with
  | nil => rfl
  | cons q l ih =>
    cases k with
    | zero => rfl
    | succ k =>
      rw [show (k + 1) * 4 + 1 = k * 4 + 1 + 1 + 1 + 1 + 1 by omega]
      show q.1 :: q.2.1 :: q.2.2.1 :: q.2.2.2 :: flatI (l.set k (setB (l.getD k it0) b)) = _
      rw [ih]; rfl
theorem IOwn.setB {T : TypeId} {w : World} {base g n c : Nat} {l : List It} (h : IOwn T w base (.slice (some ⟨g, 0, none⟩) n c) l) (hn : n = l.length) (k : Nat) (b : Int) :
    IOwn T (w.setCell ⟨g, k * 4 + 1, none⟩ (.int .i64 b)) base (.slice (some ⟨g, 0, none⟩) n c) (l.set k (setB (l.getD k it0) b)) := by
  subst hn
  unfold IOwn
  rw [flatI_setB, List.length_set]
  exact Flat.store h _ _
theorem JBox.setOther {w : World} {b n c : Nat} {A : Option Addr} {wt : Int} (h : JBox w b A n c wt) {p : Addr} (hp : p.block ≠ b) (u : Value) : JBox (w.setCell p u) b A n c wt :=
  ⟨(World.cell?_setCell_other w p ⟨b, 0, none⟩ u (fun e => hp (by first | exact congrArg Addr.block e | exact (congrArg Addr.block e).symm))).trans h.c0, (World.cell?_setCell_other w p ⟨b, 1, none⟩ u (fun e => hp (by first | exact congrArg Addr.block e | exact (congrArg Addr.block e).symm))).trans h.c1, by rw [World.size_setCell]; exact h.lt⟩
set_option maxRecDepth 100000 in
set_option maxHeartbeats 3200000 in
theorem flat_walk (A : Option Addr) (c : Nat) (zs : List Int) (w : World) (hr : Row .i64 w w.heap.size A zs) (hm : zs.length ≤ maxLen) (hw : ∀ n ∈ zs, (Lit.int .i64 n).wf = true) :
    Calls Try.prog 7 #[.slice A zs.length c] w fun e w' => e = .returned (.bool true) ∧ Below w.heap.size w w' := by
  have K := Lib.hid (mk_row (c := c) (T := 56) hr hm hw)
  have B := Lib.hid ((Below.refl w.heap.size w).alloc (Nat.le_refl _) (.cells #[.slice A zs.length c, .int .i64 0] 56))
  obtain ⟨m, hmm⟩ : ∃ m, m = w.heap.size := ⟨_, rfl⟩
  have HM := Lib.hid hmm
  clear hr hw
  go_enter Try.func7, Try.ntmps7
  go_wp2_with fail
  refine (new_any A zs.length c w).mono ?_
  rintro e w1 ⟨rfl, hw1⟩
  rw [← hw1] at K B
  rw [← hmm] at K ⊢
  clear hw1 hm hmm
  go_wp2_with fail
  refine (mjob_any m 0 10 w1 K.out (by omega) (by omega)).mono ?_
  rintro e w2 ⟨jA, jc, l, wt, rfl, O, hl, hrun, hwt, K2, V⟩
  have hml := K.out.lt
  have B2 := Lib.hid (V.below B.out (by rw [HM.out]; exact Nat.le_refl _) B.out.size)
  have J3 := Lib.hid (JBox.new (w := w2) (A := jA) (n := l.length) (c := jc) (wt := wt) w2.heap.size rfl)
  have hV := V.size
  obtain ⟨b, hb⟩ : ∃ b, b = w2.heap.size := ⟨_, rfl⟩
  have HB := Lib.hid hb
  have hbm : m < b := by omega
  have K3 := Lib.hid (K2.alloc (.cells #[.slice jA l.length jc, .int .i64 wt] 24))
  have O3 := Lib.hid (O.alloc (.cells #[.slice jA l.length jc, .int .i64 wt] 24))
  have B3 := Lib.hid (B2.out.alloc B2.out.size (.cells #[.slice jA l.length jc, .int .i64 wt] 24))
  rw [← hb] at J3
  go_upto_region 3 with fail
  rw [← hb]
  generalize w2.alloc (.cells #[.slice jA l.length jc, .int .i64 wt] 24) = w3 at *
  have HRUN := Lib.hid hrun
  have HWT := Lib.hid hwt
  have H1B := Lib.hid (show w1.heap.size ≤ b by omega)
  have HGB := Lib.hid (fun (g : Nat) (e : jA = some ⟨g, 0, none⟩) => (show w1.heap.size ≤ g ∧ g < b by rw [e] at O; have := O.block (g := g) rfl; omega))
  obtain ⟨L, hL⟩ : ∃ n, n = l.length := ⟨_, rfl⟩
  have HL := Lib.hid hL
  rw [← hL] at J3 O3 hl ⊢
  clear hb O K2 V hV B2 hrun hwt hL B
  go_cut [20] (fun bv wx => ∃ bb : Bool, bv = .bool bb ∧ Hid (JBox wx b jA L jc wt) ∧ Hid (IOwn 26 wx w1.heap.size (.slice jA L jc) l) ∧ Hid (Below w.heap.size w wx))
  case first =>
    go_wp2_with fail
    refine (next_any m _ 2 w3 K3.out (by omega) (by omega) (by omega)).mono ?_
    rintro e w4 ⟨v, rfl, _, _, _, v4⟩
    have J4 := Lib.hid (J3.out.moves v4 (by omega))
    have O4 := Lib.hid (O3.out.moves v4 hml)
    have B4 := Lib.hid (v4.below B3.out (by rw [HM.out]; exact Nat.le_refl _) B3.out.size)
    clear v4
    go_wp2_with fail
    go_meet
    case rel => exact ⟨_, rfl, J4, O4, B4⟩
  case rest =>
    clear J3 O3 B3 K3 K
    obtain ⟨bb, rfl, J, O, B⟩ := hcut
    rename (∀ (a : Act) (w : World), Code.wp _ (Code.cond _ _ _) _ a w → _) => hK
    refine hK _ _ ?_
    go_cut [5] (fun bv wx => Hid (∃ l', l'.length = L ∧ runM 0 l' ∧ JBox wx b jA L jc wt ∧ IOwn 26 wx w1.heap.size (.slice jA L jc) l' ∧ Below w.heap.size w wx))
    case first =>
      cases bb with
      | false =>
        have HZ := Lib.hid (show ∃ l', l'.length = L ∧ runM 0 l' ∧ JBox wc b jA L jc wt ∧ IOwn 26 wc w1.heap.size (.slice jA L jc) l' ∧ Below w.heap.size w wc from ⟨l, HL.out.symm, HRUN.out, J.out, O.out, B.out⟩)
        clear J O B
        go_wp2_with fail
        go_meet
        case rel => exact HZ
      | true =>
        obtain ⟨j0, j1, jl⟩ := J.out
        go_wp2_with fail
        clear j0 j1 jl
        go_loopw [24] (fun iv wr => ∃ (k : Nat) (l' : List It), k ≤ L ∧ iv = .int .i64 (k : Int) ∧ Hid (l'.length = L ∧ runM 0 l') ∧ Hid (JBox wr b jA L jc wt) ∧ Hid (IOwn 26 wr w1.heap.size (.slice jA L jc) l') ∧ Hid (Below w.heap.size w wr)) (fun iv _ => L - (intOf iv).toNat)
        case atStart => exact ⟨0, l, by omega, rfl, Lib.hid ⟨HL.out.symm, HRUN.out⟩, J, O, B⟩
        case round =>
          clear J O B
          obtain ⟨k, l', hk, rfl, HQ, J, O, B⟩ := hrel
          by_cases hlt : k < L
          · obtain ⟨_, _, e0, _, _, _, hg⟩ := O.out.full
            injection e0 with e1 _ _
            subst e1
            obtain ⟨g, rfl, _, _⟩ := hg (by rw [HQ.out.1]; omega)
            obtain ⟨g1, g2⟩ := HGB.out g rfl
            obtain ⟨⟨c0, c1, c2, c3⟩, hf⟩ := O.out.at4 HQ.out.1.symm (k := k) (by rw [HQ.out.1]; exact hlt)
            have f1 := hf (k * 4 + 1)
            obtain ⟨j0, j1, jl⟩ := J.out
            have hlt' : (k : Int) < (L : Int) := by omega
            clear hf hg c0 c2 c3
            have O2 := Lib.hid (O.out.setB HQ.out.1.symm k ((k : Int) / 2))
            have J2 := Lib.hid (J.out.setOther (p := ⟨g, k * 4 + 1, none⟩) (by show g ≠ b; omega) (.int .i64 ((k : Int) / 2)))
            have B2 := Lib.hid (B.out.setCell (p := ⟨g, k * 4 + 1, none⟩) (by have := HM.out; show w.heap.size ≤ g; omega) (.int .i64 ((k : Int) / 2)))
            have HQ2 := Lib.hid (show (l'.set k (setB (l'.getD k it0) ((k : Int) / 2))).length = L ∧ runM 0 (l'.set k (setB (l'.getD k it0) ((k : Int) / 2))) from ⟨by rw [List.length_set]; exact HQ.out.1, runM_setB HQ.out.2 k _ (by omega)⟩)
            clear O J B HQ
            go_wp2_with fail
            go_roundw
            case rel => exact ⟨k + 1, _, by omega, by go_num, HQ2, J2, O2, B2⟩
            case measure => simp [intOf]; omega
          · obtain rfl : k = L := by omega
            have HZ := Lib.hid (show ∃ l', l'.length = k ∧ runM 0 l' ∧ JBox wr b jA k jc wt ∧ IOwn 26 wr w1.heap.size (.slice jA k jc) l' ∧ Below w.heap.size w wr from ⟨l', HQ.out.1, HQ.out.2, J.out, O.out, B.out⟩)
            clear J O B HQ
            go_wp2_with fail
            go_meet
            case rel => exact HZ
    case rest =>
      clear J O B HGB HRUN
      obtain ⟨l', hl', hrun', J0, O0, B0⟩ := hcut.out
      have HL := Lib.hid hl'.symm
      have HVAL := Lib.hid (valid_of (l := l') (by omega) hrun' HWT.out)
      have HOK := Lib.hid (valid_ok HVAL.out).2.2
      have HI := Lib.hid (show IRow wc jA l' from O0.irow)
      have HJ := Lib.hid J0
      have HB := Lib.hid B0
      have hlv := levels_any l' jA jc wt wc HI.out
      rw [← HL.out] at hlv
      have HLV := Lib.hid hlv
      obtain ⟨j0, j1, jl⟩ := J0
      clear hcut hlv O0 B0 hrun' hl'
      generalize wc = w5 at *
      go_wp2_with fail
      refine HLV.out.mono ?_
      rintro e w6 ⟨v, vs, rfl, O, hlev, _, B6⟩
      rw [HVAL.out]
      have HV := Lib.hid (hlev HVAL.out)
      obtain ⟨vA, vc, rfl, R, _⟩ := O.slice
      have HR := Lib.hid R
      have hvl : vs.length = L := by rw [HV.out.len, HL.out]
      rw [hvl]
      have HVL := Lib.hid hvl
      have HJ6 := Lib.hid (HJ.out.below B6 HJ.out.lt)
      have HB6 := Lib.hid (HB.out.trans (B6.mono HB.out.size))
      have HI6 := Lib.hid (HI.out.below B6)
      clear hlev O R HLV hvl j0 j1 jl B6 HJ HB HI
      obtain ⟨j0, j1, jl⟩ := HJ6.out
      have hne : ((L : Int) != (L : Int)) = false := by simp
      have HJB := Lib.hid (fun (W : World) (k : Below w6.heap.size w6 W) => HJ6.out.below k HJ6.out.lt)
      have HRL := Lib.hid (fun (x y : Nat) (hx : x < L) (hy : y < L) (W : World) (k : Below w6.heap.size w6 W) => (by
        have := relationF_any l' jA jc wt (x : Int) (y : Int) W (HI6.out.below k)
        rw [← HL.out] at this
        unfold RelPost at this
        rw [relE_ok HVAL.out (by rw [← HL.out]; exact hx) (by rw [← HL.out]; exact hy)] at this
        exact this : Calls Try.prog 21 #[jv jA L jc wt, .int .i64 (x : Int), .int .i64 (y : Int)] W fun e w' => e = .returned (R2 (rel l' x y, 0)) ∧ Below W.heap.size W w'))
      go_wp2_with fail
      go_loopw [8, 9, 52] (fun fv sv iv wr => ∃ y : Nat, y ≤ L ∧ fv = .bool (flatK vs y) ∧ sv = .bool (strY l' y) ∧ iv = .int .i64 (y : Int) ∧ Hid (Below w6.heap.size w6 wr)) (fun _ _ iv _ => L - (intOf iv).toNat)
      case atStart => exact ⟨0, by omega, rfl, rfl, rfl, Lib.hid (Below.refl _ _)⟩
      case round =>
        clear j0 j1 jl hne
        obtain ⟨y, hy, rfl, rfl, rfl, B⟩ := hrel
        by_cases hlt : y < L
        · obtain ⟨vad, rfl, _, cy⟩ := (HR.out.below B.out) y (by rw [HVL.out]; exact hlt)
          obtain ⟨z, hz⟩ : ∃ z, z = vs.getD y 0 := ⟨_, rfl⟩
          rw [← hz] at cy
          have HF := Lib.hid (show flatK vs (y + 1) = (flatK vs y && (z == 0)) by rw [hz]; rfl)
          have HS := Lib.hid (show strY l' (y + 1) = strX l' y (strY l' y) L by rw [HL.out]; rfl)
          generalize flatK vs y = f0 at *
          generalize strY l' y = s0 at *
          clear hz
          obtain ⟨f1, hf1⟩ : ∃ f1, f1 = (f0 && (z == 0)) := ⟨_, rfl⟩
          rw [← hf1] at HF
          have HF1 := Lib.hid hf1
          have HR2 := Lib.hid (show Below w6.heap.size w6 wr from B.out)
          clear hf1
          go_upto_region 16 with fail
          go_cut [8] (fun fv wx => fv = .bool f1 ∧ Hid (Below w6.heap.size w6 wx))
          case first =>
            cases f0 with
            | false =>
              have hf1 := HF1.out
              rw [Bool.false_and] at hf1
              subst hf1
              go_wp2_with fail
              go_meet
              case rel => exact ⟨rfl, B⟩
            | true =>
              have hf1 := HF1.out
              rw [Bool.true_and] at hf1
              go_wp2_with fail
              rw [← hf1]
              generalize (z == 0) = zb at *
              go_meet
              case rel => exact ⟨rfl, B⟩
          case rest =>
            clear B HR2 cy
            obtain ⟨rfl, B⟩ := hcut
            have HS0 := Lib.hid (show s0 = strX l' y s0 0 from rfl)
            go_wp2_with fail
            go_loopw [9, 65] (fun sv iv wi => ∃ x : Nat, x ≤ L ∧ sv = .bool (strX l' y s0 x) ∧ iv = .int .i64 (x : Int) ∧ Hid (Below w6.heap.size w6 wi)) (fun _ iv _ => L - (intOf iv).toNat)
            case atStart => exact ⟨0, by omega, rfl, rfl, B⟩
            case round =>
              clear B
              obtain ⟨x, hx, rfl, rfl, B⟩ := hrel
              by_cases hlx : x < L
              · obtain ⟨j0, j1, jl⟩ := HJB.out _ B.out
                obtain ⟨r, hr⟩ : ∃ r, r = rel l' x y := ⟨_, rfl⟩
                have HXS := Lib.hid (show strX l' y s0 (x + 1) = (strX l' y s0 x || (r == 2)) by rw [hr]; rfl)
                have HRR := Lib.hid (HRL.out x y hlx hlt)
                rw [← hr] at HRR
                generalize strX l' y s0 x = s1 at *
                obtain ⟨s2, hs2⟩ : ∃ s2, s2 = (s1 || (r == 2)) := ⟨_, rfl⟩
                rw [← hs2] at HXS
                have HS2 := Lib.hid hs2
                clear hr hs2
                go_wp2_with fail
                refine (HRR.out _ B.out).mono ?_
                rintro e w7 ⟨rfl, B7⟩
                have B8 := Lib.hid (B.out.trans (B7.mono B.out.size))
                clear B7 B j0 j1 jl
                cases s1 with
                | true =>
                  have hs2 := HS2.out
                  rw [Bool.true_or] at hs2
                  subst hs2
                  go_wp2_with fail
                  go_roundw
                  case rel => exact ⟨x + 1, by omega, by rw [HXS.out], by go_num, B8⟩
                  case measure => simp [intOf]; omega
                | false =>
                  have hs2 := HS2.out
                  rw [Bool.false_or] at hs2
                  go_wp2_with fail
                  rw [← hs2]
                  generalize (r == 2) = rb at *
                  go_roundw
                  case rel => exact ⟨x + 1, by omega, by rw [HXS.out], by go_num, B8⟩
                  case measure => simp [intOf]; omega
              · obtain rfl : x = L := by omega
                go_wp2_with fail
                go_roundw
                case rel => exact ⟨y + 1, by omega, by rw [HF.out], by rw [HS.out], by go_num, B⟩
                case measure => simp [intOf]; omega
        · obtain rfl : y = L := by omega
          have hfs := flat_strict HOK.out HV.out
          rw [← HL.out] at hfs
          have HBW := Lib.hid (HB6.out.trans (B.out.mono HB6.out.size))
          rw [hfs]
          clear hlt B hfs
          generalize strY l' y = s0 at *
          cases s0 with
          | true =>
            have hfx : ((!true) != true) = true := rfl
            go_wp2_with fail
            refine (sane_any _).mono ?_
            rintro e w9 ⟨rfl, B9⟩
            have HB9 := Lib.hid (HBW.out.trans (B9.mono HBW.out.size))
            clear B9
            go_wp2_with fail
            go_ret
            exact ⟨rfl, HB9.out⟩
          | false =>
            have hfx : ((!false) != false) = true := rfl
            go_wp2_with fail
            refine (sane_any _).mono ?_
            rintro e w9 ⟨rfl, B9⟩
            have HB9 := Lib.hid (HBW.out.trans (B9.mono HBW.out.size))
            clear B9
            go_wp2_with fail
            go_ret
            exact ⟨rfl, HB9.out⟩
theorem flat_law (a : Option Addr) (len cap : Nat) (zs : List Int) (w : World) (h : IsRow .i64 w a len cap zs) :
    Calls Try.prog 7 #[.slice a len cap] w fun e w' => e = .returned (.bool true) ∧ Below w.heap.size w w' := by
  obtain ⟨l, rfl, h1, h2, h3⟩ := h.row
  exact flat_walk a cap l w h1 h2 h3
end Go.Proofs.Ythedalfokekbkaa
