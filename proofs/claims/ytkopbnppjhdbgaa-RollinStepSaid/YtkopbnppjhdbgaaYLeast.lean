/-
  Stage 13: the program's Least and Witness.
-/
import Derived.Test.YtkopbnppjhdbgaaYChain
set_option linter.unusedSimpArgs false
set_option linter.unusedVariables false
namespace Go.Proofs.Ytkopbnppjhdbgaa
open Go.RowKit Go.Lib

/-- The number of steps of the codes v. -/
def StepsOf (v : List Int) (st : Int) : Prop := (v = [] ∧ st = 0) ∨ ∃ M, TopV v v.length M ∧ st = (ln M.toNat : Int)
theorem TopV.ex (v : List Int) : ∀ k, 0 < k → ∃ M, TopV v k M := by
  intro k
  induction k with
  | zero => intro h; omega
  | succ k ih =>
    intro _
    rcases Nat.eq_zero_or_pos k with h0 | h0
    · subst h0
      exact ⟨v.getD 0 0, fun x hx => by obtain rfl : x = 0 := by omega
                                        exact Int.le_refl _, 0, by omega, rfl⟩
    · obtain ⟨M, h1, y, hy, h2⟩ := ih h0
      by_cases g : M ≤ v.getD k 0
      · refine ⟨v.getD k 0, fun x hx => ?_, k, by omega, rfl⟩
        rcases Nat.lt_or_ge x k with h3 | h3
        · have := h1 x h3; omega
        · obtain rfl : x = k := by omega
          exact Int.le_refl _
      · refine ⟨M, fun x hx => ?_, y, by omega, h2⟩
        rcases Nat.lt_or_ge x k with h3 | h3
        · exact h1 x h3
        · obtain rfl : x = k := by omega
          omega
theorem TopV.uniq {v : List Int} {k : Nat} {M N : Int} (h : TopV v k M) (g : TopV v k N) : M = N := by
  obtain ⟨x, hx, ex⟩ := h.hit
  obtain ⟨y, hy, ey⟩ := g.hit
  have := h.le y hy
  have := g.le x hx
  omega
theorem TopV.top {v : List Int} {M : Int} (h : TopV v v.length M) : ∃ y, IsTop v y := by
  obtain ⟨x, hx, e⟩ := h.hit
  obtain ⟨y, hy, hm⟩ : ∃ y, v.getD y 0 = M ∧ ∀ z, z < y → v.getD z 0 ≠ M := by
    have : ∀ k x, x < k → v.getD x 0 = M → ∃ y, v.getD y 0 = M ∧ ∀ z, z < y → v.getD z 0 ≠ M := by
      intro k
      induction k with
      | zero => intro x hx; omega
      | succ k ih =>
        intro x hx e
        by_cases c : ∃ z, z < x ∧ v.getD z 0 = M
        · obtain ⟨z, h1, h2⟩ := c
          exact ih z (by omega) h2
        · exact ⟨x, e, fun z h1 h2 => c ⟨z, h1, h2⟩⟩
    exact this (x + 1) x (by omega) e
  have hyx : y ≤ x := by
    rcases Nat.lt_or_ge x y with g | g
    · exact absurd e (hm x g)
    · exact g
  refine ⟨y, by omega, fun z hz => by rw [hy]; exact h.le z hz, fun z hz => ?_⟩
  have h1 := h.le z (by omega)
  have h2 := hm z hz
  rw [hy]; omega
theorem StepsOf.uniq {v : List Int} {a b : Int} (h : StepsOf v a) (k : StepsOf v b) : a = b := by
  rcases h with ⟨e, rfl⟩ | ⟨M, hM, rfl⟩
  · rcases k with ⟨_, rfl⟩ | ⟨N, hN, rfl⟩
    · rfl
    · obtain ⟨x, hx, _⟩ := hN.hit
      rw [e] at hx; cases hx
  · rcases k with ⟨e, rfl⟩ | ⟨N, hN, rfl⟩
    · obtain ⟨x, hx, _⟩ := hM.hit
      rw [e] at hx; cases hx
    · rw [hM.uniq hN]
/-- What Least answers: steps, codes, error. -/
def LeastR (l : List It) (wt st : Int) (v : List Int) (er : Int) : Prop :=
  (validR l wt ≠ 0 ∧ er = validR l wt ∧ v = [] ∧ st = 0) ∨ (validR l wt = 0 ∧ er = 15 ∧ v = [] ∧ st = 0 ∧ ∀ bs' v', ¬ Sol l wt bs' v') ∨ (validR l wt = 0 ∧ er = 0 ∧ (∃ bs, Sol l wt bs v) ∧ StepsOf v st)
theorem LeastR.uniq {l : List It} {wt st st' er er' : Int} {v v' : List Int} (h : LeastR l wt st v er) (k : LeastR l wt st' v' er') : st = st' ∧ v = v' ∧ er = er' := by
  rcases h with ⟨h0, rfl, rfl, rfl⟩ | ⟨h0, rfl, rfl, rfl, h1⟩ | ⟨h0, rfl, ⟨bs, h1⟩, h2⟩
  · rcases k with ⟨k0, rfl, rfl, rfl⟩ | ⟨k0, rfl, rfl, rfl, k1⟩ | ⟨k0, rfl, ⟨bs', k1⟩, k2⟩
    · exact ⟨rfl, rfl, rfl⟩
    · exact absurd k0 h0
    · exact absurd k0 h0
  · rcases k with ⟨k0, rfl, rfl, rfl⟩ | ⟨k0, rfl, rfl, rfl, k1⟩ | ⟨k0, rfl, ⟨bs', k1⟩, k2⟩
    · exact absurd h0 k0
    · exact ⟨rfl, rfl, rfl⟩
    · exact absurd k1 (h1 _ _)
  · rcases k with ⟨k0, rfl, rfl, rfl⟩ | ⟨k0, rfl, rfl, rfl, k1⟩ | ⟨k0, rfl, ⟨bs', k1⟩, k2⟩
    · exact absurd h0 k0
    · exact absurd h1 (k1 _ _)
    · obtain ⟨rfl, rfl⟩ := h1.uniq (valid_ok h0).2.2 k1
      exact ⟨h2.uniq k2, rfl, rfl⟩
/-- A plan's value. -/
abbrev pv (st : Int) (A : Option Addr) (n c : Nat) : Value := .agg #[.int .i64 st, .slice A n c]
def LeastPost (l : List It) (wt : Int) (w : World) (e : Ending) (w' : World) : Prop :=
  ∃ st A n c er v, e = .returned (.tuple #[pv st A n c, .int .i64 er]) ∧ Own .i64 3 w' w.heap.size (.slice A n c) v ∧ Below w.heap.size w w' ∧ LeastR l wt st v er
theorem results_plan {fn : Func} (hf : fn.results = #[.cell 2 27, .tmp 3]) (tmps : Array Value) (w : World) (b : Nat) (st er : Int) (A : Option Addr) (n c : Nat) (h2 : tmps.getD 2 undef = .pointer (some ⟨b, 0, none⟩)) (h3 : tmps.getD 3 undef = .int .i64 er) (c0 : w.cell? ⟨b, 0, none⟩ = some (.int .i64 st)) (c1 : w.cell? ⟨b, 1, none⟩ = some (.slice A n c)) :
    (results fn tmps).run Try.prog w = .ok (.tuple #[pv st A n c, .int .i64 er]) w := by
  have h2' : tmps[2]?.getD undef = .pointer (some ⟨b, 0, none⟩) := by simpa using h2
  have h3' : tmps[3]?.getD undef = .int .i64 er := by simpa using h3
  simp [results, hf, go_sem, h2', h3', c0, c1, asAddr]
/-- The box of a plan. -/
structure PBox (w : World) (b : Nat) (st : Int) (A : Option Addr) (n c : Nat) : Prop where
  c0 : w.cell? ⟨b, 0, none⟩ = some (.int .i64 st)
  c1 : w.cell? ⟨b, 1, none⟩ = some (.slice A n c)
  f : ∀ j, w.frozen? ⟨b, j, none⟩ = false
  lt : b < w.heap.size
theorem PBox.below {w w' : World} {b n c B : Nat} {st : Int} {A : Option Addr} (h : PBox w b st A n c) (k : Below B w w') (hb : b < B) : PBox w' b st A n c :=
  ⟨(k.cell (p := ⟨b, 0, none⟩) hb).trans h.c0, (k.cell (p := ⟨b, 1, none⟩) hb).trans h.c1, fun j => (k.frozen (p := ⟨b, j, none⟩) hb).trans (h.f j), Nat.lt_of_lt_of_le h.lt k.size⟩
theorem PBox.new {w : World} {st : Int} {A : Option Addr} {n c : Nat} (b : Nat) (hb : b = w.heap.size) : PBox (w.alloc (.cells #[.int .i64 st, .slice A n c] 27)) b st A n c := by
  subst hb; exact ⟨by rw [cell_new]; rfl, by rw [cell_new]; rfl, fun j => frozen_new _ _ _ _ _ rfl, by simp⟩
theorem PBox.put {w : World} {b n c n' c' : Nat} {st st' : Int} {A A' : Option Addr} (h : PBox w b st A n c) : PBox ((w.setCell ⟨b, 0, none⟩ (.int .i64 st')).setCell ⟨b, 1, none⟩ (.slice A' n' c')) b st' A' n' c' := by
  have g : (w.setCell ⟨b, 0, none⟩ (.int .i64 st')).cell? ⟨b, 1, none⟩ = some (.slice A n c) := by rw [World.cell?_setCell_other _ _ _ _ (by simp)]; exact h.c1
  refine ⟨?_, World.cell?_setCell_same _ _ _ g, fun j => by rw [World.frozen?_setCell, World.frozen?_setCell]; exact h.f j, by rw [World.size_setCell, World.size_setCell]; exact h.lt⟩
  rw [World.cell?_setCell_other _ _ _ _ (by simp)]; exact World.cell?_setCell_same _ _ _ h.c0
theorem Own.setN {k : IntKind} {e : TypeId} {W : World} {base : Nat} {v : Value} {zs : List Int} (h : Own k e W base v zs) {p : Addr} (hp : ∀ g, v.ownBlock = some g → g ≠ p.block) (u : Value) : Own k e (W.setCell p u) base v zs := by
  refine h.kept (row := some p.block) ⟨rfl, rfl, rfl, by rw [World.size_setCell]; exact Nat.le_refl _, fun k hk hn => Below.heap_setCell _ _ _ _ (fun e => hn (by first | exact congrArg some e | exact congrArg some e.symm))⟩ (Or.inr ?_)
  intro e
  exact hp _ e rfl
set_option maxRecDepth 100000 in
set_option maxHeartbeats 3200000 in
theorem least_any (l : List It) (A : Option Addr) (c L : Nat) (wt : Int) (hL : L = l.length) (w : World) (h : IRow w A l) :
    Calls Try.prog 23 #[jv A L c wt] w (LeastPost l wt w) := by
  have H := Lib.hid h
  have HL := Lib.hid hL
  have HSV := Lib.hid (fun (W : World) (k : IRow W A l) => solve_any l A c L wt hL W k)
  have s1 : (w.alloc (.cells #[.slice A L c, .int .i64 wt] 24)).heap.size = w.heap.size + 1 := by simp
  have J0 := JBox.new (w := w) (A := A) (n := L) (c := c) (wt := wt) w.heap.size rfl
  have B0 := (Below.refl w.heap.size w).alloc (Nat.le_refl _) (.cells #[.slice A L c, .int .i64 wt] 24)
  have X0 := PBox.new (w := w.alloc (.cells #[.slice A L c, .int .i64 wt] 24)) (st := 0) (A := none) (n := 0) (c := 0) _ rfl
  have b1 := (Below.refl _ (w.alloc (.cells #[.slice A L c, .int .i64 wt] 24))).alloc (Nat.le_refl _) (.cells #[.int .i64 0, .slice none 0 0] 27)
  have HJ := Lib.hid (J0.below b1 J0.lt)
  have HBW := Lib.hid (B0.trans (b1.mono B0.size))
  rw [s1] at X0
  have HX := Lib.hid X0
  obtain ⟨b, hbq⟩ : ∃ b, b = w.heap.size := ⟨_, rfl⟩
  have HBQ := Lib.hid hbq
  clear h hL s1 J0 B0 X0 b1
  go_enter Try.func23, Try.ntmps23
  go_upto_region 1 with fail
  rw [← hbq] at HJ HX ⊢
  generalize (w.alloc (.cells #[.slice A L c, .int .i64 wt] 24)).alloc (.cells #[.int .i64 0, .slice none 0 0] 27) = w1 at *
  clear hbq
  obtain ⟨j0, j1, jl⟩ := HJ.out
  go_wp2_with fail
  refine (HSV.out w1 (H.out.below HBW.out)).mono ?_
  rintro e w2 ⟨d, er, bs, v, rfl, OB, OV, B2, hr⟩
  have HX2 := Lib.hid (HX.out.below B2 HX.out.lt)
  have HB2 := Lib.hid (HBW.out.trans (B2.mono HBW.out.size))
  have HOV := Lib.hid OV
  have HR := Lib.hid hr
  have hbl : b + 1 < w1.heap.size := HX.out.lt
  have hbl2 : b + 1 < w2.heap.size := HX2.out.lt
  clear j0 j1 jl HX HJ OB B2 hr
  obtain ⟨⟨dA, dn, dc⟩, ⟨vA, vn, vc⟩⟩ := d
  obtain ⟨vA', vc', ev, VR, -, hvm, -⟩ := OV.slice
  have hvn : vn = v.length := by injection ev
  have hVA : vA = vA' := by injection ev
  subst hVA
  have HVM := Lib.hid hvm
  have HVR := Lib.hid VR
  have HVN := Lib.hid hvn
  clear OV ev VR vc' hvm hvn
  have hfin : ∀ (st er' : Int) (A' : Option Addr) (n' c' : Nat) (v' : List Int) (W : World), Below w2.heap.size w2 W → Own .i64 3 W w.heap.size (.slice A' n' c') v' → (∀ g, (Value.slice A' n' c').ownBlock = some g → g ≠ b + 1) → LeastR l wt st v' er' →
      LeastPost l wt w (.returned (.tuple #[pv st A' n' c', .int .i64 er'])) ((W.setCell ⟨b + 1, 0, none⟩ (.int .i64 st)).setCell ⟨b + 1, 1, none⟩ (.slice A' n' c')) := fun st er' A' n' c' v' W k o hg r => by
    refine ⟨st, A', n', c', er', v', rfl, (o.setN (p := ⟨b + 1, 0, none⟩) hg _).setN (p := ⟨b + 1, 1, none⟩) hg _, ?_, r⟩
    have := HB2.out.trans (k.mono HB2.out.size)
    exact (this.setCell (p := ⟨b + 1, 0, none⟩) (by have := HBQ.out; show _ ≤ b + 1; omega) _).setCell (p := ⟨b + 1, 1, none⟩) (by have := HBQ.out; show _ ≤ b + 1; omega) _
  have HFIN := Lib.hid hfin
  have BX := Lib.hid ((Below.refl w2.heap.size w2).alloc (Nat.le_refl _) (.cells #[.slice dA dn dc, .slice vA vn vc] 77))
  have SX := Lib.hid (SBox.new (w := w2) (d := ((dA, dn, dc), (vA, vn, vc))) w2.heap.size rfl)
  have PX := Lib.hid (HX2.out.below BX.out HX2.out.lt)
  clear hfin
  go_upto_region 2 with fail
  obtain ⟨g5, hg5⟩ : ∃ g, g = w2.heap.size := ⟨_, rfl⟩
  have HG5 := Lib.hid hg5
  rw [← hg5] at SX hbl2 ⊢
  generalize w2.alloc (.cells #[.slice dA dn dc, .slice vA vn vc] 77) = w3 at *
  clear hg5
  obtain ⟨p0, p1, pf, pl⟩ := PX.out
  have pf0 := pf 0
  have pf1 := pf 1
  have x0 : w3.cell? ⟨g5, 0, none⟩ = some (.slice dA dn dc) := SX.out.c0
  have x1 : w3.cell? ⟨g5, 1, none⟩ = some (.slice vA vn vc) := SX.out.c1
  have PP0 := Lib.hid (fun (st : Int) (A' : Option Addr) (n' c' : Nat) => PX.out.put (st' := st) (A' := A') (n' := n') (c' := c'))
  clear pf
  by_cases he : er = 0
  · subst he
    have hsol : validR l wt = 0 ∧ Sol l wt bs v := by
      rcases HR.out with ⟨h1, h2, _⟩ | ⟨_, h2, _⟩ | ⟨h1, _, h3⟩
      · exact absurd h2.symm h1
      · omega
      · exact ⟨h1, h3⟩
    have HSOL := Lib.hid hsol
    clear hsol
    by_cases hz : vn = 0
    · subst hz
      have hv0 : v = [] := List.length_eq_zero_iff.1 HVN.out.symm
      have RR := Lib.hid (show LeastR l wt 0 [] 0 from Or.inr (Or.inr ⟨HSOL.out.1, rfl, ⟨bs, by rw [← hv0]; exact HSOL.out.2⟩, Or.inl ⟨rfl, rfl⟩⟩))
      clear hv0
      go_wp2_with fail
      refine bodyPost_ret (results_plan rfl _ _ (b + 1) 0 0 none 0 0 rfl rfl (PP0.out _ _ _ _).c0 (PP0.out _ _ _ _).c1) rfl ?_
      exact HFIN.out 0 0 none 0 0 [] _ BX.out Own.nil (fun g h => (by cases h)) RR.out
    · have hvp : 0 < v.length := by have := HVN.out; omega
      have hn0 : ((vn : Int) == 0) = false := by simp; omega
      have hn1 : ¬ ((vn : Int) = 0) := by omega
      have HMX := Lib.hid (fun W k => max_any v vA vc W k HVM.out hvp)
      rw [← HVN.out] at HMX
      have HV3 := Lib.hid (HVR.out.below BX.out)
      clear hz hvp
      go_wp2_with fail
      refine (HMX.out _ HV3.out).mono ?_
      rintro e w4 ⟨M, rfl, hT, hw4⟩
      subst hw4
      have hb := HSOL.out.2.bound (formOk_of HSOL.out.1)
      obtain ⟨x, hx, hxM⟩ := hT.hit
      have hMb := (hb x).1
      rw [hxM] at hMb
      have HT := Lib.hid hT
      clear hT hb hx hxM
      obtain ⟨K, rfl⟩ := Int.eq_ofNat_of_zero_le hMb.1
      have hK : K < 4096 := by omega
      have HST := Lib.hid (stepsZ_nat hK)
      go_wp2_with fail
      refine (steps_any _ _).mono ?_
      rintro e w5 ⟨rfl, hw5⟩
      subst hw5
      rw [HST.out]
      have RR := Lib.hid (show LeastR l wt (ln K : Int) v 0 from Or.inr (Or.inr ⟨HSOL.out.1, rfl, ⟨bs, HSOL.out.2⟩, Or.inr ⟨(K : Int), by rw [← HVN.out] at *; exact HT.out, rfl⟩⟩))
      go_wp2_with fail
      refine bodyPost_ret (results_plan rfl _ _ (b + 1) (ln K : Int) 0 vA vn vc rfl rfl (PP0.out _ _ _ _).c0 (PP0.out _ _ _ _).c1) rfl ?_
      refine HFIN.out (ln K : Int) 0 vA vn vc v _ BX.out ((HOV.out.base HBW.out.size).below BX.out) (fun g h => ?_) RR.out
      have := (own_block HOV.out h).1
      omega
  · have hne : (er != 0) = true := bne_iff_ne.2 he
    have RR := Lib.hid (show LeastR l wt 0 [] er from by
      rcases HR.out with ⟨h1, h2, _, _⟩ | ⟨h1, h2, _, _, h5⟩ | ⟨_, h2, _⟩
      · exact Or.inl ⟨h1, h2, rfl, rfl⟩
      · exact Or.inr (Or.inl ⟨h1, h2, rfl, rfl, h5⟩)
      · exact absurd h2 he)
    clear he
    go_wp2_with fail
    refine bodyPost_ret (results_plan rfl _ _ (b + 1) 0 er none 0 0 rfl rfl (PP0.out _ _ _ _).c0 (PP0.out _ _ _ _).c1) rfl ?_
    exact HFIN.out 0 er none 0 0 [] _ BX.out Own.nil (fun g h => (by cases h)) RR.out
/-- What Witness answers. -/
def WitR (l : List It) (wt : Int) (zs : List Int) (er : Int) : Prop :=
  (validR l wt ≠ 0 ∧ er = validR l wt ∧ zs = []) ∨ (validR l wt = 0 ∧ er = 15 ∧ zs = [] ∧ ∀ bs' v', ¬ Sol l wt bs' v') ∨ (validR l wt = 0 ∧ er = 0 ∧ ∃ bs v, Sol l wt bs v ∧ ((l.length = 0 ∧ zs = []) ∨ ∃ y c, IsTop v y ∧ IsBackB l v bs y c ∧ zs = toZ c))
theorem WitR.uniq {l : List It} {wt er er' : Int} {v v' : List Int} (h : WitR l wt v er) (k : WitR l wt v' er') : v = v' ∧ er = er' := by
  rcases h with ⟨h0, rfl, rfl⟩ | ⟨h0, rfl, rfl, h1⟩ | ⟨h0, rfl, bs, vs, h1, h2⟩
  · rcases k with ⟨k0, rfl, rfl⟩ | ⟨k0, rfl, rfl, k1⟩ | ⟨k0, rfl, bs', vs', k1, k2⟩
    · exact ⟨rfl, rfl⟩
    · exact absurd k0 h0
    · exact absurd k0 h0
  · rcases k with ⟨k0, rfl, rfl⟩ | ⟨k0, rfl, rfl, k1⟩ | ⟨k0, rfl, bs', vs', k1, k2⟩
    · exact absurd h0 k0
    · exact ⟨rfl, rfl⟩
    · exact absurd k1 (h1 _ _)
  · rcases k with ⟨k0, rfl, rfl⟩ | ⟨k0, rfl, rfl, k1⟩ | ⟨k0, rfl, bs', vs', k1, k2⟩
    · exact absurd h0 k0
    · exact absurd h1 (k1 _ _)
    · obtain ⟨rfl, rfl⟩ := h1.uniq (valid_ok h0).2.2 k1
      refine ⟨?_, rfl⟩
      rcases h2 with ⟨h2, rfl⟩ | ⟨y, c, h2, h3, rfl⟩
      · rcases k2 with ⟨_, rfl⟩ | ⟨y', c', k2, _, _⟩
        · rfl
        · have := k2.lt; rw [h1.vlen, h2] at this; cases this
      · rcases k2 with ⟨k2, rfl⟩ | ⟨y', c', k2, k3, rfl⟩
        · have := h2.lt; rw [h1.vlen, k2] at this; cases this
        · obtain rfl := h2.uniq k2
          rw [h3.uniq k3]
def WitPost (l : List It) (wt : Int) (w : World) (e : Ending) (w' : World) : Prop :=
  ∃ u er zs, e = .returned (.tuple #[u, .int .i64 er]) ∧ Own .i64 3 w' w.heap.size u zs ∧ Below w.heap.size w w' ∧ WitR l wt zs er
end Go.Proofs.Ytkopbnppjhdbgaa
