/-
  Stage 13: the reference's Least.
-/
import Derived.Test.YtcplanafcnnodaaYBelP
import Derived.Test.YtcplanafcnnodaaYMx
import Derived.Test.YtcplanafcnnodaaYChain
import Derived.Test.YtcplanafcnnodaaJRef3
import Derived.Test.YtcplanafcnnodaaKRef2
import Derived.Test.YtcplanafcnnodaaKStep
set_option linter.unusedSimpArgs false
set_option linter.unusedVariables false
namespace Go.Proofs.Ytcplanafcnnodaa
open Go.RowKit Go.Lib

/-- The greatest code up to now. -/
structure MxI (zs : List Int) (M : Int) : Prop where
  le : ∀ x, zs.getD x 0 ≤ M
  hit : M = 0 ∨ ∃ x, x < zs.length ∧ zs.getD x 0 = M
  bd : 0 ≤ M ∧ M ≤ 4095
theorem MxI.start (n : Nat) : MxI (List.replicate n 0) 0 := ⟨fun x => by rw [getD_zeros]; exact Int.le_refl _, Or.inl rfl, by omega⟩
theorem MxI.set {zs : List Int} {M K : Int} {y : Nat} (h : MxI zs M) (hy : y < zs.length) (h0 : zs.getD y 0 = 0) (hK : 0 ≤ K ∧ K ≤ 4095) : MxI (zs.set y K) (max2 M K) := by
  have hb := h.bd
  have hm : max2 M K = if M < K then K else M := rfl
  refine ⟨fun x => ?_, ?_, ?_⟩
  · have := h.le x
    rw [getDset hy, hm]
    split <;> split <;> omega
  · rw [hm]
    by_cases g : M < K
    · rw [if_pos g]
      exact Or.inr ⟨y, by rw [List.length_set]; exact hy, by rw [getDset hy, if_pos rfl]⟩
    · rw [if_neg g]
      rcases h.hit with e | ⟨x, hx, e⟩
      · exact Or.inl e
      · by_cases exy : y = x
        · subst exy; left; omega
        · exact Or.inr ⟨x, by rw [List.length_set]; exact hx, by rw [getDset hy, if_neg exy]; exact e⟩
  · rw [hm]; split <;> omega
theorem MxI.steps {zs : List Int} {M : Int} (h : MxI zs M) (h0 : ∀ x, 0 ≤ zs.getD x 0) : StepsOf zs (ln M.toNat : Int) := by
  rcases Nat.eq_zero_or_pos zs.length with e | e
  · have hz : zs = [] := List.length_eq_zero_iff.1 e
    left
    refine ⟨hz, ?_⟩
    rcases h.hit with g | ⟨x, hx, _⟩
    · rw [g]; rfl
    · omega
  · right
    refine ⟨M, ⟨fun x hx => h.le x, ?_⟩, rfl⟩
    rcases h.hit with g | g
    · refine ⟨0, e, ?_⟩
      have := h.le 0
      have := h0 0
      omega
    · exact g
/-- What is found ahead of the item y of the block b. -/
abbrev VSol (l : List It) (wt : Int) (b y : Nat) (zs : List Int) : Prop := ∃ bs, PSol l wt (fun x => x < l.length ∧ Vis l b y x) bs zs
theorem VSol.start {l : List It} (wt : Int) (hb : BlkOk l) : VSol l wt 0 0 (List.replicate l.length 0) :=
  ⟨_, (PSol.start l wt).congr fun x => ⟨fun h => h.elim, fun ⟨hx, h⟩ => by have := (hb x hx).1; rcases h with h | h <;> omega⟩⟩
theorem VSol.skip {l : List It} {wt : Int} {b y : Nat} {zs : List Int} (h : VSol l wt b y zs) (hy : blk l y ≠ (b : Int)) : VSol l wt b (y + 1) zs := by
  obtain ⟨bs, h⟩ := h
  refine ⟨bs, h.congr fun x => ⟨fun ⟨hx, k⟩ => ⟨hx, ?_⟩, fun ⟨hx, k⟩ => ⟨hx, ?_⟩⟩⟩
  · rcases k with k | ⟨k1, k2⟩
    · exact Or.inl k
    · exact Or.inr ⟨k1, by omega⟩
  · rcases k with k | ⟨k1, k2⟩
    · exact Or.inl k
    · rcases Nat.eq_or_lt_of_le (Nat.le_of_lt_succ k2) with e | e
      · subst e; exact absurd k1 hy
      · exact Or.inr ⟨k1, e⟩
theorem VSol.nextB {l : List It} {wt : Int} {b : Nat} {zs : List Int} (h : VSol l wt b l.length zs) : VSol l wt (b + 1) 0 zs := by
  obtain ⟨bs, h⟩ := h
  refine ⟨bs, h.congr fun x => ⟨fun ⟨hx, k⟩ => ⟨hx, ?_⟩, fun ⟨hx, k⟩ => ⟨hx, ?_⟩⟩⟩
  · rcases k with k | ⟨k1, k2⟩
    · exact Or.inl (by omega)
    · exact Or.inl (by omega)
  · rcases k with k | ⟨_, k2⟩
    · rcases Int.lt_or_le (blk l x) b with g | g
      · exact Or.inl g
      · exact Or.inr ⟨by omega, hx⟩
    · omega
theorem VSol.zero {l : List It} {wt : Int} {b y : Nat} {zs : List Int} (h : VSol l wt b y zs) (hy : blk l y = (b : Int)) : zs.getD y 0 = 0 := by
  obtain ⟨bs, h⟩ := h
  exact (h.rest y (fun ⟨_, k⟩ => by rcases k with k | k <;> omega)).1
theorem VSol.len {l : List It} {wt : Int} {b y : Nat} {zs : List Int} (h : VSol l wt b y zs) : zs.length = l.length := by
  obtain ⟨bs, h⟩ := h
  exact h.vlen
theorem VSol.bd {l : List It} {wt : Int} {b y : Nat} {zs : List Int} (hf : FormOk l wt) (h : VSol l wt b y zs) (x : Nat) : 0 ≤ zs.getD x 0 ∧ zs.getD x 0 ≤ 4095 := by
  obtain ⟨bs, h⟩ := h
  exact (h.bound hf x).1
theorem VSol.set {l : List It} {wt : Int} {b y : Nat} {zs : List Int} {M k : Int} (hf : FormOk l wt) (h : VSol l wt b y zs) (hyl : y < l.length) (hy : blk l y = (b : Int)) (hM : IsMaxP (fun z => z < l.length) (fun z => via l zs z y) M) (hk : nextZ M (rnd l y) wt = (k, 0)) : VSol l wt b (y + 1) (zs.set y k) := by
  obtain ⟨bs, h⟩ := h
  have hn : ¬ (y < l.length ∧ Vis l b y y) := fun ⟨_, g⟩ => by rcases g with g | g <;> omega
  have hd : ∀ x, x < l.length → rel l x y ≠ 0 → (x < l.length ∧ Vis l b y x) := fun x hx g => ⟨hx, Or.inl (by have := (rel_pos g).2; omega)⟩
  refine ⟨_, (h.step hyl hn hd hM hk).congr fun x => ⟨fun g => ?_, fun ⟨hx, g⟩ => ?_⟩⟩
  · rcases g with ⟨hx, g⟩ | rfl
    · refine ⟨hx, ?_⟩
      rcases g with g | ⟨g1, g2⟩
      · exact Or.inl g
      · exact Or.inr ⟨g1, by omega⟩
    · exact ⟨hyl, Or.inr ⟨hy, by omega⟩⟩
  · by_cases e : x = y
    · exact Or.inr e
    · left
      refine ⟨hx, ?_⟩
      rcases g with g | ⟨g1, g2⟩
      · exact Or.inl g
      · exact Or.inr ⟨g1, by omega⟩
theorem VSol.fail {l : List It} {wt : Int} {b y : Nat} {zs : List Int} {M : Int} (hf : FormOk l wt) (h : VSol l wt b y zs) (hyl : y < l.length) (hy : blk l y = (b : Int)) (hM : IsMaxP (fun z => z < l.length) (fun z => via l zs z y) M) (hk : (nextZ M (rnd l y) wt).2 ≠ 0) : ∀ bs' v', ¬ Sol l wt bs' v' := by
  obtain ⟨bs, h⟩ := h
  exact h.fail hf.blk hyl (fun x hx g => ⟨hx, Or.inl (by have := (rel_pos g).2; omega)⟩) hM hk
theorem VSol.done {l : List It} {wt : Int} {zs : List Int} (hb : BlkOk l) (h : VSol l wt 32 0 zs) : ∃ bs, Sol l wt bs zs := by
  obtain ⟨bs, h⟩ := h
  exact ⟨bs, h.congr fun x => ⟨fun g => g.1, fun hx => ⟨hx, Or.inl (by have := (hb x hx).2; show blk l x < 32; omega)⟩⟩⟩
theorem rl_row {T : TypeId} {w : World} {base n c : Nat} {a : Addr} {zs : List Int} (h : Own .i64 T w base (.slice (some a) n c) zs) : Row .i64 w w.heap.size (some a) zs := by
  obtain ⟨A', c', e1, R', _⟩ := h.slice
  injection e1 with e1
  subst e1
  exact R'
theorem rl_bd {l : List It} {zs : List Int} {y : Nat} {M : Int} (h : IsMaxP (fun x => x < l.length) (fun x => via l zs x y) M) (hb : ∀ x, 0 ≤ zs.getD x 0 ∧ zs.getD x 0 ≤ 4095) : 0 ≤ M ∧ M ≤ 4096 := by
  refine ⟨h.pos, ?_⟩
  rcases h.hit with e | ⟨x, hx, e⟩
  · omega
  · have e' : via l zs x y = M := e
    by_cases g : rel l x y = 0
    · rw [via_zero g] at e'; omega
    · rw [via_str g] at e'
      have h1 := hb x
      have h2 : str1 l x y ≤ 1 := by unfold str1; split <;> omega
      omega
theorem next_or2 {n r wt k e : Int} (hn : 0 ≤ n) (hr : 0 ≤ r ∧ r ≤ 12) (hw : 0 ≤ wt ∧ wt ≤ 12) (h : nextZ n r wt = (k, e)) : (e = 0 ∧ 0 ≤ k ∧ k ≤ 4095) ∨ (e = 15 ∧ (nextZ n r wt).2 ≠ 0) := by
  by_cases h0 : (nextZ n r wt).2 = 0
  · rw [h] at h0
    have h0' : e = 0 := h0
    subst h0'
    have := next_bd hn hr hw h
    exact Or.inl ⟨rfl, by omega, by omega⟩
  · have h1 := next_err hn hr hw h0
    refine Or.inr ⟨?_, h0⟩
    rw [h] at h1
    injection h1
set_option maxRecDepth 100000 in
set_option maxHeartbeats 3200000 in
theorem rleast_any (l : List It) (A : Option Addr) (c L : Nat) (wt : Int) (hL : L = l.length) (w : World) (h : IRow w A l) :
    Calls Try.prog 45 #[jv A L c wt] w (LeastPost l wt w) := by
  have H := Lib.hid h
  have HL := Lib.hid hL
  have HVL := Lib.hid (fun (W : World) (k : IRow W A l) => rvalid_any l A c wt W k)
  rw [← hL] at HVL
  have s1 : (w.alloc (.cells #[.slice A L c, .int .i64 wt] 24)).heap.size = w.heap.size + 1 := by simp
  have J0 := JBox.new (w := w) (A := A) (n := L) (c := c) (wt := wt) w.heap.size rfl
  have B0 := (Below.refl w.heap.size w).alloc (Nat.le_refl _) (.cells #[.slice A L c, .int .i64 wt] 24)
  have X0 := PBox.new (w := w.alloc (.cells #[.slice A L c, .int .i64 wt] 24)) (st := 0) (A := none) (n := 0) (c := 0) _ rfl
  have b1 := (Below.refl _ (w.alloc (.cells #[.slice A L c, .int .i64 wt] 24))).alloc (Nat.le_refl _) (.cells #[.int .i64 0, .slice none 0 0] 29)
  have HJ := Lib.hid (J0.below b1 J0.lt)
  have HBW := Lib.hid (B0.trans (b1.mono B0.size))
  rw [s1] at X0
  have HX := Lib.hid X0
  obtain ⟨b, hbq⟩ : ∃ b, b = w.heap.size := ⟨_, rfl⟩
  have HBQ := Lib.hid hbq
  clear h hL s1 J0 B0 X0 b1
  go_enter Try.func45, Try.ntmps45
  go_upto_region 1 with fail
  rw [← hbq] at HJ HX ⊢
  generalize (w.alloc (.cells #[.slice A L c, .int .i64 wt] 24)).alloc (.cells #[.int .i64 0, .slice none 0 0] 29) = w1 at *
  clear hbq
  obtain ⟨j0, j1, jl⟩ := HJ.out
  go_wp2_with fail
  refine (HVL.out w1 (H.out.below HBW.out)).mono ?_
  rintro e w2 ⟨rfl, B2⟩
  have HX2 := Lib.hid (HX.out.below B2 HX.out.lt)
  have HJ2 := Lib.hid (HJ.out.below B2 HJ.out.lt)
  have HB2 := Lib.hid (HBW.out.trans (B2.mono HBW.out.size))
  have HBL := Lib.hid (show b + 1 < w2.heap.size from HX2.out.lt)
  clear j0 j1 jl HX HJ B2 HBW
  have HFIN := Lib.hid (show ∀ (st er' : Int) (A' : Option Addr) (n' c' : Nat) (v' : List Int) (W : World), Below w2.heap.size w2 W → Own .i64 3 W w.heap.size (.slice A' n' c') v' → (∀ g, (Value.slice A' n' c').ownBlock = some g → g ≠ b + 1) → LeastR l wt st v' er' →
      LeastPost l wt w (.returned (.tuple #[pv st A' n' c', .int .i64 er'])) ((W.setCell ⟨b + 1, 0, none⟩ (.int .i64 st)).setCell ⟨b + 1, 1, none⟩ (.slice A' n' c')) from fun st er' A' n' c' v' W k o hg r => by
    refine ⟨st, A', n', c', er', v', rfl, (o.setN (p := ⟨b + 1, 0, none⟩) hg _).setN (p := ⟨b + 1, 1, none⟩) hg _, ?_, r⟩
    have := HB2.out.trans (k.mono HB2.out.size)
    exact (this.setCell (p := ⟨b + 1, 0, none⟩) (by have := HBQ.out; show _ ≤ b + 1; omega) _).setCell (p := ⟨b + 1, 1, none⟩) (by have := HBQ.out; show _ ≤ b + 1; omega) _)
  by_cases he : validR l wt = 0
  · have HE := Lib.hid he
    have HFO := Lib.hid (formOk_of he)
    obtain ⟨p1, -, -⟩ := valid_ok he
    rw [he]
    rw [← HL.out] at p1
    have hmk := make_ints w2 L (by omega)
    have O0 := Lib.hid (Own.laid (k := .i64) (T := 3) w2 w2.heap.size (Nat.le_refl _) (List.replicate L 0) L (by simp) (by omega))
    have B4 := Lib.hid ((Below.refl w2.heap.size w2).alloc (Nat.le_refl _) (.cells ((List.replicate L 0).map (Value.int .i64)).toArray 3))
    have I0 := Lib.hid (VSol.start wt HFO.out.blk)
    have M0 := Lib.hid (MxI.start L)
    rw [← HL.out] at I0
    obtain ⟨g, hg⟩ : ∃ g, g = w2.heap.size := ⟨_, rfl⟩
    have HG := Lib.hid hg
    rw [← hg] at O0 hmk B4
    generalize w2.alloc (.cells ((List.replicate L 0).map (Value.int .i64)).toArray 3) = w4 at *
    generalize List.replicate L (0 : Int) = z0 at *
    have HJ := Lib.hid (show ∀ W, Below g w2 W → JBox W b A L c wt from fun W k => HJ2.out.below k (by rw [HG.out]; exact HJ2.out.lt))
    have HX := Lib.hid (show ∀ W, Below g w2 W → PBox W (b + 1) 0 none 0 0 from fun W k => HX2.out.below k (by rw [HG.out]; exact HX2.out.lt))
    have HI := Lib.hid (show ∀ W, Below g w2 W → IRow W A l from fun W k => H.out.below (HB2.out.trans ((show Below w2.heap.size w2 W by rw [← HG.out]; exact k).mono HB2.out.size)))
    have HPB := Lib.hid (show ∀ W, Below g w2 W → Below w2.heap.size w2 W from fun W k => by rw [← HG.out]; exact k)
    obtain ⟨j0, j1, jl⟩ := HJ2.out
    clear hg he
    go_wp2_with fail
    clear j0 j1 jl hmk HJ2 HX2
    go_loopw [6, 7] (fun mv iv wr => ∃ (bb : Nat) (M : Int) (zs : List Int), bb ≤ 32 ∧ iv = .int .i64 (bb : Int) ∧ mv = .int .i64 M ∧ Hid (MxI zs M) ∧ Hid (Own .i64 3 wr g (.slice (some ⟨g, 0, none⟩) L L) zs) ∧ Hid (VSol l wt bb 0 zs) ∧ Hid (Below g w2 wr)) (fun _ iv _ => 32 - (intOf iv).toNat)
    case atStart => exact ⟨0, 0, z0, by omega, rfl, rfl, M0, O0, I0, B4⟩
    case round =>
      clear O0 I0 B4 M0
      obtain ⟨bb, M1, zs, hbb, rfl, rfl, MX, O, I, B⟩ := hrel
      by_cases hlt : bb < 32
      · have hb32 : (bb : Int) < 32 := by omega
        have hbd : decide ((bb : Int) < 32) = true := decide_eq_true hb32
        go_wp2_with fail
        go_loopw [6, 8] (fun mv iv wi => ∃ (y : Nat) (M : Int) (zi : List Int), y ≤ L ∧ iv = .int .i64 (y : Int) ∧ mv = .int .i64 M ∧ Hid (MxI zi M) ∧ Hid (Own .i64 3 wi g (.slice (some ⟨g, 0, none⟩) L L) zi) ∧ Hid (VSol l wt bb y zi) ∧ Hid (Below g w2 wi)) (fun _ iv _ => L - (intOf iv).toNat)
        case atStart => exact ⟨0, M1, zs, by omega, rfl, rfl, MX, O, I, B⟩
        case round =>
          clear O I B MX
          obtain ⟨y, MM, zi, hy, rfl, rfl, MX, O, I, B⟩ := hrel
          by_cases hly : y < L
          · have HYL := Lib.hid (show y < l.length by rw [← HL.out]; exact hly)
            obtain ⟨j0, j1, jl⟩ := HJ.out _ B.out
            obtain ⟨aA, rfl, CE⟩ := (HI.out _ B.out).at_ y HYL.out
            obtain ⟨-, r1, r2, -⟩ := CE.spelt
            replace r2 : wr.cell? ⟨(aA.add (y * 4)).block, (aA.add (y * 4)).off + 2, none⟩ = some (.int .i64 (rnd l y)) := r2
            replace r1 : wr.cell? ⟨(aA.add (y * 4)).block, (aA.add (y * 4)).off + 1, none⟩ = some (.int .i64 (blk l y)) := r1
            have hyi : (y : Int) < (L : Int) := by omega
            have HRS := Lib.hid (show zi.length = L by rw [I.out.len, HL.out])
            clear CE
            by_cases e : blk l y = (bb : Int)
            · have HEB := Lib.hid e
              rw [e] at r1
              have hbe : ((bb : Int) != (bb : Int)) = false := by simp
              have HPS := Lib.hid (fun (X : World) (k : Below g w2 X) => (show X.cell? ⟨b, 0, none⟩ = some (.slice (some aA) L c) ∧ X.cell? ⟨b, 1, none⟩ = some (.int .i64 wt) ∧ X.cell? ⟨(aA.add (y * 4)).block, (aA.add (y * 4)).off + 2, none⟩ = some (.int .i64 (rnd l y)) from by
                obtain ⟨aB, e', CE⟩ := (HI.out X k).at_ y HYL.out
                obtain rfl : aA = aB := by injection e'
                obtain ⟨-, -, r2, -⟩ := CE.spelt
                exact ⟨(HJ.out X k).c0, (HJ.out X k).c1, r2⟩))
              have HBASE := Lib.hid (fun (W : World) (k : Below g w2 W) (o : Own .i64 3 W g (.slice (some ⟨g, 0, none⟩) L L) zi) => base_any l (some aA) (some ⟨g, 0, none⟩) c L wt zi y HYL.out W (HI.out W k) (rl_row o) (by rw [HRS.out, HL.out]) (fun k _ => by have := I.out.bd HFO.out k; omega))
              rw [← HL.out] at HBASE
              obtain ⟨rr, hrr⟩ : ∃ z, z = rnd l y := ⟨_, rfl⟩
              have HRR := Lib.hid hrr
              rw [← hrr] at r2 HPS
              clear e hrr
              go_upto_region 13 with fail
              clear r1 r2 j0 j1 jl hbe hb32 hbd
              obtain ⟨q0, e0⟩ : ∃ x, x = wr.drew := ⟨_, rfl⟩
              have K0 := Lib.hid (show Below g w2 q0 from by rw [e0]; exact B.out.drew)
              have O0 := Lib.hid (show Own .i64 3 q0 g (.slice (some ⟨g, 0, none⟩) L L) zi from by rw [e0]; exact O.out.drewN 1)
              have F0 := HPS.out q0 K0.out
              have HE0 := Lib.hid e0
              clear e0 B O
              refine AnyT.begin_at tlN (fun X => X.cell? ⟨b, 0, none⟩ = some (.slice (some aA) L c) ∧ X.cell? ⟨b, 1, none⟩ = some (.int .i64 wt) ∧ X.cell? ⟨(aA.add (y * 4)).block, (aA.add (y * 4)).off + 2, none⟩ = some (.int .i64 rr)) (by kernel_rfl) HE0.out F0 ?_
              clear F0 HE0
              intro F0
-- TAKES G1
              refine AnyT.takeD (i := 0) (d := some 40) (v := jv (some aA) L c wt) rfl rfl (by kernel_rfl) (by kernel_rfl) (by kernel_rfl) (by kernel_rfl) (fun _ _ _ h => h) (Or.inl ⟨by rfl, fun wz hz => by obtain ⟨z0, z1, z2⟩ := hz; go_simp⟩) F0 ?_
              simp only [Act.put, List.setIfInBounds_toArray, List.set_cons_zero, List.set_cons_succ]
              refine AnyT.takeD (i := 1) (d := some 41) (v := .slice (some ⟨g, 0, none⟩) L L) rfl rfl (by kernel_rfl) (by kernel_rfl) (by kernel_rfl) (by kernel_rfl) (fun _ _ _ h => h) (Or.inl ⟨by rfl, fun wz _ => by go_simp⟩) F0 ?_
              simp only [Act.put, List.setIfInBounds_toArray, List.set_cons_zero, List.set_cons_succ]
              refine AnyT.takeD (i := 2) (d := some 42) (v := .int .i64 (y : Int)) rfl rfl (by kernel_rfl) (by kernel_rfl) (by kernel_rfl) (by kernel_rfl) (fun _ _ _ h => h) (Or.inl ⟨by rfl, fun wz _ => by go_simp⟩) F0 ?_
              simp only [Act.put, List.setIfInBounds_toArray, List.set_cons_zero, List.set_cons_succ]
              refine AnyT.takeD (i := 4) (d := some 44) (v := .pointer (some ⟨b, 0, none⟩)) rfl rfl (by kernel_rfl) (by kernel_rfl) (by kernel_rfl) (by kernel_rfl) (fun _ _ _ h => h) (Or.inl ⟨by rfl, fun wz _ => by go_simp⟩) F0 ?_
              simp only [Act.put, List.setIfInBounds_toArray, List.set_cons_zero, List.set_cons_succ]
              refine AnyT.takeD (i := 5) (d := some 45) (v := .slice (some aA) L c) rfl rfl (by kernel_rfl) (by kernel_rfl) (by kernel_rfl) (by kernel_rfl) (fun _ _ _ h => h) (Or.inl ⟨by rfl, fun wz hz => by obtain ⟨z0, z1, z2⟩ := hz; go_simp⟩) F0 ?_
              simp only [Act.put, List.setIfInBounds_toArray, List.set_cons_zero, List.set_cons_succ]
              refine AnyT.takeD (i := 6) (d := some 46) (v := .int .i64 (y : Int)) rfl rfl (by kernel_rfl) (by kernel_rfl) (by kernel_rfl) (by kernel_rfl) (fun _ _ _ h => h) (Or.inl ⟨by rfl, fun wz _ => by go_simp⟩) F0 ?_
              simp only [Act.put, List.setIfInBounds_toArray, List.set_cons_zero, List.set_cons_succ]
              refine AnyT.takeD (i := 7) (d := some 47) (v := .pointer (some (aA.add (y * 4)))) rfl rfl (by kernel_rfl) (by kernel_rfl) (by kernel_rfl) (by kernel_rfl) (fun _ _ _ h => h) (Or.inl ⟨by rfl, fun wz _ => by go_simp⟩) F0 ?_
              simp only [Act.put, List.setIfInBounds_toArray, List.set_cons_zero, List.set_cons_succ]
              refine AnyT.takeD (i := 8) (d := some 48) (v := .pointer (some ⟨(aA.add (y * 4)).block, (aA.add (y * 4)).off + 2, none⟩)) rfl rfl (by kernel_rfl) (by kernel_rfl) (by kernel_rfl) (by kernel_rfl) (fun _ _ _ h => h) (Or.inl ⟨by rfl, fun wz _ => by go_simp⟩) F0 ?_
              simp only [Act.put, List.setIfInBounds_toArray, List.set_cons_zero, List.set_cons_succ]
              refine AnyT.takeD (i := 9) (d := some 49) (v := .int .i64 rr) rfl rfl (by kernel_rfl) (by kernel_rfl) (by kernel_rfl) (by kernel_rfl) (fun _ _ _ h => h) (Or.inl ⟨by rfl, fun wz hz => by obtain ⟨z0, z1, z2⟩ := hz; go_simp⟩) F0 ?_
              simp only [Act.put, List.setIfInBounds_toArray, List.set_cons_zero, List.set_cons_succ]
              refine AnyT.takeD (i := 10) (d := some 50) (v := .pointer (some ⟨b, 1, none⟩)) rfl rfl (by kernel_rfl) (by kernel_rfl) (by kernel_rfl) (by kernel_rfl) (fun _ _ _ h => h) (Or.inl ⟨by rfl, fun wz _ => by go_simp⟩) F0 ?_
              simp only [Act.put, List.setIfInBounds_toArray, List.set_cons_zero, List.set_cons_succ]
              refine AnyT.takeD (i := 11) (d := some 51) (v := .int .i64 wt) rfl rfl (by kernel_rfl) (by kernel_rfl) (by kernel_rfl) (by kernel_rfl) (fun _ _ _ h => h) (Or.inl ⟨by rfl, fun wz hz => by obtain ⟨z0, z1, z2⟩ := hz; go_simp⟩) F0 ?_
              simp only [Act.put, List.setIfInBounds_toArray, List.set_cons_zero, List.set_cons_succ]
              -- TAKEN G1
              refine AnyT.branch (rs := [3]) (by kernel_rfl) (by simp) ?_
              refine all_cons (?_) all_nil
              refine AnyT.enter (i := 3) (d := some 43) (f := 30) (args := #[jv (some aA) L c wt, .slice (some ⟨g, 0, none⟩) L L, .int .i64 (y : Int)]) rfl rfl rfl (by go_simp) (HBASE.out q0 K0.out O0.out) ?_
              rintro e q1 ⟨M, rfl, hM, B1⟩
              have hMb := rl_bd hM (I.out.bd HFO.out)
              have HM := Lib.hid hM
              have K1 := Lib.hid (K0.out.trans (B1.mono (Nat.le_of_lt (own_block O0.out (g := g) rfl).2)))
              have O1 := Lib.hid (O0.out.below B1)
              have F1 := HPS.out q1 K1.out
              refine ⟨_, rfl, fun _ => F1, ?_⟩
              clear F0 hM B1 K0 O0 HBASE
              simp only [Act.put, List.setIfInBounds_toArray, List.set_cons_zero, List.set_cons_succ]
              have hnx := rnext_any M rr wt q1 (by omega)
              obtain ⟨⟨K, er⟩, hz⟩ : ∃ t, t = nextZ M rr wt := ⟨_, rfl⟩
              rw [← hz] at hnx
              have HZ := Lib.hid hz
              have HNX := Lib.hid hnx
              clear hz hnx
              refine AnyT.branch (rs := [12]) (by kernel_rfl) (by simp) ?_
              refine all_cons (?_) all_nil
              refine AnyT.enter (i := 12) (d := some 52) (f := 29) (args := #[.int .i64 M, .int .i64 rr, .int .i64 wt]) rfl rfl rfl (by go_simp) HNX.out ?_
              rintro e q4 ⟨rfl, hq4⟩
              have BD4 : Below q1.heap.size q1 q4 := by obtain ⟨n, rfl⟩ := hq4; exact bdn (Below.refl _ _)
              have K4 := Lib.hid (K1.out.trans (BD4.mono (Nat.le_of_lt (own_block O1.out (g := g) rfl).2)))
              have O4 := Lib.hid (O1.out.below BD4)
              have F4 := HPS.out q4 K4.out
              refine ⟨_, rfl, fun _ => F4, ?_⟩
              clear F1 BD4 hq4 K1 O1 HNX
              simp only [Act.put, List.setIfInBounds_toArray, List.set_cons_zero, List.set_cons_succ]
-- TAKES G2
              refine AnyT.takeD (i := 13) (d := some 39) (v := R2 (K, er)) rfl rfl (by kernel_rfl) (by kernel_rfl) (by kernel_rfl) (by kernel_rfl) (fun _ _ _ h => h) (Or.inl ⟨by rfl, fun wz _ => by go_simp⟩) F4 ?_
              simp only [Act.put, List.setIfInBounds_toArray, List.set_cons_zero, List.set_cons_succ]
              refine AnyT.takeD (i := 14) (d := some 53) (v := .int .i64 K) rfl rfl (by kernel_rfl) (by kernel_rfl) (by kernel_rfl) (by kernel_rfl) (fun _ _ _ h => h) (Or.inl ⟨by rfl, fun wz _ => by go_simp⟩) F4 ?_
              simp only [Act.put, List.setIfInBounds_toArray, List.set_cons_zero, List.set_cons_succ]
              refine AnyT.takeD (i := 15) (d := some 54) (v := .int .i64 er) rfl rfl (by kernel_rfl) (by kernel_rfl) (by kernel_rfl) (by kernel_rfl) (fun _ _ _ h => h) (Or.inl ⟨by rfl, fun wz _ => by go_simp⟩) F4 ?_
              simp only [Act.put, List.setIfInBounds_toArray, List.set_cons_zero, List.set_cons_succ]
              refine AnyT.takeD (i := 16) (d := some 9) (v := .int .i64 K) rfl rfl (by kernel_rfl) (by kernel_rfl) (by kernel_rfl) (by kernel_rfl) (fun _ _ _ h => h) (Or.inl ⟨by rfl, fun wz _ => by go_simp⟩) F4 ?_
              simp only [Act.put, List.setIfInBounds_toArray, List.set_cons_zero, List.set_cons_succ]
              refine AnyT.takeD (i := 17) (d := some 10) (v := .int .i64 er) rfl rfl (by kernel_rfl) (by kernel_rfl) (by kernel_rfl) (by kernel_rfl) (fun _ _ _ h => h) (Or.inl ⟨by rfl, fun wz _ => by go_simp⟩) F4 ?_
              simp only [Act.put, List.setIfInBounds_toArray, List.set_cons_zero, List.set_cons_succ]
              -- TAKEN G2
              refine AnyT.done_ (by kernel_rfl) ?_ _
              clear F4 HPS
              have hcs := next_or2 hMb.1 (by rw [HRR.out]; exact HFO.out.rb y HYL.out) HFO.out.wb HZ.out.symm
              rcases hcs with ⟨rfl, hKb⟩ | ⟨rfl, hbad⟩
              · have I8 := Lib.hid (I.out.set HFO.out HYL.out HEB.out HM.out (by rw [← HRR.out]; exact HZ.out.symm))
                have MX8 := MX.out.set (y := y) (by rw [HRS.out]; exact hly) (I.out.zero HEB.out) hKb
                obtain ⟨m2, hm2⟩ : ∃ m, m = max2 MM K := ⟨_, rfl⟩
                rw [← hm2] at MX8
                have HMX8 := Lib.hid MX8
                have hmx : ∀ w ts t, (Builtin.max_ ts t #[.int .i64 MM, .int .i64 K]).run Try.prog w = .ok (.int .i64 m2) w := fun w ts t => by rw [run_max2, hm2]
                have dc := O4.out.cell HRS.out.symm y (by rw [HRS.out]; exact hly)
                have fz := O4.out.frozen HRS.out.symm y
                have B8 := Lib.hid (K4.out.setCell (p := ⟨g, y, none⟩) (Nat.le_refl g) (.int .i64 K))
                have O8 := Lib.hid (O4.out.store HRS.out.symm y K)
                clear K4 O4 HZ HM hm2 MX8 hMb hKb
                go_wp2_with fail
                go_roundw
                case rel => exact ⟨y + 1, m2, zi.set y K, by omega, by go_num, rfl, HMX8, O8, I8, B8⟩
                case measure => simp [intOf]; omega
              · have RR := Lib.hid (show LeastR l wt 0 [] 15 from Or.inr (Or.inl ⟨HE.out, rfl, rfl, rfl, I.out.fail HFO.out HYL.out HEB.out HM.out (by rw [← HRR.out]; exact hbad)⟩))
                obtain ⟨p0, p1, pf, pl⟩ := HX.out _ K4.out
                have pf0 := pf 0
                have pf1 := pf 1
                have PP0 := Lib.hid ((HX.out _ K4.out).put (st' := 0) (A' := none) (n' := 0) (c' := 0))
                clear pf HZ HM hbad hMb
                go_wp2_with fail
                refine bodyPost_ret (results_plan rfl _ _ (b + 1) 0 15 none 0 0 rfl rfl PP0.out.c0 PP0.out.c1) rfl ?_
                exact HFIN.out 0 15 none 0 0 [] _ (HPB.out _ K4.out) Own.nil (fun g h => (by cases h)) RR.out
            · have I8 := Lib.hid (I.out.skip e)
              have hbe : (blk l y != (bb : Int)) = true := by simpa using e
              generalize blk l y = bY at *
              clear e
              go_wp2_with fail
              go_roundw
              case rel => exact ⟨y + 1, MM, zi, by omega, by go_num, rfl, MX, O, I8, B⟩
              case measure => simp [intOf]; omega
          · obtain rfl : y = L := by omega
            have I8 := Lib.hid (show VSol l wt (bb + 1) 0 zi from VSol.nextB (by rw [← HL.out]; exact I.out))
            clear hly
            go_wp2_with fail
            go_roundw
            case rel => exact ⟨bb + 1, MM, zi, by omega, by go_num, rfl, MX, O, I8, B⟩
            case measure => simp [intOf]; omega
      · have hbe : bb = 32 := by omega
        have I8 := Lib.hid (show VSol l wt 32 0 zs from hbe ▸ I.out)
        have hb32 : ¬ (bb : Int) < 32 := by omega
        have hmb := MX.out.bd
        have HST := Lib.hid (MX.out.steps (fun x => (I8.out.bd HFO.out x).1))
        obtain ⟨mm, rfl⟩ := Int.eq_ofNat_of_zero_le hmb.1
        rw [Int.toNat_natCast] at HST
        have HLO := Lib.hid (fun W => long_any mm W (by omega))
        obtain ⟨p0, p1, pf, pl⟩ := HX.out _ B.out
        have pf0 := pf 0
        have pf1 := pf 1
        obtain ⟨lm, hlm⟩ : ∃ x, x = ln mm := ⟨_, rfl⟩
        rw [← hlm] at HST HLO
        have PP0 := Lib.hid ((HX.out _ B.out).put (st' := (lm : Int)) (A' := some ⟨g, 0, none⟩) (n' := L) (c' := L))
        have RR := Lib.hid (show LeastR l wt (lm : Int) zs 0 from Or.inr (Or.inr ⟨HE.out, rfl, I8.out.done HFO.out.blk, HST.out⟩))
        clear hbe pf hlm hmb hlt
        go_wp2_with fail
        refine (HLO.out _).mono ?_
        rintro e w5 ⟨rfl, hw5⟩
        subst hw5
        go_wp2_with fail
        refine bodyPost_ret (results_plan rfl _ _ (b + 1) (lm : Int) 0 (some ⟨g, 0, none⟩) L L rfl rfl PP0.out.c0 PP0.out.c1) rfl ?_
        refine HFIN.out (lm : Int) 0 (some ⟨g, 0, none⟩) L L zs _ (HPB.out _ B.out) (O.out.base (by rw [HG.out]; exact HB2.out.size)) (fun q h => ?_) RR.out
        have h1 := (own_block O.out h).1
        have h2 := HBL.out
        have h3 := HG.out
        omega
  · have hne : (validR l wt != 0) = true := bne_iff_ne.2 he
    have RR := Lib.hid (show LeastR l wt 0 [] (validR l wt) from Or.inl ⟨he, rfl, rfl, rfl⟩)
    obtain ⟨p0, p1, pf, pl⟩ := HX2.out
    have pf0 := pf 0
    have pf1 := pf 1
    have PP0 := Lib.hid (HX2.out.put (st' := 0) (A' := none) (n' := 0) (c' := 0))
    have BR := Lib.hid (Below.refl w2.heap.size w2)
    clear pf he
    generalize validR l wt = er at *
    go_wp2_with fail
    refine bodyPost_ret (results_plan rfl _ _ (b + 1) 0 er none 0 0 rfl rfl PP0.out.c0 PP0.out.c1) rfl ?_
    exact HFIN.out 0 er none 0 0 [] _ BR.out Own.nil (fun g h => (by cases h)) RR.out
end Go.Proofs.Ytcplanafcnnodaa
