/-
  Stage 14: many items with all bits: the plan, what is pushed, the loads; a job and a plan that grow together.
-/
import Derived.Test.YtkopbnppjhdbgaaZB
import Derived.Test.YtkopbnppjhdbgaaJGrow
set_option linter.unusedSimpArgs false
set_option linter.unusedVariables false
namespace Go.Proofs.Ytkopbnppjhdbgaa
open Go.RowKit Go.Lib

theorem asc_range' {n : Nat} : ∀ (p : List Nat) (a : Nat), (∀ x, x ∈ p ↔ a ≤ x ∧ x < n) → p.Pairwise (fun x y => x < y) → p = List.range' a (n - a) := by
  intro p
  induction p with
  | nil =>
    intro a hm _
    rcases Nat.lt_or_ge a n with g | g
    · exact absurd ((hm a).2 ⟨Nat.le_refl _, g⟩) (by simp)
    · rw [show n - a = 0 by omega]; rfl
  | cons y p ih =>
    intro a hm hp
    obtain ⟨h1, h2⟩ := List.pairwise_cons.1 hp
    obtain ⟨hy1, hy2⟩ := (hm y).1 (List.mem_cons_self ..)
    have hya : y = a := by
      rcases List.mem_cons.1 ((hm a).2 ⟨Nat.le_refl _, by omega⟩) with e | e
      · exact e.symm
      · have := h1 a e; omega
    subst hya
    rw [ih (y + 1) (fun x => ?_) h2, show n - y = (n - (y + 1)) + 1 by omega, List.range'_succ]
    constructor
    · intro hx
      have := h1 x hx
      have := (hm x).1 (List.mem_cons_of_mem _ hx)
      omega
    · rintro ⟨g1, g2⟩
      rcases List.mem_cons.1 ((hm x).2 ⟨by omega, g2⟩) with e | e
      · omega
      · exact e
theorem asc_range {n : Nat} {p : List Nat} (hm : ∀ x, x ∈ p ↔ x < n) (hp : p.Pairwise (fun x y => x < y)) : p = List.range n := by
  rw [asc_range' (n := n) p 0 (fun x => by rw [hm]; omega) hp, Nat.sub_zero, List.range_eq_range']
theorem pp_natA {w : World} {A : Option Addr} {ls : List (List Nat)} (h : PP w A (ls.map toZ)) {k : Nat} (hk : k < ls.length) :
    ∃ ad : Addr, A = some ad ∧ ∃ a c, w.cell? (ad.add k) = some (.slice a (ls.getD k []).length c) ∧ Row .i64 w w.heap.size a (toZ (ls.getD k [])) := by
  obtain ⟨ad, e, _, a, c, h1, h2, _⟩ := h k _ (getD_ls hk)
  rw [toZ_len] at h1
  exact ⟨ad, e, a, c, h1, h2⟩
/-- n items of one length on one train. -/
def allL (B : Int) (n : Nat) : List It := List.replicate n (0, B, 0, 400)
def allV (n : Nat) : List Int := List.replicate n 4095
theorem allL_len (B : Int) (n : Nat) : (allL B n).length = n := List.length_replicate
theorem allV_len (n : Nat) : (allV n).length = n := List.length_replicate
theorem allL_succ (B : Int) (n : Nat) : allL B (n + 1) = allL B n ++ [(0, B, 0, 400)] := List.replicate_succ'
theorem allV_succ (n : Nat) : allV (n + 1) = allV n ++ [4095] := List.replicate_succ'
theorem allL_at (B : Int) {n x : Nat} (h : x < n) : (allL B n).getD x it0 = (0, B, 0, 400) := by
  unfold allL; simp [List.getD_eq_getElem?_getD, h]
theorem allV_at {n x : Nat} (h : x < n) : (allV n).getD x 0 = 4095 := by
  unfold allV; simp [List.getD_eq_getElem?_getD, h]
theorem all_vw {l : List It} (h : ∀ p ∈ l, okI p ∧ p.2.2.1 = 0) : vwI 0 l = 0 := by
  induction l with
  | nil => rfl
  | cons p l ih =>
    obtain ⟨h1, h2⟩ := h p (List.mem_cons_self ..)
    show (if okI p then (if p.2.2.1 < 0 then 12 else vwI p.2.2.1 l) else 2) = 0
    rw [if_pos h1, if_neg (by omega), h2]
    exact ih (fun q hq => h q (List.mem_cons_of_mem _ hq))
section
variable {B : Int} {n : Nat}
theorem all_valid (hB : 0 ≤ B ∧ B ≤ 3) (hn : n ≤ 96) : validR (allL B n) 12 = 0 := by
  unfold validR
  rw [allL_len, if_neg (by omega), if_pos (by decide)]
  refine all_vw (fun p hp => ?_)
  obtain rfl := List.eq_of_mem_replicate hp
  exact ⟨⟨⟨by show (0 : Int) ≤ 0; omega, by show (0 : Int) ≤ 15; omega⟩, ⟨hB.1, by show B ≤ 31; omega⟩, ⟨by show (0 : Int) ≤ 0; omega, by show (0 : Int) ≤ 12; omega⟩, ⟨by show (1 : Int) ≤ 400; omega, by show (400 : Int) ≤ 400; omega⟩⟩, rfl⟩
theorem all_pl (hB : 0 ≤ B ∧ B ≤ 3) (hn : n ≤ 96) : Pl (allL B n) 12 12 (allV n) := by
  refine ⟨all_valid hB hn, fitB_iff.2 ⟨by omega, by rw [allV_len, allL_len], fun x hx => ?_⟩⟩
  rw [allL_len] at hx
  have hr : rnd (allL B n) x = 0 := by unfold rnd; rw [allL_at B hx]
  unfold okC
  rw [allV_at hx, hr, show isZ 4095 0 12 = isC 0 12 4095 from isZ_nat (R := 0) (V := 12) (K := 4095) (by decide) (by decide)]
  decide
theorem all_cd {x : Nat} (h : x < n) : cdN (allV n) x = 4095 := by unfold cdN; rw [allV_at h]; rfl
theorem all_rd {x : Nat} (h : x < n) : rdN (allL B n) x = 0 := by unfold rdN rnd; rw [allL_at B h]; rfl
theorem all_tn {x : Nat} (h : x < n) : tnN (allL B n) x = 0 := by unfold tnN trn; rw [allL_at B h]; rfl
theorem all_ln {x : Nat} (h : x < n) : lnN (allL B n) x = 400 := by unfold lnN; rw [allL_at B h]; rfl
theorem bl_all : blM 4095 0 12 = List.range 12 := by decide +kernel
theorem all_mv : ∀ k, k ≤ n → mvN (cdN (allV n)) (rdN (allL B n)) k = 13 * k := by
  intro k
  induction k with
  | zero => intro _; rfl
  | succ k ih =>
    intro hk
    rw [mvN_succ, ih (by omega), all_cd (by omega), all_rd (by omega), bl_all, List.length_range]
    omega
theorem fold_all (c : Nat) : addAt ((List.range 12).foldl (addL 400) (List.replicate 13 c)) (12 + 0) 400 = List.replicate 13 (c + 400) := rfl
theorem all_ld : ∀ k, k ≤ n → ldN 12 1 (cdN (allV n)) (rdN (allL B n)) (tnN (allL B n)) (lnN (allL B n)) k = List.replicate 13 (400 * k) := by
  intro k
  induction k with
  | zero => intro _; rfl
  | succ k ih =>
    intro hk
    rw [ldN, ih (by omega), all_cd (by omega), all_rd (by omega), all_tn (by omega), all_ln (by omega), bl_all, fold_all]
    rfl
theorem all_tc : ∀ k, k < n → tcI (allL B n) (k + 1) = 1 := by
  intro k
  induction k with
  | zero =>
    intro hk
    show max2 0 (trn (allL B n) 0 + 1) = 1
    rw [show trn (allL B n) 0 = 0 by unfold trn; rw [allL_at B hk]]
    rfl
  | succ k ih =>
    intro hk
    show max2 (tcI (allL B n) (k + 1)) (trn (allL B n) (k + 1) + 1) = 1
    rw [ih (by omega), show trn (allL B n) (k + 1) = 0 by unfold trn; rw [allL_at B hk]]
    rfl
theorem all_tt (h : 0 < n) : tnT (allL B n) = 1 := by
  unfold tnT
  obtain ⟨k, rfl⟩ : ∃ k, n = k + 1 := ⟨n - 1, by omega⟩
  rw [allL_len, all_tc k (by omega)]
  rfl
theorem all_bits : ∀ b, b < 12 → bitN 4095 b = true := by decide
/-- What comes out. -/
theorem all_out (hB : 0 ≤ B ∧ B ≤ 3) (h : 0 < n) (hn : n ≤ 96) :
    tnT (allL B n) = 1 ∧ mM 12 n (cdN (allV n)) (rdN (allL B n)) (12 + 1) = 13 * n ∧ mP 12 n (cdN (allV n)) (rdN (allL B n)) (12 + 1) = 13 ∧ (mT 12 n 1 (cdN (allV n)) (rdN (allL B n)) (tnN (allL B n)) (12 + 1)).getD 0 [] = List.range n ∧
    loadL (allL B n) 12 12 (allV n) = toZ (List.replicate 13 (400 * n)) := by
  have hp := all_pl hB hn
  have hf := hp.fitN
  rw [allL_len, all_tt h] at hf
  refine ⟨all_tt h, ?_, ?_, ?_, ?_⟩
  · rw [mM_mv hf (by decide), all_mv n (Nat.le_refl _)]
  · refine mP_eq (12 + 1) (fun t ht => q_some hf (by omega) h ?_)
    rcases Nat.eq_zero_or_pos t with e | e
    · left; rw [e]; exact all_rd h
    · right
      rw [all_rd h, all_cd h]
      exact ⟨e, all_bits _ (by omega)⟩
  · obtain ⟨h1, h2⟩ := onT_end hf (b := 0) (by decide)
    refine asc_range (fun x => (h1 x).trans ⟨fun g => g.1, fun g => ⟨g, all_tn g⟩⟩) (h2.imp_of_mem fun {x y} hx hy hxy => ?_)
    have ex := all_cd (n := n) ((h1 x).1 hx).1
    have ey := all_cd (n := n) ((h1 y).1 hy).1
    rw [ex, ey] at hxy
    rcases hxy with g | g
    · omega
    · exact g.2
  · unfold loadL
    have h0 : val14 (allL B n) 12 12 (allV n) = 0 := hp.val14
    rw [if_pos h0, all_tt h, allL_len]
    exact congrArg toZ (all_ld n (Nat.le_refl _))
end
/-- A job in the block bp and a plan in the block pb, while both grow. -/
structure GSt (w wr : World) (bp pb : Nat) (Ap : Option Addr) (cp : Nat) (ps : List It) (vA : Option Addr) (vc : Nat) (v : List Int) : Prop where
  t : TSt w wr bp (pb + 1) Ap cp 12 ps (.slice vA v.length vc) v
  p : PBox wr pb 12 vA v.length vc
  ord : bp < pb
section
variable {w W w' : World} {bp pb cp vc : Nat} {Ap vA : Option Addr} {ps : List It} {v : List Int}
theorem GSt.below (h : GSt w W bp pb Ap cp ps vA vc v) (k : Below W.heap.size W w') : GSt w w' bp pb Ap cp ps vA vc v := ⟨h.t.below k, h.p.below k h.p.lt, h.ord⟩
theorem PBox.blk {b n c : Nat} {st : Int} {A : Option Addr} (h : PBox W b st A n c) (hb : w'.heap[b]? = W.heap[b]?) (hs : W.heap.size ≤ w'.heap.size) : PBox w' b st A n c :=
  ⟨(World.cell?_of_block (w := W) hb).trans h.c0, (World.cell?_of_block (w := W) hb).trans h.c1, fun j => (World.frozen?_of_block (w := W) hb).trans (h.f j), Nat.lt_of_lt_of_le h.lt hs⟩
theorem GSt.app1 {g cap : Nat} {p : It} (h : GSt w W bp pb Ap cp ps vA vc v)
    (ho : IOwn 29 w' (pb + 1) (.slice (some ⟨g, 0, none⟩) (ps ++ [p]).length cap) (ps ++ [p])) (hg : W.grownBy w' (Value.slice Ap ps.length cp).ownBlock) (hat : (Value.slice Ap ps.length cp).ownBlock = some g ∨ g = W.heap.size) :
    GSt w (w'.setCell ⟨bp, 0, none⟩ (.slice (some ⟨g, 0, none⟩) (ps ++ [p]).length cap)) bp pb (some ⟨g, 0, none⟩) cap (ps ++ [p]) vA vc v ∧ (∃ u, w'.cell? ⟨bp, 0, none⟩ = some u) ∧ w'.frozen? ⟨bp, 0, none⟩ = false := by
  obtain ⟨T, hu, hf⟩ := h.t.app ho hg hat
  have ho := h.ord
  refine ⟨⟨T, h.p.blk ?_ (by rw [World.size_setCell]; exact hg.size), h.ord⟩, hu, hf⟩
  rw [Below.heap_setCell _ _ _ _ (show pb ≠ bp by omega)]
  exact hg.block pb h.p.lt (fun e => by have := (h.t.its.block e.symm).1; omega)
theorem TSt.setO {base : Nat} {wt : Int} {vw : Value} {zs : List Int} (h : TSt w W bp base Ap cp wt ps vw zs) (j : Nat) (u : Value) (h1 : bp < pb) (h2 : pb < base) : TSt w (W.setCell ⟨pb, j, none⟩ u) bp base Ap cp wt ps vw zs := by
  have gs : W.grownBy (W.setCell ⟨pb, j, none⟩ u) (some pb) := setCell_grown W ⟨pb, j, none⟩ u
  have nb : ∀ i, (⟨pb, j, none⟩ : Addr) ≠ ⟨bp, i, none⟩ := fun i e => by have := congrArg Addr.block e; have e2 : pb = bp := this; omega
  refine ⟨⟨(World.cell?_setCell_other _ _ _ _ (nb 0)).trans h.box.c0, (World.cell?_setCell_other _ _ _ _ (nb 1)).trans h.box.c1, by rw [World.size_setCell]; exact h.box.lt⟩, fun i => by rw [World.frozen?_setCell]; exact h.fz i, ?_, ?_, h.apt, h.bel.setCell (p := ⟨pb, j, none⟩) (Nat.le_of_lt h1) u, h.lt, by rw [World.size_setCell]; exact h.le⟩
  · refine h.its.kept gs (Or.inr (fun e => ?_))
    have := (h.its.block e).1; omega
  · refine h.wan.kept gs (Or.inr (fun e => ?_))
    have := (own_block h.wan e).1; omega
theorem GSt.app2 {y : Int} {v' : Value} (h : GSt w W bp pb Ap cp ps vA vc v) (A : AppI (pb + 1) (.slice vA v.length vc) v y W v' w') :
    (∃ u, w'.cell? ⟨pb, 1, none⟩ = some u) ∧ w'.frozen? ⟨pb, 1, none⟩ = false ∧ ∃ vA' vc', v' = .slice vA' (v ++ [y]).length vc' ∧ GSt w (w'.setCell ⟨pb, 1, none⟩ v') bp pb Ap cp ps vA' vc' (v ++ [y]) := by
  have T := h.t.want A
  obtain ⟨O, hg, g, c, rfl, hlt, hat⟩ := A
  have hvb : ∀ k, (Value.slice vA v.length vc).ownBlock = some k → pb + 1 ≤ k := fun k hk => (own_block h.t.wan hk).1
  have hblk : w'.heap[pb]? = W.heap[pb]? := hg.block pb h.p.lt (fun e => by have := hvb pb e.symm; omega)
  have P := h.p.blk hblk hg.size
  have e : Value.slice (some ⟨g, 0, none⟩) (v.length + 1) c = Value.slice (some ⟨g, 0, none⟩) (v ++ [y]).length c := by rw [List.length_append]; rfl
  refine ⟨⟨_, P.c1⟩, P.f 1, some ⟨g, 0, none⟩, c, e, ⟨?_, ?_, h.ord⟩⟩
  · rw [← e]
    exact T.setO 1 _ h.ord (Nat.lt_succ_self _)
  · exact ⟨(World.cell?_setCell_other _ _ _ _ (by simp)).trans P.c0, by rw [World.cell?_setCell_same _ _ _ P.c1, e], fun j => by rw [World.frozen?_setCell]; exact P.f j, by rw [World.size_setCell]; exact P.lt⟩
end
end Go.Proofs.Ytkopbnppjhdbgaa
