/-
  Stage 13, plain: codes that are found block by block, with steps of any size, are a plan.
-/
import Derived.Test.YtcplanafcnnodaaYThm
set_option linter.unusedSimpArgs false
set_option linter.unusedVariables false
namespace Go.Proofs.Ytcplanafcnnodaa
open Go.RowKit Go.Lib

/-- What is visited ahead of the item y of the block b. -/
def Vis (l : List It) (b y x : Nat) : Prop := blk l x < b ∨ (blk l x = b ∧ x < y)
structure BInv (l : List It) (wt : Int) (b y : Nat) (zs : List Int) : Prop where
  len : zs.length = l.length
  code : ∀ x, x < l.length → Vis l b y x → ∃ K : Nat, zs.getD x 0 = K ∧ isC (rnd l x).toNat wt.toNat K = true
  sort : ∀ z x, z < l.length → x < l.length → Vis l b y x → via l zs z x ≤ zs.getD x 0
  bd : ∀ x, 0 ≤ zs.getD x 0 ∧ zs.getD x 0 ≤ 4095
theorem BInv.start {l : List It} (wt : Int) (hb : BlkOk l) : BInv l wt 0 0 (List.replicate l.length 0) :=
  ⟨by simp, fun x hx h => by have := (hb x hx).1; rcases h with h | h <;> omega, fun z x _ hx h => by have := (hb x hx).1; rcases h with h | h <;> omega, fun x => by rw [getD_zeros]; omega⟩
theorem BInv.skip {l : List It} {wt : Int} {b y : Nat} {zs : List Int} (h : BInv l wt b y zs) (hy : blk l y ≠ (b : Int)) : BInv l wt b (y + 1) zs := by
  have hv : ∀ x, Vis l b (y + 1) x → Vis l b y x := fun x k => by
    rcases k with k | ⟨k1, k2⟩
    · exact Or.inl k
    · rcases Nat.eq_or_lt_of_le (Nat.le_of_lt_succ k2) with e | e
      · subst e; exact absurd k1 hy
      · exact Or.inr ⟨k1, e⟩
  exact ⟨h.len, fun x hx k => h.code x hx (hv x k), fun z x hz hx k => h.sort z x hz hx (hv x k), h.bd⟩
theorem BInv.nextB {l : List It} {wt : Int} {b : Nat} {zs : List Int} (h : BInv l wt b l.length zs) : BInv l wt (b + 1) 0 zs := by
  have hv : ∀ x, x < l.length → Vis l (b + 1) 0 x → Vis l b l.length x := fun x hx k => by
    rcases k with k | ⟨_, k2⟩
    · rcases Int.lt_or_le (blk l x) b with g | g
      · exact Or.inl g
      · exact Or.inr ⟨by omega, hx⟩
    · omega
  exact ⟨h.len, fun x hx k => h.code x hx (hv x hx k), fun z x hz hx k => h.sort z x hz hx (hv x hx k), h.bd⟩
theorem BInv.set {l : List It} {wt : Int} {b y : Nat} {zs : List Int} {M d k : Int} (hf : FormOk l wt) (h : BInv l wt b y zs) (hyl : y < l.length) (hy : blk l y = (b : Int)) (hM : IsMaxP (fun z => z < l.length) (fun z => via l zs z y) M) (hd : 0 ≤ d) (hk : nextZ (M + d) (rnd l y) wt = (k, 0)) : BInv l wt b (y + 1) (zs.set y k) := by
  have yv : y < zs.length := by rw [h.len]; exact hyl
  have hM0 := hM.pos
  have hrb := hf.rb y hyl
  have hkb := next_bd (show 0 ≤ M + d by omega) hrb hf.wb hk
  have hkc : ∃ K : Nat, k = K ∧ isC (rnd l y).toNat wt.toNat K = true := by
    rcases nextI (show 0 ≤ M + d by omega) hrb hf.wb with ⟨J, e', g1, g2, g3, g4⟩ | ⟨e', g⟩
    · rw [e'] at hk
      injection hk with hk
      exact ⟨J, hk.symm, g3⟩
    · rw [e'] at hk
      injection hk with _ hk
      omega
  have hv : ∀ x, Vis l b (y + 1) x → x = y ∨ (x ≠ y ∧ Vis l b y x ∧ rel l y x = 0) := fun x g => by
    by_cases e : x = y
    · exact Or.inl e
    · refine Or.inr ⟨e, ?_, Decidable.byContradiction fun r => ?_⟩
      · rcases g with g | ⟨g1, g2⟩
        · exact Or.inl g
        · exact Or.inr ⟨g1, by omega⟩
      · have := (rel_pos r).2
        rcases g with g | ⟨g1, g2⟩ <;> omega
  refine ⟨by rw [List.length_set]; exact h.len, fun x hx g => ?_, fun z x hz hx g => ?_, fun x => ?_⟩
  · rcases hv x g with rfl | ⟨hne, hvis, hr⟩
    · rw [getDset yv, if_pos rfl]; exact hkc
    · rw [getDset yv, if_neg (fun e => hne e.symm)]; exact h.code x hx hvis
  · rcases hv x g with rfl | ⟨hne, hvis, hr⟩
    · rw [getDset yv, if_pos rfl, via_set yv (rel_self l x)]
      have : via l zs z x ≤ M := hM.le z hz
      omega
    · rw [getDset yv, if_neg (fun e => hne e.symm), via_set yv hr]; exact h.sort z x hz hx hvis
  · rw [getDset yv]
    split
    · omega
    · exact h.bd x
theorem BInv.plan {l : List It} {wt : Int} {zs : List Int} (hb : BlkOk l) (h : BInv l wt 32 0 zs) : Plan l wt zs :=
  have hv : ∀ x, x < l.length → Vis l 32 0 x := fun x hx => Or.inl (by have := (hb x hx).2; show blk l x < 32; omega)
  ⟨fun y hy => h.code y hy (hv y hy), fun x y hx hy => h.sort x y hx hy (hv y hy)⟩
end Go.Proofs.Ytcplanafcnnodaa
