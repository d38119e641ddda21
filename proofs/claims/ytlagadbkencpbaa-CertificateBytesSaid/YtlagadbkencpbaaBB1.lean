/-
  YMx, PN: joined.
-/
import Derived.Test.YtlagadbkencpbaaBA1
import Derived.Test.YtlagadbkencpbaaBA2
import Derived.Test.YtlagadbkencpbaaBA3
import Derived.Test.YtlagadbkencpbaaBA4
set_option linter.unusedSimpArgs false
set_option linter.unusedVariables false
namespace Go.Proofs.Ytlagadbkencpbaa
open Go.RowKit Go.Lib

/-- The greatest of 0 and the first k. -/
def mx0 (v : List Int) : Nat → Int
  | 0 => 0
  | k + 1 => max2 (mx0 v k) (v.getD k 0)
theorem mx0_le (v : List Int) : ∀ k, (0 ≤ mx0 v k) ∧ ∀ y, y < k → v.getD y 0 ≤ mx0 v k := by
  intro k
  induction k with
  | zero => exact ⟨Int.le_refl _, fun y hy => by cases hy⟩
  | succ k ih =>
    obtain ⟨i1, i2⟩ := ih
    have e : mx0 v (k + 1) = if mx0 v k < v.getD k 0 then v.getD k 0 else mx0 v k := rfl
    refine ⟨by rw [e]; split <;> omega, fun y hy => ?_⟩
    rcases Nat.lt_or_ge y k with g | g
    · have := i2 y g; rw [e]; split <;> omega
    · obtain rfl : y = k := by omega
      rw [e]; split <;> omega
theorem mx0_top {v : List Int} {y : Nat} (h : IsTop v y) (hv : ∀ y, 0 ≤ v.getD y 0) : mx0 v v.length = v.getD y 0 := by
  have h1 := (mx0_le v v.length).2 y h.lt
  have h2 : ∀ k, k ≤ v.length → mx0 v k ≤ v.getD y 0 := by
    intro k
    induction k with
    | zero => intro _; exact hv y
    | succ k ih =>
      intro hk
      have := ih (by omega)
      have := h.le k (by omega)
      show max2 (mx0 v k) (v.getD k 0) ≤ _
      unfold max2; split <;> omega
  have := h2 v.length (Nat.le_refl _)
  omega
theorem mx0_topV {v : List Int} {M : Int} (h : TopV v v.length M) (hv : ∀ y, 0 ≤ v.getD y 0) : mx0 v v.length = M := by
  obtain ⟨x, hx, e⟩ := h.hit
  have h1 := (mx0_le v v.length).2 x hx
  have h2 : ∀ k, k ≤ v.length → mx0 v k ≤ M := by
    intro k
    induction k with
    | zero => intro _; have := hv x; show (0 : Int) ≤ M; omega
    | succ k ih =>
      intro hk
      have := ih (by omega)
      have := h.le k (by omega)
      show max2 (mx0 v k) (v.getD k 0) ≤ _
      unfold max2; split <;> omega
  have := h2 v.length (Nat.le_refl _)
  omega
theorem steps_mx0 {v : List Int} {st : Int} (h : StepsOf v st) (hv : ∀ y, 0 ≤ v.getD y 0) : st = (ln (mx0 v v.length).toNat : Int) := by
  rcases h with ⟨rfl, rfl⟩ | ⟨M, hM, rfl⟩
  · rfl
  · rw [mx0_topV hM hv]
end Go.Proofs.Ytlagadbkencpbaa

namespace Go.Proofs.Ytlagadbkencpbaa
open Go.RowKit Go.Lib

/-- What Bound answers of a chain of a job that has least codes. -/
theorem bound_leP {l : List It} {wt : Int} {bs v : List Int} (hv : validR l wt = 0) (h : Sol l wt bs v) (cs : List Int) : ((boundE l wt cs).2 = 0 ∧ (boundE l wt cs).1 ≤ mx0 v v.length) ∨ (boundE l wt cs).2 = 1 := by
  unfold boundE
  rw [if_neg (fun g => g hv)]
  cases hc : chB l none cs with
  | false => right; rw [if_neg (by decide)]
  | true =>
    rw [if_pos rfl]
    obtain ⟨d, rfl, hd⟩ := chB_iff.1 hc
    rw [map_toZ]
    obtain ⟨k, hk, _, h3⟩ := bnd_le (formOk_of hv) h (most := mx0 v v.length) (fun y hy => (mx0_le v v.length).2 y (by rw [h.vlen]; exact hy)) d none 0 hd (Int.le_refl _) (mx0_le v _).1 (fun _ => rfl) (fun x e => by cases e)
    rw [hk]
    exact Or.inl ⟨rfl, h3⟩
/-- The steps that a chain proves are no more than those of the least codes. -/
theorem bound_steps {l : List It} {wt st : Int} {bs v ch : List Int} (hv : validR l wt = 0) (h : Sol l wt bs v) (hs : StepsOf v st) (hb : (boundE l wt ch).2 = 0) : (stepsZ (boundE l wt ch).1).1 ≤ st := by
  have h1 := bound_bd hv hb
  rcases bound_leP hv h ch with ⟨_, h2⟩ | h2
  · have h0 := h.bound (formOk_of hv)
    have h3 := steps_mx0 hs (fun y => (h0 y).1.1)
    generalize (boundE l wt ch).1 = B at *
    obtain ⟨K, rfl⟩ := Int.eq_ofNat_of_zero_le h1.1
    rw [stepsZ_nat (by omega), h3]
    have := ln_mono (a := K) (b := (mx0 v v.length).toNat) (by omega)
    show (ln K : Int) ≤ _
    omega
  · omega
theorem chk_parts {l : List It} {wt st : Int} {v ch : List Int} (h : chkE l wt st v ch = 0) : val14 l wt st v = 0 ∧ ordB l v = true ∧ (boundE l wt ch).2 = 0 ∧ (stepsZ (boundE l wt ch).1).1 = st := by
  unfold chkE at h
  by_cases h1 : val14 l wt st v = 0
  · rw [if_neg (fun g => g h1)] at h
    cases h2 : ordB l v with
    | false => rw [if_pos h2] at h; cases h
    | true =>
      rw [if_neg (by rw [h2]; exact Bool.noConfusion)] at h
      by_cases h3 : (boundE l wt ch).2 = 0
      · rw [if_neg (fun g => g h3)] at h
        by_cases h4 : (stepsZ (boundE l wt ch).1).1 = st
        · exact ⟨h1, rfl, h3, h4⟩
        · rw [if_neg h4] at h; cases h
      · rw [if_pos h3] at h; exact absurd h h3
  · rw [if_pos h1] at h; exact absurd h h1
theorem chk_more {l : List It} {wt st : Int} {v ch : List Int} (hv : validR l wt = 0) (h : LeastR l wt st v 0) : chkE l wt (st + 1) v ch ≠ 0 := fun g => by
  obtain ⟨_, _, h3, h4⟩ := chk_parts g
  rcases h.valid hv with ⟨h5, _⟩ | ⟨_, bs, h5, h6⟩
  · cases h5
  · have := bound_steps hv h5 h6 h3
    omega
theorem chk_less {l : List It} {wt st : Int} {v ch : List Int} {x y : Nat} (hv : validR l wt = 0) (hl : v.length = l.length) (hx : x < l.length) (hy : y < l.length) (hr : rel l x y ≠ 0) (he : v.getD x 0 + str1 l x y = v.getD y 0) :
    chkE l wt st (v.set y (v.getD y 0 - 1)) ch = 12 ∨ chkE l wt st (v.set y (v.getD y 0 - 1)) ch = 1 := by
  have hxy : x ≠ y := fun e => by rw [e] at hr; exact hr (rel_self l y)
  generalize hu : v.set y (v.getD y 0 - 1) = u
  have hux : u.getD x 0 = v.getD x 0 := by rw [← hu, getD_set _ _ _ _ (by rw [hl]; exact hy), if_neg hxy]
  have huy : u.getD y 0 = v.getD y 0 - 1 := by rw [← hu, getD_set _ _ _ _ (by rw [hl]; exact hy), if_pos rfl]
  unfold chkE val14
  rw [if_pos hv]
  by_cases hf : fitB l wt st u = true
  · rw [if_pos hf, if_neg (fun g => g rfl), if_pos]
    · exact Or.inl rfl
    · refine ordB_no hx hy ?_
      unfold ordA
      rw [hux, huy, decide_eq_false hr, decide_eq_false (by omega)]; rfl
  · rw [if_neg hf, if_pos (by decide)]; exact Or.inr rfl
/-- What Make answers of a valid job. -/
theorem MakeR.ok {l : List It} {wt st er : Int} {v ch : List Int} (hv : validR l wt = 0) (h : MakeR l wt st v ch er) : (er = 15 ∧ st = 0 ∧ v = [] ∧ ch = []) ∨ (er = 0 ∧ v.length = l.length ∧ (0 ≤ st ∧ st ≤ 12) ∧ ∀ x, 0 ≤ v.getD x 0 ∧ v.getD x 0 ≤ 4095) := by
  have hw := (h.1.wit h.2).2
  rcases h.1.valid hv with ⟨h1, _⟩ | ⟨h1, bs, h2, h3⟩
  · have := hw (by omega)
    exact Or.inl ⟨h1, this.1, this.2.1, this.2.2⟩
  · have h0 := h2.bound (formOk_of hv)
    refine Or.inr ⟨h1, h2.vlen, ?_, fun x => (h0 x).1⟩
    rcases h3 with ⟨_, rfl⟩ | ⟨M, _, rfl⟩
    · omega
    · have := ln_le M.toNat
      omega
/-- A proof in a block of a law's own. -/
structure QSt (wr : World) (m g : Nat) (st : Int) (A : Option Addr) (n c : Nat) (B : Option Addr) (nn d : Nat) (v ch : List Int) : Prop where
  box : QBox wr g st A n c B nn d
  ov : Own .i64 3 wr (m + 1) (.slice A n c) v
  ou : Own .i64 3 wr (m + 1) (.slice B nn d) ch
  nv : ∀ q, (Value.slice A n c).ownBlock = some q → q ≠ g
  nu : ∀ q, (Value.slice B nn d).ownBlock = some q → q ≠ g
  lt : m < g
theorem own_read {k : IntKind} {T : TypeId} {w : World} {base n c : Nat} {A : Option Addr} {v : List Int} (h : Own k T w base (.slice A n c) v) : n = v.length ∧ Row k w w.heap.size A v ∧ v.length ≤ maxLen := by
  obtain ⟨A', c', ev, LR, -, hm, -⟩ := h.slice
  injection ev with e1 e2
  subst e1
  exact ⟨e2, LR, hm⟩
theorem QSt.below {w w' : World} {m g n c nn d : Nat} {st : Int} {A B : Option Addr} {v ch : List Int} (h : QSt w m g st A n c B nn d v ch) (k : Below w.heap.size w w') : QSt w' m g st A n c B nn d v ch :=
  ⟨h.box.below k h.box.lt, h.ov.below k, h.ou.below k, h.nv, h.nu, h.lt⟩
theorem QSt.step {w w' : World} {m g n c nn d : Nat} {st : Int} {A B : Option Addr} {v ch : List Int} (h : QSt w m g st A n c B nn d v ch) (k : Moves m w w') : QSt w' m g st A n c B nn d v ch :=
  ⟨h.box.moves k (by have := h.lt; omega), h.ov.moves k (Nat.lt_succ_self _), h.ou.moves k (Nat.lt_succ_self _), h.nv, h.nu, h.lt⟩
theorem QSt.new {w2 : World} {base m n c nn d : Nat} {st : Int} {A B : Option Addr} {v ch : List Int} (O : Own .i64 3 w2 base (.slice A n c) v) (U : Own .i64 3 w2 base (.slice B nn d) ch) (hb : m + 1 ≤ base) (g : Nat) (hg : g = w2.heap.size) (hm : m < g) : QSt (w2.alloc (qcells st A n c B nn d)) m g st A n c B nn d v ch :=
  have k := (Below.refl w2.heap.size w2).alloc (Nat.le_refl _) (qcells st A n c B nn d)
  ⟨QBox.new g hg, (O.base hb).below k, (U.base hb).below k, fun q e => by have := (own_block O e).2; omega, fun q e => by have := (own_block U e).2; omega, hm⟩
/-- Other values are stored into it. -/
theorem QSt.put {w : World} {m g n c nn d n' c' nn' d' : Nat} {st st' : Int} {A B A' B' : Option Addr} {v ch v' ch' : List Int} (h : QSt w m g st A n c B nn d v ch) (O : Own .i64 3 w (m + 1) (.slice A' n' c') v') (U : Own .i64 3 w (m + 1) (.slice B' nn' d') ch')
    (nv : ∀ q, (Value.slice A' n' c').ownBlock = some q → q ≠ g) (nu : ∀ q, (Value.slice B' nn' d').ownBlock = some q → q ≠ g) :
    QSt (((w.setCell ⟨g, 0, none⟩ (.int .i64 st')).setCell ⟨g, 1, none⟩ (.slice A' n' c')).setCell ⟨g, 2, none⟩ (.slice B' nn' d')) m g st' A' n' c' B' nn' d' v' ch' :=
  ⟨h.box.put st' A' n' c' B' nn' d', ((O.setN (p := ⟨g, 0, none⟩) nv _).setN (p := ⟨g, 1, none⟩) nv _).setN (p := ⟨g, 2, none⟩) nv _, ((U.setN (p := ⟨g, 0, none⟩) nu _).setN (p := ⟨g, 1, none⟩) nu _).setN (p := ⟨g, 2, none⟩) nu _, nv, nu, h.lt⟩
theorem QBox.setO {w : World} {b n c m d : Nat} {st : Int} {A B : Option Addr} (h : QBox w b st A n c B m d) {p : Addr} (hp : p.block ≠ b) (u : Value) : QBox (w.setCell p u) b st A n c B m d :=
  have e : ∀ j, (⟨b, j, none⟩ : Addr) ≠ p := fun j e => hp (congrArg Addr.block e).symm
  ⟨by rw [World.cell?_setCell_other _ _ _ _ (Ne.symm (e _))]; exact h.c0, by rw [World.cell?_setCell_other _ _ _ _ (Ne.symm (e _))]; exact h.c1, by rw [World.cell?_setCell_other _ _ _ _ (Ne.symm (e _))]; exact h.c2, fun j => by rw [World.frozen?_setCell]; exact h.f j, by rw [World.size_setCell]; exact h.lt⟩
/-- Check of a made job and such a proof. -/
theorem check_st {w wr : World} {b c m g n cc nn d N : Nat} {A V C : Option Addr} {l : List It} {wt st : Int} {v ch : List Int} (S : JM w wr b A c l wt N) (Q : QSt wr m g st V n cc C nn d v ch) :
    Calls Try.prog 18 #[jv A l.length c wt, qv st V n cc C nn d] wr fun e w' => e = .returned (.int .i64 (chkE l wt st v ch)) ∧ Below wr.heap.size wr w' :=
  have hv := own_read Q.ov
  have hu := own_read Q.ou
  check_any l A c l.length wt st v ch V n cc C nn d rfl hv.1 hu.1 hv.2.2 hu.2.2 wr S.irow hv.2.1 hu.2.1
end Go.Proofs.Ytlagadbkencpbaa
