/-
  Stage 13: what solve keeps in memory.
-/
import Derived.Test.YtkopbnppjhdbgaaYFns
set_option linter.unusedSimpArgs false
set_option linter.unusedVariables false
namespace Go.Proofs.Ytkopbnppjhdbgaa
open Go.RowKit Go.Lib Go.Shelf

/-- The marks ds, laid from block B on. -/
def Mks (B : Nat) (w : World) : List Deferred → Prop
  | [] => True
  | d :: ds => (∃ D, d = { target := .collected D, args := #[] } ∧ B ≤ D ∧ w.heap[D]? = some (.deferred (some [])) ∧ ∀ d' ∈ ds, d'.target ≠ .collected D) ∧ Mks B w ds
theorem Mks.imp {B : Nat} {w w' : World} : ∀ {ds : List Deferred}, (∀ D, ({ target := .collected D, args := #[] } : Deferred) ∈ ds → w.heap[D]? = some (.deferred (some [])) → w'.heap[D]? = some (.deferred (some []))) → Mks B w ds → Mks B w' ds
  | [], _, _ => trivial
  | d :: ds, h, ⟨⟨D, e, hB, hk, hn⟩, hs⟩ => ⟨⟨D, e, hB, h D (by rw [e]; exact List.mem_cons_self ..) hk, hn⟩, hs.imp (fun D' hm hk' => h D' (List.mem_cons_of_mem _ hm) hk')⟩
theorem leaves_marks {F : Fence} {n : Nat} {P : Program} {fn : Func} {tmps : Array Value} {R : Ending → World → Prop} {B : Nat} {J : World → Prop} (hJ : ∀ w D o o', J w → B ≤ D → w.heap[D]? = some o → o.isCells = false → J (w.putObj D o'))
    (hfin : ∀ w, J w → LeavesIn F n P fn tmps R [] .returning w) : ∀ (ds : List Deferred) (w : World), Mks B w ds → J w → LeavesInM F n P fn tmps R ds .returning w
  | [], w, _, hj => hfin w hj
  | d :: ds, w, ⟨⟨D, e, hB, hk, hn⟩, hs⟩, hj => by
    subst e
    refine ⟨by simp, .inl ⟨D, _, rfl, run_takeDeferred hk, ?_⟩⟩
    refine leaves_marks hJ hfin ds _ (hs.imp fun D' hm hk' => ?_) (hJ w D _ _ hj hB hk rfl)
    exact (World.putObj_heap_other (fun e => hn _ hm (by rw [e]))).trans hk'
theorem assign1 (t : Array Value) (p : Nat) (u : Value) : (#[p].zip #[u]).foldl (fun t (p, v) => t.setIfInBounds p v) t = t.setIfInBounds p u := by simp [Array.zip, Array.zipWith, Array.zipWithMAux]
/-- Two lists in a struct. -/
abbrev SD := (Option Addr × Nat × Nat) × (Option Addr × Nat × Nat)
/-- The solution's value. -/
abbrev sv (d : SD) : Value := .agg #[.slice d.1.1 d.1.2.1 d.1.2.2, .slice d.2.1 d.2.2.1 d.2.2.2]
theorem results_sol {fn : Func} (hf : fn.results = #[.cell 2 77, .cell 3 33]) (tmps : Array Value) (w : World) (b b3 : Nat) (d : SD) (er : Int) (h2 : tmps.getD 2 undef = .pointer (some ⟨b, 0, none⟩)) (h3 : tmps.getD 3 undef = .pointer (some ⟨b3, 0, none⟩)) (c0 : w.cell? ⟨b, 0, none⟩ = some (.slice d.1.1 d.1.2.1 d.1.2.2)) (c1 : w.cell? ⟨b, 1, none⟩ = some (.slice d.2.1 d.2.2.1 d.2.2.2)) (g : w.cell? ⟨b3, 0, none⟩ = some (.int .i64 er)) :
    (results fn tmps).run Try.prog w = .ok (.tuple #[sv d, .int .i64 er]) w := by
  have h2' : tmps[2]?.getD undef = .pointer (some ⟨b, 0, none⟩) := by simpa using h2
  have h3' : tmps[3]?.getD undef = .pointer (some ⟨b3, 0, none⟩) := by simpa using h3
  simp [results, hf, go_sem, h2', h3', c0, c1, g, asAddr]

/-- The order ascends by blocks, and has no item twice. -/
theorem ordK_pw (l : List It) (b k : Nat) : (ordK l b k).Pairwise (fun a c => blk l a.1 ≤ blk l c.1 ∧ a ≠ c) := by
  induction k with
  | zero => exact List.Pairwise.nil
  | succ k ih =>
    by_cases h : k < l.length ∧ blk l k = (b : Int)
    · rw [ordK_yes h.1 h.2, List.pairwise_append]
      refine ⟨ih, List.pairwise_singleton _ _, fun a ha c hc => ?_⟩
      rw [List.mem_singleton] at hc
      subst hc
      obtain ⟨h1, h2⟩ := ordK_mem.1 ha
      refine ⟨by rw [h2, h.2]; exact Int.le_refl _, fun e => ?_⟩
      have := congrArg Subtype.val e
      have e2 : a.1 = k := this
      omega
    · have : ordK l b (k + 1) = ordK l b k := by
        show (if h : k < l.length ∧ blk l k = (b : Int) then ordK l b k ++ [⟨k, h.1⟩] else ordK l b k) = _
        rw [dif_neg h]
      rw [this]; exact ih
theorem ordN_pw (l : List It) (n : Nat) : (ordN l n).Pairwise (fun a c => blk l a.1 ≤ blk l c.1 ∧ a ≠ c) := by
  induction n with
  | zero => exact List.Pairwise.nil
  | succ n ih =>
    show (ordN l n ++ ordK l n l.length).Pairwise _
    rw [List.pairwise_append]
    refine ⟨ih, ordK_pw l n _, fun a ha c hc => ?_⟩
    obtain ⟨b, h1, h2⟩ := ordN_mem.1 ha
    obtain ⟨h3, h4⟩ := ordK_mem.1 hc
    refine ⟨by rw [h2, h4]; omega, fun e => ?_⟩
    rw [e, h4] at h2; omega
/-- What stands ahead of an item in the order. -/
theorem ord_next {l : List It} (hb : BlkOk l) {pre : List (Ix l)} {z : Ix l} (h : pre ++ [z] <+: ordN l 32) :
    pre <+: ordN l 32 ∧ (∀ x, x < l.length → rel l x z.1 ≠ 0 → ∃ a ∈ pre, a.1 = x) ∧ ¬ ∃ a ∈ pre, a.1 = z.1 := by
  have h0 := (List.prefix_append pre [z]).trans h
  obtain ⟨suf, hs⟩ := h
  have hp := ordN_pw l 32
  rw [← hs, List.append_assoc, List.pairwise_append] at hp
  obtain ⟨_, p2, p3⟩ := hp
  have p2' := (List.pairwise_cons.1 p2).1
  refine ⟨h0, fun x hx hr => ?_, ?_⟩
  · have hlt := (rel_pos hr).2
    have hm : (⟨x, hx⟩ : Ix l) ∈ ordN l 32 := ordN_mem.2 ⟨(blk l x).toNat, by have := hb x hx; omega, by have := hb x hx; show blk l x = _; omega⟩
    rw [← hs, List.append_assoc, List.mem_append] at hm
    rcases hm with hm | hm
    · exact ⟨_, hm, rfl⟩
    · rcases List.mem_cons.1 hm with e | hm
      · have e2 := congrArg Subtype.val e
        have e3 : x = z.1 := e2
        rw [e3] at hlt; omega
      · have := (p2' _ hm).1
        have e3 : blk l z.1 ≤ blk l x := this
        omega
  · rintro ⟨a, ha, e⟩
    exact (p3 a ha z (List.mem_cons_self ..)).2 (Subtype.ext e)
theorem ord_all {l : List It} (hb : BlkOk l) (y : Nat) : (∃ z ∈ ordN l 32, z.1 = y) ↔ y < l.length := by
  constructor
  · rintro ⟨z, _, rfl⟩; exact z.2
  · intro hy
    exact ⟨⟨y, hy⟩, ordN_mem.2 ⟨(blk l y).toNat, by have := hb y hy; omega, by have := hb y hy; show blk l y = _; omega⟩, rfl⟩
/-- The greatest of a start and of what is needed because of the first k. -/
def bmx (l : List It) (v : List Int) (y : Nat) (b0 : Int) : Nat → Int
  | 0 => b0
  | k + 1 => max2 (bmx l v y b0 k) (via l v k y)
theorem bmx_max (l : List It) (v : List Int) (y k : Nat) : IsMaxP (fun x => x < k) (fun x => via l v x y) (bmx l v y 0 k) := by
  induction k with
  | zero => exact IsMaxP.start _
  | succ k ih => exact ih.more (y := k) (fun x => by omega) rfl
theorem bmx_bd {l : List It} {v : List Int} {y : Nat} {b0 : Int} (hv : ∀ y, 0 ≤ v.getD y 0 ∧ v.getD y 0 ≤ 4095) (h0 : 0 ≤ b0 ∧ b0 ≤ 4096) (k : Nat) : 0 ≤ bmx l v y b0 k ∧ bmx l v y b0 k ≤ 4096 := by
  induction k with
  | zero => exact h0
  | succ k ih =>
    have h1 := hv k
    have h2 := vk_bd (r := rel l k y) h1.1
    rw [← via_vk] at h2
    show 0 ≤ max2 (bmx l v y b0 k) (via l v k y) ∧ max2 (bmx l v y b0 k) (via l v k y) ≤ 4096
    unfold max2; split <;> omega
theorem set_self {zs : List Int} {y : Nat} (h : y < zs.length) : zs.set y (zs.getD y 0) = zs := by
  refine getD_ext (by rw [List.length_set]) (fun x _ => ?_)
  rw [getDset h]
  by_cases e : y = x
  · rw [if_pos e, e]
  · rw [if_neg e]
structure Nums (L : Nat) (bs v : List Int) : Prop where
  bl : bs.length = L
  vl : v.length = L
  vb : ∀ y, 0 ≤ v.getD y 0 ∧ v.getD y 0 ≤ 4095
  bb : ∀ y, 0 ≤ bs.getD y 0 ∧ bs.getD y 0 ≤ 4096
theorem Nums.zero (L : Nat) : Nums L (List.replicate L 0) (List.replicate L 0) :=
  ⟨by simp, by simp, fun y => by rw [getD_zeros]; omega, fun y => by rw [getD_zeros]; omega⟩
theorem Nums.put {L y : Nat} {bs v : List Int} (h : Nums L bs v) (hy : y < L) {M k : Int} (hM : 0 ≤ M ∧ M ≤ 4096) (hk : 0 ≤ k ∧ k ≤ 4095) : Nums L (bs.set y M) (v.set y k) := by
  refine ⟨by rw [List.length_set]; exact h.bl, by rw [List.length_set]; exact h.vl, fun x => ?_, fun x => ?_⟩
  · rw [getDset (by rw [h.vl]; exact hy)]; split
    · exact hk
    · exact h.vb x
  · rw [getDset (by rw [h.bl]; exact hy)]; split
    · exact hM
    · exact h.bb x
/-- What holds of the numbers behind a beginning of the order. -/
def Good (l : List It) (wt : Int) (pre : List (Ix l)) (bs v : List Int) : Prop := pre <+: ordN l 32 → PSol l wt (fun y => ∃ z ∈ pre, z.1 = y) bs v
theorem Good.step {l : List It} {wt : Int} {pre : List (Ix l)} {bs v : List Int} (hb : BlkOk l) (h : Good l wt pre bs v) (z : Ix l) {k : Int} (hk : nextZ (bmx l v z.1 (bs.getD z.1 0) l.length) (rnd l z.1) wt = (k, 0)) :
    Good l wt (pre ++ [z]) (bs.set z.1 (bmx l v z.1 (bs.getD z.1 0) l.length)) (v.set z.1 k) := fun hp => by
  obtain ⟨h1, h2, h3⟩ := ord_next hb hp
  have P := h h1
  rw [(P.rest z.1 h3).2] at hk ⊢
  refine (P.step z.2 h3 h2 (bmx_max l v z.1 l.length) hk).congr (fun y => ?_)
  constructor
  · rintro (⟨a, ha, e⟩ | e)
    · exact ⟨a, List.mem_append_left _ ha, e⟩
    · exact ⟨z, List.mem_append_right _ (List.mem_singleton.2 rfl), e.symm⟩
  · rintro ⟨a, ha, e⟩
    rcases List.mem_append.1 ha with ha | ha
    · exact Or.inl ⟨a, ha, e⟩
    · rw [List.mem_singleton] at ha; subst ha; exact Or.inr e.symm
theorem Good.fail {l : List It} {wt : Int} {pre : List (Ix l)} {bs v : List Int} (hb : BlkOk l) (h : Good l wt pre bs v) (z : Ix l) (hk : (nextZ (bmx l v z.1 (bs.getD z.1 0) l.length) (rnd l z.1) wt).2 ≠ 0) :
    pre ++ [z] <+: ordN l 32 → ∀ bs' v', ¬ Sol l wt bs' v' := fun hp => by
  obtain ⟨h1, h2, h3⟩ := ord_next hb hp
  have P := h h1
  rw [(P.rest z.1 h3).2] at hk
  exact P.fail hb z.2 h2 (bmx_max l v z.1 l.length) hk
theorem Good.stepN {l : List It} {wt : Int} {pre : List (Ix l)} {bs v : List Int} {N y : Nat} (hN : N = l.length) (hb : BlkOk l) (h : Good l wt pre bs v) (hy : y < l.length) {k : Int} (hk : nextZ (bmx l v y (bs.getD y 0) N) (rnd l y) wt = (k, 0)) :
    Good l wt (pre ++ [⟨y, hy⟩]) (bs.set y (bmx l v y (bs.getD y 0) N)) (v.set y k) := by
  subst hN; exact h.step hb ⟨y, hy⟩ hk
theorem Good.failN {l : List It} {wt : Int} {pre : List (Ix l)} {bs v : List Int} {N y : Nat} (hN : N = l.length) (hb : BlkOk l) (h : Good l wt pre bs v) (hy : y < l.length) (hk : (nextZ (bmx l v y (bs.getD y 0) N) (rnd l y) wt).2 ≠ 0) :
    pre ++ [⟨y, hy⟩] <+: ordN l 32 → ∀ bs' v', ¬ Sol l wt bs' v' := by
  subst hN; exact h.fail hb ⟨y, hy⟩ hk
theorem Good.start (l : List It) (wt : Int) : Good l wt [] (List.replicate l.length 0) (List.replicate l.length 0) := fun _ => (PSol.start l wt).congr (fun y => by simp)
theorem Good.done {l : List It} {wt : Int} {bs v : List Int} (hb : BlkOk l) (h : Good l wt (ordN l 32) bs v) : Sol l wt bs v := (h (List.prefix_refl _)).congr (ord_all hb)
theorem wpIn_range1 {α : Type} {n : Nat} {P : Program} {g : Operand} {p q : Tmp} {assign body : Code} {Q : Exit → Act → World → Prop} {a : Act} {w : World}
    (h1 : 1 ≤ n) {gf : Nat} {lb : Array Value} (hg : a.eval g = .func (.func gf) #[] lb) (eg : ∀ args w, (callFunc gf args).run P w = .ok (.enter gf args) w)
    {val : α → Value} {Kp : World → World → Prop} {S Sp : List α → Prop} {N : Nat} {w0 : World} (hseq : SeqStopsK Fence.wide (n - 1) P gf lb (fun x => #[val x]) Kp S Sp N w0)
    (hKr : ∀ W, Kp W W) (hKt : ∀ {A B C : World}, Kp A B → Kp B C → Kp A C) (hKb : ∀ (W : World) (l : Nat) (o o' : Obj), w.heap.size ≤ l → W.heap[l]? = some o → o.isCells = false → o.isWalk = false → Kp W (W.putObj l o')) (hb0 : Below w0.heap.size w0 w)
    (I : List α → World → Prop) (Ix : Code → List α → World → Prop) (hI : OwnFrom w.heap.size I) (hIx : ∀ c, OwnFrom w.heap.size (Ix c)) (h0 : I [] w)
    (hassign : ∀ (l : Nat) (x : α) (W : World) (K : Act → World → Prop), K { tmps := (a.tmps.setIfInBounds p (val x)).setIfInBounds q (val x), defers := [] } W →
      assign.wpIn (Fence.wide.inRound l) (n - 1 - 1) P (Exit.then K (fun _ _ _ => False)) { tmps := a.tmps.setIfInBounds p (val x), defers := [] } W)
    (hbody : ∀ (l : Nat) (pre : List α) (x : α) (W : World), I pre W → pre.length < N → body.wpIn (Fence.wide.inRound l) (n - 1 - 1) P (ownPostG w.heap.size Kp I Ix (pre ++ [x]) W) { tmps := (a.tmps.setIfInBounds p (val x)).setIfInBounds q (val x), defers := [] } W)
    (hdone : ∀ (D : Nat) (xs : List α) (W : World), w.heap.size ≤ D → S xs → I xs W → W.heap[D]? = some (.deferred (some [])) → Q .normal { a with defers := { target := .collected D, args := #[] } :: a.defers } W)
    (hstop : ∀ (D : Nat) (c : Code) (pre : List α) (W : World), w.heap.size ≤ D → Sp pre → Ix c pre W → W.heap[D]? = some (.deferred (some [])) → c.wpIn Fence.wide n P Q { a with defers := { target := .collected D, args := #[] } :: a.defers } W) :
    (Code.rangeFunc g #[p] assign body).wpIn Fence.wide n P Q a w := by
  refine wpIn_rangeFunc_ownH rfl h1 hg trivial eg hseq hKt hKb hb0 (fun _ => rfl) I Ix hI hIx h0 (fun x a' _ => a' = { tmps := (a.tmps.setIfInBounds p (val x)).setIfInBounds q (val x), defers := [] }) (fun _ _ => ownFrom_pure _ _) ?_ ?_ hdone hstop
  · intro l pre x W K hi hK
    rw [assign1]
    exact hassign l x W K (hK _ _ (KeepsFrom.refl _ _) (hKr _) hi rfl)
  · rintro l pre x a' W _ _ hi rfl hlen
    exact hbody l pre x W hi hlen
end Go.Proofs.Ytkopbnppjhdbgaa
