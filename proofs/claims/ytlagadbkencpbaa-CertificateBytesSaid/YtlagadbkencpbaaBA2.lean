/-
  YSol, YSolve, JTop, YChain, YLeast, PA, PB, PC, PD, PE, JRef, JGrow, JSet, JOlA, KReal, RInts: joined.
-/
import Derived.Sort.CutIn
import Derived.Laws.Append
import Derived.StillTailTactics
import Derived.Deep.RegionLaw
import Derived.Test.YtlagadbkencpbaaBA1
set_option linter.unusedSimpArgs false
set_option linter.unusedVariables false
namespace Go.Proofs.Ytlagadbkencpbaa
open Go.RowKit Go.Lib Go.Shelf

/-- The marks ds, laid from block B on. -/
def Mks (B : Nat) (w : World) : List Deferred → Prop
  | [] => True
  | d :: ds => (∃ D, d = { target := .collected D, args := #[] } ∧ B ≤ D ∧ w.heap[D]? = some (.deferred (some [])) ∧ ∀ d' ∈ ds, d'.target ≠ .collected D) ∧ Mks B w ds
theorem Mks.imp {B : Nat} {w w' : World} : ∀ {ds : List Deferred}, (∀ D, ({ target := .collected D, args := #[] } : Deferred) ∈ ds → w.heap[D]? = some (.deferred (some [])) → w'.heap[D]? = some (.deferred (some []))) → Mks B w ds → Mks B w' ds
  | [], _, _ => trivial
  | d :: ds, h, ⟨⟨D, e, hB, hk, hn⟩, hs⟩ => ⟨⟨D, e, hB, h D (by rw [e]; exact List.mem_cons_self ..) hk, hn⟩, hs.imp (fun D' hm hk' => h D' (List.mem_cons_of_mem _ hm) hk')⟩
theorem leaves_marks {F : Fence} {n : Nat} {P : Program} {fn : Func} {tmps : Array Value} {R : Ending → World → Prop} {B : Nat} {J : World → Prop} (hJ : ∀ w D o o', J w → B ≤ D → w.heap[D]? = some o → o.isCells = false → J (w.putObj D o'))
    (hfin : ∀ w, J w → LeavesIn F n P fn tmps R [] .returning w) : ∀ (ds : List Deferred) (w : World), Mks B w ds → J w → LeavesInM F n P fn tmps R ds .returning w
  | [], w, _, hj => hfin w hj
  | d :: ds, w, ⟨⟨D, e, hB, hk, hn⟩, hs⟩, hj => by
    subst e
    refine ⟨by simp, .inl ⟨D, _, rfl, run_takeDeferred hk, ?_⟩⟩
    refine leaves_marks hJ hfin ds _ (hs.imp fun D' hm hk' => ?_) (hJ w D _ _ hj hB hk rfl)
    exact (World.putObj_heap_other (fun e => hn _ hm (by rw [e]))).trans hk'
theorem assign1 (t : Array Value) (p : Nat) (u : Value) : (#[p].zip #[u]).foldl (fun t (p, v) => t.setIfInBounds p v) t = t.setIfInBounds p u := by simp [Array.zip, Array.zipWith, Array.zipWithMAux]
/-- Two lists in a struct. -/
abbrev SD := (Option Addr × Nat × Nat) × (Option Addr × Nat × Nat)
/-- The solution's value. -/
abbrev sv (d : SD) : Value := .agg #[.slice d.1.1 d.1.2.1 d.1.2.2, .slice d.2.1 d.2.2.1 d.2.2.2]
theorem results_sol {fn : Func} (hf : fn.results = #[.cell 2 95, .cell 3 29]) (tmps : Array Value) (w : World) (b b3 : Nat) (d : SD) (er : Int) (h2 : tmps.getD 2 undef = .pointer (some ⟨b, 0, none⟩)) (h3 : tmps.getD 3 undef = .pointer (some ⟨b3, 0, none⟩)) (c0 : w.cell? ⟨b, 0, none⟩ = some (.slice d.1.1 d.1.2.1 d.1.2.2)) (c1 : w.cell? ⟨b, 1, none⟩ = some (.slice d.2.1 d.2.2.1 d.2.2.2)) (g : w.cell? ⟨b3, 0, none⟩ = some (.int .i64 er)) :
    (results fn tmps).run Try.prog w = .ok (.tuple #[sv d, .int .i64 er]) w := by
  have h2' : tmps[2]?.getD undef = .pointer (some ⟨b, 0, none⟩) := by simpa using h2
  have h3' : tmps[3]?.getD undef = .pointer (some ⟨b3, 0, none⟩) := by simpa using h3
  simp [results, hf, go_sem, h2', h3', c0, c1, g, asAddr]

/-- The order ascends by blocks, and has no item twice. -/
theorem ordK_pw (l : List It) (b k : Nat) : (ordK l b k).Pairwise (fun a c => blk l a.1 ≤ blk l c.1 ∧ a ≠ c) := by
  induction k with
  | zero => exact List.Pairwise.nil
  | succ k ih =>
    by_cases h : k < l.length ∧ blk l k = (b : Int)
    · rw [ordK_yes h.1 h.2, List.pairwise_append]
      refine ⟨ih, List.pairwise_singleton _ _, fun a ha c hc => ?_⟩
      rw [List.mem_singleton] at hc
      subst hc
      obtain ⟨h1, h2⟩ := ordK_mem.1 ha
      refine ⟨by rw [h2, h.2]; exact Int.le_refl _, fun e => ?_⟩
      have := congrArg Subtype.val e
      have e2 : a.1 = k := this
      omega
    · have : ordK l b (k + 1) = ordK l b k := by
        show (if h : k < l.length ∧ blk l k = (b : Int) then ordK l b k ++ [⟨k, h.1⟩] else ordK l b k) = _
        rw [dif_neg h]
      rw [this]; exact ih
theorem ordN_pw (l : List It) (n : Nat) : (ordN l n).Pairwise (fun a c => blk l a.1 ≤ blk l c.1 ∧ a ≠ c) := by
  induction n with
  | zero => exact List.Pairwise.nil
  | succ n ih =>
    show (ordN l n ++ ordK l n l.length).Pairwise _
    rw [List.pairwise_append]
    refine ⟨ih, ordK_pw l n _, fun a ha c hc => ?_⟩
    obtain ⟨b, h1, h2⟩ := ordN_mem.1 ha
    obtain ⟨h3, h4⟩ := ordK_mem.1 hc
    refine ⟨by rw [h2, h4]; omega, fun e => ?_⟩
    rw [e, h4] at h2; omega
/-- What stands ahead of an item in the order. -/
theorem ord_next {l : List It} (hb : BlkOk l) {pre : List (Ix l)} {z : Ix l} (h : pre ++ [z] <+: ordN l 32) :
    pre <+: ordN l 32 ∧ (∀ x, x < l.length → rel l x z.1 ≠ 0 → ∃ a ∈ pre, a.1 = x) ∧ ¬ ∃ a ∈ pre, a.1 = z.1 := by
  have h0 := (List.prefix_append pre [z]).trans h
  obtain ⟨suf, hs⟩ := h
  have hp := ordN_pw l 32
  rw [← hs, List.append_assoc, List.pairwise_append] at hp
  obtain ⟨_, p2, p3⟩ := hp
  have p2' := (List.pairwise_cons.1 p2).1
  refine ⟨h0, fun x hx hr => ?_, ?_⟩
  · have hlt := (rel_pos hr).2
    have hm : (⟨x, hx⟩ : Ix l) ∈ ordN l 32 := ordN_mem.2 ⟨(blk l x).toNat, by have := hb x hx; omega, by have := hb x hx; show blk l x = _; omega⟩
    rw [← hs, List.append_assoc, List.mem_append] at hm
    rcases hm with hm | hm
    · exact ⟨_, hm, rfl⟩
    · rcases List.mem_cons.1 hm with e | hm
      · have e2 := congrArg Subtype.val e
        have e3 : x = z.1 := e2
        rw [e3] at hlt; omega
      · have := (p2' _ hm).1
        have e3 : blk l z.1 ≤ blk l x := this
        omega
  · rintro ⟨a, ha, e⟩
    exact (p3 a ha z (List.mem_cons_self ..)).2 (Subtype.ext e)
theorem ord_all {l : List It} (hb : BlkOk l) (y : Nat) : (∃ z ∈ ordN l 32, z.1 = y) ↔ y < l.length := by
  constructor
  · rintro ⟨z, _, rfl⟩; exact z.2
  · intro hy
    exact ⟨⟨y, hy⟩, ordN_mem.2 ⟨(blk l y).toNat, by have := hb y hy; omega, by have := hb y hy; show blk l y = _; omega⟩, rfl⟩
/-- The greatest of a start and of what is needed because of the first k. -/
def bmx (l : List It) (v : List Int) (y : Nat) (b0 : Int) : Nat → Int
  | 0 => b0
  | k + 1 => max2 (bmx l v y b0 k) (via l v k y)
theorem bmx_max (l : List It) (v : List Int) (y k : Nat) : IsMaxP (fun x => x < k) (fun x => via l v x y) (bmx l v y 0 k) := by
  induction k with
  | zero => exact IsMaxP.start _
  | succ k ih => exact ih.more (y := k) (fun x => by omega) rfl
theorem bmx_bd {l : List It} {v : List Int} {y : Nat} {b0 : Int} (hv : ∀ y, 0 ≤ v.getD y 0 ∧ v.getD y 0 ≤ 4095) (h0 : 0 ≤ b0 ∧ b0 ≤ 4096) (k : Nat) : 0 ≤ bmx l v y b0 k ∧ bmx l v y b0 k ≤ 4096 := by
  induction k with
  | zero => exact h0
  | succ k ih =>
    have h1 := hv k
    have h2 := vk_bd (r := rel l k y) h1.1
    rw [← via_vk] at h2
    show 0 ≤ max2 (bmx l v y b0 k) (via l v k y) ∧ max2 (bmx l v y b0 k) (via l v k y) ≤ 4096
    unfold max2; split <;> omega
theorem set_self {zs : List Int} {y : Nat} (h : y < zs.length) : zs.set y (zs.getD y 0) = zs := by
  refine getD_ext (by rw [List.length_set]) (fun x _ => ?_)
  rw [getDset h]
  by_cases e : y = x
  · rw [if_pos e, e]
  · rw [if_neg e]
structure Nums (L : Nat) (bs v : List Int) : Prop where
  bl : bs.length = L
  vl : v.length = L
  vb : ∀ y, 0 ≤ v.getD y 0 ∧ v.getD y 0 ≤ 4095
  bb : ∀ y, 0 ≤ bs.getD y 0 ∧ bs.getD y 0 ≤ 4096
theorem Nums.zero (L : Nat) : Nums L (List.replicate L 0) (List.replicate L 0) :=
  ⟨by simp, by simp, fun y => by rw [getD_zeros]; omega, fun y => by rw [getD_zeros]; omega⟩
theorem Nums.put {L y : Nat} {bs v : List Int} (h : Nums L bs v) (hy : y < L) {M k : Int} (hM : 0 ≤ M ∧ M ≤ 4096) (hk : 0 ≤ k ∧ k ≤ 4095) : Nums L (bs.set y M) (v.set y k) := by
  refine ⟨by rw [List.length_set]; exact h.bl, by rw [List.length_set]; exact h.vl, fun x => ?_, fun x => ?_⟩
  · rw [getDset (by rw [h.vl]; exact hy)]; split
    · exact hk
    · exact h.vb x
  · rw [getDset (by rw [h.bl]; exact hy)]; split
    · exact hM
    · exact h.bb x
/-- What holds of the numbers behind a beginning of the order. -/
def Good (l : List It) (wt : Int) (pre : List (Ix l)) (bs v : List Int) : Prop := pre <+: ordN l 32 → PSol l wt (fun y => ∃ z ∈ pre, z.1 = y) bs v
theorem Good.step {l : List It} {wt : Int} {pre : List (Ix l)} {bs v : List Int} (hb : BlkOk l) (h : Good l wt pre bs v) (z : Ix l) {k : Int} (hk : nextZ (bmx l v z.1 (bs.getD z.1 0) l.length) (rnd l z.1) wt = (k, 0)) :
    Good l wt (pre ++ [z]) (bs.set z.1 (bmx l v z.1 (bs.getD z.1 0) l.length)) (v.set z.1 k) := fun hp => by
  obtain ⟨h1, h2, h3⟩ := ord_next hb hp
  have P := h h1
  rw [(P.rest z.1 h3).2] at hk ⊢
  refine (P.step z.2 h3 h2 (bmx_max l v z.1 l.length) hk).congr (fun y => ?_)
  constructor
  · rintro (⟨a, ha, e⟩ | e)
    · exact ⟨a, List.mem_append_left _ ha, e⟩
    · exact ⟨z, List.mem_append_right _ (List.mem_singleton.2 rfl), e.symm⟩
  · rintro ⟨a, ha, e⟩
    rcases List.mem_append.1 ha with ha | ha
    · exact Or.inl ⟨a, ha, e⟩
    · rw [List.mem_singleton] at ha; subst ha; exact Or.inr e.symm
theorem Good.fail {l : List It} {wt : Int} {pre : List (Ix l)} {bs v : List Int} (hb : BlkOk l) (h : Good l wt pre bs v) (z : Ix l) (hk : (nextZ (bmx l v z.1 (bs.getD z.1 0) l.length) (rnd l z.1) wt).2 ≠ 0) :
    pre ++ [z] <+: ordN l 32 → ∀ bs' v', ¬ Sol l wt bs' v' := fun hp => by
  obtain ⟨h1, h2, h3⟩ := ord_next hb hp
  have P := h h1
  rw [(P.rest z.1 h3).2] at hk
  exact P.fail hb z.2 h2 (bmx_max l v z.1 l.length) hk
theorem Good.stepN {l : List It} {wt : Int} {pre : List (Ix l)} {bs v : List Int} {N y : Nat} (hN : N = l.length) (hb : BlkOk l) (h : Good l wt pre bs v) (hy : y < l.length) {k : Int} (hk : nextZ (bmx l v y (bs.getD y 0) N) (rnd l y) wt = (k, 0)) :
    Good l wt (pre ++ [⟨y, hy⟩]) (bs.set y (bmx l v y (bs.getD y 0) N)) (v.set y k) := by
  subst hN; exact h.step hb ⟨y, hy⟩ hk
theorem Good.failN {l : List It} {wt : Int} {pre : List (Ix l)} {bs v : List Int} {N y : Nat} (hN : N = l.length) (hb : BlkOk l) (h : Good l wt pre bs v) (hy : y < l.length) (hk : (nextZ (bmx l v y (bs.getD y 0) N) (rnd l y) wt).2 ≠ 0) :
    pre ++ [⟨y, hy⟩] <+: ordN l 32 → ∀ bs' v', ¬ Sol l wt bs' v' := by
  subst hN; exact h.fail hb ⟨y, hy⟩ hk
theorem Good.start (l : List It) (wt : Int) : Good l wt [] (List.replicate l.length 0) (List.replicate l.length 0) := fun _ => (PSol.start l wt).congr (fun y => by simp)
theorem Good.done {l : List It} {wt : Int} {bs v : List Int} (hb : BlkOk l) (h : Good l wt (ordN l 32) bs v) : Sol l wt bs v := (h (List.prefix_refl _)).congr (ord_all hb)
theorem wpIn_range1 {α : Type} {n : Nat} {P : Program} {g : Operand} {p q : Tmp} {assign body : Code} {Q : Exit → Act → World → Prop} {a : Act} {w : World}
    (h1 : 1 ≤ n) {gf : Nat} {lb : Array Value} (hg : a.eval g = .func (.func gf) #[] lb) (eg : ∀ args w, (callFunc gf args).run P w = .ok (.enter gf args) w)
    {val : α → Value} {Kp : World → World → Prop} {S Sp : List α → Prop} {N : Nat} {w0 : World} (hseq : SeqStopsK Fence.wide (n - 1) P gf lb (fun x => #[val x]) Kp S Sp N w0)
    (hKr : ∀ W, Kp W W) (hKt : ∀ {A B C : World}, Kp A B → Kp B C → Kp A C) (hKb : ∀ (W : World) (l : Nat) (o o' : Obj), w.heap.size ≤ l → W.heap[l]? = some o → o.isCells = false → o.isWalk = false → Kp W (W.putObj l o')) (hb0 : Below w0.heap.size w0 w)
    (I : List α → World → Prop) (Ix : Code → List α → World → Prop) (hI : OwnFrom w.heap.size I) (hIx : ∀ c, OwnFrom w.heap.size (Ix c)) (h0 : I [] w)
    (hassign : ∀ (l : Nat) (x : α) (W : World) (K : Act → World → Prop), K { tmps := (a.tmps.setIfInBounds p (val x)).setIfInBounds q (val x), defers := [] } W →
      assign.wpIn (Fence.wide.inRound l) (n - 1 - 1) P (Exit.then K (fun _ _ _ => False)) { tmps := a.tmps.setIfInBounds p (val x), defers := [] } W)
    (hbody : ∀ (l : Nat) (pre : List α) (x : α) (W : World), I pre W → pre.length < N → body.wpIn (Fence.wide.inRound l) (n - 1 - 1) P (ownPostG w.heap.size Kp I Ix (pre ++ [x]) W) { tmps := (a.tmps.setIfInBounds p (val x)).setIfInBounds q (val x), defers := [] } W)
    (hdone : ∀ (D : Nat) (xs : List α) (W : World), w.heap.size ≤ D → S xs → I xs W → W.heap[D]? = some (.deferred (some [])) → Q .normal { a with defers := { target := .collected D, args := #[] } :: a.defers } W)
    (hstop : ∀ (D : Nat) (c : Code) (pre : List α) (W : World), w.heap.size ≤ D → Sp pre → Ix c pre W → W.heap[D]? = some (.deferred (some [])) → c.wpIn Fence.wide n P Q { a with defers := { target := .collected D, args := #[] } :: a.defers } W) :
    (Code.rangeFunc g #[p] assign body).wpIn Fence.wide n P Q a w := by
  refine wpIn_rangeFunc_ownH rfl h1 hg trivial eg hseq hKt hKb hb0 (fun _ => rfl) I Ix hI hIx h0 (fun x a' _ => a' = { tmps := (a.tmps.setIfInBounds p (val x)).setIfInBounds q (val x), defers := [] }) (fun _ _ => ownFrom_pure _ _) ?_ ?_ hdone hstop
  · intro l pre x W K hi hK
    rw [assign1]
    exact hassign l x W K (hK _ _ (KeepsFrom.refl _ _) (hKr _) hi rfl)
  · rintro l pre x a' W _ _ hi rfl hlen
    exact hbody l pre x W hi hlen
end Go.Proofs.Ytlagadbkencpbaa

namespace Go.Proofs.Ytlagadbkencpbaa
open Go.RowKit Go.Lib Go.Shelf
attribute [local go_sem] Oper.semAt_some

/-- What solve leaves: the slices of the bases and the codes, and the error. -/
def SolvePost (l : List It) (wt : Int) (w : World) (e : Ending) (w' : World) : Prop :=
  ∃ d er bs v, e = .returned (.tuple #[sv d, .int .i64 er]) ∧ Own .i64 3 w' w.heap.size (.slice d.1.1 d.1.2.1 d.1.2.2) bs ∧ Own .i64 3 w' w.heap.size (.slice d.2.1 d.2.2.1 d.2.2.2) v ∧ Below w.heap.size w w' ∧
    ((validR l wt ≠ 0 ∧ er = validR l wt ∧ v = [] ∧ bs = []) ∨ (validR l wt = 0 ∧ er = 15 ∧ v = [] ∧ bs = [] ∧ ∀ bs' v', ¬ Sol l wt bs' v') ∨ (validR l wt = 0 ∧ er = 0 ∧ Sol l wt bs v))
/-- The boxes of the call: the job, the result, the error. -/
structure SvA (w : World) (n : Nat) (A : Option Addr) (L c : Nat) (wt : Int) (wr : World) : Prop where
  bel : Below w.heap.size w wr
  box : JBox wr n A L c wt
  c20 : wr.cell? ⟨n + 1, 0, none⟩ = some (.slice none 0 0)
  c21 : wr.cell? ⟨n + 1, 1, none⟩ = some (.slice none 0 0)
  c3 : wr.cell? ⟨n + 1 + 1, 0, none⟩ = some (.int .i64 0)
  f2 : ∀ j, wr.frozen? ⟨n + 1, j, none⟩ = false
  f3 : ∀ j, wr.frozen? ⟨n + 1 + 1, j, none⟩ = false
  lt : n + 1 + 1 < wr.heap.size
theorem SvA.below {w wr w' : World} {n L c B : Nat} {A : Option Addr} {wt : Int} (h : SvA w n A L c wt wr) (k : Below B wr w') (hB : n + 1 + 1 < B) (hw : w.heap.size ≤ B) : SvA w n A L c wt w' :=
  ⟨h.bel.trans (k.mono hw), h.box.below k (by omega), (k.cell (p := ⟨n + 1, 0, none⟩) (by show n + 1 < B; omega)).trans h.c20, (k.cell (p := ⟨n + 1, 1, none⟩) (by show n + 1 < B; omega)).trans h.c21, (k.cell (p := ⟨n + 1 + 1, 0, none⟩) hB).trans h.c3,
    fun j => (k.frozen (p := ⟨n + 1, j, none⟩) (by show n + 1 < B; omega)).trans (h.f2 j), fun j => (k.frozen (p := ⟨n + 1 + 1, j, none⟩) hB).trans (h.f3 j), Nat.lt_of_lt_of_le h.lt k.size⟩
theorem SvA.new {w : World} {A : Option Addr} {L c : Nat} {wt : Int} : SvA w w.heap.size A L c wt (((w.alloc (.cells #[.slice A L c, .int .i64 wt] 39)).alloc (.cells #[.slice none 0 0, .slice none 0 0] 95)).alloc (.cells #[.int .i64 0] 29)) := by
  have s1 : (w.alloc (.cells #[.slice A L c, .int .i64 wt] 39)).heap.size = w.heap.size + 1 := by simp
  have B1 := (Below.refl w.heap.size w).alloc (Nat.le_refl _) (.cells #[.slice A L c, .int .i64 wt] 39)
  have J := JBox.new (w := w) (A := A) (n := L) (c := c) (wt := wt) w.heap.size rfl
  generalize w.alloc (.cells #[.slice A L c, .int .i64 wt] 39) = w1 at *
  have s2 : (w1.alloc (.cells #[.slice none 0 0, .slice none 0 0] 95)).heap.size = w1.heap.size + 1 := by simp
  have b2 := (Below.refl w1.heap.size w1).alloc (Nat.le_refl _) (.cells #[.slice none 0 0, .slice none 0 0] 95)
  have c0 : (w1.alloc (.cells #[.slice none 0 0, .slice none 0 0] 95)).cell? ⟨w1.heap.size, 0, none⟩ = some (.slice none 0 0) := by rw [cell_new]; rfl
  have c1 : (w1.alloc (.cells #[.slice none 0 0, .slice none 0 0] 95)).cell? ⟨w1.heap.size, 1, none⟩ = some (.slice none 0 0) := by rw [cell_new]; rfl
  have f2 := fun j => frozen_new w1 #[.slice none 0 0, .slice none 0 0] 95 w1.heap.size j rfl
  generalize w1.alloc (.cells #[.slice none 0 0, .slice none 0 0] 95) = w2 at *
  have s3 : (w2.alloc (.cells #[.int .i64 0] 29)).heap.size = w2.heap.size + 1 := by simp
  have b3 := (Below.refl w2.heap.size w2).alloc (Nat.le_refl _) (.cells #[.int .i64 0] 29)
  have c3 : (w2.alloc (.cells #[.int .i64 0] 29)).cell? ⟨w2.heap.size, 0, none⟩ = some (.int .i64 0) := by rw [cell_new]; rfl
  have f3 := fun j => frozen_new w2 #[.int .i64 0] 29 w2.heap.size j rfl
  generalize w2.alloc (.cells #[.int .i64 0] 29) = w3 at *
  rw [s2, s1] at c3 f3
  rw [s1] at c0 c1 f2
  have e1 : w.heap.size + 1 < w2.heap.size := by omega
  exact ⟨(B1.trans (b2.mono (by omega))).trans (b3.mono (by omega)), (J.below b2 (by omega)).below b3 (by omega), (b3.cell (p := ⟨w.heap.size + 1, 0, none⟩) e1).trans c0, (b3.cell (p := ⟨w.heap.size + 1, 1, none⟩) e1).trans c1, c3, fun j => (b3.frozen (p := ⟨w.heap.size + 1, j, none⟩) e1).trans (f2 j), f3, by omega⟩
/-- A result stored. -/
theorem SvA.put {w wr : World} {n L c : Nat} {A : Option Addr} {wt : Int} (h : SvA w n A L c wt wr) (hn : w.heap.size ≤ n) (d : SD) (er : Int) :
    Below w.heap.size w (((wr.setCell ⟨n + 1, 0, none⟩ (.slice d.1.1 d.1.2.1 d.1.2.2)).setCell ⟨n + 1, 1, none⟩ (.slice d.2.1 d.2.2.1 d.2.2.2)).setCell ⟨n + 1 + 1, 0, none⟩ (.int .i64 er)) ∧
    (((wr.setCell ⟨n + 1, 0, none⟩ (.slice d.1.1 d.1.2.1 d.1.2.2)).setCell ⟨n + 1, 1, none⟩ (.slice d.2.1 d.2.2.1 d.2.2.2)).setCell ⟨n + 1 + 1, 0, none⟩ (.int .i64 er)).cell? ⟨n + 1, 0, none⟩ = some (.slice d.1.1 d.1.2.1 d.1.2.2) ∧
    (((wr.setCell ⟨n + 1, 0, none⟩ (.slice d.1.1 d.1.2.1 d.1.2.2)).setCell ⟨n + 1, 1, none⟩ (.slice d.2.1 d.2.2.1 d.2.2.2)).setCell ⟨n + 1 + 1, 0, none⟩ (.int .i64 er)).cell? ⟨n + 1, 1, none⟩ = some (.slice d.2.1 d.2.2.1 d.2.2.2) ∧
    (((wr.setCell ⟨n + 1, 0, none⟩ (.slice d.1.1 d.1.2.1 d.1.2.2)).setCell ⟨n + 1, 1, none⟩ (.slice d.2.1 d.2.2.1 d.2.2.2)).setCell ⟨n + 1 + 1, 0, none⟩ (.int .i64 er)).cell? ⟨n + 1 + 1, 0, none⟩ = some (.int .i64 er) := by
  have ne : ∀ i j, (⟨n + 1 + 1, i, none⟩ : Addr) ≠ ⟨n + 1, j, none⟩ := fun i j e => by injection e with e; omega
  have g1 : (wr.setCell ⟨n + 1, 0, none⟩ (.slice d.1.1 d.1.2.1 d.1.2.2)).cell? ⟨n + 1, 1, none⟩ = some (.slice none 0 0) := by rw [World.cell?_setCell_other _ _ _ _ (by simp)]; exact h.c21
  have g3 : ((wr.setCell ⟨n + 1, 0, none⟩ (.slice d.1.1 d.1.2.1 d.1.2.2)).setCell ⟨n + 1, 1, none⟩ (.slice d.2.1 d.2.2.1 d.2.2.2)).cell? ⟨n + 1 + 1, 0, none⟩ = some (.int .i64 0) := by
    rw [World.cell?_setCell_other _ _ _ _ (fun e => ne _ _ e.symm), World.cell?_setCell_other _ _ _ _ (fun e => ne _ _ e.symm)]; exact h.c3
  refine ⟨((h.bel.setCell (by show _ ≤ n + 1; omega) _).setCell (by show _ ≤ n + 1; omega) _).setCell (by show _ ≤ n + 1 + 1; omega) _, ?_, ?_, World.cell?_setCell_same _ _ _ g3⟩
  · rw [World.cell?_setCell_other _ _ _ _ (ne _ _), World.cell?_setCell_other _ _ _ _ (by simp)]; exact World.cell?_setCell_same _ _ _ h.c20
  · rw [World.cell?_setCell_other _ _ _ _ (ne _ _)]; exact World.cell?_setCell_same _ _ _ g1
/-- The solution under way. -/
structure SvM (wr : World) (n L b5 gB gC : Nat) (bs v : List Int) : Prop where
  c0 : wr.cell? ⟨b5, 0, none⟩ = some (.slice (some ⟨gB, 0, none⟩) L L)
  c1 : wr.cell? ⟨b5, 1, none⟩ = some (.slice (some ⟨gC, 0, none⟩) L L)
  ob : Own .i64 3 wr (n + 3) (.slice (some ⟨gB, 0, none⟩) L L) bs
  ov : Own .i64 3 wr (n + 3) (.slice (some ⟨gC, 0, none⟩) L L) v
  ne : gB ≠ gC ∧ gB ≠ b5 ∧ gC ≠ b5
  ge : n + 3 ≤ b5 ∧ b5 < wr.heap.size
theorem al3 (w : World) (a b c : Obj) : (((w.alloc a).alloc b).alloc c).drew.heap[w.heap.size]? = some a ∧ (((w.alloc a).alloc b).alloc c).drew.heap[w.heap.size + 1]? = some b ∧ (((w.alloc a).alloc b).alloc c).drew.heap[w.heap.size + 1 + 1]? = some c := by
  have h1 : (w.alloc a).heap.size = w.heap.size + 1 := by simp
  have h2 : ((w.alloc a).alloc b).heap.size = w.heap.size + 1 + 1 := by simp
  have e1 := World.alloc_heap_new w a
  have e2 := World.alloc_heap_new (w.alloc a) b
  have e3 := World.alloc_heap_new ((w.alloc a).alloc b) c
  rw [h1] at e2
  rw [h2] at e3
  refine ⟨?_, ?_, e3⟩
  · exact (Below.heap_alloc _ _ _ (by omega)).trans ((Below.heap_alloc _ _ _ (by omega)).trans e1)
  · exact (Below.heap_alloc _ _ _ (by omega)).trans e2
theorem bel3 (w : World) (a b c : Obj) : Below w.heap.size w (((w.alloc a).alloc b).alloc c).drew := ((((Below.refl _ w).alloc (Nat.le_refl _) a).alloc (by simp) b).alloc (by simp; omega) c).drew
theorem own_zeros {W : World} {g L base : Nat} (h : W.heap[g]? = some (.cells (Array.replicate L (Value.int .i64 0)) 3)) (hb : base ≤ g) (hL : L ≤ 1000) : Own .i64 3 W base (.slice (some ⟨g, 0, none⟩) L L) (List.replicate L 0) := by
  refine ⟨by simp, Or.inr ⟨g, L, Array.replicate L (Value.int .i64 0), by simp, hb, h, by simp, by unfold maxLen; omega, by simp, ?_⟩⟩
  simp
theorem cellOf {W : World} {b : Nat} {cs : Array Value} {T : TypeId} (h : W.heap[b]? = some (.cells cs T)) (o : Nat) : W.cell? ⟨b, o, none⟩ = cs[o]? := by
  unfold World.cell?; rw [h]; rfl
theorem SvM.laid {W : World} {n L b5 gB gC : Nat} (h5 : W.heap[b5]? = some (.cells #[.slice (some ⟨gB, 0, none⟩) L L, .slice (some ⟨gC, 0, none⟩) L L] 95)) (hB : W.heap[gB]? = some (.cells (Array.replicate L (Value.int .i64 0)) 3)) (hC : W.heap[gC]? = some (.cells (Array.replicate L (Value.int .i64 0)) 3))
    (ne : gB ≠ gC ∧ gB ≠ b5 ∧ gC ≠ b5) (hb : n + 3 ≤ gB) (hc : n + 3 ≤ gC) (h : n + 3 ≤ b5) (hL : L ≤ 96) : SvM W n L b5 gB gC (List.replicate L 0) (List.replicate L 0) :=
  ⟨cellOf h5 0, cellOf h5 1, own_zeros hB hb (by omega), own_zeros hC hc (by omega), ne, h, (Array.getElem?_eq_some_iff.1 h5).1⟩
theorem SvM.under {W W' : World} {n L b5 gB gC B : Nat} {bs v : List Int} (h : SvM W n L b5 gB gC bs v) (k : Below B W W') (h5 : b5 < B) (hB : gB < B) (hC : gC < B) : SvM W' n L b5 gB gC bs v := by
  have ho : ∀ {g : Nat} {zs : List Int}, g < B → Own .i64 3 W (n + 3) (.slice (some ⟨g, 0, none⟩) L L) zs → Own .i64 3 W' (n + 3) (.slice (some ⟨g, 0, none⟩) L L) zs := fun {g zs} hg O => by
    refine ⟨O.1, ?_⟩
    rcases O.2 with q | ⟨g', cap, cur, e1, e2, e3, e4⟩
    · exact Or.inl q
    · injection e1 with e1 a2 a3
      injection e1 with e1
      injection e1 with e1
      subst e1
      exact Or.inr ⟨g, cap, cur, by rw [← a2, ← a3], e2, (k.block g hg).trans e3, e4⟩
  exact ⟨(k.cell (p := ⟨b5, 0, none⟩) h5).trans h.c0, (k.cell (p := ⟨b5, 1, none⟩) h5).trans h.c1, ho hB h.ob, ho hC h.ov, h.ne, h.ge.1, Nat.lt_of_lt_of_le h.ge.2 k.size⟩
theorem SvM.lts {W : World} {n L b5 gB gC : Nat} {bs v : List Int} (h : SvM W n L b5 gB gC bs v) : (n + 3 ≤ gB ∧ gB < W.heap.size) ∧ (n + 3 ≤ gC ∧ gC < W.heap.size) := ⟨own_block h.ob rfl, own_block h.ov rfl⟩
theorem SvM.below {W W' : World} {n L b5 gB gC : Nat} {bs v : List Int} (h : SvM W n L b5 gB gC bs v) (k : Below W.heap.size W W') : SvM W' n L b5 gB gC bs v := h.under k h.ge.2 h.lts.1.2 h.lts.2.2
theorem SvM.setB {W : World} {n L b5 gB gC : Nat} {bs v : List Int} (h : SvM W n L b5 gB gC bs v) (y : Nat) (m : Int) (hl : bs.length = L) : SvM (W.setCell ⟨gB, y, none⟩ (.int .i64 m)) n L b5 gB gC (bs.set y m) v := by
  have n5 : ∀ i j, (⟨gB, i, none⟩ : Addr) ≠ ⟨b5, j, none⟩ := fun i j e => h.ne.2.1 (congrArg Addr.block e)
  refine ⟨by rw [World.cell?_setCell_other _ _ _ _ (n5 _ _)]; exact h.c0, by rw [World.cell?_setCell_other _ _ _ _ (n5 _ _)]; exact h.c1, h.ob.store hl.symm y m, ?_, h.ne, h.ge.1, by rw [World.size_setCell]; exact h.ge.2⟩
  refine h.ov.kept (row := some gB) ⟨rfl, rfl, rfl, by rw [World.size_setCell]; exact Nat.le_refl _, fun k hk hn => Below.heap_setCell _ _ _ _ (fun e => hn (by first | exact congrArg some e | exact congrArg some e.symm))⟩ (Or.inr ?_)
  intro e
  injection e with e
  exact h.ne.1 e.symm
theorem SvM.setC {W : World} {n L b5 gB gC : Nat} {bs v : List Int} (h : SvM W n L b5 gB gC bs v) (y : Nat) (m : Int) (hl : v.length = L) : SvM (W.setCell ⟨gC, y, none⟩ (.int .i64 m)) n L b5 gB gC bs (v.set y m) := by
  have n5 : ∀ i j, (⟨gC, i, none⟩ : Addr) ≠ ⟨b5, j, none⟩ := fun i j e => h.ne.2.2 (congrArg Addr.block e)
  refine ⟨by rw [World.cell?_setCell_other _ _ _ _ (n5 _ _)]; exact h.c0, by rw [World.cell?_setCell_other _ _ _ _ (n5 _ _)]; exact h.c1, ?_, h.ov.store hl.symm y m, h.ne, h.ge.1, by rw [World.size_setCell]; exact h.ge.2⟩
  refine h.ob.kept (row := some gC) ⟨rfl, rfl, rfl, by rw [World.size_setCell]; exact Nat.le_refl _, fun k hk hn => Below.heap_setCell _ _ _ _ (fun e => hn (by first | exact congrArg some e | exact congrArg some e.symm))⟩ (Or.inr ?_)
  intro e
  injection e with e
  exact h.ne.1 e
/-- What a round keeps, of the book-keeping too. -/
structure SvK (B n₀ Ba : Nat) (W W' : World) : Prop where
  kp : KpI n₀ Ba W W'
  kf : KeepsFrom B W W'
theorem SvK.refl {B n₀ Ba : Nat} (W : World) : SvK B n₀ Ba W W := ⟨KpI.refl W, KeepsFrom.refl _ _⟩
theorem SvK.below {B n₀ Ba : Nat} {X W W' : World} (h : SvK B n₀ Ba X W) (k : Below W.heap.size W W') (h0 : n₀ ≤ W.heap.size) (ha : Ba < W.heap.size) : SvK B n₀ Ba X W' :=
  ⟨h.kp.t (KpI.of_below k h0 ha), h.kf.trans ⟨k.size, fun i o _ hi _ => (k.block i (Array.getElem?_eq_some_iff.1 hi).1).trans hi⟩⟩
theorem SvK.set {B n₀ Ba : Nat} {X W : World} (h : SvK B n₀ Ba X W) {p : Addr} (h0 : n₀ ≤ p.block) (ha : p.block ≠ Ba) (u : Value) : SvK B n₀ Ba X (W.setCell p u) :=
  ⟨h.kp.set h0 ha u, h.kf.trans ((KeepsOthers.setCell _ _ _).from _)⟩
/-- A store into a block of the solution. -/
theorem SvA.setO {w wr : World} {n L c : Nat} {A : Option Addr} {wt : Int} (h : SvA w n A L c wt wr) {p : Addr} (hp : n + 3 ≤ p.block) (hn : w.heap.size ≤ n) (u : Value) : SvA w n A L c wt (wr.setCell p u) := by
  have k : Below (n + 3) wr (wr.setCell p u) := (Below.refl _ _).setCell hp u
  exact h.below k (by omega) (by omega)
def tl19 (i : Nat) : Bool := i == 19
theorem Own.underB {k : IntKind} {e : TypeId} {W W' : World} {base B : Nat} {v : Value} {zs : List Int} (h : Own k e W base v zs) (b : Below B W W') (hg : ∀ g, v.ownBlock = some g → g < B) : Own k e W' base v zs := by
  refine ⟨h.1, ?_⟩
  rcases h.2 with q | ⟨g, cap, cur, e1, e2, e3, e4⟩
  · exact Or.inl q
  · exact Or.inr ⟨g, cap, cur, e1, e2, (b.block g (hg g (by rw [e1]; rfl))).trans e3, e4⟩
/-- A store elsewhere. -/
theorem Own.setO {k : IntKind} {e : TypeId} {W : World} {base : Nat} {v : Value} {zs : List Int} (h : Own k e W base v zs) {p : Addr} (hp : p.block < base) (u : Value) : Own k e (W.setCell p u) base v zs := by
  refine h.kept (row := some p.block) ⟨rfl, rfl, rfl, by rw [World.size_setCell]; exact Nat.le_refl _, fun k hk hn => Below.heap_setCell _ _ _ _ (fun e => hn (by first | exact congrArg some e | exact congrArg some e.symm))⟩ (Or.inr ?_)
  intro e
  have := (own_block h e).1
  omega
/-- What holds at the end, while the marks are taken away. -/
structure SvF (w : World) (n B : Nat) (d : SD) (er : Int) (bs v : List Int) (W : World) : Prop where
  bel : Below w.heap.size w W
  c0 : W.cell? ⟨n + 1, 0, none⟩ = some (.slice d.1.1 d.1.2.1 d.1.2.2)
  c1 : W.cell? ⟨n + 1, 1, none⟩ = some (.slice d.2.1 d.2.2.1 d.2.2.2)
  c2 : W.cell? ⟨n + 1 + 1, 0, none⟩ = some (.int .i64 er)
  ob : Own .i64 3 W w.heap.size (.slice d.1.1 d.1.2.1 d.1.2.2) bs
  ov : Own .i64 3 W w.heap.size (.slice d.2.1 d.2.2.1 d.2.2.2) v
  lb : ∀ g, (Value.slice d.1.1 d.1.2.1 d.1.2.2).ownBlock = some g → g < B
  lv : ∀ g, (Value.slice d.2.1 d.2.2.1 d.2.2.2).ownBlock = some g → g < B
  sz : n + 1 + 1 < B ∧ w.heap.size ≤ B
theorem SvF.under {w : World} {n B : Nat} {d : SD} {er : Int} {bs v : List Int} {W W' : World} (h : SvF w n B d er bs v W) (k : Below B W W') : SvF w n B d er bs v W' :=
  ⟨h.bel.trans (k.mono h.sz.2), (k.cell (p := ⟨n + 1, 0, none⟩) (by have := h.sz.1; show n + 1 < B; omega)).trans h.c0, (k.cell (p := ⟨n + 1, 1, none⟩) (by have := h.sz.1; show n + 1 < B; omega)).trans h.c1, (k.cell (p := ⟨n + 1 + 1, 0, none⟩) h.sz.1).trans h.c2, h.ob.underB k h.lb, h.ov.underB k h.lv, h.lb, h.lv, h.sz⟩
theorem SvF.leaves {l : List It} {wt : Int} {w : World} {n B : Nat} {d : SD} {er : Int} {bs v : List Int} {W : World} (h : SvF w n B d er bs v W) (hW : B ≤ W.heap.size)
    (hp : (validR l wt ≠ 0 ∧ er = validR l wt ∧ v = [] ∧ bs = []) ∨ (validR l wt = 0 ∧ er = 15 ∧ v = [] ∧ bs = [] ∧ ∀ bs' v', ¬ Sol l wt bs' v') ∨ (validR l wt = 0 ∧ er = 0 ∧ Sol l wt bs v))
    {fn : Func} (hf : fn.results = #[.cell 2 95, .cell 3 29]) (tmps : Array Value) (h2 : tmps.getD 2 undef = .pointer (some ⟨n + 1, 0, none⟩)) (h3 : tmps.getD 3 undef = .pointer (some ⟨n + 1 + 1, 0, none⟩)) (ds : List Deferred) (hm : Mks B W ds) :
    LeavesInM Fence.wide 9 Try.prog fn tmps (SolvePost l wt w) ds .returning W := by
  refine leaves_marks (B := B) (J := fun W => SvF w n B d er bs v W ∧ B ≤ W.heap.size) ?_ ?_ ds W hm ⟨h, hW⟩
  · rintro W D o o' ⟨hJ, hs⟩ hD ho hc
    have g := grownBy_putObj' W D o'
    have k := (Below.refl B W).grown g hs (fun k e => by cases e; exact hD)
    exact ⟨hJ.under k, Nat.le_trans hs g.size⟩
  · rintro W ⟨hJ, _⟩
    exact ⟨_, results_sol hf tmps W _ _ d er h2 h3 hJ.c0 hJ.c1 hJ.c2, _, er, bs, v, rfl, hJ.ob, hJ.ov, hJ.bel, hp⟩
/-- What holds behind a beginning of the order. -/
structure SvI (l : List It) (wt : Int) (w : World) (n : Nat) (A : Option Addr) (L c b5 gB gC B : Nat) (pre : List (Ix l)) (W : World) : Prop where
  ex : ∃ bs v, SvA w n A L c wt W ∧ SvM W n L b5 gB gC bs v ∧ Nums L bs v ∧ Good l wt pre bs v
  sz : B ≤ W.heap.size
theorem SvI.under {l : List It} {wt : Int} {w : World} {n L c b5 gB gC B : Nat} {A : Option Addr} {pre : List (Ix l)} {W W' : World} (h : SvI l wt w n A L c b5 gB gC B pre W) (k : Below B W W') (h1 : n + 1 + 1 < B) (h2 : w.heap.size ≤ B) (h5 : b5 < B) (hB : gB < B) (hC : gC < B) : SvI l wt w n A L c b5 gB gC B pre W' := by
  obtain ⟨⟨bs, v, a1, a2, a3, a4⟩, hs⟩ := h
  exact ⟨⟨bs, v, a1.below k h1 h2, a2.under k h5 hB hC, a3, a4⟩, Nat.le_trans hs k.size⟩
/-- What holds where some item has no code. -/
structure SvX (l : List It) (wt : Int) (w : World) (n B : Nat) (pre : List (Ix l)) (W : World) : Prop where
  bel : Below w.heap.size w W
  c0 : W.cell? ⟨n + 1, 0, none⟩ = some (.slice none 0 0)
  c1 : W.cell? ⟨n + 1, 1, none⟩ = some (.slice none 0 0)
  c2 : W.cell? ⟨n + 1 + 1, 0, none⟩ = some (.int .i64 15)
  no : pre <+: ordN l 32 → ∀ bs v, ¬ Sol l wt bs v
  sz : B ≤ W.heap.size
theorem SvX.under {l : List It} {wt : Int} {w : World} {n B : Nat} {pre : List (Ix l)} {W W' : World} (h : SvX l wt w n B pre W) (k : Below B W W') (h1 : n + 1 + 1 < B) (h2 : w.heap.size ≤ B) : SvX l wt w n B pre W' :=
  ⟨h.bel.trans (k.mono h2), (k.cell (p := ⟨n + 1, 0, none⟩) (by show n + 1 < B; omega)).trans h.c0, (k.cell (p := ⟨n + 1, 1, none⟩) (by show n + 1 < B; omega)).trans h.c1, (k.cell (p := ⟨n + 1 + 1, 0, none⟩) h1).trans h.c2, h.no, Nat.le_trans h.sz k.size⟩
set_option maxRecDepth 100000 in
set_option maxHeartbeats 6400000 in
theorem solve_any (l : List It) (A : Option Addr) (c L : Nat) (wt : Int) (hL : L = l.length) (w : World) (h : IRow w A l) :
    Calls Try.prog 54 #[jv A L c wt] w (SolvePost l wt w) := by
  have H := Lib.hid h
  have HL := Lib.hid hL
  have HVL := Lib.hid (fun (W : World) (k : IRow W A l) => valid_any l A c wt W k)
  rw [← hL] at HVL
  have S0 := Lib.hid (SvA.new (w := w) (A := A) (L := L) (c := c) (wt := wt))
  obtain ⟨n, hn⟩ : ∃ n, n = w.heap.size := ⟨_, rfl⟩
  have HN := Lib.hid hn
  clear h hL
  refine (callsIn_wide (n := 9)).1 ?_
  refine callsIn_of_wp_marks Try.func54 rfl trivial ?_ rfl
  simp only [Try.ntmps54, List.size_toArray, List.length_cons, List.length_nil, Nat.reduceAdd, Nat.reduceSub, Array.replicate_succ, Array.replicate_zero, List.push_toArray, List.append_toArray, List.nil_append, List.cons_append]
  refine wpIn_wide.2 ?_
  go_upto_region 1 with fail
  rw [← hn] at S0 ⊢
  generalize ((w.alloc (.cells #[.slice A L c, .int .i64 wt] 39)).alloc (.cells #[.slice none 0 0, .slice none 0 0] 95)).alloc (.cells #[.int .i64 0] 29) = w1 at *
  clear hn
  obtain ⟨j0, j1, jl⟩ := S0.out.box
  go_wp2_with fail
  refine (HVL.out w1 (H.out.below S0.out.bel)).mono ?_
  rintro e w2 ⟨rfl, hB2⟩
  have S2 := Lib.hid (S0.out.below hB2 S0.out.lt S0.out.bel.size)
  clear j0 j1 jl S0 hB2 HVL
  obtain ⟨j0, j1, jl⟩ := S2.out.box
  have c20 := S2.out.c20
  have c21 := S2.out.c21
  have c3 := S2.out.c3
  have f20 := S2.out.f2 0
  have f21 := S2.out.f2 1
  have f30 := S2.out.f3 0
  by_cases he : validR l wt = 0
  · obtain ⟨p1, p2, p3⟩ := valid_ok he
    have HE := Lib.hid he
    rw [he]
    rw [← HL.out] at p1
    have hmk := fun W => make_ints W L (by omega)
    clear he p2 p3 c20 c21 c3 f20 f21 f30
    go_upto_region 4 with fail
    go_cut [5] from 16 to 24 (fun pv wx => ∃ b5 gB gC, pv = .pointer (some ⟨b5, 0, none⟩) ∧ Hid (SvM wx n L b5 gB gC (List.replicate L 0) (List.replicate L 0)) ∧ Hid (Below w2.heap.size w2 wx))
    case first =>
      go_region
      all_goals
        have hlt2 := S2.out.lt
        go_wp2_with fail
        go_meet
        case rel =>
          refine ⟨_, _, _, rfl, Lib.hid (SvM.laid (by first | exact (al3 _ _ _ _).1 | exact (al3 _ _ _ _).2.1 | exact (al3 _ _ _ _).2.2) (by first | exact (al3 _ _ _ _).1 | exact (al3 _ _ _ _).2.1 | exact (al3 _ _ _ _).2.2) (by first | exact (al3 _ _ _ _).1 | exact (al3 _ _ _ _).2.1 | exact (al3 _ _ _ _).2.2) ⟨by omega, by omega, by omega⟩ (by omega) (by omega) (by omega) p1), Lib.hid (bel3 _ _ _ _)⟩
    case rest =>
      obtain ⟨b5, gB, gC, rfl, M, B3⟩ := hcut
      have S3 := Lib.hid (S2.out.below B3.out S2.out.lt S2.out.bel.size)
      clear B3 j0 j1 jl hmk
      rename_i hK
      obtain ⟨j0, j1, jl⟩ := S3.out.box
      have HB := Lib.hid (byB_any A L c wc)
      go_wp2_with fail
      refine HB.out.mono ?_
      rintro e w3 ⟨rfl, hw3⟩
      have b4 : Below wc.heap.size wc w3 := by rw [hw3]; exact (Below.refl _ _).alloc (Nat.le_refl _) _
      have pA : w3.heap[wc.heap.size]? = some (.cells #[.slice A L c] 37) := by rw [hw3]; exact World.alloc_heap_new wc _
      have s4 : w3.heap.size = wc.heap.size + 1 := by rw [hw3]; simp
      have S4 := Lib.hid (S3.out.below b4 S3.out.lt S3.out.bel.size)
      have M4 := Lib.hid (M.out.below b4)
      clear j0 j1 jl hw3 b4 HB
      have H4 := Lib.hid pA
      obtain ⟨Ba, hBa⟩ : ∃ Ba, Ba = wc.heap.size := ⟨_, rfl⟩
      rw [← hBa] at s4 H4
      clear pA
      go_wp2_with fail
      rw [← hBa]
      refine (wpIn_wide (n := 9)).1 ?_
      obtain ⟨B, hB⟩ : ∃ B, B = w3.heap.size := ⟨_, rfl⟩
      have HBS := Lib.hid hB
      have LTS := Lib.hid M.out.lts
      have GE5 := Lib.hid M.out.ge
      have NE := Lib.hid M.out.ne
      have hcA : w3.cell? ⟨Ba, 0, none⟩ = some (.slice A L c) := cellOf H4.out 0
      rw [HL.out] at hcA
      have hnw := S4.out.bel.size
      have HBa := Lib.hid hBa
      have HPR := Lib.hid (KpI.put (n₀ := w.heap.size) (Ba := Ba) hnw (by rw [s4]; omega))
      have LTB := Lib.hid (show gB < Ba ∧ gC < Ba ∧ b5 < Ba ∧ n + 1 + 1 < Ba ∧ w3.heap.size = Ba + 1 by rw [hBa]; exact ⟨LTS.out.1.2, LTS.out.2.2, GE5.out.2, S3.out.lt, by rw [s4, hBa]⟩)
      clear hBa hB s4
      refine wpIn_range1 (p := 28) (q := 6) (gf := 93) (lb := #[.pointer (some ⟨Ba, 0, none⟩)]) (by decide) rfl (enters_of Try.func93 (by kernel_rfl) rfl)
        (val := fun z : Ix l => .int .i64 (z.1 : Int)) (bb_stops 8 (by decide) l A c Ba w.heap.size (by rw [← HL.out]; exact p1) w3 hcA hnw (H.out.row.under S4.out.bel))
        KpI.refl (fun h k => h.t k) HPR.out (Below.refl _ _)
        (SvI l wt w n A L c b5 gB gC w3.heap.size) (fun co pre W => co = .ret ∧ SvX l wt w n w3.heap.size pre W)
        (ownFrom_stable (fun _ _ h => h.sz) (fun _ _ _ h k => h.under k (by have := S4.out.lt; omega) hnw (by have := LTB.out; omega) (by have := LTB.out; omega) (by have := LTB.out; omega)))
        (fun co => ownFrom_stable (fun _ _ h => h.2.sz) (fun _ _ _ h k => ⟨h.1, h.2.under k (by have := S4.out.lt; omega) hnw⟩))
        ⟨⟨_, _, S4.out, M4.out, Nums.zero L, by rw [HL.out]; exact Good.start l wt⟩, Nat.le_refl _⟩ ?assign ?body ?done ?stop
      case assign =>
        intro lo x W K hK
        simp only [List.setIfInBounds_toArray, List.set_cons_succ, List.set_cons_zero] at hK ⊢
        gi_wp2
        exact hK
      case body =>
        rintro lo pre ⟨y, hyl⟩ W ⟨⟨bs, v, a1, a2, a3, a4⟩, hsz⟩ -
        simp only [List.setIfInBounds_toArray, List.set_cons_succ, List.set_cons_zero]
        have hy : y < L := by rw [HL.out]; exact hyl
        have HA := Lib.hid a1
        have HM := Lib.hid a2
        have HNm := Lib.hid a3
        have HG := Lib.hid a4
        have hNL := H4.out
        clear a1 a2 a3 a4 hNL hcA
        obtain ⟨j0, j1, jl⟩ := HA.out.box
        have HSZ := Lib.hid hsz
        gi_wp2
        clear j0 j1 jl
        have hm0 := Lib.hid (set_self (zs := bs) (y := y) (by rw [HNm.out.bl]; exact hy))
        have HBM := Lib.hid (fun k => bmx_bd (l := l) (y := y) HNm.out.vb (HNm.out.bb y) k)
        have hst0 := Lib.hid (show SvM W n L b5 gB gC (bs.set y (bmx l v y (bs.getD y 0) 0)) v by
          show SvM W n L b5 gB gC (bs.set y (bs.getD y 0)) v
          rw [hm0.out]; exact HM.out)
        gi_loopw [32] (fun i wi => ∃ k : Nat, k ≤ L ∧ i = .int .i64 (k : Int) ∧ Hid (SvA w n A L c wt wi) ∧ Hid (SvM wi n L b5 gB gC (bs.set y (bmx l v y (bs.getD y 0) k)) v) ∧ Hid (SvK w3.heap.size w.heap.size Ba W wi)) (fun i _ => L - (intOf i).toNat)
        case atStart => exact ⟨0, by omega, rfl, HA, hst0, Lib.hid (SvK.refl W)⟩
        case round =>
          clear HA hst0 HM
          obtain ⟨k, hk, rfl, HA, HM, HK⟩ := hrel
          by_cases hlk : k < L
          · have HLB := Lib.hid (fun (W' : World) (kb : Below wr.heap.size wr W') => lb_any l A c L wt HL.out HE.out k y (v.getD k 0) (by have := HNm.out.vb k; omega) hlk hy W' (H.out.below (HA.out.bel.trans (kb.mono HA.out.bel.size))))
            have c0 := HM.out.c0
            have c1 := HM.out.c1
            have hLs : (bs.set y (bmx l v y (bs.getD y 0) k)).length = L := by rw [List.length_set]; exact HNm.out.bl
            have d0 := HM.out.ob.cell hLs.symm y (by rw [hLs]; exact hy)
            rw [getDset (by rw [HNm.out.bl]; exact hy), if_pos rfl] at d0
            have fz := HM.out.ob.frozen hLs.symm y
            have e0 := HM.out.ov.cell HNm.out.vl.symm k (by rw [HNm.out.vl]; exact hlk)
            obtain ⟨j0, j1, jl⟩ := HA.out.box
            have hM2 : bmx l v y (bs.getD y 0) (k + 1) = max2 (bmx l v y (bs.getD y 0) k) (vk (rel l k y) (v.getD k 0)) := rfl
            obtain ⟨m0, hm0'⟩ : ∃ m, m = bmx l v y (bs.getD y 0) k := ⟨_, rfl⟩
            obtain ⟨vk0, hvk⟩ : ∃ m, m = v.getD k 0 := ⟨_, rfl⟩
            have HM0 := Lib.hid hm0'
            rw [← hm0'] at d0 hM2
            rw [← hvk] at e0 hM2 HLB
            obtain ⟨lb, hlb⟩ : ∃ m, m = vk (rel l k y) vk0 := ⟨_, rfl⟩
            rw [← hlb] at hM2 HLB
            have HM2 := Lib.hid hM2
            obtain ⟨m2, hm2⟩ : ∃ m, m = max2 m0 lb := ⟨_, rfl⟩
            have hmx : ∀ w ts t, (Builtin.max_ ts t #[.int .i64 m0, .int .i64 lb]).run Try.prog w = .ok (.int .i64 m2) w := fun w ts t => by rw [run_max2, hm2]
            have HM3 := Lib.hid (show bmx l v y (bs.getD y 0) (k + 1) = m2 by rw [HM2.out, hm2])
            have hyi : (y : Int) < (L : Int) := by omega
            have hki : (k : Int) < (L : Int) := by omega
            clear hM2 hm0' hvk hlb hm2 hLs
            have lt5 : b5 < wr.heap.size := lt_of_cell c0
            have ltB : gB < wr.heap.size := lt_of_cell d0
            have ltC : gC < wr.heap.size := lt_of_cell e0
            have HPS := Lib.hid (fun (X : World) (hX : Below wr.heap.size wr X) => (show X.cell? ⟨b5, 0, none⟩ = some (.slice (some ⟨gB, 0, none⟩) L L) ∧ X.cell? ⟨b5, 1, none⟩ = some (.slice (some ⟨gC, 0, none⟩) L L) ∧ X.cell? ⟨gB, y, none⟩ = some (.int .i64 m0) ∧ X.cell? ⟨gC, k, none⟩ = some (.int .i64 vk0) ∧ X.cell? ⟨n, 0, none⟩ = some (.slice A L c) ∧ X.cell? ⟨n, 1, none⟩ = some (.int .i64 wt) from
              ⟨(hX.cell (p := ⟨b5, 0, none⟩) lt5).trans c0, (hX.cell (p := ⟨b5, 1, none⟩) lt5).trans c1, (hX.cell (p := ⟨gB, y, none⟩) ltB).trans d0, (hX.cell (p := ⟨gC, k, none⟩) ltC).trans e0, (hX.cell (p := ⟨n, 0, none⟩) jl).trans j0, (hX.cell (p := ⟨n, 1, none⟩) jl).trans j1⟩))
            have HFZ := Lib.hid (fun (X : World) (hX : Below wr.heap.size wr X) => (hX.frozen (p := ⟨gB, y, none⟩) ltB).trans fz)
            have HST := Lib.hid (fun (X : World) (hX : Below wr.heap.size wr X) => (show SvM (X.setCell ⟨gB, y, none⟩ (.int .i64 m2)) n L b5 gB gC (bs.set y (bmx l v y (bs.getD y 0) (k + 1))) v from by
              have q := (HM.out.below hX).setB y m2 (by rw [List.length_set]; exact HNm.out.bl)
              rw [List.set_set] at q
              rw [HM3.out]
              exact q))
            clear c0 c1 d0 e0 fz lt5 ltB ltC j0 j1 jl
            gi_upto_region 10 with fail
            obtain ⟨q0, e0⟩ : ∃ x, x = wr.drew := ⟨_, rfl⟩
            have K0 := Lib.hid (show Below wr.heap.size wr q0 from by rw [e0]; exact (Below.refl _ _).drew)
            have F0 := HPS.out q0 K0.out
            have HE0 := Lib.hid e0
            clear e0
            refine AnyT.round_at tl19 (fun X => X.cell? ⟨b5, 0, none⟩ = some (.slice (some ⟨gB, 0, none⟩) L L) ∧ X.cell? ⟨b5, 1, none⟩ = some (.slice (some ⟨gC, 0, none⟩) L L) ∧ X.cell? ⟨gB, y, none⟩ = some (.int .i64 m0) ∧ X.cell? ⟨gC, k, none⟩ = some (.int .i64 vk0) ∧ X.cell? ⟨n, 0, none⟩ = some (.slice A L c) ∧ X.cell? ⟨n, 1, none⟩ = some (.int .i64 wt)) (by kernel_rfl) (by kernel_rfl) (fun _ _ h => h) HE0.out F0 ?_
            clear F0
            intro F0
-- TAKES
            refine AnyT.takeD (i := 0) (d := some 35) (v := .pointer (some ⟨b5, 0, none⟩)) rfl rfl (by kernel_rfl) (by kernel_rfl) (by kernel_rfl) (by kernel_rfl) (fun _ _ _ h => h) (Or.inl ⟨by rfl, fun wz _ => by go_simp⟩) F0 ?_
            simp only [Act.put, List.setIfInBounds_toArray, List.set_cons_zero, List.set_cons_succ]
            refine AnyT.takeD (i := 1) (d := some 36) (v := .slice (some ⟨gB, 0, none⟩) L L) rfl rfl (by kernel_rfl) (by kernel_rfl) (by kernel_rfl) (by kernel_rfl) (fun _ _ _ h => h) (Or.inl ⟨by rfl, fun wz hz => by obtain ⟨z0, z1, z2, z3, z4, z5⟩ := hz; go_simp⟩) F0 ?_
            simp only [Act.put, List.setIfInBounds_toArray, List.set_cons_zero, List.set_cons_succ]
            refine AnyT.takeD (i := 2) (d := some 37) (v := .int .i64 (y : Int)) rfl rfl (by kernel_rfl) (by kernel_rfl) (by kernel_rfl) (by kernel_rfl) (fun _ _ _ h => h) (Or.inl ⟨by rfl, fun wz _ => by go_simp⟩) F0 ?_
            simp only [Act.put, List.setIfInBounds_toArray, List.set_cons_zero, List.set_cons_succ]
            refine AnyT.takeD (i := 3) (d := some 38) (v := .pointer (some ⟨b5, 0, none⟩)) rfl rfl (by kernel_rfl) (by kernel_rfl) (by kernel_rfl) (by kernel_rfl) (fun _ _ _ h => h) (Or.inl ⟨by rfl, fun wz _ => by go_simp⟩) F0 ?_
            simp only [Act.put, List.setIfInBounds_toArray, List.set_cons_zero, List.set_cons_succ]
            refine AnyT.takeD (i := 4) (d := some 39) (v := .slice (some ⟨gB, 0, none⟩) L L) rfl rfl (by kernel_rfl) (by kernel_rfl) (by kernel_rfl) (by kernel_rfl) (fun _ _ _ h => h) (Or.inl ⟨by rfl, fun wz hz => by obtain ⟨z0, z1, z2, z3, z4, z5⟩ := hz; go_simp⟩) F0 ?_
            simp only [Act.put, List.setIfInBounds_toArray, List.set_cons_zero, List.set_cons_succ]
            refine AnyT.takeD (i := 5) (d := some 40) (v := .int .i64 (y : Int)) rfl rfl (by kernel_rfl) (by kernel_rfl) (by kernel_rfl) (by kernel_rfl) (fun _ _ _ h => h) (Or.inl ⟨by rfl, fun wz _ => by go_simp⟩) F0 ?_
            simp only [Act.put, List.setIfInBounds_toArray, List.set_cons_zero, List.set_cons_succ]
            refine AnyT.takeD (i := 6) (d := some 41) (v := .pointer (some ⟨gB, y, none⟩)) rfl rfl (by kernel_rfl) (by kernel_rfl) (by kernel_rfl) (by kernel_rfl) (fun _ _ _ h => h) (Or.inl ⟨by rfl, fun wz _ => by go_simp⟩) F0 ?_
            simp only [Act.put, List.setIfInBounds_toArray, List.set_cons_zero, List.set_cons_succ]
            refine AnyT.takeD (i := 7) (d := some 42) (v := .int .i64 m0) rfl rfl (by kernel_rfl) (by kernel_rfl) (by kernel_rfl) (by kernel_rfl) (fun _ _ _ h => h) (Or.inl ⟨by rfl, fun wz hz => by obtain ⟨z0, z1, z2, z3, z4, z5⟩ := hz; go_simp⟩) F0 ?_
            simp only [Act.put, List.setIfInBounds_toArray, List.set_cons_zero, List.set_cons_succ]
            refine AnyT.takeD (i := 8) (d := some 43) (v := jv A L c wt) rfl rfl (by kernel_rfl) (by kernel_rfl) (by kernel_rfl) (by kernel_rfl) (fun _ _ _ h => h) (Or.inl ⟨by rfl, fun wz hz => by obtain ⟨z0, z1, z2, z3, z4, z5⟩ := hz; go_simp⟩) F0 ?_
            simp only [Act.put, List.setIfInBounds_toArray, List.set_cons_zero, List.set_cons_succ]
            refine AnyT.takeD (i := 9) (d := some 44) (v := .int .i64 (k : Int)) rfl rfl (by kernel_rfl) (by kernel_rfl) (by kernel_rfl) (by kernel_rfl) (fun _ _ _ h => h) (Or.inl ⟨by rfl, fun wz _ => by go_simp⟩) F0 ?_
            simp only [Act.put, List.setIfInBounds_toArray, List.set_cons_zero, List.set_cons_succ]
            refine AnyT.takeD (i := 10) (d := some 45) (v := .pointer (some ⟨b5, 1, none⟩)) rfl rfl (by kernel_rfl) (by kernel_rfl) (by kernel_rfl) (by kernel_rfl) (fun _ _ _ h => h) (Or.inl ⟨by rfl, fun wz _ => by go_simp⟩) F0 ?_
            simp only [Act.put, List.setIfInBounds_toArray, List.set_cons_zero, List.set_cons_succ]
            refine AnyT.takeD (i := 11) (d := some 46) (v := .slice (some ⟨gC, 0, none⟩) L L) rfl rfl (by kernel_rfl) (by kernel_rfl) (by kernel_rfl) (by kernel_rfl) (fun _ _ _ h => h) (Or.inl ⟨by rfl, fun wz hz => by obtain ⟨z0, z1, z2, z3, z4, z5⟩ := hz; go_simp⟩) F0 ?_
            simp only [Act.put, List.setIfInBounds_toArray, List.set_cons_zero, List.set_cons_succ]
            refine AnyT.takeD (i := 12) (d := some 47) (v := .int .i64 (k : Int)) rfl rfl (by kernel_rfl) (by kernel_rfl) (by kernel_rfl) (by kernel_rfl) (fun _ _ _ h => h) (Or.inl ⟨by rfl, fun wz _ => by go_simp⟩) F0 ?_
            simp only [Act.put, List.setIfInBounds_toArray, List.set_cons_zero, List.set_cons_succ]
            refine AnyT.takeD (i := 13) (d := some 48) (v := .pointer (some ⟨gC, k, none⟩)) rfl rfl (by kernel_rfl) (by kernel_rfl) (by kernel_rfl) (by kernel_rfl) (fun _ _ _ h => h) (Or.inl ⟨by rfl, fun wz _ => by go_simp⟩) F0 ?_
            simp only [Act.put, List.setIfInBounds_toArray, List.set_cons_zero, List.set_cons_succ]
            refine AnyT.takeD (i := 14) (d := some 49) (v := .int .i64 vk0) rfl rfl (by kernel_rfl) (by kernel_rfl) (by kernel_rfl) (by kernel_rfl) (fun _ _ _ h => h) (Or.inl ⟨by rfl, fun wz hz => by obtain ⟨z0, z1, z2, z3, z4, z5⟩ := hz; go_simp⟩) F0 ?_
            simp only [Act.put, List.setIfInBounds_toArray, List.set_cons_zero, List.set_cons_succ]
            refine AnyT.takeD (i := 15) (d := some 50) (v := .int .i64 (y : Int)) rfl rfl (by kernel_rfl) (by kernel_rfl) (by kernel_rfl) (by kernel_rfl) (fun _ _ _ h => h) (Or.inl ⟨by rfl, fun wz _ => by go_simp⟩) F0 ?_
            simp only [Act.put, List.setIfInBounds_toArray, List.set_cons_zero, List.set_cons_succ]
            -- TAKEN
            refine AnyT.branch (rs := [16]) (by kernel_rfl) (by simp) ?_
            refine all_cons (?_) all_nil
            refine AnyT.enter (i := 16) (d := some 51) (f := 69) (args := #[jv A L c wt, .int .i64 (k : Int), .int .i64 vk0, .int .i64 (y : Int)]) rfl rfl rfl (by go_simp) (HLB.out q0 K0.out) ?_
            rintro e q1 ⟨rfl, hB1⟩
            have K1 := Lib.hid (K0.out.trans (hB1.mono K0.out.size))
            have F1 := HPS.out q1 K1.out
            refine ⟨_, rfl, fun _ => F1, ?_⟩
            clear hB1 F0
            simp only [Act.put, List.setIfInBounds_toArray, List.set_cons_zero, List.set_cons_succ]
            refine AnyT.takeD (i := 17) (d := some 52) (v := .int .i64 m2) rfl rfl (by kernel_rfl) (by kernel_rfl) (by kernel_rfl) (by kernel_rfl) (fun _ _ _ h => h) (Or.inl ⟨by rfl, fun wz _ => by go_simp⟩) F1 ?_
            simp only [Act.put, List.setIfInBounds_toArray, List.set_cons_zero, List.set_cons_succ]
            refine AnyT.takeD (i := 18) (d := some 53) (v := .pointer (some ⟨gB, y, none⟩)) rfl rfl (by kernel_rfl) (by kernel_rfl) (by kernel_rfl) (by kernel_rfl) (fun _ _ _ h => h) (Or.inl ⟨by rfl, fun wz _ => by go_simp⟩) F1 ?_
            simp only [Act.put, List.setIfInBounds_toArray, List.set_cons_zero, List.set_cons_succ]
            refine AnyT.branch (rs := [19]) (by kernel_rfl) (by simp) ?_
            refine all_cons ?_ all_nil
            refine AnyT.step (i := 19) rfl (fun KK hK => ?_)
            obtain ⟨z0, z1, z2, z3, z4, z5⟩ := F1
            have fz := HFZ.out q1 K1.out
            have A1 := HA.out.below K1.out HA.out.lt HA.out.bel.size
            have HA2 := Lib.hid (A1.setO (p := ⟨gB, y, none⟩) (by have := LTS.out.1.1; show n + 3 ≤ gB; omega) (by have := HN.out; omega) (.int .i64 m2))
            have HM2 := Lib.hid (HST.out q1 K1.out)
            have HK2 := Lib.hid ((HK.out.below K1.out HA.out.bel.size (by have := HK.out.kp.size; have := HSZ.out; have := LTB.out; omega)).set (p := ⟨gB, y, none⟩) (by have := LTS.out.1.1; have := HN.out; show _ ≤ gB; omega) (by have := LTB.out; show gB ≠ Ba; omega) (.int .i64 m2))
            clear A1 HPS HFZ HST HLB HM HA HK
            go_simp
            refine hK.out _ _ (fun h => absurd h (by decide)) ?_
            clear hK KK fz z0 z1 z2 z3 z4 z5 hmx
            refine AnyT.done_ (by kernel_rfl) ?_ _
            gi_wp2
            go_roundw
            case rel => exact ⟨k + 1, by omega, by simp, HA2, HM2, HK2⟩
            case measure => simp [intOf]; omega
          · have hkL : k = L := by omega
            subst hkL
            have hIR : IRow wr A l := H.out.below HA.out.bel
            obtain ⟨ad, rfl, C⟩ := hIR.at_ y hyl
            obtain ⟨-, -, r2, -⟩ := C.spelt
            replace r2 : wr.cell? ⟨(ad.add (y * 4)).block, (ad.add (y * 4)).off + 2, none⟩ = some (.int .i64 (rnd l y)) := r2
            have c0 := HM.out.c0
            have hLs : (bs.set y (bmx l v y (bs.getD y 0) k)).length = k := by rw [List.length_set]; exact HNm.out.bl
            have d0 := HM.out.ob.cell hLs.symm y (by rw [hLs]; exact hy)
            rw [getDset (by rw [HNm.out.bl]; exact hy), if_pos rfl] at d0
            obtain ⟨j0, j1, jl⟩ := HA.out.box
            have hmb := HBM.out k
            have HFO := Lib.hid (formOk_of HE.out)
            have hrb := HFO.out.rb y hyl
            have HNX := Lib.hid (fun (kk : Int) => next_bd (n := bmx l v y (bs.getD y 0) k) (r := rnd l y) (wt := wt) (k := kk) hmb.1 hrb HFO.out.wb)
            have HNE := Lib.hid (next_err (n := bmx l v y (bs.getD y 0) k) (r := rnd l y) (wt := wt) hmb.1 hrb HFO.out.wb)
            have NR := Lib.hid (fun W => next_code (bmx l v y (bs.getD y 0) k) (rnd l y) wt W (by omega))
            have HGS := Lib.hid (fun kk hk => HG.out.stepN HL.out HFO.out.blk hyl (k := kk) hk)
            have HGF := Lib.hid (HG.out.failN HL.out HFO.out.blk hyl)
            obtain ⟨⟨kk, er⟩, hnz⟩ : ∃ t, t = nextZ (bmx l v y (bs.getD y 0) k) (rnd l y) wt := ⟨_, rfl⟩
            have HNZ := Lib.hid hnz
            rw [← hnz] at NR HNX HNE
            have hyi : (y : Int) < (k : Int) := by omega
            clear hIR C hnz hLs
            obtain ⟨mb, hmbe⟩ : ∃ m, m = bmx l v y (bs.getD y 0) k := ⟨_, rfl⟩
            have HMB := Lib.hid hmbe
            rw [← hmbe] at d0 NR hmb
            clear hmbe hk hlk HG
            generalize rnd l y = rr at *
            gi_wp2
            try dsimp only
            refine wpIn_region_quiet_round lo rfl (by kernel_rfl) (by kernel_rfl) (by kernel_rfl) ?_
            repeat (gi_big_quiet_step (fail))
            refine Go.BigFrame.wpQuietIn_want (fun _ _ _ _ => trivial) (Eq.refl true) ?_
            intro K hK
            gi_big_quiet_op
            gi_big_quiet_call ((gi_at_call 70; exact CallsIn.quiet_of_same (callsIn_wide.2 ((NR.out _).mono fun _ _ h => ⟨h.1, h.2.symm⟩))))
            repeat (gi_big_quiet_step (fail))
            refine wpQuietIn_nil ?_
            intro _ hw'
            obtain ⟨nq, hw''⟩ := hw'
            subst hw''
            clear c0 d0 j0 j1 r2
            have BQ : Below wr.heap.size wr (wr.drewN nq) := bdn (Below.refl _ _)
            have HA3 := Lib.hid (HA.out.below BQ HA.out.lt HA.out.bel.size)
            have HM3 := Lib.hid (HM.out.below BQ)
            have HK3 := Lib.hid (HK.out.below BQ HA.out.bel.size (by have := HK.out.kp.size; have := HSZ.out; have := LTB.out; omega))
            have HSZ3 := Lib.hid (show w3.heap.size ≤ (wr.drewN nq).heap.size from Nat.le_trans HSZ.out (HK.out.kp.size))
            clear BQ HA HM HK NR
            generalize wr.drewN nq = wq at *
            by_cases hez : er = 0
            · subst hez
              have HBD := Lib.hid (HNX.out kk rfl)
              have hgs := HGS.out kk HNZ.out.symm
              have HGS2 := Lib.hid hgs
              have c1 := HM3.out.c1
              have hvl := HNm.out.vl
              have e0 := HM3.out.ov.cell hvl.symm y (by rw [hvl]; exact hy)
              have fz := HM3.out.ov.frozen hvl.symm y
              have HA4 := Lib.hid (HA3.out.setO (p := ⟨gC, y, none⟩) (by have := LTS.out.2.1; show n + 3 ≤ gC; omega) (by have := HN.out; omega) (.int .i64 kk))
              have HM4 := Lib.hid (HM3.out.setC y kk hvl)
              have HK4 := Lib.hid (HK3.out.set (p := ⟨gC, y, none⟩) (by have := LTS.out.2.1; have := HN.out; show _ ≤ gC; omega) (by have := LTB.out; show gC ≠ Ba; omega) (.int .i64 kk))
              have HN4 := Lib.hid (HNm.out.put hy (M := mb) hmb (by have := HBD.out; have := HMB.out; omega : 0 ≤ kk ∧ kk ≤ 4095))
              rw [HMB.out] at HN4
              have HSZ4 := Lib.hid (show w3.heap.size ≤ (wq.setCell ⟨gC, y, none⟩ (.int .i64 kk)).heap.size by rw [World.size_setCell]; exact HSZ3.out)
              clear HGS HGF HNX HNE hgs HA3 HM3 HK3 hvl
              gi_wp2
              exact ⟨HK4.out.kf, HK4.out.kp, ⟨_, _, HA4.out, HM4.out, HN4.out, HGS2.out⟩, HSZ4.out⟩
            · have hne := HNE.out hez
              have hkk : er = 15 := by injection hne
              subst hkk
              have HNO := Lib.hid (HGF.out (by rw [← HNZ.out]; show (15 : Int) ≠ 0; omega))
              have P := Lib.hid (HA3.out.put (by have := HN.out; omega) ((none, 0, 0), (none, 0, 0)) 15)
              have c20 := HA3.out.c20
              have c21 := HA3.out.c21
              have c3 := HA3.out.c3
              have f20 := HA3.out.f2 0
              have f21 := HA3.out.f2 1
              have f30 := HA3.out.f3 0
              have HK4 := Lib.hid (((HK3.out.set (p := ⟨n + 1, 0, none⟩) (by have := HN.out; show _ ≤ n + 1; omega) (by have := LTB.out; show n + 1 ≠ Ba; omega) (.slice none 0 0)).set (p := ⟨n + 1, 1, none⟩) (by have := HN.out; show _ ≤ n + 1; omega) (by have := LTB.out; show n + 1 ≠ Ba; omega) (.slice none 0 0)).set (p := ⟨n + 1 + 1, 0, none⟩) (by have := HN.out; show _ ≤ n + 1 + 1; omega) (by have := LTB.out; show n + 1 + 1 ≠ Ba; omega) (.int .i64 15))
              have HSZ4 := Lib.hid (show w3.heap.size ≤ (((wq.setCell ⟨n + 1, 0, none⟩ (.slice none 0 0)).setCell ⟨n + 1, 1, none⟩ (.slice none 0 0)).setCell ⟨n + 1 + 1, 0, none⟩ (.int .i64 15)).heap.size by rw [World.size_setCell, World.size_setCell, World.size_setCell]; exact HSZ3.out)
              clear HGS HGF HNX HNE hne HA3 HM3 HK3
              gi_wp2
              exact ⟨HK4.out.kf, rfl, P.out.1, P.out.2.1, P.out.2.2.1, P.out.2.2.2, HNO.out, HSZ4.out⟩
      case done =>
        intro D zs W hD hzs hI hD2
        obtain ⟨⟨bs, v, a1, a2, a3, a4⟩, hsz⟩ := hI
        rw [hzs] at a4
        clear hzs
        have HSOL := Lib.hid (a4.done (formOk_of HE.out).blk)
        have P := Lib.hid (a1.put (by have := HN.out; omega) ((some ⟨gB, 0, none⟩, L, L), (some ⟨gC, 0, none⟩, L, L)) 0)
        have HOB := Lib.hid a2.ob
        have HOV := Lib.hid a2.ov
        have c20 := a1.c20
        have c21 := a1.c21
        have c3 := a1.c3
        have f20 := a1.f2 0
        have f21 := a1.f2 1
        have f30 := a1.f3 0
        have c0 := a2.c0
        have c1 := a2.c1
        have HD := Lib.hid (And.intro hD (And.intro hsz hD2))
        clear a1 a2 a3 a4 hcA hD2 hsz hD
        gi_wp2
        go_wp2_with fail
        have hlb := LTB.out
        have hnn := HN.out
        refine SvF.leaves (B := w3.heap.size) (n := n) (d := ((some ⟨gB, 0, none⟩, L, L), (some ⟨gC, 0, none⟩, L, L))) (er := 0) (bs := bs) (v := v) ⟨P.out.1, P.out.2.1, P.out.2.2.1, P.out.2.2.2, ?_, ?_, ?_, ?_, by omega, by omega⟩ ?_ (Or.inr (Or.inr ⟨HE.out, rfl, HSOL.out⟩)) rfl _ rfl rfl _ ⟨⟨D, rfl, HD.out.1, ?_, fun d' h => (by cases h)⟩, trivial⟩
        · exact ((HOB.out.setO (p := ⟨n + 1, 0, none⟩) (by show n + 1 < n + 3; omega) _).setO (p := ⟨n + 1, 1, none⟩) (by show n + 1 < n + 3; omega) _).setO (p := ⟨n + 1 + 1, 0, none⟩) (by show n + 1 + 1 < n + 3; omega) _ |>.base (by omega)
        · exact ((HOV.out.setO (p := ⟨n + 1, 0, none⟩) (by show n + 1 < n + 3; omega) _).setO (p := ⟨n + 1, 1, none⟩) (by show n + 1 < n + 3; omega) _).setO (p := ⟨n + 1 + 1, 0, none⟩) (by show n + 1 + 1 < n + 3; omega) _ |>.base (by omega)
        · intro g h; have h2 : gB = g := by injection h
          omega
        · intro g h; have h2 : gC = g := by injection h
          omega
        · rw [World.size_setCell, World.size_setCell, World.size_setCell]; exact HD.out.2.1
        · have hDD := HD.out.1
          rw [Below.heap_setCell _ _ _ _ (by show D ≠ n + 1 + 1; omega), Below.heap_setCell _ _ _ _ (by show D ≠ n + 1; omega), Below.heap_setCell _ _ _ _ (by show D ≠ n + 1; omega)]
          exact HD.out.2.2
      case stop =>
        rintro D co pre W hD hSp ⟨rfl, hX⟩ hD2
        have HNO := Lib.hid (hX.no hSp)
        gi_wp2
        have hlb := LTB.out
        have hnn := HN.out
        exact SvF.leaves (B := w3.heap.size) (n := n) (d := ((none, 0, 0), (none, 0, 0))) (er := 15) (bs := []) (v := []) ⟨hX.bel, hX.c0, hX.c1, hX.c2, Own.nil, Own.nil, (fun g h => (by cases h)), (fun g h => (by cases h)), by omega, by omega⟩ hX.sz (Or.inr (Or.inl ⟨HE.out, rfl, rfl, rfl, HNO.out⟩)) rfl _ rfl rfl _ ⟨⟨D, rfl, hD, hD2, fun d' h => (by cases h)⟩, trivial⟩
  · have HE := Lib.hid he
    have hne : (validR l wt != 0) = true := bne_iff_ne.2 he
    have P := Lib.hid (S2.out.put (by have := HN.out; omega) ((none, 0, 0), (none, 0, 0)) (validR l wt))
    clear he
    go_wp2_with fail
    refine SvF.leaves (B := w2.heap.size) (d := ((none, 0, 0), (none, 0, 0))) (bs := []) (v := []) ⟨P.out.1, P.out.2.1, P.out.2.2.1, P.out.2.2.2, Own.nil, Own.nil, (fun g h => (by cases h)), (fun g h => (by cases h)), S2.out.lt, S2.out.bel.size⟩ (by rw [World.size_setCell, World.size_setCell, World.size_setCell]; exact Nat.le_refl _) (Or.inl ⟨HE.out, rfl, rfl, rfl⟩) rfl _ rfl rfl [] trivial
end Go.Proofs.Ytlagadbkencpbaa

namespace Go.Proofs.Ytlagadbkencpbaa
open Go.RowKit Go.Lib

/-- Indexes as numbers. -/
def toZ (os : List Nat) : List Int := os.map fun (x : Nat) => (x : Int)
theorem toZ_len (os : List Nat) : (toZ os).length = os.length := by unfold toZ; simp
theorem toZ_at (os : List Nat) {k : Nat} (hk : k < os.length) : (toZ os).getD k 0 = ((os.getD k 0 : Nat) : Int) := by
  unfold toZ; simp [List.getD_eq_getElem?_getD, hk]
theorem toZ_app (a b : List Nat) : toZ (a ++ b) = toZ a ++ toZ b := by unfold toZ; simp
theorem toZ_inj {a b : List Nat} (h : toZ a = toZ b) : a = b := by
  unfold toZ at h
  exact (List.map_inj_right (f := fun (x : Nat) => (x : Int)) (fun x y e => Int.ofNat_inj.1 e)).1 h
theorem getD_memN {os : List Nat} {i : Nat} (h : i < os.length) : os.getD i 0 ∈ os := by
  rw [List.getD_eq_getElem?_getD, List.getElem?_eq_getElem h]; exact List.getElem_mem h
theorem getD_set_same {zs : List Int} {y : Nat} (h : y < zs.length) (M : Int) : (zs.set y M).getD y 0 = M := by
  rw [List.getD_eq_getElem?_getD, List.getElem?_set, if_pos rfl, if_pos h]; rfl
theorem getD_set_other {zs : List Int} {y x : Nat} (h : y ≠ x) (M : Int) : (zs.set y M).getD x 0 = zs.getD x 0 := by
  rw [List.getD_eq_getElem?_getD, List.getElem?_set, if_neg h, ← List.getD_eq_getElem?_getD]
/-- The greatest of the first k. -/
structure TopV (v : List Int) (k : Nat) (M : Int) : Prop where
  le : ∀ x, x < k → v.getD x 0 ≤ M
  hit : ∃ x, x < k ∧ v.getD x 0 = M
set_option maxHeartbeats 800000 in
theorem max_any (v : List Int) (A : Option Addr) (c : Nat) (w : World) (h : Row .i64 w w.heap.size A v) (hm : v.length ≤ maxLen) (h1 : 0 < v.length) :
    Calls Try.prog 55 #[.slice A v.length c] w fun e w' => ∃ M, e = .returned (.int .i64 M) ∧ TopV v v.length M ∧ w' = w := by
  have hl : v.length ≤ 9223372036854775807 := hm
  have H := Lib.hid h
  obtain ⟨ad, rfl, _, c0⟩ := h 0 h1
  have HZ : Hid (TopV v 1 (v.getD 0 0)) := Lib.hid ⟨fun x hx => by
    obtain rfl : x = 0 := by omega
    exact Int.le_refl _, 0, by omega, rfl⟩
  obtain ⟨L, hL⟩ : ∃ n, n = v.length := ⟨_, rfl⟩
  have HL := Lib.hid hL
  rw [← hL] at hl h1 ⊢
  have hL1 : ¬ (L : Int) < 1 := by omega
  have hL0 : (0 : Int) < (L : Int) := by omega
  generalize v.getD 0 0 = z at *
  clear h hL hm
  have e0 : ad.add 0 = ad := by unfold Addr.add; rw [if_pos rfl]
  have c0' : w.cell? ad = some (.int .i64 z) := by rw [← e0]; exact c0
  clear e0
  go_enter Try.func55, Try.ntmps55
  go_wp2_with fail
  clear c0 c0'
  go_loopw [3, 4] (fun mv iv wr => ∃ (k : Nat) (M : Int), k < L + 1 ∧ iv = .int .i64 (k : Int) ∧ 1 ≤ k ∧ mv = .int .i64 M ∧ Hid (TopV v k M) ∧ Hid (wr = w)) (fun _ iv _ => L - (intOf iv).toNat)
  case atStart => exact ⟨1, z, by omega, rfl, by omega, rfl, HZ, Lib.hid rfl⟩
  case round =>
    clear HZ
    obtain ⟨k, M, hk, rfl, hk1, rfl, T, HW⟩ := hrel
    obtain rfl := HW.out
    by_cases hlt : k < L
    · obtain ⟨ad', e', _, ck⟩ := H.out k (by rw [← HL.out]; exact hlt)
      obtain rfl : ad = ad' := by injection e'
      obtain ⟨zk, hz⟩ : ∃ z, z = v.getD k 0 := ⟨_, rfl⟩
      rw [← hz] at ck
      obtain ⟨M2, hM2⟩ : ∃ t, t = max2 M zk := ⟨_, rfl⟩
      have hmx : ∀ w ts t, (Builtin.max_ ts t #[.int .i64 M, .int .i64 zk]).run Try.prog w = .ok (.int .i64 M2) w := fun w ts t => by rw [run_max2, hM2]
      have HT := Lib.hid (show TopV v (k + 1) M2 from by
        have hle := T.out.le
        have hhit := T.out.hit
        unfold max2 at hM2
        split at hM2
        · subst hM2
          refine ⟨fun x hx => ?_, k, by omega, hz.symm⟩
          rcases Nat.lt_or_ge x k with g | g
          · have := hle x g; omega
          · have : x = k := by omega
            subst this; omega
        · subst hM2
          obtain ⟨x0, h1, h2⟩ := hhit
          refine ⟨fun x hx => ?_, x0, by omega, h2⟩
          rcases Nat.lt_or_ge x k with g | g
          · exact hle x g
          · have : x = k := by omega
            subst this; omega)
      clear hz hM2 e' T
      go_wp2_with fail
      go_roundw
      case rel => exact ⟨k + 1, M2, by omega, by go_num, by omega, rfl, HT, Lib.hid trivial⟩
      case measure => simp [intOf]; omega
    · obtain rfl : k = L := by omega
      have HLL := Lib.hid HL.out
      go_wp2_with fail
      go_ret
      exact ⟨M, rfl, T.out, rfl⟩
set_option maxHeartbeats 800000 in
theorem indexOf_any (v : List Int) (A : Option Addr) (c : Nat) (M : Int) (w : World) (h : Row .i64 w w.heap.size A v) (hm : v.length ≤ maxLen) (ht : TopV v v.length M) :
    Calls Try.prog 60 #[.slice A v.length c, .int .i64 M] w fun e w' => ∃ y : Nat, e = .returned (.int .i64 (y : Int)) ∧ IsTop v y ∧ v.getD y 0 = M ∧ w' = w := by
  have hl : v.length ≤ 9223372036854775807 := hm
  have H := Lib.hid h
  have HT := Lib.hid ht
  obtain ⟨L, hL⟩ : ∃ n, n = v.length := ⟨_, rfl⟩
  have HL := Lib.hid hL
  rw [← hL] at hl ⊢
  clear h hL hm ht
  go_enter Try.func60, Try.ntmps60
  go_wp2_with fail
  go_loopw [8] (fun iv wr => ∃ k : Nat, k ≤ L ∧ iv = .int .i64 (k : Int) ∧ Hid (∀ x, x < k → v.getD x 0 ≠ M) ∧ Hid (wr = w)) (fun iv _ => L - (intOf iv).toNat)
  case atStart => exact ⟨0, by omega, rfl, Lib.hid (fun x hx => absurd hx (Nat.not_lt_zero _)), Lib.hid rfl⟩
  case round =>
    obtain ⟨k, hk, rfl, F, HW⟩ := hrel
    obtain rfl := HW.out
    by_cases hlt : k < L
    · obtain ⟨ad, rfl, _, ck⟩ := H.out k (by rw [← HL.out]; exact hlt)
      obtain ⟨zk, hz⟩ : ∃ z, z = v.getD k 0 := ⟨_, rfl⟩
      have HZ := Lib.hid hz
      rw [← hz] at ck
      clear hz
      by_cases e : M = zk
      · subst e
        have HTop := Lib.hid (show IsTop v k from ⟨by rw [← HL.out]; exact hlt, fun x hx => by rw [← HZ.out]; exact HT.out.le x hx, fun x hx => by
          have h1 := F.out x hx
          have h2 := HT.out.le x (by rw [← HL.out]; omega)
          rw [← HZ.out]; omega⟩)
        have hb : (M == M) = true := by simp
        clear F
        go_wp2_with fail
        go_ret
        exact ⟨k, rfl, HTop.out, HZ.out.symm, rfl⟩
      · have hb : (M == zk) = false := by simpa using e
        have HE := Lib.hid e
        clear e
        go_wp2_with fail
        go_roundw
        case rel => exact ⟨k + 1, by omega, by go_num, Lib.hid (fun x hx => by
          rcases Nat.lt_or_ge x k with g | g
          · exact F.out x g
          · have : x = k := by omega
            subst this; rw [← HZ.out]; exact fun q => HE.out q.symm), Lib.hid trivial⟩
        case measure => simp [intOf]; omega
    · obtain rfl : k = L := by omega
      exfalso
      obtain ⟨x, h1, h2⟩ := HT.out.hit
      exact F.out x (by rw [HL.out]; exact h1) h2
theorem Row.nonempty {w : World} {B : Nat} {A : Option Addr} {zs : List Int} {k : IntKind} (h : Row k w B A zs) (hn : 0 < zs.length) : ∃ ad, A = some ad := by
  obtain ⟨ad, e, _⟩ := h 0 hn; exact ⟨ad, e⟩
end Go.Proofs.Ytlagadbkencpbaa

namespace Go.Proofs.Ytlagadbkencpbaa
open Go.RowKit Go.Lib

def tlN (i : Nat) : Bool := false
/-- What a chain leaves: a list of the call's own. -/
def ChPostB (l : List It) (v bs : List Int) (y : Nat) (w : World) (e : Ending) (w' : World) : Prop :=
  ∃ u c, e = .returned u ∧ IsBackB l v bs y c ∧ Own .i64 3 w' w.heap.size u (toZ c) ∧ Below w.heap.size w w'
/-- Block b holds the solution. -/
structure SBox (w : World) (b : Nat) (d : SD) : Prop where
  c0 : w.cell? ⟨b, 0, none⟩ = some (.slice d.1.1 d.1.2.1 d.1.2.2)
  c1 : w.cell? ⟨b, 1, none⟩ = some (.slice d.2.1 d.2.2.1 d.2.2.2)
  lt : b < w.heap.size
theorem SBox.below {w w' : World} {b B : Nat} {d : SD} (h : SBox w b d) (k : Below B w w') (hb : b < B) : SBox w' b d :=
  ⟨(k.cell (p := ⟨b, 0, none⟩) hb).trans h.c0, (k.cell (p := ⟨b, 1, none⟩) hb).trans h.c1, Nat.lt_of_lt_of_le h.lt k.size⟩
theorem SBox.new {w : World} {d : SD} (b : Nat) (hb : b = w.heap.size) : SBox (w.alloc (.cells #[.slice d.1.1 d.1.2.1 d.1.2.2, .slice d.2.1 d.2.2.1 d.2.2.2] 95)) b d := by
  subst hb; exact ⟨by rw [cell_new]; rfl, by rw [cell_new]; rfl, by simp⟩
set_option maxRecDepth 100000 in
set_option maxHeartbeats 3200000 in
theorem ychain_any (l : List It) (A BA CA : Option Addr) (c bc cc L : Nat) (wt : Int) (bs v : List Int) (hL : L = l.length) (hval : validR l wt = 0) (hs : Sol l wt bs v) :
    ∀ (n y : Nat), y < L → blk l y < n → ∀ w : World, IRow w A l → Row .i64 w w.heap.size BA bs → Row .i64 w w.heap.size CA v →
    Calls Try.prog 61 #[jv A L c wt, sv ((BA, L, bc), (CA, L, cc)), .int .i64 (y : Int)] w (ChPostB l v bs y w) := by
  have hf := formOk_of hval
  have hL2 := (valid_ok hval).1
  intro n
  induction n with
  | zero => intro y hy hb w; have := (hf.blk y (by rw [← hL]; exact hy)).1; omega
  | succ n ih =>
    intro y hy hb w hi hbr hvr
    have HF := Lib.hid hf
    have HS := Lib.hid hs
    have HI := Lib.hid hi
    have HB := Lib.hid hbr
    have HV := Lib.hid hvr
    have HL := Lib.hid hL
    have HIH := Lib.hid ih
    have HBN := Lib.hid hb
    have HLB := Lib.hid (fun (k : Nat) (hk : k < L) (vk0 : Int) (h1 : 0 ≤ vk0 ∧ vk0 ≤ 1000000) (W : World) (h2 : IRow W A l) => lb_any l A c L wt hL hval k y vk0 h1 hk hy W h2)
    have hL96 : L ≤ 96 := by omega
    have hbl : bs.length = L := by rw [hs.blen, hL]
    have hvl : v.length = L := by rw [hs.vlen, hL]
    have HBL := Lib.hid hbl
    have HVL := Lib.hid hvl
    have s1 : (w.alloc (.cells #[.slice A L c, .int .i64 wt] 39)).heap.size = w.heap.size + 1 := by simp
    have J0 := JBox.new (w := w) (A := A) (n := L) (c := c) (wt := wt) w.heap.size rfl
    have B0 := (Below.refl w.heap.size w).alloc (Nat.le_refl _) (.cells #[.slice A L c, .int .i64 wt] 39)
    have X0 := SBox.new (w := w.alloc (.cells #[.slice A L c, .int .i64 wt] 39)) (d := ((BA, L, bc), (CA, L, cc))) _ rfl
    have b1 := (Below.refl _ (w.alloc (.cells #[.slice A L c, .int .i64 wt] 39))).alloc (Nat.le_refl _) (.cells #[.slice BA L bc, .slice CA L cc] 95)
    have HJ := Lib.hid (J0.below b1 J0.lt)
    have HBW := Lib.hid (B0.trans (b1.mono B0.size))
    rw [s1] at X0
    have HX := Lib.hid X0
    obtain ⟨b, hbq⟩ : ∃ b, b = w.heap.size := ⟨_, rfl⟩
    clear hf hL2 hs hi hbr hvr hL ih hb s1 J0 B0 X0 b1 hval hbl hvl
    go_enter Try.func61, Try.ntmps61
    go_upto_region 1 with fail
    rw [← hbq] at HJ HX ⊢
    generalize (w.alloc (.cells #[.slice A L c, .int .i64 wt] 39)).alloc (.cells #[.slice BA L bc, .slice CA L cc] 95) = w1 at *
    obtain ⟨x0, x1, xl⟩ := HX.out
    replace x0 : w1.cell? ⟨b + 1, 0, none⟩ = some (.slice BA L bc) := x0
    replace x1 : w1.cell? ⟨b + 1, 1, none⟩ = some (.slice CA L cc) := x1
    have HB1 := Lib.hid (HB.out.below HBW.out)
    obtain ⟨ab, rfl, _, cy⟩ := HB1.out y (by rw [HBL.out]; exact hy)
    have hyi : (y : Int) < (L : Int) := by omega
    have hz0 := ((HS.out.bound HF.out) y).2
    obtain ⟨z, hz⟩ : ∃ z, z = bs.getD y 0 := ⟨_, rfl⟩
    have HZ := Lib.hid hz
    rw [← hz] at cy hz0
    clear hz hbq
    by_cases hzp : 0 < z
    · go_wp2_with fail
      clear cy x0 x1 xl
      go_loopw [18] (fun iv wr => ∃ k : Nat, k ≤ L ∧ iv = .int .i64 (k : Int) ∧ Hid (∀ x, x < k → via l v x y ≠ z) ∧ Hid (Below w1.heap.size w1 wr)) (fun iv _ => L - (intOf iv).toNat)
      case atStart => exact ⟨0, by omega, rfl, Lib.hid (fun x hx => absurd hx (Nat.not_lt_zero _)), Lib.hid (Below.refl _ _)⟩
      case round =>
        obtain ⟨k, hk, rfl, F, BR⟩ := hrel
        by_cases hlt : k < L
        · have BWR := Lib.hid (HBW.out.trans (BR.out.mono HBW.out.size))
          obtain ⟨ac, rfl, _, ck⟩ := (HV.out.below BWR.out) k (by rw [HVL.out]; exact hlt)
          have hki : (k : Int) < (L : Int) := by omega
          have hvk := ((HS.out.bound HF.out) k).1
          obtain ⟨vk0, hvk0⟩ : ∃ m, m = v.getD k 0 := ⟨_, rfl⟩
          have HLB1 := Lib.hid (fun (W : World) (kb : Below wr.heap.size wr W) => HLB.out k hlt vk0 (by rw [hvk0]; omega) W (HI.out.below (BWR.out.trans (kb.mono BWR.out.size))))
          have HVV := Lib.hid (show via l v k y = vk (rel l k y) vk0 by rw [hvk0]; rfl)
          rw [← hvk0] at ck
          obtain ⟨lb, hlb⟩ : ∃ m, m = vk (rel l k y) vk0 := ⟨_, rfl⟩
          rw [← hlb] at HLB1 HVV
          clear hvk hvk0 hlb
          obtain ⟨j0, j1, jl⟩ := (HJ.out.below BR.out HJ.out.lt)
          obtain ⟨x0, x1, xl⟩ := (HX.out.below BR.out HX.out.lt)
          replace x0 : wr.cell? ⟨b + 1, 0, none⟩ = some (.slice (some ab) L bc) := x0
          replace x1 : wr.cell? ⟨b + 1, 1, none⟩ = some (.slice (some ac) L cc) := x1
          obtain ⟨ab', e', _, cy⟩ := (HB1.out.below BR.out) y (by rw [HBL.out]; exact hy)
          obtain rfl : ab = ab' := by injection e'
          rw [← HZ.out] at cy
          have lty := lt_of_cell cy
          have HPS := Lib.hid (fun (X : World) (hX : Below wr.heap.size wr X) => (show X.cell? ⟨b, 0, none⟩ = some (.slice A L c) ∧ X.cell? ⟨b, 1, none⟩ = some (.int .i64 wt) ∧ X.cell? ⟨b + 1, 0, none⟩ = some (.slice (some ab) L bc) ∧ X.cell? (ab.add y) = some (.int .i64 z) from
            ⟨(hX.cell (p := ⟨b, 0, none⟩) jl).trans j0, (hX.cell (p := ⟨b, 1, none⟩) jl).trans j1, (hX.cell (p := ⟨b + 1, 0, none⟩) xl).trans x0, (hX.cell lty).trans cy⟩))
          clear j0 j1 x0 cy lty e'
          go_upto_region 5 with fail
          clear x1 ck
          obtain ⟨q0, e0⟩ : ∃ x, x = wr.drew := ⟨_, rfl⟩
          have K0 := Lib.hid (show Below wr.heap.size wr q0 from by rw [e0]; exact (Below.refl _ _).drew)
          have F0 := HPS.out q0 K0.out
          have HE0 := Lib.hid e0
          clear e0
          refine AnyT.begin_at tlN (fun X => X.cell? ⟨b, 0, none⟩ = some (.slice A L c) ∧ X.cell? ⟨b, 1, none⟩ = some (.int .i64 wt) ∧ X.cell? ⟨b + 1, 0, none⟩ = some (.slice (some ab) L bc) ∧ X.cell? (ab.add y) = some (.int .i64 z)) (by kernel_rfl) HE0.out F0 ?_
          clear F0
          intro F0
-- TAKES R5
          refine AnyT.takeD (i := 0) (d := some 23) (v := jv A L c wt) rfl rfl (by kernel_rfl) (by kernel_rfl) (by kernel_rfl) (by kernel_rfl) (fun _ _ _ h => h) (Or.inl ⟨by rfl, fun wz hz => by obtain ⟨z0, z1, z2, z3⟩ := hz; go_simp⟩) F0 ?_
          simp only [Act.put, List.setIfInBounds_toArray, List.set_cons_zero, List.set_cons_succ]
          refine AnyT.takeD (i := 1) (d := some 24) (v := .int .i64 (k : Int)) rfl rfl (by kernel_rfl) (by kernel_rfl) (by kernel_rfl) (by kernel_rfl) (fun _ _ _ h => h) (Or.inl ⟨by rfl, fun wz _ => by go_simp⟩) F0 ?_
          simp only [Act.put, List.setIfInBounds_toArray, List.set_cons_zero, List.set_cons_succ]
          refine AnyT.takeD (i := 2) (d := some 25) (v := .int .i64 vk0) rfl rfl (by kernel_rfl) (by kernel_rfl) (by kernel_rfl) (by kernel_rfl) (fun _ _ _ h => h) (Or.inl ⟨by rfl, fun wz _ => by go_simp⟩) F0 ?_
          simp only [Act.put, List.setIfInBounds_toArray, List.set_cons_zero, List.set_cons_succ]
          refine AnyT.takeD (i := 3) (d := some 26) (v := .int .i64 (y : Int)) rfl rfl (by kernel_rfl) (by kernel_rfl) (by kernel_rfl) (by kernel_rfl) (fun _ _ _ h => h) (Or.inl ⟨by rfl, fun wz _ => by go_simp⟩) F0 ?_
          simp only [Act.put, List.setIfInBounds_toArray, List.set_cons_zero, List.set_cons_succ]
          refine AnyT.takeD (i := 5) (d := some 28) (v := .pointer (some ⟨b + 1, 0, none⟩)) rfl rfl (by kernel_rfl) (by kernel_rfl) (by kernel_rfl) (by kernel_rfl) (fun _ _ _ h => h) (Or.inl ⟨by rfl, fun wz _ => by go_simp⟩) F0 ?_
          simp only [Act.put, List.setIfInBounds_toArray, List.set_cons_zero, List.set_cons_succ]
          refine AnyT.takeD (i := 6) (d := some 29) (v := .slice (some ab) L bc) rfl rfl (by kernel_rfl) (by kernel_rfl) (by kernel_rfl) (by kernel_rfl) (fun _ _ _ h => h) (Or.inl ⟨by rfl, fun wz hz => by obtain ⟨z0, z1, z2, z3⟩ := hz; go_simp⟩) F0 ?_
          simp only [Act.put, List.setIfInBounds_toArray, List.set_cons_zero, List.set_cons_succ]
          refine AnyT.takeD (i := 7) (d := some 30) (v := .int .i64 (y : Int)) rfl rfl (by kernel_rfl) (by kernel_rfl) (by kernel_rfl) (by kernel_rfl) (fun _ _ _ h => h) (Or.inl ⟨by rfl, fun wz _ => by go_simp⟩) F0 ?_
          simp only [Act.put, List.setIfInBounds_toArray, List.set_cons_zero, List.set_cons_succ]
          refine AnyT.takeD (i := 8) (d := some 31) (v := .pointer (some (ab.add y))) rfl rfl (by kernel_rfl) (by kernel_rfl) (by kernel_rfl) (by kernel_rfl) (fun _ _ _ h => h) (Or.inl ⟨by rfl, fun wz _ => by go_simp⟩) F0 ?_
          simp only [Act.put, List.setIfInBounds_toArray, List.set_cons_zero, List.set_cons_succ]
          refine AnyT.takeD (i := 9) (d := some 32) (v := .int .i64 z) rfl rfl (by kernel_rfl) (by kernel_rfl) (by kernel_rfl) (by kernel_rfl) (fun _ _ _ h => h) (Or.inl ⟨by rfl, fun wz hz => by obtain ⟨z0, z1, z2, z3⟩ := hz; go_simp⟩) F0 ?_
          simp only [Act.put, List.setIfInBounds_toArray, List.set_cons_zero, List.set_cons_succ]
          -- TAKEN R5
          refine AnyT.branch (rs := [4]) (by kernel_rfl) (by simp) ?_
          refine all_cons (?_) all_nil
          refine AnyT.enter (i := 4) (d := some 27) (f := 69) (args := #[jv A L c wt, .int .i64 (k : Int), .int .i64 vk0, .int .i64 (y : Int)]) rfl rfl rfl (by go_simp) (HLB1.out q0 K0.out) ?_
          rintro e q1 ⟨rfl, hB1⟩
          have K1 := Lib.hid (K0.out.trans (hB1.mono K0.out.size))
          have F1 := HPS.out q1 K1.out
          refine ⟨_, rfl, fun _ => F1, ?_⟩
          clear hB1 F0
          simp only [Act.put, List.setIfInBounds_toArray, List.set_cons_zero, List.set_cons_succ]
          refine AnyT.takeD (i := 10) (d := some 33) (v := .bool (lb == z)) rfl rfl (by kernel_rfl) (by kernel_rfl) (by kernel_rfl) (by kernel_rfl) (fun _ _ _ h => h) (Or.inl ⟨by rfl, fun wz _ => by go_simp⟩) F1 ?_
          simp only [Act.put, List.setIfInBounds_toArray, List.set_cons_zero, List.set_cons_succ]
          refine AnyT.done_ (by kernel_rfl) ?_ _
          have BR1 := Lib.hid (BR.out.trans (K1.out.mono BR.out.size))
          clear F1 HPS HE0 K0 K1 HLB1
          by_cases e : lb = z
          · subst e
            have hb : (lb == lb) = true := by simp
            have hbx : blk l k < n := by
              have gr : rel l k y ≠ 0 := fun gr => by have := HVV.out; rw [via_zero gr] at this; omega
              have h1 := (rel_pos gr).2
              have h2 := HBN.out
              omega
            have HST := Lib.hid (fun ch hc => IsBackB.step (l := l) (v := v) (bs := bs) y k ch (by rw [← HZ.out]; exact hzp) (by rw [← HL.out]; exact hlt) (by rw [← HZ.out]; exact HVV.out) (fun x hx => by rw [← HZ.out]; exact F.out x hx) hc)
            have BW := Lib.hid (HBW.out.trans (BR1.out.mono HBW.out.size))
            have HC := Lib.hid (HIH.out k hlt hbx q1 (HI.out.below BW.out) (HB.out.below BW.out) (HV.out.below BW.out))
            obtain ⟨j0, j1, jl⟩ := (HJ.out.below BR1.out HJ.out.lt)
            obtain ⟨x0, x1, xl⟩ := (HX.out.below BR1.out HX.out.lt)
            replace x0 : q1.cell? ⟨b + 1, 0, none⟩ = some (.slice (some ab) L bc) := x0
            replace x1 : q1.cell? ⟨b + 1, 1, none⟩ = some (.slice (some ac) L cc) := x1
            rw [hb]
            clear BR BWR
            go_wp2_with fail
            refine HC.out.mono ?_
            rintro e w3 ⟨u, ch, rfl, hch, O, B3⟩
            have HCH := Lib.hid (HST.out ch hch)
            have hcl := hch.len HF.out.blk (by rw [← HL.out]; exact hlt)
            have h31 := (HF.out.blk k (by rw [← HL.out]; exact hlt)).2
            have HLN := Lib.hid (show (toZ ch).length + 1 ≤ 1000000000 by rw [toZ_len]; omega)
            have O3 := Lib.hid (O.base BW.out.size)
            have B4 := Lib.hid (BW.out.trans (B3.mono BW.out.size))
            clear hcl h31 O B3 HC HST hch BW j0 j1 jl x0 x1 xl
            go_wp2_with (first | (at_builtin; refine wpList_appI _ rfl (.tmp 37) (.tmp 39) rfl w.heap.size _ (toZ ch) rfl (O3.out.alloc _) (y : Int) w3 rfl _ rfl 1 rfl HLN.out (le_allocW (w := w3) B4.out.size) ?_; intro v5 w5 A5))
            go_ret
            exact ⟨v5, ch ++ [y], rfl, HCH.out, by rw [toZ_app]; exact A5.1, A5.below B4.out B4.out.size O3.out⟩
          · have hb : (lb == z) = false := by simpa using e
            have HE := Lib.hid e
            rw [hb]
            clear e
            go_wp2_with fail
            go_roundw
            case rel => exact ⟨k + 1, by omega, by go_num, Lib.hid (fun x hx => by
              rcases Nat.lt_or_ge x k with g | g
              · exact F.out x g
              · have : x = k := by omega
                subst this; rw [HVV.out]; exact HE.out), BR1⟩
            case measure => simp [intOf]; omega
        · exfalso
          have hkL : k = L := by omega
          rcases (HS.out.base y (by rw [← HL.out]; exact hy)).hit with e | ⟨x, hx, e⟩
          · have := HZ.out; omega
          · exact F.out x (by rw [hkL, HL.out]; exact hx) (by rw [HZ.out]; exact e)
    · have hz1 : ¬ (0 : Int) < z := hzp
      have OO := Lib.hid (Own.laid (k := .i64) (T := 3) w1 w.heap.size HBW.out.size (toZ [y]) 1 rfl (by omega))
      have B4 := Lib.hid (HBW.out.alloc HBW.out.size (.cells #[.int .i64 (y : Int)] 3))
      go_wp2_with fail
      go_ret
      exact ⟨_, [y], rfl, .one y (by rw [← HZ.out]; omega), OO.out, B4.out⟩
end Go.Proofs.Ytlagadbkencpbaa

namespace Go.Proofs.Ytlagadbkencpbaa
open Go.RowKit Go.Lib

/-- The number of steps of the codes v. -/
def StepsOf (v : List Int) (st : Int) : Prop := (v = [] ∧ st = 0) ∨ ∃ M, TopV v v.length M ∧ st = (ln M.toNat : Int)
theorem TopV.ex (v : List Int) : ∀ k, 0 < k → ∃ M, TopV v k M := by
  intro k
  induction k with
  | zero => intro h; omega
  | succ k ih =>
    intro _
    rcases Nat.eq_zero_or_pos k with h0 | h0
    · subst h0
      exact ⟨v.getD 0 0, fun x hx => by obtain rfl : x = 0 := by omega
                                        exact Int.le_refl _, 0, by omega, rfl⟩
    · obtain ⟨M, h1, y, hy, h2⟩ := ih h0
      by_cases g : M ≤ v.getD k 0
      · refine ⟨v.getD k 0, fun x hx => ?_, k, by omega, rfl⟩
        rcases Nat.lt_or_ge x k with h3 | h3
        · have := h1 x h3; omega
        · obtain rfl : x = k := by omega
          exact Int.le_refl _
      · refine ⟨M, fun x hx => ?_, y, by omega, h2⟩
        rcases Nat.lt_or_ge x k with h3 | h3
        · exact h1 x h3
        · obtain rfl : x = k := by omega
          omega
theorem TopV.uniq {v : List Int} {k : Nat} {M N : Int} (h : TopV v k M) (g : TopV v k N) : M = N := by
  obtain ⟨x, hx, ex⟩ := h.hit
  obtain ⟨y, hy, ey⟩ := g.hit
  have := h.le y hy
  have := g.le x hx
  omega
theorem TopV.top {v : List Int} {M : Int} (h : TopV v v.length M) : ∃ y, IsTop v y := by
  obtain ⟨x, hx, e⟩ := h.hit
  obtain ⟨y, hy, hm⟩ : ∃ y, v.getD y 0 = M ∧ ∀ z, z < y → v.getD z 0 ≠ M := by
    have : ∀ k x, x < k → v.getD x 0 = M → ∃ y, v.getD y 0 = M ∧ ∀ z, z < y → v.getD z 0 ≠ M := by
      intro k
      induction k with
      | zero => intro x hx; omega
      | succ k ih =>
        intro x hx e
        by_cases c : ∃ z, z < x ∧ v.getD z 0 = M
        · obtain ⟨z, h1, h2⟩ := c
          exact ih z (by omega) h2
        · exact ⟨x, e, fun z h1 h2 => c ⟨z, h1, h2⟩⟩
    exact this (x + 1) x (by omega) e
  have hyx : y ≤ x := by
    rcases Nat.lt_or_ge x y with g | g
    · exact absurd e (hm x g)
    · exact g
  refine ⟨y, by omega, fun z hz => by rw [hy]; exact h.le z hz, fun z hz => ?_⟩
  have h1 := h.le z (by omega)
  have h2 := hm z hz
  rw [hy]; omega
theorem StepsOf.uniq {v : List Int} {a b : Int} (h : StepsOf v a) (k : StepsOf v b) : a = b := by
  rcases h with ⟨e, rfl⟩ | ⟨M, hM, rfl⟩
  · rcases k with ⟨_, rfl⟩ | ⟨N, hN, rfl⟩
    · rfl
    · obtain ⟨x, hx, _⟩ := hN.hit
      rw [e] at hx; cases hx
  · rcases k with ⟨e, rfl⟩ | ⟨N, hN, rfl⟩
    · obtain ⟨x, hx, _⟩ := hM.hit
      rw [e] at hx; cases hx
    · rw [hM.uniq hN]
/-- What Least answers: steps, codes, error. -/
def LeastR (l : List It) (wt st : Int) (v : List Int) (er : Int) : Prop :=
  (validR l wt ≠ 0 ∧ er = validR l wt ∧ v = [] ∧ st = 0) ∨ (validR l wt = 0 ∧ er = 15 ∧ v = [] ∧ st = 0 ∧ ∀ bs' v', ¬ Sol l wt bs' v') ∨ (validR l wt = 0 ∧ er = 0 ∧ (∃ bs, Sol l wt bs v) ∧ StepsOf v st)
theorem LeastR.uniq {l : List It} {wt st st' er er' : Int} {v v' : List Int} (h : LeastR l wt st v er) (k : LeastR l wt st' v' er') : st = st' ∧ v = v' ∧ er = er' := by
  rcases h with ⟨h0, rfl, rfl, rfl⟩ | ⟨h0, rfl, rfl, rfl, h1⟩ | ⟨h0, rfl, ⟨bs, h1⟩, h2⟩
  · rcases k with ⟨k0, rfl, rfl, rfl⟩ | ⟨k0, rfl, rfl, rfl, k1⟩ | ⟨k0, rfl, ⟨bs', k1⟩, k2⟩
    · exact ⟨rfl, rfl, rfl⟩
    · exact absurd k0 h0
    · exact absurd k0 h0
  · rcases k with ⟨k0, rfl, rfl, rfl⟩ | ⟨k0, rfl, rfl, rfl, k1⟩ | ⟨k0, rfl, ⟨bs', k1⟩, k2⟩
    · exact absurd h0 k0
    · exact ⟨rfl, rfl, rfl⟩
    · exact absurd k1 (h1 _ _)
  · rcases k with ⟨k0, rfl, rfl, rfl⟩ | ⟨k0, rfl, rfl, rfl, k1⟩ | ⟨k0, rfl, ⟨bs', k1⟩, k2⟩
    · exact absurd h0 k0
    · exact absurd h1 (k1 _ _)
    · obtain ⟨rfl, rfl⟩ := h1.uniq (valid_ok h0).2.2 k1
      exact ⟨h2.uniq k2, rfl, rfl⟩
/-- A plan's value. -/
abbrev pv (st : Int) (A : Option Addr) (n c : Nat) : Value := .agg #[.int .i64 st, .slice A n c]
def LeastPost (l : List It) (wt : Int) (w : World) (e : Ending) (w' : World) : Prop :=
  ∃ st A n c er v, e = .returned (.tuple #[pv st A n c, .int .i64 er]) ∧ Own .i64 3 w' w.heap.size (.slice A n c) v ∧ Below w.heap.size w w' ∧ LeastR l wt st v er
theorem results_plan {fn : Func} (hf : fn.results = #[.cell 2 24, .tmp 3]) (tmps : Array Value) (w : World) (b : Nat) (st er : Int) (A : Option Addr) (n c : Nat) (h2 : tmps.getD 2 undef = .pointer (some ⟨b, 0, none⟩)) (h3 : tmps.getD 3 undef = .int .i64 er) (c0 : w.cell? ⟨b, 0, none⟩ = some (.int .i64 st)) (c1 : w.cell? ⟨b, 1, none⟩ = some (.slice A n c)) :
    (results fn tmps).run Try.prog w = .ok (.tuple #[pv st A n c, .int .i64 er]) w := by
  have h2' : tmps[2]?.getD undef = .pointer (some ⟨b, 0, none⟩) := by simpa using h2
  have h3' : tmps[3]?.getD undef = .int .i64 er := by simpa using h3
  simp [results, hf, go_sem, h2', h3', c0, c1, asAddr]
/-- The box of a plan. -/
structure PBox (w : World) (b : Nat) (st : Int) (A : Option Addr) (n c : Nat) : Prop where
  c0 : w.cell? ⟨b, 0, none⟩ = some (.int .i64 st)
  c1 : w.cell? ⟨b, 1, none⟩ = some (.slice A n c)
  f : ∀ j, w.frozen? ⟨b, j, none⟩ = false
  lt : b < w.heap.size
theorem PBox.below {w w' : World} {b n c B : Nat} {st : Int} {A : Option Addr} (h : PBox w b st A n c) (k : Below B w w') (hb : b < B) : PBox w' b st A n c :=
  ⟨(k.cell (p := ⟨b, 0, none⟩) hb).trans h.c0, (k.cell (p := ⟨b, 1, none⟩) hb).trans h.c1, fun j => (k.frozen (p := ⟨b, j, none⟩) hb).trans (h.f j), Nat.lt_of_lt_of_le h.lt k.size⟩
theorem PBox.new {w : World} {st : Int} {A : Option Addr} {n c : Nat} (b : Nat) (hb : b = w.heap.size) : PBox (w.alloc (.cells #[.int .i64 st, .slice A n c] 24)) b st A n c := by
  subst hb; exact ⟨by rw [cell_new]; rfl, by rw [cell_new]; rfl, fun j => frozen_new _ _ _ _ _ rfl, by simp⟩
theorem PBox.put {w : World} {b n c n' c' : Nat} {st st' : Int} {A A' : Option Addr} (h : PBox w b st A n c) : PBox ((w.setCell ⟨b, 0, none⟩ (.int .i64 st')).setCell ⟨b, 1, none⟩ (.slice A' n' c')) b st' A' n' c' := by
  have g : (w.setCell ⟨b, 0, none⟩ (.int .i64 st')).cell? ⟨b, 1, none⟩ = some (.slice A n c) := by rw [World.cell?_setCell_other _ _ _ _ (by simp)]; exact h.c1
  refine ⟨?_, World.cell?_setCell_same _ _ _ g, fun j => by rw [World.frozen?_setCell, World.frozen?_setCell]; exact h.f j, by rw [World.size_setCell, World.size_setCell]; exact h.lt⟩
  rw [World.cell?_setCell_other _ _ _ _ (by simp)]; exact World.cell?_setCell_same _ _ _ h.c0
theorem Own.setN {k : IntKind} {e : TypeId} {W : World} {base : Nat} {v : Value} {zs : List Int} (h : Own k e W base v zs) {p : Addr} (hp : ∀ g, v.ownBlock = some g → g ≠ p.block) (u : Value) : Own k e (W.setCell p u) base v zs := by
  refine h.kept (row := some p.block) ⟨rfl, rfl, rfl, by rw [World.size_setCell]; exact Nat.le_refl _, fun k hk hn => Below.heap_setCell _ _ _ _ (fun e => hn (by first | exact congrArg some e | exact congrArg some e.symm))⟩ (Or.inr ?_)
  intro e
  exact hp _ e rfl
set_option maxRecDepth 100000 in
set_option maxHeartbeats 3200000 in
theorem least_any (l : List It) (A : Option Addr) (c L : Nat) (wt : Int) (hL : L = l.length) (w : World) (h : IRow w A l) :
    Calls Try.prog 27 #[jv A L c wt] w (LeastPost l wt w) := by
  have H := Lib.hid h
  have HL := Lib.hid hL
  have HSV := Lib.hid (fun (W : World) (k : IRow W A l) => solve_any l A c L wt hL W k)
  have s1 : (w.alloc (.cells #[.slice A L c, .int .i64 wt] 39)).heap.size = w.heap.size + 1 := by simp
  have J0 := JBox.new (w := w) (A := A) (n := L) (c := c) (wt := wt) w.heap.size rfl
  have B0 := (Below.refl w.heap.size w).alloc (Nat.le_refl _) (.cells #[.slice A L c, .int .i64 wt] 39)
  have X0 := PBox.new (w := w.alloc (.cells #[.slice A L c, .int .i64 wt] 39)) (st := 0) (A := none) (n := 0) (c := 0) _ rfl
  have b1 := (Below.refl _ (w.alloc (.cells #[.slice A L c, .int .i64 wt] 39))).alloc (Nat.le_refl _) (.cells #[.int .i64 0, .slice none 0 0] 24)
  have HJ := Lib.hid (J0.below b1 J0.lt)
  have HBW := Lib.hid (B0.trans (b1.mono B0.size))
  rw [s1] at X0
  have HX := Lib.hid X0
  obtain ⟨b, hbq⟩ : ∃ b, b = w.heap.size := ⟨_, rfl⟩
  have HBQ := Lib.hid hbq
  clear h hL s1 J0 B0 X0 b1
  go_enter Try.func27, Try.ntmps27
  go_upto_region 1 with fail
  rw [← hbq] at HJ HX ⊢
  generalize (w.alloc (.cells #[.slice A L c, .int .i64 wt] 39)).alloc (.cells #[.int .i64 0, .slice none 0 0] 24) = w1 at *
  clear hbq
  obtain ⟨j0, j1, jl⟩ := HJ.out
  go_wp2_with fail
  refine (HSV.out w1 (H.out.below HBW.out)).mono ?_
  rintro e w2 ⟨d, er, bs, v, rfl, OB, OV, B2, hr⟩
  have HX2 := Lib.hid (HX.out.below B2 HX.out.lt)
  have HB2 := Lib.hid (HBW.out.trans (B2.mono HBW.out.size))
  have HOV := Lib.hid OV
  have HR := Lib.hid hr
  have hbl : b + 1 < w1.heap.size := HX.out.lt
  have hbl2 : b + 1 < w2.heap.size := HX2.out.lt
  clear j0 j1 jl HX HJ OB B2 hr
  obtain ⟨⟨dA, dn, dc⟩, ⟨vA, vn, vc⟩⟩ := d
  obtain ⟨vA', vc', ev, VR, -, hvm, -⟩ := OV.slice
  have hvn : vn = v.length := by injection ev
  have hVA : vA = vA' := by injection ev
  subst hVA
  have HVM := Lib.hid hvm
  have HVR := Lib.hid VR
  have HVN := Lib.hid hvn
  clear OV ev VR vc' hvm hvn
  have hfin : ∀ (st er' : Int) (A' : Option Addr) (n' c' : Nat) (v' : List Int) (W : World), Below w2.heap.size w2 W → Own .i64 3 W w.heap.size (.slice A' n' c') v' → (∀ g, (Value.slice A' n' c').ownBlock = some g → g ≠ b + 1) → LeastR l wt st v' er' →
      LeastPost l wt w (.returned (.tuple #[pv st A' n' c', .int .i64 er'])) ((W.setCell ⟨b + 1, 0, none⟩ (.int .i64 st)).setCell ⟨b + 1, 1, none⟩ (.slice A' n' c')) := fun st er' A' n' c' v' W k o hg r => by
    refine ⟨st, A', n', c', er', v', rfl, (o.setN (p := ⟨b + 1, 0, none⟩) hg _).setN (p := ⟨b + 1, 1, none⟩) hg _, ?_, r⟩
    have := HB2.out.trans (k.mono HB2.out.size)
    exact (this.setCell (p := ⟨b + 1, 0, none⟩) (by have := HBQ.out; show _ ≤ b + 1; omega) _).setCell (p := ⟨b + 1, 1, none⟩) (by have := HBQ.out; show _ ≤ b + 1; omega) _
  have HFIN := Lib.hid hfin
  have BX := Lib.hid ((Below.refl w2.heap.size w2).alloc (Nat.le_refl _) (.cells #[.slice dA dn dc, .slice vA vn vc] 95))
  have SX := Lib.hid (SBox.new (w := w2) (d := ((dA, dn, dc), (vA, vn, vc))) w2.heap.size rfl)
  have PX := Lib.hid (HX2.out.below BX.out HX2.out.lt)
  clear hfin
  go_upto_region 2 with fail
  obtain ⟨g5, hg5⟩ : ∃ g, g = w2.heap.size := ⟨_, rfl⟩
  have HG5 := Lib.hid hg5
  rw [← hg5] at SX hbl2 ⊢
  generalize w2.alloc (.cells #[.slice dA dn dc, .slice vA vn vc] 95) = w3 at *
  clear hg5
  obtain ⟨p0, p1, pf, pl⟩ := PX.out
  have pf0 := pf 0
  have pf1 := pf 1
  have x0 : w3.cell? ⟨g5, 0, none⟩ = some (.slice dA dn dc) := SX.out.c0
  have x1 : w3.cell? ⟨g5, 1, none⟩ = some (.slice vA vn vc) := SX.out.c1
  have PP0 := Lib.hid (fun (st : Int) (A' : Option Addr) (n' c' : Nat) => PX.out.put (st' := st) (A' := A') (n' := n') (c' := c'))
  clear pf
  by_cases he : er = 0
  · subst he
    have hsol : validR l wt = 0 ∧ Sol l wt bs v := by
      rcases HR.out with ⟨h1, h2, _⟩ | ⟨_, h2, _⟩ | ⟨h1, _, h3⟩
      · exact absurd h2.symm h1
      · omega
      · exact ⟨h1, h3⟩
    have HSOL := Lib.hid hsol
    clear hsol
    by_cases hz : vn = 0
    · subst hz
      have hv0 : v = [] := List.length_eq_zero_iff.1 HVN.out.symm
      have RR := Lib.hid (show LeastR l wt 0 [] 0 from Or.inr (Or.inr ⟨HSOL.out.1, rfl, ⟨bs, by rw [← hv0]; exact HSOL.out.2⟩, Or.inl ⟨rfl, rfl⟩⟩))
      clear hv0
      go_wp2_with fail
      refine bodyPost_ret (results_plan rfl _ _ (b + 1) 0 0 none 0 0 rfl rfl (PP0.out _ _ _ _).c0 (PP0.out _ _ _ _).c1) rfl ?_
      exact HFIN.out 0 0 none 0 0 [] _ BX.out Own.nil (fun g h => (by cases h)) RR.out
    · have hvp : 0 < v.length := by have := HVN.out; omega
      have hn0 : ((vn : Int) == 0) = false := by simp; omega
      have hn1 : ¬ ((vn : Int) = 0) := by omega
      have HMX := Lib.hid (fun W k => max_any v vA vc W k HVM.out hvp)
      rw [← HVN.out] at HMX
      have HV3 := Lib.hid (HVR.out.below BX.out)
      clear hz hvp
      go_wp2_with fail
      refine (HMX.out _ HV3.out).mono ?_
      rintro e w4 ⟨M, rfl, hT, hw4⟩
      subst hw4
      have hb := HSOL.out.2.bound (formOk_of HSOL.out.1)
      obtain ⟨x, hx, hxM⟩ := hT.hit
      have hMb := (hb x).1
      rw [hxM] at hMb
      have HT := Lib.hid hT
      clear hT hb hx hxM
      obtain ⟨K, rfl⟩ := Int.eq_ofNat_of_zero_le hMb.1
      have hK : K < 4096 := by omega
      have HST := Lib.hid (stepsZ_nat hK)
      go_wp2_with fail
      refine (steps_any _ _).mono ?_
      rintro e w5 ⟨rfl, hw5⟩
      subst hw5
      rw [HST.out]
      have RR := Lib.hid (show LeastR l wt (ln K : Int) v 0 from Or.inr (Or.inr ⟨HSOL.out.1, rfl, ⟨bs, HSOL.out.2⟩, Or.inr ⟨(K : Int), by rw [← HVN.out] at *; exact HT.out, rfl⟩⟩))
      go_wp2_with fail
      refine bodyPost_ret (results_plan rfl _ _ (b + 1) (ln K : Int) 0 vA vn vc rfl rfl (PP0.out _ _ _ _).c0 (PP0.out _ _ _ _).c1) rfl ?_
      refine HFIN.out (ln K : Int) 0 vA vn vc v _ BX.out ((HOV.out.base HBW.out.size).below BX.out) (fun g h => ?_) RR.out
      have := (own_block HOV.out h).1
      omega
  · have hne : (er != 0) = true := bne_iff_ne.2 he
    have RR := Lib.hid (show LeastR l wt 0 [] er from by
      rcases HR.out with ⟨h1, h2, _, _⟩ | ⟨h1, h2, _, _, h5⟩ | ⟨_, h2, _⟩
      · exact Or.inl ⟨h1, h2, rfl, rfl⟩
      · exact Or.inr (Or.inl ⟨h1, h2, rfl, rfl, h5⟩)
      · exact absurd h2 he)
    clear he
    go_wp2_with fail
    refine bodyPost_ret (results_plan rfl _ _ (b + 1) 0 er none 0 0 rfl rfl (PP0.out _ _ _ _).c0 (PP0.out _ _ _ _).c1) rfl ?_
    exact HFIN.out 0 er none 0 0 [] _ BX.out Own.nil (fun g h => (by cases h)) RR.out
/-- What Witness answers. -/
def WitR (l : List It) (wt : Int) (zs : List Int) (er : Int) : Prop :=
  (validR l wt ≠ 0 ∧ er = validR l wt ∧ zs = []) ∨ (validR l wt = 0 ∧ er = 15 ∧ zs = [] ∧ ∀ bs' v', ¬ Sol l wt bs' v') ∨ (validR l wt = 0 ∧ er = 0 ∧ ∃ bs v, Sol l wt bs v ∧ ((l.length = 0 ∧ zs = []) ∨ ∃ y c, IsTop v y ∧ IsBackB l v bs y c ∧ zs = toZ c))
theorem WitR.uniq {l : List It} {wt er er' : Int} {v v' : List Int} (h : WitR l wt v er) (k : WitR l wt v' er') : v = v' ∧ er = er' := by
  rcases h with ⟨h0, rfl, rfl⟩ | ⟨h0, rfl, rfl, h1⟩ | ⟨h0, rfl, bs, vs, h1, h2⟩
  · rcases k with ⟨k0, rfl, rfl⟩ | ⟨k0, rfl, rfl, k1⟩ | ⟨k0, rfl, bs', vs', k1, k2⟩
    · exact ⟨rfl, rfl⟩
    · exact absurd k0 h0
    · exact absurd k0 h0
  · rcases k with ⟨k0, rfl, rfl⟩ | ⟨k0, rfl, rfl, k1⟩ | ⟨k0, rfl, bs', vs', k1, k2⟩
    · exact absurd h0 k0
    · exact ⟨rfl, rfl⟩
    · exact absurd k1 (h1 _ _)
  · rcases k with ⟨k0, rfl, rfl⟩ | ⟨k0, rfl, rfl, k1⟩ | ⟨k0, rfl, bs', vs', k1, k2⟩
    · exact absurd h0 k0
    · exact absurd h1 (k1 _ _)
    · obtain ⟨rfl, rfl⟩ := h1.uniq (valid_ok h0).2.2 k1
      refine ⟨?_, rfl⟩
      rcases h2 with ⟨h2, rfl⟩ | ⟨y, c, h2, h3, rfl⟩
      · rcases k2 with ⟨_, rfl⟩ | ⟨y', c', k2, _, _⟩
        · rfl
        · have := k2.lt; rw [h1.vlen, h2] at this; cases this
      · rcases k2 with ⟨k2, rfl⟩ | ⟨y', c', k2, k3, rfl⟩
        · have := h2.lt; rw [h1.vlen, k2] at this; cases this
        · obtain rfl := h2.uniq k2
          rw [h3.uniq k3]
def WitPost (l : List It) (wt : Int) (w : World) (e : Ending) (w' : World) : Prop :=
  ∃ u er zs, e = .returned (.tuple #[u, .int .i64 er]) ∧ Own .i64 3 w' w.heap.size u zs ∧ Below w.heap.size w w' ∧ WitR l wt zs er
set_option maxRecDepth 100000 in
set_option maxHeartbeats 3200000 in
theorem witness_any (l : List It) (A : Option Addr) (c L : Nat) (wt : Int) (hL : L = l.length) (w : World) (h : IRow w A l) :
    Calls Try.prog 37 #[jv A L c wt] w (WitPost l wt w) := by
  have H := Lib.hid h
  have HL := Lib.hid hL
  have HSV := Lib.hid (fun (W : World) (k : IRow W A l) => solve_any l A c L wt hL W k)
  have HBW := Lib.hid ((Below.refl w.heap.size w).alloc (Nat.le_refl _) (.cells #[.slice A L c, .int .i64 wt] 39))
  have HJ := Lib.hid (JBox.new (w := w) (A := A) (n := L) (c := c) (wt := wt) w.heap.size rfl)
  obtain ⟨b, hbq⟩ : ∃ b, b = w.heap.size := ⟨_, rfl⟩
  clear h hL
  go_enter Try.func37, Try.ntmps37
  go_upto_region 1 with fail
  rw [← hbq] at HJ ⊢
  generalize w.alloc (.cells #[.slice A L c, .int .i64 wt] 39) = w1 at *
  clear hbq
  obtain ⟨j0, j1, jl⟩ := HJ.out
  go_wp2_with fail
  refine (HSV.out w1 (H.out.below HBW.out)).mono ?_
  rintro e w2 ⟨d, er, bs, v, rfl, OB, OV, B2, hr⟩
  have HJ2 := Lib.hid (HJ.out.below B2 jl)
  have HB2 := Lib.hid (HBW.out.trans (B2.mono HBW.out.size))
  have HR := Lib.hid hr
  clear j0 j1 jl HJ B2 hr
  obtain ⟨⟨dA, dn, dc⟩, ⟨vA, vn, vc⟩⟩ := d
  obtain ⟨vA', vc', ev, VR, -, hvm, -⟩ := OV.slice
  have hvn : vn = v.length := by injection ev
  have hVA : vA = vA' := by injection ev
  subst hVA
  obtain ⟨dA', dc', ed, DR, -, -, -⟩ := OB.slice
  have hdn : dn = bs.length := by injection ed
  have hDA : dA = dA' := by injection ed
  subst hDA
  have HVM := Lib.hid hvm
  have BX := Lib.hid ((Below.refl w2.heap.size w2).alloc (Nat.le_refl _) (.cells #[.slice dA dn dc, .slice vA vn vc] 95))
  have SX := Lib.hid (SBox.new (w := w2) (d := ((dA, dn, dc), (vA, vn, vc))) w2.heap.size rfl)
  have HV3 := Lib.hid (VR.below BX.out)
  have HD3 := Lib.hid (DR.below BX.out)
  have HJ3 := Lib.hid (HJ2.out.below BX.out HJ2.out.lt)
  have HB3 := Lib.hid (HB2.out.trans (BX.out.mono HB2.out.size))
  have HDN := Lib.hid hdn
  have HVN := Lib.hid hvn
  clear OV ev VR vc' OB ed DR dc' hdn hvm hvn
  go_upto_region 2 with fail
  obtain ⟨g5, hg5⟩ : ∃ g, g = w2.heap.size := ⟨_, rfl⟩
  rw [← hg5] at SX ⊢
  generalize w2.alloc (.cells #[.slice dA dn dc, .slice vA vn vc] 95) = w3 at *
  clear hg5
  have x0 : w3.cell? ⟨g5, 0, none⟩ = some (.slice dA dn dc) := SX.out.c0
  have x1 : w3.cell? ⟨g5, 1, none⟩ = some (.slice vA vn vc) := SX.out.c1
  by_cases he : er = 0
  · subst he
    have hsol : validR l wt = 0 ∧ Sol l wt bs v := by
      rcases HR.out with ⟨h1, h2, _⟩ | ⟨_, h2, _⟩ | ⟨h1, _, h3⟩
      · exact absurd h2.symm h1
      · omega
      · exact ⟨h1, h3⟩
    have HSOL := Lib.hid hsol
    clear hsol
    by_cases hz : vn = 0
    · subst hz
      have hv0 : v = [] := List.length_eq_zero_iff.1 HVN.out.symm
      have RR := Lib.hid (show WitR l wt [] 0 from Or.inr (Or.inr ⟨HSOL.out.1, rfl, bs, v, HSOL.out.2, Or.inl ⟨by rw [← HSOL.out.2.vlen, hv0]; rfl, rfl⟩⟩))
      clear hv0
      go_wp2_with fail
      go_ret2
      exact ⟨_, 0, [], rfl, Own.nil, HB3.out, RR.out⟩
    · have hvp : 0 < v.length := by have := HVN.out; omega
      have hvnp : 0 < vn := by omega
      have hn0 : ((vn : Int) == 0) = false := by simp; omega
      have hn1 : ¬ ((vn : Int) = 0) := by omega
      have hmx := fun W k => max_any v vA vc W k HVM.out hvp
      have hix := fun M ht W k => indexOf_any v vA vc M W k HVM.out ht
      rw [← HVN.out] at hmx hix
      have HMX := Lib.hid hmx
      have HIX := Lib.hid hix
      have HQ := Lib.hid (fun (W : World) (q : Nat) (e : W = w3.drewN q) => (HV3.out.drewN q))
      clear hz hvp hmx hix
      obtain ⟨M, hTM⟩ : ∃ M, TopV v vn M := TopV.ex v _ (by omega)
      obtain ⟨y, hyT, hyM⟩ : ∃ y, IsTop v y ∧ ∀ e W' (W : World), (∃ y' : Nat, e = Ending.returned (.int .i64 (y' : Int)) ∧ IsTop v y' ∧ v.getD y' 0 = M ∧ W' = W) → e = .returned (.int .i64 (y : Int)) ∧ W' = W := by
        obtain ⟨y0, hy0⟩ := TopV.top (v := v) (M := M) (by rw [← HVN.out]; exact hTM)
        exact ⟨y0, hy0, fun e W' W ⟨y', h1, h2, h3, h4⟩ => ⟨by rw [h1, h2.uniq hy0], h4⟩⟩
      have HC1 := Lib.hid (fun q : Nat => (HMX.out (w3.drewN q) (HV3.out.drewN q)).mono (R' := fun e w' => e = .returned (.int .i64 M) ∧ w' = w3.drewN q) (by
        rintro e w' ⟨M', h1, h2, h3⟩
        exact ⟨by rw [h1, h2.uniq hTM], h3⟩))
      have HC2 := Lib.hid (fun q : Nat => (HIX.out M hTM (w3.drewN q) (HV3.out.drewN q)).mono (R' := fun e w' => e = .returned (.int .i64 (y : Int)) ∧ w' = w3.drewN q) (fun e w' h => hyM e w' _ h))
      have hyl : y < l.length := by have := hyT.lt; rw [HSOL.out.2.vlen] at this; exact this
      have HYT := Lib.hid hyT
      have hdL : dn = L := by rw [HDN.out, HSOL.out.2.blen, HL.out]
      have hvL : vn = L := by rw [HVN.out, HSOL.out.2.vlen, HL.out]
      have hb31 := ((valid_ok HSOL.out.1).2.2 y hyl).2
      have HCH := Lib.hid (fun q : Nat => ychain_any l A dA vA c dc vc L wt bs v HL.out HSOL.out.1 HSOL.out.2 32 y (by rw [HL.out]; exact hyl) (by omega) (w3.drewN q) ((H.out.below HB3.out).drewN q) (HD3.out.drewN q) (HV3.out.drewN q))
      have HB4 := Lib.hid (fun q : Nat => (bdn HB3.out : Below w.heap.size w (w3.drewN q)))
      obtain ⟨j0, j1, jl⟩ := HJ3.out
      clear hTM hyT hyM HMX HIX hb31
      go_upto_region 4 with fail
      obtain ⟨q0, e0⟩ : ∃ x, x = w3.drewN 1 := ⟨_, rfl⟩
      have F0 : q0.cell? ⟨g5, 1, none⟩ = some (.slice vA vn vc) := by rw [e0]; exact x1
      have C1 := HC1.out 1
      have C2 := HC2.out 1
      have CC := HCH.out 1
      have B1 := HB4.out 1
      rw [← e0] at C1 C2 CC B1
      have jq0 : q0.cell? ⟨b, 0, none⟩ = some (.slice A L c) := by rw [e0]; exact j0
      have jq1 : q0.cell? ⟨b, 1, none⟩ = some (.int .i64 wt) := by rw [e0]; exact j1
      have xq0 : q0.cell? ⟨g5, 0, none⟩ = some (.slice dA dn dc) := by rw [e0]; exact x0
      have HJQ := Lib.hid (And.intro jq0 (And.intro jq1 (And.intro xq0 F0)))
      have HC1 := Lib.hid C1
      have HC2 := Lib.hid C2
      have HCH := Lib.hid CC
      have HB4 := Lib.hid B1
      have HE0 := Lib.hid e0
      clear e0 C1 C2 CC B1 jq0 jq1 xq0 x0 j0 j1 jl
      refine AnyT.begin_at tlN (fun X => X.cell? ⟨g5, 1, none⟩ = some (.slice vA vn vc)) (by kernel_rfl) HE0.out F0 ?_
      clear F0
      intro F0
-- TAKES R4
      refine AnyT.takeD (i := 0) (d := some 21) (v := .pointer (some ⟨g5, 1, none⟩)) rfl rfl (by kernel_rfl) (by kernel_rfl) (by kernel_rfl) (by kernel_rfl) (fun _ _ _ h => h) (Or.inl ⟨by rfl, fun wz _ => by go_simp⟩) F0 ?_
      simp only [Act.put, List.setIfInBounds_toArray, List.set_cons_zero, List.set_cons_succ]
      refine AnyT.takeD (i := 1) (d := some 22) (v := .slice vA vn vc) rfl rfl (by kernel_rfl) (by kernel_rfl) (by kernel_rfl) (by kernel_rfl) (fun _ _ _ h => h) (Or.inl ⟨by rfl, fun wz hz => by have z0 := hz; go_simp⟩) F0 ?_
      simp only [Act.put, List.setIfInBounds_toArray, List.set_cons_zero, List.set_cons_succ]
      refine AnyT.takeD (i := 2) (d := some 23) (v := .pointer (some ⟨g5, 1, none⟩)) rfl rfl (by kernel_rfl) (by kernel_rfl) (by kernel_rfl) (by kernel_rfl) (fun _ _ _ h => h) (Or.inl ⟨by rfl, fun wz _ => by go_simp⟩) F0 ?_
      simp only [Act.put, List.setIfInBounds_toArray, List.set_cons_zero, List.set_cons_succ]
      refine AnyT.takeD (i := 3) (d := some 24) (v := .slice vA vn vc) rfl rfl (by kernel_rfl) (by kernel_rfl) (by kernel_rfl) (by kernel_rfl) (fun _ _ _ h => h) (Or.inl ⟨by rfl, fun wz hz => by have z0 := hz; go_simp⟩) F0 ?_
      simp only [Act.put, List.setIfInBounds_toArray, List.set_cons_zero, List.set_cons_succ]
      -- TAKEN R4
      refine AnyT.branch (rs := [4]) (by kernel_rfl) (by simp) ?_
      refine all_cons (?_) all_nil
      refine AnyT.enter (i := 4) (d := some 25) (f := 55) (args := #[.slice vA vn vc]) rfl rfl rfl (by go_simp) HC1.out ?_
      rintro e q1 ⟨rfl, hq1⟩
      subst hq1
      refine ⟨_, rfl, fun _ => F0, ?_⟩
      simp only [Act.put, List.setIfInBounds_toArray, List.set_cons_zero, List.set_cons_succ]
      refine AnyT.branch (rs := [5]) (by kernel_rfl) (by simp) ?_
      refine all_cons (?_) all_nil
      refine AnyT.enter (i := 5) (d := some 26) (f := 60) (args := #[.slice vA vn vc, .int .i64 M]) rfl rfl rfl (by go_simp) HC2.out ?_
      rintro e q1 ⟨rfl, hq1⟩
      subst hq1
      refine ⟨_, rfl, fun _ => F0, ?_⟩
      simp only [Act.put, List.setIfInBounds_toArray, List.set_cons_zero, List.set_cons_succ]
      refine AnyT.takeD (i := 6) (d := some 6) (v := .int .i64 (y : Int)) rfl rfl (by kernel_rfl) (by kernel_rfl) (by kernel_rfl) (by kernel_rfl) (fun _ _ _ h => h) (Or.inl ⟨by rfl, fun wz _ => by go_simp⟩) F0 ?_
      simp only [Act.put, List.setIfInBounds_toArray, List.set_cons_zero, List.set_cons_succ]
      refine AnyT.done_ (by kernel_rfl) ?_ _
      clear F0 HC1 HC2 x1
      obtain ⟨jq0, jq1, xq0, xq1⟩ := HJQ.out
      subst hdL
      subst hvL
      go_wp2_with fail
      refine HCH.out.mono ?_
      rintro e w4 ⟨u, ch, rfl, hch, O4, B4⟩
      have HO := Lib.hid (O4.base HB4.out.size)
      have HB5 := Lib.hid (HB4.out.trans (B4.mono HB4.out.size))
      have RR := Lib.hid (show WitR l wt (toZ ch) 0 from Or.inr (Or.inr ⟨HSOL.out.1, rfl, bs, v, HSOL.out.2, Or.inr ⟨y, ch, HYT.out, hch, rfl⟩⟩))
      clear hch O4 B4 HCH
      go_wp2_with fail
      go_ret2
      exact ⟨_, 0, toZ ch, rfl, HO.out, HB5.out, RR.out⟩
  · have hne : (er != 0) = true := bne_iff_ne.2 he
    have RR := Lib.hid (show WitR l wt [] er from by
      rcases HR.out with ⟨h1, h2, _, _⟩ | ⟨h1, h2, _, _, h5⟩ | ⟨_, h2, _⟩
      · exact Or.inl ⟨h1, h2, rfl⟩
      · exact Or.inr (Or.inl ⟨h1, h2, rfl, h5⟩)
      · exact absurd h2 he)
    clear he
    go_wp2_with fail
    go_ret2
    exact ⟨_, er, [], rfl, Own.nil, HB3.out, RR.out⟩
end Go.Proofs.Ytlagadbkencpbaa

namespace Go.Proofs.Ytlagadbkencpbaa
open Go.RowKit Go.Lib

/-- Whether all numbers are from 0 to g. -/
def uptoB (g : Int) (zs : List Int) : Bool := zs.all fun z => decide (0 ≤ z) && decide (z ≤ g)
theorem uptoB_iff {g : Int} {zs : List Int} : uptoB g zs = true ↔ ∀ x, x < zs.length → 0 ≤ zs.getD x 0 ∧ zs.getD x 0 ≤ g := by
  unfold uptoB
  simp only [List.all_eq_true, Bool.and_eq_true, decide_eq_true_eq]
  constructor
  · intro h x hx
    rw [List.getD_eq_getElem?_getD, List.getElem?_eq_getElem hx]
    exact h _ (List.getElem_mem hx)
  · intro h z hz
    obtain ⟨x, hx, rfl⟩ := List.mem_iff_getElem.1 hz
    have := h x hx
    rwa [List.getD_eq_getElem?_getD, List.getElem?_eq_getElem hx] at this
theorem uptoB_no {g : Int} {zs : List Int} {x : Nat} (hx : x < zs.length) (h : ¬ (0 ≤ zs.getD x 0 ∧ zs.getD x 0 ≤ g)) : uptoB g zs = false :=
  Bool.eq_false_iff.2 fun k => h (uptoB_iff.1 k x hx)
theorem uptoB_take {g : Int} {zs : List Int} {k : Nat} (hk : k < zs.length) : uptoB g (zs.take (k + 1)) = (uptoB g (zs.take k) && (decide (0 ≤ zs.getD k 0) && decide (zs.getD k 0 ≤ g))) := by
  unfold uptoB
  rw [List.take_add_one, List.all_append, List.getD_eq_getElem?_getD, List.getElem?_eq_getElem hk]
  simp
/-- The error of Encode. -/
def encB (st : Int) (v ch : List Int) : Bool := uptoB 12 [st] && (uptoB 4095 v && uptoB 95 ch)
def encE (st : Int) (v ch : List Int) : Int := if 96 < v.length ∨ 96 < ch.length then 3 else if encB st v ch = true then 0 else 2
/-- The bytes of a proof. -/
def pair2 (n : Int) : List Int := [n / 256, n % 256]
def encL (st : Int) (v ch : List Int) : List Int := [st, (v.length : Int)] ++ v.flatMap pair2 ++ [(ch.length : Int)] ++ ch
/-- A proof's value and its box. -/
abbrev qv (st : Int) (A : Option Addr) (n c : Nat) (B : Option Addr) (m d : Nat) : Value := .agg #[.int .i64 st, .slice A n c, .slice B m d]
abbrev qcells (st : Int) (A : Option Addr) (n c : Nat) (B : Option Addr) (m d : Nat) : Obj := .cells #[.int .i64 st, .slice A n c, .slice B m d] 26
structure QBox (w : World) (b : Nat) (st : Int) (A : Option Addr) (n c : Nat) (B : Option Addr) (m d : Nat) : Prop where
  c0 : w.cell? ⟨b, 0, none⟩ = some (.int .i64 st)
  c1 : w.cell? ⟨b, 1, none⟩ = some (.slice A n c)
  c2 : w.cell? ⟨b, 2, none⟩ = some (.slice B m d)
  f : ∀ j, w.frozen? ⟨b, j, none⟩ = false
  lt : b < w.heap.size
theorem QBox.below {w w' : World} {b n c m d K : Nat} {st : Int} {A B : Option Addr} (h : QBox w b st A n c B m d) (k : Below K w w') (hb : b < K) : QBox w' b st A n c B m d :=
  ⟨(k.cell (p := ⟨b, 0, none⟩) hb).trans h.c0, (k.cell (p := ⟨b, 1, none⟩) hb).trans h.c1, (k.cell (p := ⟨b, 2, none⟩) hb).trans h.c2, fun j => (k.frozen (p := ⟨b, j, none⟩) hb).trans (h.f j), Nat.lt_of_lt_of_le h.lt k.size⟩
theorem QBox.moves {mm : Nat} {w w' : World} {b n c m d : Nat} {st : Int} {A B : Option Addr} (h : QBox w b st A n c B m d) (k : Moves mm w w') (hb : b ≠ mm) : QBox w' b st A n c B m d :=
  ⟨(k.cell (p := ⟨b, 0, none⟩) h.lt hb).trans h.c0, (k.cell (p := ⟨b, 1, none⟩) h.lt hb).trans h.c1, (k.cell (p := ⟨b, 2, none⟩) h.lt hb).trans h.c2, fun j => (k.frozen (p := ⟨b, j, none⟩) h.lt hb).trans (h.f j), Nat.lt_of_lt_of_le h.lt k.size⟩
theorem QBox.new {w : World} {st : Int} {A B : Option Addr} {n c m d : Nat} (b : Nat) (hb : b = w.heap.size) : QBox (w.alloc (qcells st A n c B m d)) b st A n c B m d := by
  subst hb; exact ⟨by rw [cell_new]; rfl, by rw [cell_new]; rfl, by rw [cell_new]; rfl, fun j => frozen_new _ _ _ _ _ rfl, by simp⟩
theorem ne_of {p i j : Nat} (h : i ≠ j) : (⟨p, i, none⟩ : Addr) ≠ ⟨p, j, none⟩ := fun e => h (congrArg Addr.off e)
theorem QBox.set0 {w : World} {b n c m d : Nat} {st : Int} {A B : Option Addr} (h : QBox w b st A n c B m d) (st' : Int) : QBox (w.setCell ⟨b, 0, none⟩ (.int .i64 st')) b st' A n c B m d :=
  ⟨World.cell?_setCell_same _ _ _ h.c0, by rw [World.cell?_setCell_other _ _ _ _ (ne_of (by decide))]; exact h.c1, by rw [World.cell?_setCell_other _ _ _ _ (ne_of (by decide))]; exact h.c2, fun j => by rw [World.frozen?_setCell]; exact h.f j, by rw [World.size_setCell]; exact h.lt⟩
theorem QBox.set1 {w : World} {b n c m d : Nat} {st : Int} {A B : Option Addr} (h : QBox w b st A n c B m d) (A' : Option Addr) (n' c' : Nat) : QBox (w.setCell ⟨b, 1, none⟩ (.slice A' n' c')) b st A' n' c' B m d :=
  ⟨by rw [World.cell?_setCell_other _ _ _ _ (ne_of (by decide))]; exact h.c0, World.cell?_setCell_same _ _ _ h.c1, by rw [World.cell?_setCell_other _ _ _ _ (ne_of (by decide))]; exact h.c2, fun j => by rw [World.frozen?_setCell]; exact h.f j, by rw [World.size_setCell]; exact h.lt⟩
theorem QBox.set2 {w : World} {b n c m d : Nat} {st : Int} {A B : Option Addr} (h : QBox w b st A n c B m d) (B' : Option Addr) (m' d' : Nat) : QBox (w.setCell ⟨b, 2, none⟩ (.slice B' m' d')) b st A n c B' m' d' :=
  ⟨by rw [World.cell?_setCell_other _ _ _ _ (ne_of (by decide))]; exact h.c0, by rw [World.cell?_setCell_other _ _ _ _ (ne_of (by decide))]; exact h.c1, World.cell?_setCell_same _ _ _ h.c2, fun j => by rw [World.frozen?_setCell]; exact h.f j, by rw [World.size_setCell]; exact h.lt⟩
theorem QBox.put {w : World} {b n c m d : Nat} {st : Int} {A B : Option Addr} (h : QBox w b st A n c B m d) (st' : Int) (A' : Option Addr) (n' c' : Nat) (B' : Option Addr) (m' d' : Nat) :
    QBox (((w.setCell ⟨b, 0, none⟩ (.int .i64 st')).setCell ⟨b, 1, none⟩ (.slice A' n' c')).setCell ⟨b, 2, none⟩ (.slice B' m' d')) b st' A' n' c' B' m' d' := ((h.set0 st').set1 A' n' c').set2 B' m' d'
theorem results_proof {fn : Func} (hf : fn.results = #[.cell 2 26, .tmp 3]) (tmps : Array Value) (w : World) (b : Nat) (st er : Int) (A B : Option Addr) (n c m d : Nat) (h2 : tmps.getD 2 undef = .pointer (some ⟨b, 0, none⟩)) (h3 : tmps.getD 3 undef = .int .i64 er) (q : QBox w b st A n c B m d) :
    (results fn tmps).run Try.prog w = .ok (.tuple #[qv st A n c B m d, .int .i64 er]) w := by
  have h2' : tmps[2]?.getD undef = .pointer (some ⟨b, 0, none⟩) := by simpa using h2
  have h3' : tmps[3]?.getD undef = .int .i64 er := by simpa using h3
  simp [results, hf, go_sem, h2', h3', q.c0, q.c1, q.c2, asAddr]
theorem results_proof1 {fn : Func} {s : Nat} (hf : fn.results = #[.cell s 26]) (tmps : Array Value) (w : World) (b : Nat) (st : Int) (A B : Option Addr) (n c m d : Nat) (h2 : tmps.getD s undef = .pointer (some ⟨b, 0, none⟩)) (q : QBox w b st A n c B m d) :
    (results fn tmps).run Try.prog w = .ok (qv st A n c B m d) w := by
  have h2' : tmps[s]?.getD undef = .pointer (some ⟨b, 0, none⟩) := by simpa using h2
  simp [results, hf, go_sem, h2', q.c0, q.c1, q.c2, asAddr]

set_option maxHeartbeats 800000 in
theorem upto_any (g : Int) (zs : List Int) (A : Option Addr) (n c : Nat) (hn : n = zs.length) (hm : zs.length ≤ maxLen) (w : World) (h : Row .i64 w w.heap.size A zs) :
    Calls Try.prog 56 #[.int .i64 g, .slice A n c] w fun e w' => e = .returned (.bool (uptoB g zs)) ∧ w = w' := by
  have HR := Lib.hid h
  have HN := Lib.hid hn
  have hnl : n ≤ 9223372036854775807 := by rw [hn]; exact hm
  clear h hn hm
  go_enter Try.func56, Try.ntmps56
  go_wp2_with fail
  go_loopw [9] (fun iv wr => ∃ k : Nat, k ≤ n ∧ iv = .int .i64 (k : Int) ∧ Hid (∀ x, x < k → 0 ≤ zs.getD x 0 ∧ zs.getD x 0 ≤ g) ∧ Hid (w = wr)) (fun iv _ => n - (intOf iv).toNat)
  case atStart => exact ⟨0, by omega, rfl, Lib.hid (fun x hx => absurd hx (Nat.not_lt_zero _)), Lib.hid rfl⟩
  case round =>
    obtain ⟨k, hk, rfl, F, HW⟩ := hrel
    by_cases hlt : k < n
    · have hki : (k : Int) < (n : Int) := by omega
      have hkl : k < zs.length := by rw [← HN.out]; exact hlt
      have R := HR.out
      rw [HW.out] at R
      obtain ⟨pad, rfl, plt, cp⟩ := R k hkl
      have HU := Lib.hid (fun q => uptoB_no (g := g) hkl q)
      have HF := Lib.hid (fun (q : 0 ≤ zs.getD k 0 ∧ zs.getD k 0 ≤ g) => show ∀ x, x < k + 1 → 0 ≤ zs.getD x 0 ∧ zs.getD x 0 ≤ g from fun x hx => by
        rcases Nat.lt_or_ge x k with r | r
        · exact F.out x r
        · obtain rfl : x = k := by omega
          exact q)
      clear R HR
      generalize zs.getD k 0 = z at *
      by_cases h0 : z < 0
      · have HE := Lib.hid (HU.out (by omega))
        go_wp2_with fail
        go_ret
        exact ⟨ret_bool HE.out.symm, HW.out⟩
      · by_cases h1 : g < z
        · have HE := Lib.hid (HU.out (by omega))
          go_wp2_with fail
          go_ret
          exact ⟨ret_bool HE.out.symm, HW.out⟩
        · have HG := Lib.hid (HF.out (by omega))
          clear HU HF
          go_wp2_with fail
          go_roundw
          case rel => exact ⟨k + 1, by omega, by go_num, HG, HW⟩
          case measure => simp [intOf]; omega
    · obtain rfl : k = n := by omega
      have HT := Lib.hid (show uptoB g zs = true from uptoB_iff.2 fun x hx => F.out x (by rw [HN.out]; exact hx))
      go_wp2_with fail
      go_ret
      exact ⟨ret_bool HT.out.symm, HW.out⟩

set_option maxRecDepth 100000 in
set_option maxHeartbeats 1600000 in
theorem encodable_any (st : Int) (v ch : List Int) (A B : Option Addr) (n c m d : Nat) (hn : n = v.length) (hm : m = ch.length) (hvm : v.length ≤ maxLen) (hcm : ch.length ≤ maxLen) (w : World) (hv : Row .i64 w w.heap.size A v) (hc : Row .i64 w w.heap.size B ch) :
    Calls Try.prog 30 #[qv st A n c B m d] w fun e w' => e = .returned (.int .i64 (encE st v ch)) ∧ Below w.heap.size w w' := by
  have B1 := (Below.refl w.heap.size w).alloc (Nat.le_refl _) (qcells st A n c B m d)
  have HQ := Lib.hid (QBox.new (w := w) (st := st) (A := A) (n := n) (c := c) (B := B) (m := m) (d := d) w.heap.size rfl)
  have HB := Lib.hid B1
  have HV := Lib.hid (hv.below B1)
  have HC := Lib.hid (hc.below B1)
  have hnl : n ≤ 9223372036854775807 := by rw [hn]; exact hvm
  have hml : m ≤ 9223372036854775807 := by rw [hm]; exact hcm
  have HE := Lib.hid (show encE st v ch = if 96 < n ∨ 96 < m then 3 else if encB st v ch = true then 0 else 2 by rw [hn, hm]; rfl)
  have HU0 := Lib.hid (fun (W : World) (A' : Option Addr) (q : Row .i64 W W.heap.size A' [st]) => upto_any 12 [st] A' 1 1 rfl (show 1 ≤ maxLen by decide) W q)
  have HU1 := Lib.hid (fun (W : World) (q : Row .i64 W W.heap.size A v) => upto_any 4095 v A n c hn hvm W q)
  have HU2 := Lib.hid (fun (W : World) (q : Row .i64 W W.heap.size B ch) => upto_any 95 ch B m d hm hcm W q)
  have HEB := Lib.hid (show encB st v ch = (uptoB 12 [st] && (uptoB 4095 v && uptoB 95 ch)) from rfl)
  clear hv hc hn hm hvm hcm B1
  obtain ⟨b, hb⟩ : ∃ b, b = w.heap.size := ⟨_, rfl⟩
  go_enter Try.func30, Try.ntmps30
  go_upto_region 1 with fail
  rw [← hb] at HQ ⊢
  generalize w.alloc (qcells st A n c B m d) = w1 at *
  clear hb
  obtain ⟨q0, q1, q2, -, ql⟩ := HQ.out
  by_cases h1 : 96 < n
  · have HF := Lib.hid (show encE st v ch = 3 by rw [HE.out, if_pos (Or.inl h1)])
    have h1i : (96 : Int) < (n : Int) := by omega
    go_wp2_with fail
    go_ret
    exact ⟨ret_int HF.out.symm, HB.out⟩
  · by_cases h2 : 96 < m
    · have HF := Lib.hid (show encE st v ch = 3 by rw [HE.out, if_pos (Or.inr h2)])
      have h1i : ¬ (96 : Int) < (n : Int) := by omega
      have h2i : (96 : Int) < (m : Int) := by omega
      go_wp2_with fail
      go_ret
      exact ⟨ret_int HF.out.symm, HB.out⟩
    · have HF := Lib.hid (show encE st v ch = if encB st v ch = true then 0 else 2 by rw [HE.out, if_neg (by omega)])
      have h1i : ¬ (96 : Int) < (n : Int) := by omega
      have h2i : ¬ (96 : Int) < (m : Int) := by omega
      have R0 := Lib.hid (row_new (k := .i64) (W := w1) (T := 3) [st])
      have BX := (Below.refl w1.heap.size w1).alloc (Nat.le_refl _) (.cells #[.int .i64 st] 3)
      have HV2 := Lib.hid (HV.out.below BX)
      have HC2 := Lib.hid (HC.out.below BX)
      have HQ2 := Lib.hid (HQ.out.below BX ql)
      have HB2 := Lib.hid (HB.out.trans (BX.mono HB.out.size))
      have HUU := Lib.hid (HU0.out _ _ R0.out)
      clear h1 h2 BX HE R0 HU0 HV HC
      go_wp2_with fail
      refine HUU.out.mono ?_
      rintro e w2 ⟨rfl, rfl⟩
      clear HUU
      cases hu0 : uptoB 12 [st] with
      | false =>
        have HG := Lib.hid (show encE st v ch = 2 by rw [HF.out, if_neg (by rw [HEB.out, hu0]; simp)])
        clear hu0
        go_wp2_with fail
        go_ret
        exact ⟨ret_int HG.out.symm, HB2.out⟩
      | true =>
        obtain ⟨r0, r1, r2, -, rl⟩ := HQ2.out
        go_wp2_with fail
        refine (HU1.out _ HV2.out).mono ?_
        rintro e w2 ⟨rfl, rfl⟩
        cases hu1 : uptoB 4095 v with
        | false =>
          have HG := Lib.hid (show encE st v ch = 2 by rw [HF.out, if_neg (by rw [HEB.out, hu0, hu1]; simp)])
          clear hu0 hu1
          go_wp2_with fail
          go_ret
          exact ⟨ret_int HG.out.symm, HB2.out⟩
        | true =>
          go_wp2_with fail
          refine (HU2.out _ HC2.out).mono ?_
          rintro e w2 ⟨rfl, rfl⟩
          cases hu2 : uptoB 95 ch with
          | false =>
            have HG := Lib.hid (show encE st v ch = 2 by rw [HF.out, if_neg (by rw [HEB.out, hu0, hu1, hu2]; simp)])
            clear hu0 hu1 hu2
            go_wp2_with fail
            go_ret
            exact ⟨ret_int HG.out.symm, HB2.out⟩
          | true =>
            have HG := Lib.hid (show encE st v ch = 0 by rw [HF.out, if_pos (by rw [HEB.out, hu0, hu1, hu2]; rfl)])
            clear hu0 hu1 hu2
            go_wp2_with fail
            go_ret
            exact ⟨ret_int HG.out.symm, HB2.out⟩
end Go.Proofs.Ytlagadbkencpbaa

namespace Go.Proofs.Ytlagadbkencpbaa
open Go.RowKit Go.Lib

/-- From w to w' something was appended to v: nothing else has turned. -/
structure Apd (w : World) (v : Value) (w' : World) (v' : Value) : Prop where
  g : w.grownBy w' v.ownBlock
  o : ∀ b, v'.ownBlock = some b → v.ownBlock = some b ∨ w.heap.size ≤ b
theorem Apd.below {w w' : World} {v v' : Value} {base : Nat} (h : Apd w v w' v') (hb : ∀ b, v.ownBlock = some b → base ≤ b) (hs : base ≤ w.heap.size) : Below base w w' :=
  ⟨h.g.os, h.g.tape, h.g.output, h.g.size, fun i hi => h.g.block i (by omega) (fun e => by have := hb i e.symm; omega)⟩
/-- append(v, ys..) onto bytes of the call's own, ys just laid. -/
theorem wpList_apd (W : World) {ops : Array Oper} {rest : List Oper} {o : Oper} {a : Act} {Q : Exit → Act → World → Prop} (hgd : o.guard = none) (s x : Operand)
    (ho : o.op = .call { callee := .builtin .append, args := #[s, x], argTypes := #[28, 28] }) (base : Nat) (v : Value) (zs : List Int) (hs : a.eval s = v) (O : Own .u8 5 W base v zs)
    (ys : List Int) (w0 : World) (hW : W = w0.alloc (.cells (ys.map (Value.int .u8)).toArray 5)) (m c : Nat) (hm : ys.length = m) (h0 : 0 < m) (hx : a.eval x = .slice (some ⟨w0.heap.size, 0, none⟩) m c)
    (hl : zs.length + m ≤ 1000000000) (hb : base ≤ W.heap.size)
    (h : ∀ v' w', Own .u8 5 w' base v' (zs ++ ys) → Apd W v w' v' → wpList Try.prog ops Q rest (a.put o.dst v') w') : wpList Try.prog ops Q (o :: rest) a W := by
  obtain ⟨i0, hi, hz0, hz1, hz2⟩ := info_parts infoByte
  subst hm
  refine wpList_append_lies W hgd s x 28 ho base 5 i0 (.int .u8 0) 1 1 Try.underlying28 hi hz0 hz1 hz2 rfl (by decide) v zs.length (zs.map (Value.int .u8)) hs O ⟨w0.heap.size, 0, none⟩ ys.length c (ys.map (Value.int .u8)) hx (by rw [List.length_map, Nat.mul_one]) (by rw [hW]; exact news_int) one_cells h0 (by unfold maxLen; omega) (by omega) hb W.heap.size rfl ?_
  intro g cap w1 hown hg hat hlt
  refine h _ w1 (Own.app hown rfl rfl) ⟨hg, fun b hb => ?_⟩
  have e : g = b := by simpa [Value.ownBlock] using hb
  subst e
  rcases hat with h1 | h1
  · exact Or.inl h1
  · exact Or.inr (by omega)
/-- The same at a step of a region that draws its order. -/
theorem step_apd (W : World) {ops : Array Oper} {o : Oper} {a : Act} {K : Act → World → Prop} {Q : Exit → Act → World → Prop} {E : Prop} (hgd : o.guard = none) (s x : Operand)
    (ho : o.op = .call { callee := .builtin .append, args := #[s, x], argTypes := #[28, 28] }) (base : Nat) (v : Value) (zs : List Int) (hs : a.eval s = v) (O : Own .u8 5 W base v zs)
    (ys : List Int) (w0 : World) (hW : W = w0.alloc (.cells (ys.map (Value.int .u8)).toArray 5)) (m c : Nat) (hm : ys.length = m) (h0 : 0 < m) (hx : a.eval x = .slice (some ⟨w0.heap.size, 0, none⟩) m c)
    (hl : zs.length + m ≤ 1000000000) (hb : base ≤ W.heap.size)
    (h : ∀ v' w', Own .u8 5 w' base v' (zs ++ ys) → Apd W v w' v' → K (a.put o.dst v') w') :
    if Region.wanted o (yielded ops a.tmps) = true then Oper.wp Try.prog o a W K Q else E := by
  obtain ⟨i0, hi, hz0, hz1, hz2⟩ := info_parts infoByte
  subst hm
  refine step_append_lies W hgd s x 28 ho base 5 i0 (.int .u8 0) 1 1 Try.underlying28 hi hz0 hz1 hz2 rfl (by decide) v zs.length (zs.map (Value.int .u8)) hs O ⟨w0.heap.size, 0, none⟩ ys.length c (ys.map (Value.int .u8)) hx (by rw [List.length_map, Nat.mul_one]) (by rw [hW]; exact news_int) one_cells h0 (by unfold maxLen; omega) (by omega) hb W.heap.size rfl ?_
  intro g cap w1 hown hg hat hlt
  refine h _ w1 (Own.app hown rfl rfl) ⟨hg, fun b hb => ?_⟩
  have e : g = b := by simpa [Value.ownBlock] using hb
  subst e
  rcases hat with h1 | h1
  · exact Or.inl h1
  · exact Or.inr (by omega)
theorem encE_zero {st : Int} {v ch : List Int} (h : encE st v ch = 0) : (v.length ≤ 96 ∧ ch.length ≤ 96) ∧ (0 ≤ st ∧ st ≤ 12) ∧ (∀ x, x < v.length → 0 ≤ v.getD x 0 ∧ v.getD x 0 ≤ 4095) ∧ ∀ x, x < ch.length → 0 ≤ ch.getD x 0 ∧ ch.getD x 0 ≤ 95 := by
  unfold encE at h
  by_cases g : 96 < v.length ∨ 96 < ch.length
  · rw [if_pos g] at h; omega
  · rw [if_neg g] at h
    by_cases k : encB st v ch = true
    · unfold encB at k
      rw [Bool.and_eq_true, Bool.and_eq_true] at k
      refine ⟨by omega, ?_, uptoB_iff.1 k.2.1, uptoB_iff.1 k.2.2⟩
      exact uptoB_iff.1 k.1 0 (Nat.zero_lt_succ 0)
    · rw [if_neg k] at h; omega
theorem take_fl {v : List Int} {k : Nat} (hk : k < v.length) : (v.take (k + 1)).flatMap pair2 = (v.take k).flatMap pair2 ++ [v.getD k 0 / 256, v.getD k 0 % 256] := by
  rw [List.take_add_one, List.flatMap_append, List.getD_eq_getElem?_getD, List.getElem?_eq_getElem hk]
  simp [pair2]
theorem take_one {v : List Int} {k : Nat} (hk : k < v.length) : v.take (k + 1) = v.take k ++ [v.getD k 0] := by
  rw [List.take_add_one, List.getD_eq_getElem?_getD, List.getElem?_eq_getElem hk]
  simp
theorem fl_len (v : List Int) : (v.flatMap pair2).length = 2 * v.length := by
  induction v with
  | nil => rfl
  | cons x v ih => rw [List.flatMap_cons, List.length_append, ih, List.length_cons]; show 2 + _ = _; omega
def EncPost (st : Int) (v ch : List Int) (w : World) (e : Ending) (w' : World) : Prop :=
  ∃ x, e = .returned (.tuple #[x, .int .i64 (encE st v ch)]) ∧ Own .u8 5 w' w.heap.size x (if encE st v ch = 0 then encL st v ch else []) ∧ Below w.heap.size w w'
/-- While bytes are appended behind world w2. -/
structure BSt (w2 wr : World) (u : Value) (L : List Int) : Prop where
  own : Own .u8 5 wr w2.heap.size u L
  bel : Below w2.heap.size w2 wr
theorem BSt.step {w2 wr w' : World} {u u' : Value} {L L' : List Int} (h : BSt w2 wr u L) (o : Obj) (O : Own .u8 5 w' w2.heap.size u' L') (k : Apd (wr.alloc o) u w' u') : BSt w2 w' u' L' :=
  ⟨O, (h.bel.alloc h.bel.size o).trans (k.below (fun b hb => (own_block h.own hb).1) (by rw [World.size_alloc]; have := h.bel.size; omega))⟩
theorem BSt.drewN {w2 wr : World} {u : Value} {L : List Int} (h : BSt w2 wr u L) (n : Nat) : BSt w2 (wr.drewN n) u L := ⟨h.own.drewN n, bdn h.bel⟩
theorem BSt.le {w2 wr : World} {u : Value} {L : List Int} (h : BSt w2 wr u L) (o : Obj) : w2.heap.size ≤ (wr.alloc o).heap.size := by rw [World.size_alloc]; have := h.bel.size; omega
theorem BSt.start {w2 : World} (ys : List Int) (n c : Nat) (hn : n = ys.length) (hc : c = ys.length) (hm : ys.length ≤ 1000) : BSt w2 (w2.alloc (.cells (ys.map (Value.int .u8)).toArray 5)) (.slice (some ⟨w2.heap.size, 0, none⟩) n c) ys := by
  subst hn; subst hc
  refine ⟨⟨by simp, Or.inr ⟨w2.heap.size, ys.length, (ys.map (Value.int .u8)).toArray, rfl, Nat.le_refl _, ?_, Nat.le_refl _, by unfold maxLen; omega, by simp, by simp [List.take_of_length_le]⟩⟩, (Below.refl _ _).alloc (Nat.le_refl _) _⟩
  show (w2.heap.push _)[w2.heap.size]? = _
  rw [Array.getElem?_push, if_pos rfl]

set_option maxRecDepth 100000 in
set_option maxHeartbeats 3200000 in
theorem encode_any (st : Int) (v ch : List Int) (A B : Option Addr) (n c m d : Nat) (hn : n = v.length) (hm : m = ch.length) (hvm : v.length ≤ maxLen) (hcm : ch.length ≤ maxLen) (w : World) (hv : Row .i64 w w.heap.size A v) (hc : Row .i64 w w.heap.size B ch) :
    Calls Try.prog 9 #[qv st A n c B m d] w (EncPost st v ch w) := by
  have B1 := (Below.refl w.heap.size w).alloc (Nat.le_refl _) (qcells st A n c B m d)
  have HQ := Lib.hid (QBox.new (w := w) (st := st) (A := A) (n := n) (c := c) (B := B) (m := m) (d := d) w.heap.size rfl)
  have HB := Lib.hid B1
  have HV := Lib.hid (hv.below B1)
  have HC := Lib.hid (hc.below B1)
  have HN := Lib.hid hn
  have HM := Lib.hid hm
  have HEN := Lib.hid (fun (W : World) (q : Row .i64 W W.heap.size A v) (r : Row .i64 W W.heap.size B ch) => encodable_any st v ch A B n c m d hn hm hvm hcm W q r)
  have HEE := Lib.hid (fun (h : encE st v ch = 0) => encE_zero h)
  rw [← hn, ← hm] at HEE
  clear hv hc hn hm hvm hcm B1
  obtain ⟨b, hb⟩ : ∃ b, b = w.heap.size := ⟨_, rfl⟩
  go_enter Try.func9, Try.ntmps9
  go_upto_region 1 with fail
  rw [← hb] at HQ ⊢
  generalize w.alloc (qcells st A n c B m d) = w1 at *
  clear hb
  obtain ⟨q0, q1, q2, -, ql⟩ := HQ.out
  go_wp2_with fail
  refine (HEN.out w1 HV.out HC.out).mono ?_
  rintro e w2 ⟨rfl, B2⟩
  have HQ2 := Lib.hid (HQ.out.below B2 ql)
  have HB2 := Lib.hid (HB.out.trans (B2.mono HB.out.size))
  have HV2 := Lib.hid (HV.out.below B2)
  have HC2 := Lib.hid (HC.out.below B2)
  clear q0 q1 q2 ql HQ HB HV HC B2 HEN
  by_cases he : encE st v ch = 0
  · obtain ⟨⟨n96, m96⟩, ⟨s0, s1⟩, hvb, hcb⟩ := HEE.out he
    have HVB := Lib.hid hvb
    have HCB := Lib.hid hcb
    have HF := Lib.hid he
    rw [he]
    clear hvb hcb he HEE
    obtain ⟨q0, q1, q2, -, ql⟩ := HQ2.out
    have S0 := Lib.hid (BSt.start (w2 := w2) [st, (n : Int)] 2 2 rfl rfl (show 2 ≤ 1000 by decide))
    replace S0 : Hid (BSt w2 (w2.alloc (.cells #[.int .u8 st, .int .u8 (n : Int)] 5)) (.slice (some ⟨w2.heap.size, 0, none⟩) 2 2) [st, (n : Int)]) := S0
    go_wp2_with fail
    clear q0 q1 q2 ql
    go_loopw [5, 29] (fun u iv wr => ∃ k : Nat, k ≤ n ∧ iv = .int .i64 (k : Int) ∧ Hid (BSt w2 wr u ([st, (n : Int)] ++ (v.take k).flatMap pair2))) (fun _ iv _ => n - (intOf iv).toNat)
    case atStart => exact ⟨0, by omega, rfl, S0⟩
    case round =>
      clear S0
      obtain ⟨k, hk, rfl, S⟩ := hrel
      by_cases hlt : k < n
      · have hki : (k : Int) < (n : Int) := by omega
        have hkl : k < v.length := by rw [← HN.out]; exact hlt
        obtain ⟨pad, rfl, plt, cp⟩ := (HV2.out.under S.out.bel) k hkl
        obtain ⟨z0, z1⟩ := HVB.out k hlt
        have HT := Lib.hid (take_fl hkl)
        have HL := Lib.hid (show ([st, (n : Int)] ++ (v.take k).flatMap pair2).length ≤ 200 by rw [List.length_append, fl_len, List.length_take]; show 2 + _ ≤ _; omega)
        generalize v.getD k 0 = z at *
        obtain ⟨L, hL⟩ : ∃ L, L = [st, (n : Int)] ++ (v.take k).flatMap pair2 := ⟨_, rfl⟩
        have HLE := Lib.hid hL
        rw [← hL] at S HL
        clear hL
        have hz := HL.out
        go_wp2_with (first | (at_builtin; refine wpList_apd _ rfl (.tmp 33) (.tmp 39) rfl w2.heap.size _ L rfl (S.out.own.alloc _) [z / 256, z % 256] wr rfl 2 2 rfl (by decide) rfl (by omega) (S.out.le _) ?_; intro v1 w3 O1 A1))
        go_roundw
        case rel =>
          refine ⟨k + 1, by omega, by go_num, Lib.hid ?_⟩
          have S1 := S.out.step _ O1 A1
          rw [HT.out, ← List.append_assoc, ← HLE.out]; exact S1
        case measure => simp [intOf]; omega
      · obtain rfl : k = n := by omega
        have HT := Lib.hid (show v.take k = v by rw [HN.out]; exact List.take_length)
        rw [HT.out] at S
        have HL := Lib.hid (show ([st, (k : Int)] ++ v.flatMap pair2).length ≤ 200 by rw [List.length_append, fl_len, ← HN.out]; show 2 + _ ≤ _; omega)
        obtain ⟨L, hL⟩ : ∃ L, L = [st, (k : Int)] ++ v.flatMap pair2 := ⟨_, rfl⟩
        have HLE := Lib.hid hL
        rw [← hL] at S HL
        clear hL hlt hk HT
        have hz := HL.out
        have hb2 := HB2.out.size
        have Q3 := Lib.hid (HQ2.out.below S.out.bel HQ2.out.lt)
        obtain ⟨q0, q1, q2, -, ql⟩ := Q3.out
        have HS := Lib.hid (fun v1 w3 O1 A1 => S.out.step (L' := L ++ [(m : Int)]) (u' := v1) (w' := w3) (.cells #[.int .u8 (m : Int)] 5) O1 A1)
        go_wp2_with (first | (at_builtin; refine wpList_apd _ rfl (.tmp 42) (.tmp 47) rfl w2.heap.size _ L rfl (S.out.own.alloc _) [(m : Int)] wr rfl 1 1 rfl (by decide) rfl (by omega) (S.out.le _) ?_; intro v1 w3 O1 A1; have S1 := Lib.hid (HS.out v1 w3 O1 A1); have Q4 := HQ2.out.below S1.out.bel HQ2.out.lt; obtain ⟨d0, d1, d2, -, dl⟩ := Q4; clear q0 q1 q2 ql Q3))
        clear d0 d1 d2 dl O1 A1 HS S
        go_loopw [5, 52] (fun u iv wr => ∃ j : Nat, j ≤ m ∧ iv = .int .i64 (j : Int) ∧ Hid (BSt w2 wr u (L ++ [(m : Int)] ++ ch.take j))) (fun _ iv _ => m - (intOf iv).toNat)
        case atStart => exact ⟨0, by omega, rfl, by rw [List.take_zero, List.append_nil]; exact S1⟩
        case round =>
          clear S1
          obtain ⟨j, hj, rfl, S⟩ := hrel
          by_cases hlt : j < m
          · have hji : (j : Int) < (m : Int) := by omega
            have hjl : j < ch.length := by rw [← HM.out]; exact hlt
            obtain ⟨pad, rfl, plt, cp⟩ := (HC2.out.under S.out.bel) j hjl
            obtain ⟨z0, z1⟩ := HCB.out j hlt
            have HT := Lib.hid (take_one hjl)
            have HL2 := Lib.hid (show (L ++ [(m : Int)] ++ ch.take j).length ≤ 300 by rw [List.length_append, List.length_append, List.length_take]; show _ + 1 + _ ≤ _; omega)
            generalize ch.getD j 0 = z at *
            obtain ⟨L2, hL2⟩ : ∃ L2, L2 = L ++ [(m : Int)] ++ ch.take j := ⟨_, rfl⟩
            have HLE2 := Lib.hid hL2
            rw [← hL2] at S HL2
            clear hL2
            have hz2 := HL2.out
            go_wp2_with (first | (at_builtin; refine wpList_apd _ rfl (.tmp 56) (.tmp 59) rfl w2.heap.size _ L2 rfl (S.out.own.alloc _) [z] wr rfl 1 1 rfl (by decide) rfl (by omega) (S.out.le _) ?_; intro v1 w3 O1 A1))
            go_roundw
            case rel =>
              refine ⟨j + 1, by omega, by go_num, Lib.hid ?_⟩
              have S1 := S.out.step _ O1 A1
              rw [HT.out, ← List.append_assoc, ← HLE2.out]; exact S1
            case measure => simp [intOf]; omega
          · obtain rfl : j = m := by omega
            have HT := Lib.hid (show ch.take j = ch by rw [HM.out]; exact List.take_length)
            have HX := Lib.hid (show L ++ [(j : Int)] ++ ch.take j = encL st v ch by rw [HT.out, HLE.out]; unfold encL; rw [← HN.out, ← HM.out])
            rw [HX.out] at S
            go_wp2_with fail
            go_ret2
            refine ⟨_, by rw [HF.out]; rfl, ?_, HB2.out.trans (S.out.bel.mono hb2)⟩
            rw [if_pos HF.out]
            exact S.out.own.base hb2
  · have hne : (encE st v ch != 0) = true := bne_iff_ne.2 he
    have HF := Lib.hid he
    generalize hE : encE st v ch = E at *
    have HEQ := Lib.hid hE
    clear hE he
    go_wp2_with fail
    go_ret2
    exact ⟨_, by rw [HEQ.out]; rfl, by rw [HEQ.out, if_neg HF.out]; exact Own.nil, HB2.out⟩
end Go.Proofs.Ytlagadbkencpbaa

namespace Go.Proofs.Ytlagadbkencpbaa
open Go.RowKit Go.Lib

/-- All numbers are bytes. -/
def BB8 (bs : List Int) : Prop := ∀ x ∈ bs, 0 ≤ x ∧ x ≤ 255
theorem BB8.at_ {bs : List Int} (h : BB8 bs) (j : Nat) : 0 ≤ bs.getD j 0 ∧ bs.getD j 0 ≤ 255 := by
  by_cases hj : j < bs.length
  · rw [List.getD_eq_getElem?_getD, List.getElem?_eq_getElem hj]; exact h _ (List.getElem_mem hj)
  · rw [List.getD_eq_getElem?_getD, List.getElem?_eq_none (by omega)]; exact ⟨Int.le_refl _, by decide⟩
/-- Block p is a reader of the bytes bs of which i have been asked for. -/
structure Rdr (w : World) (p : Nat) (bs : List Int) (i : Nat) (A : Option Addr) (c : Nat) : Prop where
  c0 : w.cell? ⟨p, 0, none⟩ = some (.slice A (bs.length - i) c)
  c1 : w.cell? ⟨p, 1, none⟩ = some (.bool (decide (bs.length < i)))
  f0 : w.frozen? ⟨p, 0, none⟩ = false
  f1 : w.frozen? ⟨p, 1, none⟩ = false
  lt : p < w.heap.size
  row : Row .u8 w p A (bs.drop i)
  bd : BB8 bs
  cap : bs.length - i ≤ c ∧ c ≤ maxLen
theorem Rdr.keep {w w' : World} {p : Nat} {A : Option Addr} {c i K : Nat} {bs : List Int} (h : Rdr w p bs i A c) (k : Below K w w') (hK : p < K) : Rdr w' p bs i A c :=
  ⟨(k.cell (p := ⟨p, 0, none⟩) hK).trans h.c0, (k.cell (p := ⟨p, 1, none⟩) hK).trans h.c1, (k.frozen (p := ⟨p, 0, none⟩) hK).trans h.f0, (k.frozen (p := ⟨p, 1, none⟩) hK).trans h.f1, Nat.lt_of_lt_of_le h.lt k.size,
   h.row.keep (fun q hq => k.cell (Nat.lt_trans hq hK)) (Nat.le_refl _), h.bd, h.cap⟩
def SngPost (p : Nat) (bs : List Int) (i k : Nat) (v : Int) (w : World) (e : Ending) (w' : World) : Prop :=
  e = .returned (.int .i64 v) ∧ (∃ A c, Rdr w' p bs (i + k) A c) ∧ Moves p w w'
set_option maxHeartbeats 800000 in
theorem single_any (p : Nat) (bs : List Int) (i : Nat) (A : Option Addr) (c : Nat) (w : World) (h : Rdr w p bs i A c) :
    Calls Try.prog 57 #[.pointer (some ⟨p, 0, none⟩)] w (SngPost p bs i 1 (bs.getD i 0) w) := by
  have H := Lib.hid h
  obtain ⟨c0, c1, f0, f1, lt, row, bd, cp1, cp2⟩ := h
  by_cases hi : bs.length ≤ i
  · have e0 : bs.length - i = 0 := by omega
    rw [e0] at c0
    have HI := Lib.hid hi
    clear hi e0 row bd cp1 cp2
    go_enter Try.func57, Try.ntmps57
    go_wp2_with fail
    go_ret
    have hz : bs.getD i 0 = 0 := by rw [List.getD_eq_getElem?_getD, List.getElem?_eq_none HI.out]; rfl
    refine ⟨by rw [hz]; rfl, ⟨A, c, ?_⟩, (Moves.refl p w).setCell (Or.inl rfl) _⟩
    have HH := H.out
    have hi := HI.out
    refine ⟨?_, ?_, by rw [World.frozen?_setCell]; exact HH.f0, by rw [World.frozen?_setCell]; exact HH.f1, by rw [World.size_setCell]; exact HH.lt, ?_, HH.bd, by have := HH.cap; omega⟩
    · rw [World.cell?_setCell_other _ _ _ _ (ne_of (by decide)), HH.c0, show bs.length - (i + 1) = bs.length - i by omega]
    · rw [World.cell?_setCell_same _ _ _ HH.c1, decide_eq_true (by omega)]
    · rw [List.drop_eq_nil_of_le (by omega)]; exact Row.nil
  · obtain ⟨ad, rfl, hb, hv⟩ := row 0 (by rw [List.length_drop]; omega)
    have e1 : (bs.drop i).getD 0 0 = bs.getD i 0 := by rw [List.getD_eq_getElem?_getD, List.getElem?_drop, List.getD_eq_getElem?_getD]; rfl
    rw [e1] at hv
    have hv2 : w.cell? ad = some (.int .u8 (bs.getD i 0)) := by rw [← hv]; congr 1
    obtain ⟨z0, z1⟩ := bd.at_ i
    have hcm : c ≤ 9223372036854775807 := cp2
    obtain ⟨L, hL⟩ : ∃ L, L = bs.length - i := ⟨_, rfl⟩
    have HL := Lib.hid hL
    have hL1 : 1 ≤ L := by omega
    rw [← hL] at c0 cp1
    clear hL e1 row bd cp2 hi
    generalize hz : bs.getD i 0 = z at *
    have HZ := Lib.hid hz
    clear hz
    have l0 : ((L : Int) == 0) = false := by simp; omega
    have l1 : (1 : Int) ≤ (L : Int) := by omega
    have l2 : (L : Int) ≤ (c : Int) := by omega
    have FIN := Lib.hid (fun (A' : Option Addr) (c' : Nat) (hr : Row .u8 w p A' (bs.drop (i + 1))) (hc : L - 1 ≤ c' ∧ c' ≤ maxLen) => show SngPost p bs i 1 z w (.returned (.int .i64 z)) (w.setCell ⟨p, 0, none⟩ (.slice A' (L - 1) c')) from by
      have HH := H.out
      have hl := HL.out
      refine ⟨rfl, ⟨A', c', ?_⟩, (Moves.refl p w).setCell (Or.inl rfl) _⟩
      refine ⟨?_, ?_, by rw [World.frozen?_setCell]; exact HH.f0, by rw [World.frozen?_setCell]; exact HH.f1, by rw [World.size_setCell]; exact HH.lt, ?_, HH.bd, by have := hc.1; omega, hc.2⟩
      · rw [show bs.length - (i + 1) = L - 1 by omega]
        exact World.cell?_setCell_same _ _ _ HH.c0
      · rw [World.cell?_setCell_other _ _ _ _ (ne_of (by decide)), HH.c1, decide_eq_false (by omega), decide_eq_false (by omega)]
      · exact hr.keep (fun q hq => World.cell?_setCell_other _ _ _ _ (fun e => by have := congrArg Addr.block e; simp at this; omega)) (Nat.le_refl _))
    have HRW := Lib.hid (show Row .u8 w p (some (ad.add 1)) (bs.drop (i + 1)) from fun j hj => by
      rw [List.length_drop] at hj
      obtain ⟨ad', e, h1, h2⟩ := H.out.row (j + 1) (by rw [List.length_drop]; omega)
      injection e with e
      subst e
      refine ⟨_, rfl, by rw [add_block]; exact h1, ?_⟩
      rw [add_add, Nat.add_comm 1 j, h2]
      rw [List.getD_eq_getElem?_getD, List.getD_eq_getElem?_getD, List.getElem?_drop, List.getElem?_drop, show i + (j + 1) = i + 1 + j by omega])
    have HCM := Lib.hid (show L - 1 ≤ c - 1 ∧ c - 1 ≤ maxLen from ⟨by omega, by unfold maxLen; omega⟩)
    have HC1 := Lib.hid cp1
    go_enter Try.func57, Try.ntmps57
    go_wp2_with fail
    · go_ret
      refine FIN.out _ 0 ?_ ?_
      · have hl := HL.out
        have hc1 := HC1.out
        rw [List.drop_eq_nil_of_le (by omega)]; exact Row.nil
      · have hc1 := HC1.out
        exact ⟨by omega, Nat.zero_le _⟩
    · go_ret
      exact FIN.out _ (c - 1) HRW.out HCM.out
theorem or_pair2 {a b : Int} (a0 : 0 ≤ a) (a1 : a ≤ 255) (b0 : 0 ≤ b) (b1 : b ≤ 255) : bits BinOp.or IntKind.i64 (a * 256) b = a * 256 + b := by
  obtain ⟨x, rfl⟩ := Int.eq_ofNat_of_zero_le a0
  obtain ⟨y, rfl⟩ := Int.eq_ofNat_of_zero_le b0
  have hn : (x * 256) ||| y = x * 256 + y := by
    have := Nat.shiftLeft_add_eq_or_of_lt (i := 8) (b := y) (by omega) x
    rw [Nat.shiftLeft_eq] at this
    exact this.symm
  have e1 : ((x : Int) * 256) = ((x * 256 : Nat) : Int) := by omega
  rw [e1]
  show IntKind.i64.wrap ((BitVec.ofInt 64 ((x * 256 : Nat) : Int) ||| BitVec.ofInt 64 (y : Int)).toNat : Int) = _
  have f1 : (BitVec.ofInt 64 ((x * 256 : Nat) : Int)).toNat = x * 256 := by rw [BitVec.toNat_ofInt]; omega
  have f2 : (BitVec.ofInt 64 (y : Int)).toNat = y := by rw [BitVec.toNat_ofInt]; omega
  rw [BitVec.toNat_or, f1, f2, hn, IntKind.wrap_i64]
  omega
set_option maxHeartbeats 800000 in
theorem pair_any (p : Nat) (bs : List Int) (i : Nat) (A : Option Addr) (c : Nat) (w : World) (h : Rdr w p bs i A c) :
    Calls Try.prog 59 #[.pointer (some ⟨p, 0, none⟩)] w (SngPost p bs i 2 (bs.getD i 0 * 256 + bs.getD (i + 1) 0) w) := by
  have H := Lib.hid h
  obtain ⟨z0, z1⟩ := h.bd.at_ i
  obtain ⟨y0, y1⟩ := h.bd.at_ (i + 1)
  clear h
  have HS := Lib.hid (single_any p bs i A c w H.out)
  have HT := Lib.hid (fun (W : World) A' c' (k : Rdr W p bs (i + 1) A' c') => single_any p bs (i + 1) A' c' W k)
  generalize bs.getD i 0 = z at *
  generalize bs.getD (i + 1) 0 = y at *
  have ho := or_pair2 z0 z1 y0 y1
  go_enter Try.func59, Try.ntmps59
  go_wp2_with fail
  refine HS.out.mono ?_
  rintro e w1 ⟨rfl, ⟨A1, c1, R1⟩, M1⟩
  have HR := Lib.hid R1
  have HM := Lib.hid M1
  clear R1 M1
  go_wp2_with fail
  refine (HT.out w1 A1 c1 HR.out).mono ?_
  rintro e w2 ⟨rfl, ⟨A2, c2, R2⟩, M2⟩
  have HR2 := Lib.hid R2
  have HM2 := Lib.hid (HM.out.trans M2)
  clear R2 M2
  go_wp2_with fail
  go_ret
  exact ⟨rfl, ⟨A2, c2, HR2.out⟩, HM2.out⟩
end Go.Proofs.Ytlagadbkencpbaa

namespace Go.Proofs.Ytlagadbkencpbaa
open Go.RowKit Go.Lib

/-- The numbers that are read from place i on. -/
def val1 (bs : List Int) (i : Nat) : Int := bs.getD i 0
def val2 (bs : List Int) (i : Nat) : Int := bs.getD i 0 * 256 + bs.getD (i + 1) 0
def list1 (bs : List Int) (i n : Nat) : List Int := (List.range n).map fun k => val1 bs (i + 1 * k)
def list2 (bs : List Int) (i n : Nat) : List Int := (List.range n).map fun k => val2 bs (i + 2 * k)
theorem list1_at {bs : List Int} {i n k : Nat} (hk : k < n) : (list1 bs i n).getD k 0 = val1 bs (i + 1 * k) := by
  unfold list1; rw [List.getD_eq_getElem?_getD, List.getElem?_map, List.getElem?_range hk]; rfl
theorem list2_at {bs : List Int} {i n k : Nat} (hk : k < n) : (list2 bs i n).getD k 0 = val2 bs (i + 2 * k) := by
  unfold list2; rw [List.getD_eq_getElem?_getD, List.getElem?_map, List.getElem?_range hk]; rfl
theorem list1_len (bs : List Int) (i n : Nat) : (list1 bs i n).length = n := by unfold list1; rw [List.length_map, List.length_range]
theorem list2_len (bs : List Int) (i n : Nat) : (list2 bs i n).length = n := by unfold list2; rw [List.length_map, List.length_range]
theorem same_getD {a b : List Int} (hl : a.length = b.length) (h : ∀ t, t < a.length → a.getD t 0 = b.getD t 0) : a = b := by
  refine List.ext_getElem hl fun t h1 h2 => ?_
  have := h t h1
  rwa [List.getD_eq_getElem?_getD, List.getElem?_eq_getElem h1, List.getD_eq_getElem?_getD, List.getElem?_eq_getElem h2] at this
theorem Rdr.setO {w : World} {p : Nat} {bs : List Int} {i c : Nat} {A : Option Addr} (h : Rdr w p bs i A c) {q : Addr} (hq : p < q.block) (u : Value) : Rdr (w.setCell q u) p bs i A c :=
  h.keep ((Below.refl (p + 1) w).setCell hq u) (Nat.lt_succ_self p)
theorem Rdr.alloc {w : World} {p : Nat} {bs : List Int} {i c : Nat} {A : Option Addr} (h : Rdr w p bs i A c) (o : Obj) : Rdr (w.alloc o) p bs i A c :=
  h.keep ((Below.refl w.heap.size w).alloc (Nat.le_refl _) o) h.lt
def LstPost (p : Nat) (bs : List Int) (j : Nat) (zs : List Int) (w : World) (e : Ending) (w' : World) : Prop :=
  ∃ A n c, e = .returned (.slice A n c) ∧ Own .i64 3 w' w.heap.size (.slice A n c) zs ∧ (∃ A c, Rdr w' p bs j A c) ∧ Moves p w w'
set_option maxHeartbeats 1600000 in
theorem list1_any (p : Nat) (bs : List Int) (i n : Nat) (hn : bs.getD i 0 = (n : Int)) (A : Option Addr) (c : Nat) (w : World) (h : Rdr w p bs i A c) :
    Calls Try.prog 58 #[.pointer (some ⟨p, 0, none⟩), .func (.func 57) #[] #[]] w (LstPost p bs (i + 1 + 1 * n) (list1 bs (i + 1) n) w) := by
  have hn255 := (h.bd.at_ i).2
  rw [hn] at hn255
  have hn256 : n ≤ 1000 := by omega
  have HS := Lib.hid (single_any p bs i A c w h)
  have HT := Lib.hid (fun (W : World) k A' c' (q : Rdr W p bs (i + 1 + 1 * k) A' c') => single_any p bs (i + 1 + 1 * k) A' c' W q)
  rw [hn] at HS
  have HLT := Lib.hid h.lt
  clear hn hn255 h
  go_enter Try.func58, Try.ntmps58
  go_wp2_with fail
  refine HS.out.mono ?_
  rintro e w1 ⟨rfl, ⟨A1, c1, R1⟩, M1⟩
  have hmk := make_ints w1 n hn256
  have O1 := Lib.hid (Own.laid (k := .i64) (T := 3) w1 w1.heap.size (Nat.le_refl _) (List.replicate n 0) n (by simp) (by omega))
  have HR := Lib.hid (R1.alloc (.cells ((List.replicate n 0).map (Value.int .i64)).toArray 3))
  have HM := Lib.hid (M1.alloc (.cells ((List.replicate n 0).map (Value.int .i64)).toArray 3))
  have hlt1 : p < w1.heap.size := R1.lt
  have hws : w.heap.size ≤ w1.heap.size := M1.size
  obtain ⟨cs, hcs⟩ : ∃ cs, cs = ((List.replicate n 0).map (Value.int .i64)).toArray := ⟨_, rfl⟩
  rw [← hcs] at hmk O1 HR HM
  clear R1 M1 HS hcs
  go_wp2_with fail
  obtain ⟨g, hg⟩ : ∃ g, g = w1.heap.size := ⟨_, rfl⟩
  rw [← hg] at O1 hmk hlt1 hws ⊢
  generalize w1.alloc (.cells cs 3) = w2 at *
  clear hg hmk
  go_loopw [12] (fun iv wr => ∃ (k : Nat) (zs : List Int), k ≤ n ∧ iv = .int .i64 (k : Int) ∧ Hid (zs.length = n) ∧ Hid (∀ j, j < k → zs.getD j 0 = val1 bs (i + 1 + 1 * j)) ∧ Hid (Own .i64 3 wr g (.slice (some ⟨g, 0, none⟩) n n) zs) ∧ Hid (∃ A c, Rdr wr p bs (i + 1 + 1 * k) A c) ∧ Hid (Moves p w wr)) (fun iv _ => n - (intOf iv).toNat)
  case atStart => exact ⟨0, List.replicate n 0, by omega, rfl, Lib.hid (by simp), Lib.hid (fun j hj => absurd hj (Nat.not_lt_zero _)), O1, Lib.hid ⟨_, _, HR.out⟩, HM⟩
  case round =>
    clear O1 HR HM
    obtain ⟨k, zs, hk, rfl, L, F, O, R, M⟩ := hrel
    by_cases hlt : k < n
    · obtain ⟨A3, c3, R3⟩ := R.out
      have HC := Lib.hid (HT.out wr k A3 c3 R3)
      have hfz := O.out.frozen L.out.symm k
      have hki : (k : Int) < (n : Int) := by omega
      clear R3
      go_wp2_with fail
      refine HC.out.mono ?_
      rintro e w4 ⟨rfl, ⟨A5, c5, R5⟩, M4⟩
      have O4 := Lib.hid (O.out.moves M4 hlt1)
      have hz4 := O4.out.frozen L.out.symm k
      have hc4 := O4.out.cell L.out.symm k (by rw [L.out]; exact hlt)
      have HR5 := Lib.hid R5
      have HM4 := Lib.hid (M.out.trans M4)
      have HST := Lib.hid (O4.out.store L.out.symm k (val1 bs (i + 1 + 1 * k)))
      replace HST : Hid (Own .i64 3 (w4.setCell ⟨g, k, none⟩ (.int .i64 (bs.getD (i + 1 + 1 * k) 0))) g (.slice (some ⟨g, 0, none⟩) n n) (zs.set k (bs.getD (i + 1 + 1 * k) 0))) := HST
      have HVL := Lib.hid (show val1 bs (i + 1 + 1 * k) = (bs.getD (i + 1 + 1 * k) 0) from rfl)
      clear R5 M4 HC hfz
      generalize (bs.getD (i + 1 + 1 * k) 0) = z at *
      go_wp2_with fail
      go_roundw
      case rel =>
        refine ⟨k + 1, zs.set k z, by omega, by go_num, Lib.hid (by rw [List.length_set]; exact L.out), Lib.hid (fun j hj => ?_), HST, Lib.hid ⟨A5, c5, ?_⟩, Lib.hid (HM4.out.setCell (Or.inr hws) _)⟩
        · rw [getD_set _ _ _ _ (by rw [L.out]; exact hlt)]
          by_cases e : j = k
          · rw [if_pos e, e, HVL.out]
          · rw [if_neg e]; exact F.out j (by omega)
        · have := HR5.out.setO (q := ⟨g, k, none⟩) hlt1 (.int .i64 z)
          rwa [show i + 1 + 1 * k + 1 = i + 1 + 1 * (k + 1) by omega] at this
      case measure => simp [intOf]; omega
    · obtain rfl : k = n := by omega
      go_wp2_with fail
      go_ret
      have e : zs = list1 bs (i + 1) k := same_getD (by rw [L.out, list1_len]) fun t ht => by
        rw [L.out] at ht
        rw [F.out t ht, list1_at ht]
      refine ⟨_, _, _, rfl, ?_, R.out, M.out⟩
      rw [← e]
      exact O.out.base hws
set_option maxHeartbeats 1600000 in
theorem list2_any (p : Nat) (bs : List Int) (i n : Nat) (hn : bs.getD i 0 = (n : Int)) (A : Option Addr) (c : Nat) (w : World) (h : Rdr w p bs i A c) :
    Calls Try.prog 58 #[.pointer (some ⟨p, 0, none⟩), .func (.func 59) #[] #[]] w (LstPost p bs (i + 1 + 2 * n) (list2 bs (i + 1) n) w) := by
  have hn255 := (h.bd.at_ i).2
  rw [hn] at hn255
  have hn256 : n ≤ 1000 := by omega
  have HS := Lib.hid (single_any p bs i A c w h)
  have HT := Lib.hid (fun (W : World) k A' c' (q : Rdr W p bs (i + 1 + 2 * k) A' c') => pair_any p bs (i + 1 + 2 * k) A' c' W q)
  rw [hn] at HS
  have HLT := Lib.hid h.lt
  clear hn hn255 h
  go_enter Try.func58, Try.ntmps58
  go_wp2_with fail
  refine HS.out.mono ?_
  rintro e w1 ⟨rfl, ⟨A1, c1, R1⟩, M1⟩
  have hmk := make_ints w1 n hn256
  have O1 := Lib.hid (Own.laid (k := .i64) (T := 3) w1 w1.heap.size (Nat.le_refl _) (List.replicate n 0) n (by simp) (by omega))
  have HR := Lib.hid (R1.alloc (.cells ((List.replicate n 0).map (Value.int .i64)).toArray 3))
  have HM := Lib.hid (M1.alloc (.cells ((List.replicate n 0).map (Value.int .i64)).toArray 3))
  have hlt1 : p < w1.heap.size := R1.lt
  have hws : w.heap.size ≤ w1.heap.size := M1.size
  obtain ⟨cs, hcs⟩ : ∃ cs, cs = ((List.replicate n 0).map (Value.int .i64)).toArray := ⟨_, rfl⟩
  rw [← hcs] at hmk O1 HR HM
  clear R1 M1 HS hcs
  go_wp2_with fail
  obtain ⟨g, hg⟩ : ∃ g, g = w1.heap.size := ⟨_, rfl⟩
  rw [← hg] at O1 hmk hlt1 hws ⊢
  generalize w1.alloc (.cells cs 3) = w2 at *
  clear hg hmk
  go_loopw [12] (fun iv wr => ∃ (k : Nat) (zs : List Int), k ≤ n ∧ iv = .int .i64 (k : Int) ∧ Hid (zs.length = n) ∧ Hid (∀ j, j < k → zs.getD j 0 = val2 bs (i + 1 + 2 * j)) ∧ Hid (Own .i64 3 wr g (.slice (some ⟨g, 0, none⟩) n n) zs) ∧ Hid (∃ A c, Rdr wr p bs (i + 1 + 2 * k) A c) ∧ Hid (Moves p w wr)) (fun iv _ => n - (intOf iv).toNat)
  case atStart => exact ⟨0, List.replicate n 0, by omega, rfl, Lib.hid (by simp), Lib.hid (fun j hj => absurd hj (Nat.not_lt_zero _)), O1, Lib.hid ⟨_, _, HR.out⟩, HM⟩
  case round =>
    clear O1 HR HM
    obtain ⟨k, zs, hk, rfl, L, F, O, R, M⟩ := hrel
    by_cases hlt : k < n
    · obtain ⟨A3, c3, R3⟩ := R.out
      have HC := Lib.hid (HT.out wr k A3 c3 R3)
      have hfz := O.out.frozen L.out.symm k
      have hki : (k : Int) < (n : Int) := by omega
      clear R3
      go_wp2_with fail
      refine HC.out.mono ?_
      rintro e w4 ⟨rfl, ⟨A5, c5, R5⟩, M4⟩
      have O4 := Lib.hid (O.out.moves M4 hlt1)
      have hz4 := O4.out.frozen L.out.symm k
      have hc4 := O4.out.cell L.out.symm k (by rw [L.out]; exact hlt)
      have HR5 := Lib.hid R5
      have HM4 := Lib.hid (M.out.trans M4)
      have HST := Lib.hid (O4.out.store L.out.symm k (val2 bs (i + 1 + 2 * k)))
      replace HST : Hid (Own .i64 3 (w4.setCell ⟨g, k, none⟩ (.int .i64 (bs.getD (i + 1 + 2 * k) 0 * 256 + bs.getD (i + 1 + 2 * k + 1) 0))) g (.slice (some ⟨g, 0, none⟩) n n) (zs.set k (bs.getD (i + 1 + 2 * k) 0 * 256 + bs.getD (i + 1 + 2 * k + 1) 0))) := HST
      have HVL := Lib.hid (show val2 bs (i + 1 + 2 * k) = (bs.getD (i + 1 + 2 * k) 0 * 256 + bs.getD (i + 1 + 2 * k + 1) 0) from rfl)
      clear R5 M4 HC hfz
      generalize (bs.getD (i + 1 + 2 * k) 0 * 256 + bs.getD (i + 1 + 2 * k + 1) 0) = z at *
      go_wp2_with fail
      go_roundw
      case rel =>
        refine ⟨k + 1, zs.set k z, by omega, by go_num, Lib.hid (by rw [List.length_set]; exact L.out), Lib.hid (fun j hj => ?_), HST, Lib.hid ⟨A5, c5, ?_⟩, Lib.hid (HM4.out.setCell (Or.inr hws) _)⟩
        · rw [getD_set _ _ _ _ (by rw [L.out]; exact hlt)]
          by_cases e : j = k
          · rw [if_pos e, e, HVL.out]
          · rw [if_neg e]; exact F.out j (by omega)
        · have := HR5.out.setO (q := ⟨g, k, none⟩) hlt1 (.int .i64 z)
          rwa [show i + 1 + 2 * k + 2 = i + 1 + 2 * (k + 1) by omega] at this
      case measure => simp [intOf]; omega
    · obtain rfl : k = n := by omega
      go_wp2_with fail
      go_ret
      have e : zs = list2 bs (i + 1) k := same_getD (by rw [L.out, list2_len]) fun t ht => by
        rw [L.out] at ht
        rw [F.out t ht, list2_at ht]
      refine ⟨_, _, _, rfl, ?_, R.out, M.out⟩
      rw [← e]
      exact O.out.base hws
/-- What is read. -/
def nD (bs : List Int) : Nat := (bs.getD 1 0).toNat
def mD (bs : List Int) : Nat := (bs.getD (2 + 2 * nD bs) 0).toNat
def endD (bs : List Int) : Nat := 3 + 2 * nD bs + mD bs
def stD (bs : List Int) : Int := bs.getD 0 0
def vD (bs : List Int) : List Int := list2 bs 2 (nD bs)
def chD (bs : List Int) : List Int := list1 bs (3 + 2 * nD bs) (mD bs)
def decR (bs : List Int) : Int := if bs.length < endD bs then 10 else if endD bs < bs.length then 11 else encE (stD bs) (vD bs) (chD bs)
def stZ (bs : List Int) : Int := if decR bs = 0 then stD bs else 0
def vZ (bs : List Int) : List Int := if decR bs = 0 then vD bs else []
def chZ (bs : List Int) : List Int := if decR bs = 0 then chD bs else []
theorem nD_eq {bs : List Int} (h : BB8 bs) : bs.getD 1 0 = (nD bs : Int) := by have := (h.at_ 1).1; unfold nD; omega
theorem mD_eq {bs : List Int} (h : BB8 bs) : bs.getD (2 + 2 * nD bs) 0 = (mD bs : Int) := by have := (h.at_ (2 + 2 * nD bs)).1; unfold mD; omega
def PrfPost (p : Nat) (bs : List Int) (w : World) (e : Ending) (w' : World) : Prop :=
  ∃ A n c B m d, e = .returned (qv (stD bs) A n c B m d) ∧ Own .i64 3 w' w.heap.size (.slice A n c) (vD bs) ∧ Own .i64 3 w' w.heap.size (.slice B m d) (chD bs) ∧ (∃ A c, Rdr w' p bs (endD bs) A c) ∧ Moves p w w'
theorem Moves.ofB {p K : Nat} {w w' : World} (h : Below K w w') (hK : w.heap.size ≤ K) : Moves p w w' := ⟨h.os, h.tape, h.output, h.size, fun k hk _ => h.block k (Nat.lt_of_lt_of_le hk hK)⟩
set_option maxRecDepth 100000 in
set_option maxHeartbeats 3200000 in
theorem proof_any (p : Nat) (bs : List Int) (A : Option Addr) (c : Nat) (w : World) (h : Rdr w p bs 0 A c) :
    Calls Try.prog 32 #[.pointer (some ⟨p, 0, none⟩)] w (PrfPost p bs w) := by
  have hN := nD_eq h.bd
  have hM := mD_eq h.bd
  have hlt := h.lt
  have HS := Lib.hid (fun (W : World) A' c' (q : Rdr W p bs 0 A' c') => single_any p bs 0 A' c' W q)
  have HL2 := Lib.hid (fun (W : World) A' c' (q : Rdr W p bs (0 + 1) A' c') => list2_any p bs 1 (nD bs) hN A' c' W q)
  have HL1 := Lib.hid (fun (W : World) A' c' (q : Rdr W p bs (1 + 1 + 2 * nD bs) A' c') => list1_any p bs (1 + 1 + 2 * nD bs) (mD bs) hM A' c' W q)
  have HD := Lib.hid (show stD bs = bs.getD 0 0 ∧ vD bs = list2 bs (1 + 1) (nD bs) ∧ chD bs = list1 bs (1 + 1 + 2 * nD bs + 1) (mD bs) ∧ endD bs = 1 + 1 + 2 * nD bs + 1 + 1 * mD bs from ⟨rfl, rfl, by unfold chD; rw [show 1 + 1 + 2 * nD bs + 1 = 3 + 2 * nD bs by omega], by unfold endD; omega⟩)
  have Q0 := QBox.new (w := w) (st := 0) (A := none) (n := 0) (c := 0) (B := none) (m := 0) (d := 0) w.heap.size rfl
  have s1 : (w.alloc (qcells 0 none 0 0 none 0 0)).heap.size = w.heap.size + 1 := by simp
  have Q1 := QBox.new (w := w.alloc (qcells 0 none 0 0 none 0 0)) (st := 0) (A := none) (n := 0) (c := 0) (B := none) (m := 0) (d := 0) (w.heap.size + 1) s1.symm
  have R2 := Lib.hid ((h.alloc (qcells 0 none 0 0 none 0 0)).alloc (qcells 0 none 0 0 none 0 0))
  have Q2 := Lib.hid (Q0.below ((Below.refl _ _).alloc (Nat.le_refl _) (qcells 0 none 0 0 none 0 0)) Q0.lt)
  have Q1 := Lib.hid Q1
  have M2 := Lib.hid (((Moves.refl p w).alloc (qcells 0 none 0 0 none 0 0)).alloc (qcells 0 none 0 0 none 0 0))
  obtain ⟨g, hg⟩ : ∃ g, g = w.heap.size := ⟨_, rfl⟩
  clear hN hM h Q0 s1
  go_enter Try.func32, Try.ntmps32
  go_upto_region 2 with fail
  rw [← hg] at Q1 Q2 hlt ⊢
  generalize (w.alloc (qcells 0 none 0 0 none 0 0)).alloc (qcells 0 none 0 0 none 0 0) = w2 at *
  have HG := Lib.hid hg
  clear hg
  go_wp2_with fail
  refine (HS.out w2 _ _ R2.out).mono ?_
  rintro e w3 ⟨rfl, ⟨A3, c3, R3⟩, M3⟩
  have Q3 := Lib.hid (Q1.out.moves M3 (by omega))
  have P3 := Lib.hid (Q2.out.moves M3 (by omega))
  have hp3 := Q3.out.f 0
  have qc3 := Q3.out.c0
  have QS := Lib.hid (Q3.out.set0 (bs.getD 0 0))
  have PS := Lib.hid (P3.out.below ((Below.refl (g + 1) w3).setCell (p := ⟨g + 1, 0, none⟩) (Nat.le_refl _) (.int .i64 (bs.getD 0 0))) (Nat.lt_succ_self g))
  have RS := Lib.hid (R3.setO (q := ⟨g + 1, 0, none⟩) (show p < g + 1 by omega) (.int .i64 (bs.getD 0 0)))
  have MS := Lib.hid ((M2.out.trans M3).setCell (p := ⟨g + 1, 0, none⟩) (Or.inr (show w.heap.size ≤ g + 1 by have := HG.out; omega)) (.int .i64 (bs.getD 0 0)))
  clear R3 M3 Q3 P3 R2 Q1 Q2 M2 HS
  generalize hst : bs.getD 0 0 = st at *
  have HST := Lib.hid hst
  clear hst
  go_upto_region 3 with fail
  generalize w3.setCell ⟨g + 1, 0, none⟩ (.int .i64 st) = w4 at *
  clear hp3 qc3
  go_wp2_with fail
  refine (HL2.out w4 _ _ RS.out).mono ?_
  rintro e w5 ⟨vA, vn, vc, rfl, OV, ⟨A5, c5, R5⟩, M5⟩
  have Q5 := Lib.hid (QS.out.moves M5 (by omega))
  have P5 := Lib.hid (PS.out.moves M5 (by omega))
  have hp5 := Q5.out.f 1
  have qc5 := Q5.out.c1
  have hov : ∀ q, (Value.slice vA vn vc).ownBlock = some q → g + 1 < q := fun q e => by have := (own_block OV e).1; have := QS.out.lt; omega
  have QT := Lib.hid (Q5.out.set1 vA vn vc)
  have PT := Lib.hid (P5.out.below ((Below.refl (g + 1) w5).setCell (p := ⟨g + 1, 1, none⟩) (Nat.le_refl _) (.slice vA vn vc)) (Nat.lt_succ_self g))
  have RT := Lib.hid (R5.setO (q := ⟨g + 1, 1, none⟩) (show p < g + 1 by omega) (.slice vA vn vc))
  have MT := Lib.hid ((MS.out.trans M5).setCell (p := ⟨g + 1, 1, none⟩) (Or.inr (show w.heap.size ≤ g + 1 by have := HG.out; omega)) (.slice vA vn vc))
  have OT := Lib.hid ((OV.base (show g + 2 ≤ w4.heap.size from QS.out.lt)).setN (p := ⟨g + 1, 1, none⟩) (fun q e => by have := hov q e; show q ≠ g + 1; omega) (.slice vA vn vc))
  clear R5 M5 Q5 P5 RS QS PS MS HL2 OV hov
  go_upto_region 4 with fail
  generalize w5.setCell ⟨g + 1, 1, none⟩ (.slice vA vn vc) = w6 at *
  clear hp5 qc5
  go_wp2_with fail
  refine (HL1.out w6 _ _ RT.out).mono ?_
  rintro e w7 ⟨uA, un, uc, rfl, OU, ⟨A7, c7, R7⟩, M7⟩
  have Q7 := Lib.hid (QT.out.moves M7 (by omega))
  have P7 := Lib.hid (PT.out.moves M7 (by omega))
  have hp7 := Q7.out.f 2
  have qc7 := Q7.out.c2
  have hou : ∀ q, (Value.slice uA un uc).ownBlock = some q → g + 1 < q := fun q e => by have := (own_block OU e).1; have := QT.out.lt; omega
  have QU := Lib.hid (Q7.out.set2 uA un uc)
  have PU := Lib.hid (P7.out.below ((Below.refl (g + 1) w7).setCell (p := ⟨g + 1, 2, none⟩) (Nat.le_refl _) (.slice uA un uc)) (Nat.lt_succ_self g))
  have RU := Lib.hid (R7.setO (q := ⟨g + 1, 2, none⟩) (show p < g + 1 by omega) (.slice uA un uc))
  have MU := Lib.hid ((MT.out.trans M7).setCell (p := ⟨g + 1, 2, none⟩) (Or.inr (show w.heap.size ≤ g + 1 by have := HG.out; omega)) (.slice uA un uc))
  have OVU := Lib.hid ((OT.out.moves M7 (by omega)).setN (p := ⟨g + 1, 2, none⟩) (fun q e => by have := (own_block OT.out e).1; show q ≠ g + 1; omega) (.slice uA un uc))
  have OUU := Lib.hid ((OU.base (show g + 2 ≤ w6.heap.size from QT.out.lt)).setN (p := ⟨g + 1, 2, none⟩) (fun q e => by have := hou q e; show q ≠ g + 1; omega) (.slice uA un uc))
  clear R7 M7 Q7 P7 RT QT PT MT HL1 OU hou OT
  go_upto_region 5 with fail
  generalize w7.setCell ⟨g + 1, 2, none⟩ (.slice uA un uc) = w8 at *
  clear hp7 qc7
  obtain ⟨q0, q1, q2, -, ql⟩ := QU.out
  have hf0 := PU.out.f 0
  have hf1 := PU.out.f 1
  have hf2 := PU.out.f 2
  obtain ⟨p0, p1, p2, -, pl⟩ := PU.out
  go_wp2_with fail
  have PQ := PU.out.put st vA vn vc uA un uc
  refine bodyPost_ret (results_proof1 rfl _ _ g st vA uA vn vc un uc rfl PQ) rfl ?_
  obtain ⟨d1, d2, d3, d4⟩ := HD.out
  have hgw : g = w.heap.size := HG.out
  have nv : ∀ q, (Value.slice vA vn vc).ownBlock = some q → q ≠ g := fun q e => by have := (own_block OVU.out e).1; omega
  have nu : ∀ q, (Value.slice uA un uc).ownBlock = some q → q ≠ g := fun q e => by have := (own_block OUU.out e).1; omega
  refine ⟨vA, vn, vc, uA, un, uc, by rw [d1], ?_, ?_, ⟨A7, c7, ?_⟩, ?_⟩
  · rw [d2]
    exact ((((OVU.out.base (by omega)).setN (p := ⟨g, 0, none⟩) nv _).setN (p := ⟨g, 1, none⟩) nv _).setN (p := ⟨g, 2, none⟩) nv _)
  · rw [d3]
    exact ((((OUU.out.base (by omega)).setN (p := ⟨g, 0, none⟩) nu _).setN (p := ⟨g, 1, none⟩) nu _).setN (p := ⟨g, 2, none⟩) nu _)
  · rw [d4]
    exact ((RU.out.setO (q := ⟨g, 0, none⟩) (by show p < g; omega) _).setO (q := ⟨g, 1, none⟩) (by show p < g; omega) _).setO (q := ⟨g, 2, none⟩) (by show p < g; omega) _
  · exact ((MU.out.setCell (p := ⟨g, 0, none⟩) (Or.inr (by show w.heap.size ≤ g; omega)) _).setCell (p := ⟨g, 1, none⟩) (Or.inr (by show w.heap.size ≤ g; omega)) _).setCell (p := ⟨g, 2, none⟩) (Or.inr (by show w.heap.size ≤ g; omega)) _
def DecPost (bs : List Int) (w : World) (e : Ending) (w' : World) : Prop :=
  ∃ A n c B m d, e = .returned (.tuple #[qv (stZ bs) A n c B m d, .int .i64 (decR bs)]) ∧ Own .i64 3 w' w.heap.size (.slice A n c) (vZ bs) ∧ Own .i64 3 w' w.heap.size (.slice B m d) (chZ bs) ∧ Below w.heap.size w w'
end Go.Proofs.Ytlagadbkencpbaa

namespace Go.Proofs.Ytlagadbkencpbaa
open Go.RowKit Go.Lib

set_option maxRecDepth 100000 in
set_option maxHeartbeats 3200000 in
theorem decode_any (bs : List Int) (A : Option Addr) (n c : Nat) (hn : n = bs.length) (hc : n ≤ c ∧ c ≤ maxLen) (hb : BB8 bs) (w : World) (h : Row .u8 w w.heap.size A bs) :
    Calls Try.prog 11 #[.slice A n c] w (DecPost bs w) := by
  have B1 := (Below.refl w.heap.size w).alloc (Nat.le_refl _) (qcells 0 none 0 0 none 0 0)
  have s1 : (w.alloc (qcells 0 none 0 0 none 0 0)).heap.size = w.heap.size + 1 := by simp
  have b2 := (Below.refl (w.heap.size + 1) (w.alloc (qcells 0 none 0 0 none 0 0))).alloc (Nat.le_of_eq s1.symm) (.cells #[.slice A n c, .bool false] 68)
  have Q2 := Lib.hid ((QBox.new (w := w) (st := 0) (A := none) (n := 0) (c := 0) (B := none) (m := 0) (d := 0) w.heap.size rfl).below b2 (Nat.lt_succ_self _))
  have HB2 := Lib.hid (B1.trans (b2.mono (Nat.le_succ _)))
  have R2 : Hid (Rdr ((w.alloc (qcells 0 none 0 0 none 0 0)).alloc (.cells #[.slice A n c, .bool false] 68)) (w.heap.size + 1) bs 0 A c) := Lib.hid (by
    rw [← s1]
    refine ⟨by rw [cell_new, hn]; rfl, by rw [cell_new, decide_eq_false (by omega)]; rfl, frozen_new _ _ _ _ _ rfl, frozen_new _ _ _ _ _ rfl, by simp, ?_, hb, by omega, hc.2⟩
    rw [List.drop_zero, s1]
    have HX := B1.trans (b2.mono (Nat.le_succ _))
    intro j hj
    obtain ⟨ad, e, hl, hv⟩ := h j hj
    exact ⟨ad, e, Nat.lt_succ_of_lt hl, (HX.cell (p := ad.add j) (by rw [add_block]; exact hl)).trans hv⟩)
  obtain ⟨g, hg⟩ : ∃ g, g = w.heap.size := ⟨_, rfl⟩
  have HDR := Lib.hid (show decR bs = if bs.length < endD bs then 10 else if endD bs < bs.length then 11 else encE (stD bs) (vD bs) (chD bs) from rfl)
  have HZ := Lib.hid (fun (q : decR bs ≠ 0) => show stZ bs = 0 ∧ vZ bs = [] ∧ chZ bs = [] from ⟨if_neg q, if_neg q, if_neg q⟩)
  have HO := Lib.hid (fun (q : decR bs = 0) => show stZ bs = stD bs ∧ vZ bs = vD bs ∧ chZ bs = chD bs from ⟨if_pos q, if_pos q, if_pos q⟩)
  have FZ := Lib.hid (fun (er : Int) (W : World) (h0 : decR bs = er) (he : er ≠ 0) (k : Below w.heap.size w W) => show DecPost bs w (.returned (.tuple #[qv 0 none 0 0 none 0 0, .int .i64 er])) (((W.setCell ⟨w.heap.size, 0, none⟩ (.int .i64 0)).setCell ⟨w.heap.size, 1, none⟩ (.slice none 0 0)).setCell ⟨w.heap.size, 2, none⟩ (.slice none 0 0)) from by
    obtain ⟨z1, z2, z3⟩ := HZ.out (by rw [h0]; exact he)
    refine ⟨none, 0, 0, none, 0, 0, by rw [z1, h0], by rw [z2]; exact Own.nil, by rw [z3]; exact Own.nil, ?_⟩
    exact ((k.setCell (p := ⟨w.heap.size, 0, none⟩) (Nat.le_refl _) _).setCell (p := ⟨w.heap.size, 1, none⟩) (Nat.le_refl _) _).setCell (p := ⟨w.heap.size, 2, none⟩) (Nat.le_refl _) _)
  clear hn hc hb h B1 b2 s1
  go_enter Try.func11, Try.ntmps11
  go_upto_region 2 with fail
  rw [← hg] at Q2 R2 FZ ⊢
  generalize (w.alloc (qcells 0 none 0 0 none 0 0)).alloc (.cells #[.slice A n c, .bool false] 68) = w2 at *
  have HG := Lib.hid hg
  clear hg
  go_wp2_with fail
  refine (proof_any (g + 1) bs A c w2 R2.out).mono ?_
  rintro e w3 ⟨vA, vn, vc, uA, un, uc, rfl, OV, OU, ⟨A3, c3, R3⟩, M3⟩
  have hg1 : g + 1 < w2.heap.size := R2.out.lt
  have BX := (Below.refl w3.heap.size w3).alloc (Nat.le_refl _) (qcells (stD bs) vA vn vc uA un uc)
  have Q4 := Lib.hid ((Q2.out.moves M3 (by omega)).below BX (Q2.out.moves M3 (by omega)).lt)
  have R4 := Lib.hid (R3.alloc (qcells (stD bs) vA vn vc uA un uc))
  have OV4 := Lib.hid (OV.below BX)
  have OU4 := Lib.hid (OU.below BX)
  have P4 := Lib.hid (QBox.new (w := w3) (st := stD bs) (A := vA) (n := vn) (c := vc) (B := uA) (m := un) (d := uc) w3.heap.size rfl)
  have HB4 := Lib.hid ((Moves.below HB2.out M3 (by have := HG.out; omega) HB2.out.size).alloc (by have := HB2.out.size; have := M3.size; omega) (qcells (stD bs) vA vn vc uA un uc))
  have hsz : w2.heap.size ≤ w3.heap.size := M3.size
  clear R3 M3 BX Q2 R2 HB2 OV OU
  go_upto_region 3 with fail
  obtain ⟨g5, hg5⟩ : ∃ g, g = w3.heap.size := ⟨_, rfl⟩
  rw [← hg5] at P4 hsz ⊢
  generalize w3.alloc (qcells (stD bs) vA vn vc uA un uc) = w4 at *
  clear hg5
  obtain ⟨r0, r1, -, -, rl, -, -, -⟩ := R4.out
  obtain ⟨q0, q1, q2, qf, ql⟩ := Q4.out
  have f0 := qf 0
  have f1 := qf 1
  have f2 := qf 2
  clear qf
  have PP := Lib.hid (Q4.out.put)
  by_cases h1 : bs.length < endD bs
  · have HE := Lib.hid (show decR bs = 10 by rw [HDR.out, if_pos h1])
    rw [decide_eq_true h1] at r1
    clear h1
    go_wp2_with fail
    refine bodyPost_ret (results_proof rfl _ _ g 0 10 none none 0 0 0 0 rfl rfl (PP.out 0 none 0 0 none 0 0)) rfl ?_
    have := FZ.out 10 w4 HE.out (by decide) (by rw [HG.out]; exact HB4.out)
    exact this
  · rw [decide_eq_false h1] at r1
    by_cases h2 : endD bs < bs.length
    · have HE := Lib.hid (show decR bs = 11 by rw [HDR.out, if_neg h1, if_pos h2])
      have hpos : (0 : Int) < ((bs.length - endD bs : Nat) : Int) := by omega
      generalize bs.length - endD bs = D at *
      clear h1 h2
      go_wp2_with fail
      refine bodyPost_ret (results_proof rfl _ _ g 0 11 none none 0 0 0 0 rfl rfl (PP.out 0 none 0 0 none 0 0)) rfl ?_
      have := FZ.out 11 w4 HE.out (by decide) (by rw [HG.out]; exact HB4.out)
      exact this
    · have HE := Lib.hid (show decR bs = encE (stD bs) (vD bs) (chD bs) by rw [HDR.out, if_neg h1, if_neg h2])
      have hpos : ¬ (0 : Int) < ((bs.length - endD bs : Nat) : Int) := by omega
      obtain ⟨vA', vc', ev, VR, -, hvm, -⟩ := OV4.out.slice
      have hvn : vn = (vD bs).length := by injection ev
      have hVA : vA = vA' := by injection ev
      subst hVA
      obtain ⟨uA', uc', eu, UR, -, hum, -⟩ := OU4.out.slice
      have hun : un = (chD bs).length := by injection eu
      have hUA : uA = uA' := by injection eu
      subst hUA
      have HEN := Lib.hid (encodable_any (stD bs) (vD bs) (chD bs) vA uA vn vc un uc hvn hun hvm hum w4 VR UR)
      generalize bs.length - endD bs = D at *
      clear h1 h2 ev eu VR UR hvm hum vc' uc' hvn hun
      obtain ⟨p0, p1, p2, -, pl⟩ := P4.out
      generalize hst : stD bs = st at *
      have HST := Lib.hid hst
      clear hst
      go_wp2_with fail
      refine HEN.out.mono ?_
      rintro e w5 ⟨rfl, B5⟩
      have Q5 := Lib.hid (Q4.out.below B5 Q4.out.lt)
      have P5 := Lib.hid (P4.out.below B5 P4.out.lt)
      have HB5 := Lib.hid (HB4.out.trans (B5.mono HB4.out.size))
      have OV5 := Lib.hid (OV4.out.below B5)
      have OU5 := Lib.hid (OU4.out.below B5)
      have PP5 := Lib.hid (Q5.out.put)
      clear q0 q1 q2 ql f0 f1 f2 p0 p1 p2 pl r0 r1 rl Q4 P4 HB4 B5 HEN PP OV4 OU4 R4
      obtain ⟨q0, q1, q2, qf, ql⟩ := Q5.out
      have f0 := qf 0
      have f1 := qf 1
      have f2 := qf 2
      clear qf
      obtain ⟨p0, p1, p2, -, pl⟩ := P5.out
      rw [← HE.out]
      by_cases he : decR bs = 0
      · obtain ⟨o1, o2, o3⟩ := HO.out he
        have HF := Lib.hid he
        have HO1 := Lib.hid o1
        have HO2 := Lib.hid o2
        have HO3 := Lib.hid o3
        rw [he]
        clear he o1 o2 o3 HO HZ HDR FZ
        go_wp2_with fail
        refine bodyPost_ret (results_proof rfl _ _ g st 0 vA uA vn vc un uc rfl rfl (PP5.out st vA vn vc uA un uc)) rfl ?_
        have hgw := HG.out
        have nv : ∀ q, (Value.slice vA vn vc).ownBlock = some q → q ≠ g := fun q e => by have := (own_block OV5.out e).1; omega
        have nu : ∀ q, (Value.slice uA un uc).ownBlock = some q → q ≠ g := fun q e => by have := (own_block OU5.out e).1; omega
        refine ⟨vA, vn, vc, uA, un, uc, by rw [HF.out, HO1.out], ?_, ?_, ?_⟩
        · rw [HO2.out]
          exact ((((OV5.out.base (by omega)).setN (p := ⟨g, 0, none⟩) nv _).setN (p := ⟨g, 1, none⟩) nv _).setN (p := ⟨g, 2, none⟩) nv _)
        · rw [HO3.out]
          exact ((((OU5.out.base (by omega)).setN (p := ⟨g, 0, none⟩) nu _).setN (p := ⟨g, 1, none⟩) nu _).setN (p := ⟨g, 2, none⟩) nu _)
        · exact ((HB5.out.setCell (p := ⟨g, 0, none⟩) (by show w.heap.size ≤ g; omega) _).setCell (p := ⟨g, 1, none⟩) (by show w.heap.size ≤ g; omega) _).setCell (p := ⟨g, 2, none⟩) (by show w.heap.size ≤ g; omega) _
      · have hne : (decR bs != 0) = true := bne_iff_ne.2 he
        have HF := Lib.hid he
        generalize hdr : decR bs = er at *
        have HRE := Lib.hid hdr
        clear hdr he
        go_wp2_with fail
        refine bodyPost_ret (results_proof rfl _ _ g 0 er none none 0 0 0 0 rfl rfl (PP5.out 0 none 0 0 none 0 0)) rfl ?_
        have := FZ.out er w5 rfl HF.out (by rw [HG.out]; exact HB5.out)
        exact this
end Go.Proofs.Ytlagadbkencpbaa

namespace Go.Proofs.Ytlagadbkencpbaa
open Go.RowKit Go.Lib

theorem okB_no {p : It} (h : ¬ okI p) : Value.bool true = Value.bool (!decide (okI p)) := by rw [decide_eq_false h]; rfl
theorem okB_yes {p : It} (h : okI p) : Value.bool false = Value.bool (!decide (okI p)) := by rw [decide_eq_true h]; rfl
/-- The round ahead of item k. -/
def befR (l : List It) : Nat → Int
  | 0 => 0
  | k + 1 => (l.getD k it0).2.2.1
set_option maxRecDepth 100000 in
set_option maxHeartbeats 3200000 in
theorem rvalid_any (l : List It) (A : Option Addr) (c : Nat) (wt : Int) (w : World) (h : IRow w A l) :
    Calls Try.prog 62 #[jv A l.length c wt] w fun e w' => e = .returned (.int .i64 (validR l wt)) ∧ Below w.heap.size w w' := by
  have hl : l.length ≤ 9223372036854775807 := h.len
  have H := Lib.hid h
  obtain ⟨L, hL⟩ : ∃ n, n = l.length := ⟨_, rfl⟩
  have HL := Lib.hid hL
  have HV := Lib.hid (show validR l wt = if 96 < L then 3 else if btw wt 0 12 = true then vwI 0 l else 2 by rw [hL]; rfl)
  rw [← hL] at hl ⊢
  have B0 := Lib.hid ((Below.refl w.heap.size w).alloc (Nat.le_refl _) (.cells #[.slice A L c, .int .i64 wt] 39))
  have J0 := Lib.hid (JBox.new (w := w) (A := A) (n := L) (c := c) (wt := wt) w.heap.size rfl)
  obtain ⟨b, hb⟩ : ∃ b, b = w.heap.size := ⟨_, rfl⟩
  have HB := Lib.hid hb
  clear h hL
  go_enter Try.func62, Try.ntmps62
  go_upto_region 1 with fail
  rw [← hb] at J0 ⊢
  generalize w.alloc (.cells #[.slice A L c, .int .i64 wt] 39) = w1 at *
  obtain ⟨j0, j1, jl⟩ := J0.out
  clear hb
  by_cases hbig : 96 < L
  · have HP := Lib.hid (show validR l wt = 3 by rw [HV.out, if_pos hbig])
    have hb : (96 : Int) < (L : Int) := by omega
    clear HV
    go_wp2_with fail
    go_ret
    exact ⟨ret_int HP.out.symm, B0.out⟩
  · have hb : ¬ (96 : Int) < (L : Int) := by omega
    by_cases hw1 : wt < 0
    · have HP := Lib.hid (show validR l wt = 2 by rw [HV.out, if_neg hbig, if_neg (fun g => by have := (btw_iff.1 g).1; omega)])
      clear HV
      go_wp2_with fail
      go_ret
      exact ⟨ret_int HP.out.symm, B0.out⟩
    · by_cases hw2 : 12 < wt
      · have HP := Lib.hid (show validR l wt = 2 by rw [HV.out, if_neg hbig, if_neg (fun g => by have := (btw_iff.1 g).2; omega)])
        clear HV
        go_wp2_with fail
        go_ret
        exact ⟨ret_int HP.out.symm, B0.out⟩
      · have HP := Lib.hid (show validR l wt = vwI 0 l by rw [HV.out, if_neg hbig, if_pos (btw_iff.2 ⟨by omega, by omega⟩)])
        have HJ := Lib.hid (show ∀ W, Below w1.heap.size w1 W → JBox W b A L c wt from fun W k => J0.out.below k J0.out.lt)
        clear HV
        go_wp2_with fail
        clear j0 j1 jl hb hw1 hw2
        go_loopw [3] (fun i wr => ∃ k : Nat, k ≤ L ∧ i = .int .i64 k ∧ Hid (vwI 0 l = vwI (befR l k) (l.drop k)) ∧ Hid (Below w1.heap.size w1 wr)) (fun i _ => L - (intOf i).toNat)
        case atStart => exact ⟨0, by omega, rfl, Lib.hid rfl, Lib.hid (Below.refl _ _)⟩
        case round =>
          obtain ⟨k, hk, rfl, V, B⟩ := hrel
          have BW := Lib.hid (B0.out.trans (B.out.mono B0.out.size))
          obtain ⟨j0, j1, jl⟩ := HJ.out _ B.out
          by_cases hlt : k < L
          · obtain ⟨ad, rfl, C⟩ := (H.out.below BW.out).at_ k (by rw [← HL.out]; exact hlt)
            have hd := drop_at (l := l) (k := k) (by rw [← HL.out]; exact hlt)
            have hbn : befR l (k + 1) = (l.getD k it0).2.2.1 := rfl
            obtain ⟨⟨t, bb, n, g⟩, hp⟩ : ∃ p, p = l.getD k it0 := ⟨_, rfl⟩
            rw [← hp] at C hd hbn
            have hv := V.out
            rw [hd] at hv
            have HV := Lib.hid hv
            have HBN := Lib.hid hbn
            obtain ⟨c0, c1, c2, c3⟩ := C.spelt
            have hlt' : (k : Int) < (L : Int) := by omega
            have P1 := (IPl.new (w := wr) (p := (t, bb, n, g)) (T := 85) wr.heap.size rfl)
            have B1 := Lib.hid (B.out.alloc B.out.size (.cells #[.int .i64 t, .int .i64 bb, .int .i64 n, .int .i64 g] 85))
            have BW1 := Lib.hid (B0.out.trans (B1.out.mono B0.out.size))
            clear C hp hd hv hbn V
            go_upto_region 9 with fail
            clear c0 c1 c2 c3 j0 j1 jl
            obtain ⟨q, hq⟩ : ∃ q, q = wr.heap.size := ⟨_, rfl⟩
            rw [← hq] at P1 ⊢
            generalize wr.alloc (.cells #[.int .i64 t, .int .i64 bb, .int .i64 n, .int .i64 g] 85) = W1 at *
            obtain ⟨p0, p1, p2, p3, plt⟩ := P1
            clear hq
            go_cut [66] (fun v wx => v = .bool (!decide (okI (t, bb, n, g))) ∧ wx = W1)
            case first =>
              by_cases q1 : t < 0
              · have HO := Lib.hid (okB_no (show ¬ okI (t, bb, n, g) from fun hh => by have hh2 : (0 ≤ t ∧ t ≤ 15) ∧ (0 ≤ bb ∧ bb ≤ 31) ∧ (0 ≤ n ∧ n ≤ 12) ∧ (1 ≤ g ∧ g ≤ 400) := hh; omega))
                go_wp2_with fail
                go_meet
                case rel => exact ⟨HO.out, rfl⟩
              · by_cases q2 : 16 ≤ t
                · have HO := Lib.hid (okB_no (show ¬ okI (t, bb, n, g) from fun hh => by have hh2 : (0 ≤ t ∧ t ≤ 15) ∧ (0 ≤ bb ∧ bb ≤ 31) ∧ (0 ≤ n ∧ n ≤ 12) ∧ (1 ≤ g ∧ g ≤ 400) := hh; omega))
                  go_wp2_with fail
                  go_meet
                  case rel => exact ⟨HO.out, rfl⟩
                · by_cases q3 : bb < 0
                  · have HO := Lib.hid (okB_no (show ¬ okI (t, bb, n, g) from fun hh => by have hh2 : (0 ≤ t ∧ t ≤ 15) ∧ (0 ≤ bb ∧ bb ≤ 31) ∧ (0 ≤ n ∧ n ≤ 12) ∧ (1 ≤ g ∧ g ≤ 400) := hh; omega))
                    go_wp2_with fail
                    go_meet
                    case rel => exact ⟨HO.out, rfl⟩
                  · by_cases q4 : 32 ≤ bb
                    · have HO := Lib.hid (okB_no (show ¬ okI (t, bb, n, g) from fun hh => by have hh2 : (0 ≤ t ∧ t ≤ 15) ∧ (0 ≤ bb ∧ bb ≤ 31) ∧ (0 ≤ n ∧ n ≤ 12) ∧ (1 ≤ g ∧ g ≤ 400) := hh; omega))
                      go_wp2_with fail
                      go_meet
                      case rel => exact ⟨HO.out, rfl⟩
                    · by_cases q5 : n < 0
                      · have HO := Lib.hid (okB_no (show ¬ okI (t, bb, n, g) from fun hh => by have hh2 : (0 ≤ t ∧ t ≤ 15) ∧ (0 ≤ bb ∧ bb ≤ 31) ∧ (0 ≤ n ∧ n ≤ 12) ∧ (1 ≤ g ∧ g ≤ 400) := hh; omega))
                        go_wp2_with fail
                        go_meet
                        case rel => exact ⟨HO.out, rfl⟩
                      · by_cases q6 : 13 ≤ n
                        · have HO := Lib.hid (okB_no (show ¬ okI (t, bb, n, g) from fun hh => by have hh2 : (0 ≤ t ∧ t ≤ 15) ∧ (0 ≤ bb ∧ bb ≤ 31) ∧ (0 ≤ n ∧ n ≤ 12) ∧ (1 ≤ g ∧ g ≤ 400) := hh; omega))
                          go_wp2_with fail
                          go_meet
                          case rel => exact ⟨HO.out, rfl⟩
                        · by_cases q7 : g < 1
                          · have HO := Lib.hid (okB_no (show ¬ okI (t, bb, n, g) from fun hh => by have hh2 : (0 ≤ t ∧ t ≤ 15) ∧ (0 ≤ bb ∧ bb ≤ 31) ∧ (0 ≤ n ∧ n ≤ 12) ∧ (1 ≤ g ∧ g ≤ 400) := hh; omega))
                            go_wp2_with fail
                            go_meet
                            case rel => exact ⟨HO.out, rfl⟩
                          · by_cases q8 : 400 < g
                            · have HO := Lib.hid (okB_no (show ¬ okI (t, bb, n, g) from fun hh => by have hh2 : (0 ≤ t ∧ t ≤ 15) ∧ (0 ≤ bb ∧ bb ≤ 31) ∧ (0 ≤ n ∧ n ≤ 12) ∧ (1 ≤ g ∧ g ≤ 400) := hh; omega))
                              go_wp2_with fail
                              go_meet
                              case rel => exact ⟨HO.out, rfl⟩
                            · have HO := Lib.hid (okB_yes (show okI (t, bb, n, g) from (show (0 ≤ t ∧ t ≤ 15) ∧ (0 ≤ bb ∧ bb ≤ 31) ∧ (0 ≤ n ∧ n ≤ 12) ∧ (1 ≤ g ∧ g ≤ 400) by omega)))
                              go_wp2_with fail
                              go_meet
                              case rel => exact ⟨HO.out, rfl⟩
            case rest =>
              obtain ⟨rfl, hwc⟩ := hcut
              rw [hwc]
              clear hwc
              by_cases ho : okI (t, bb, n, g)
              · rw [decide_eq_true ho]
                have HO := Lib.hid ho
                clear ho
                cases k with
                | zero =>
                  have HV2 := Lib.hid (HV.out.trans (vwI_ok HO.out (by have h0 : 0 ≤ n := HO.out.2.2.1.1; show ¬ n < 0; omega)))
                  go_wp2_with fail
                  go_quiet (fail)
                  go_wp2_with fail
                  go_roundw
                  case rel => exact ⟨1, by omega, rfl, Lib.hid (by rw [HBN.out]; exact HV2.out), Lib.hid (bdn B1.out)⟩
                  case measure => simp [intOf]; omega
                | succ m =>
                  obtain ⟨ad', e', C'⟩ := (H.out.below BW1.out).at_ m (by rw [← HL.out]; omega)
                  obtain rfl : ad = ad' := by injection e'
                  have hbm : befR l (m + 1) = (l.getD m it0).2.2.1 := rfl
                  obtain ⟨⟨t', bb', r, g'⟩, hp⟩ : ∃ p, p = l.getD m it0 := ⟨_, rfl⟩
                  rw [← hp] at C' hbm
                  obtain ⟨g0, g1, g2, g3⟩ := C'.spelt
                  have HBM := Lib.hid hbm
                  obtain ⟨j0, j1, jl⟩ := HJ.out _ B1.out
                  have hm1 : (m : Int) < (L : Int) := by omega
                  have hm0 : (0 : Int) ≤ (m : Int) := by omega
                  have hmg : (0 : Int) < (m : Int) + 1 := by omega
                  clear e' hp hbm C'
                  simp only at g2
                  go_wp2_with fail
                  go_quiet (fail)
                  clear p0 p1 p2 p3 g0 g1 g2 g3 j0 j1 jl
                  have hv := HV.out
                  rw [HBM.out] at hv
                  by_cases hlt2 : n < r
                  · have HV2 := Lib.hid (hv.trans (vwI_less HO.out hlt2))
                    clear hv
                    go_wp2_with fail
                    go_ret
                    exact ⟨ret_int (HP.out.trans HV2.out).symm, bdn BW1.out⟩
                  · have HV2 := Lib.hid (hv.trans (vwI_ok HO.out hlt2))
                    clear hv
                    go_wp2_with fail
                    go_roundw
                    case rel => exact ⟨m + 2, by omega, by go_num, Lib.hid (by rw [HBN.out]; exact HV2.out), Lib.hid (bdn B1.out)⟩
                    case measure => simp [intOf]; omega
              · have HV2 := Lib.hid (HV.out.trans (vwI_bad ho))
                rw [decide_eq_false ho]
                clear ho
                go_wp2_with fail
                go_ret
                exact ⟨ret_int (HP.out.trans HV2.out).symm, BW1.out⟩
          · obtain rfl : k = L := by omega
            have hv := V.out
            rw [HL.out, List.drop_length] at hv
            have HV2 := Lib.hid hv
            clear hv hlt hk V
            go_wp2_with fail
            go_ret
            exact ⟨ret_int (HP.out.trans HV2.out).symm, BW.out⟩
end Go.Proofs.Ytlagadbkencpbaa

namespace Go.Proofs.Ytlagadbkencpbaa
open Go.RowKit Go.Lib

/-- Two lists of the call's own lie apart. -/
def Apt (u v : Value) : Prop := ∀ g, u.ownBlock = some g → v.ownBlock ≠ some g
theorem Apt.symm {u v : Value} (h : Apt u v) : Apt v u := fun g h1 h2 => h g h2 h1
/-- What is known while the items of one train are gathered. -/
structure TSt (w5 wr : World) (bp base : Nat) (Ap : Option Addr) (cp : Nat) (wt : Int) (ps : List It) (vw : Value) (zs : List Int) : Prop where
  box : JBox wr bp Ap ps.length cp wt
  fz : ∀ j, wr.frozen? ⟨bp, j, none⟩ = false
  its : IOwn 85 wr base (.slice Ap ps.length cp) ps
  wan : Own .i64 3 wr base vw zs
  apt : Apt (.slice Ap ps.length cp) vw
  bel : Below bp w5 wr
  lt : bp < base
  le : base ≤ wr.heap.size
theorem TSt.below {w5 wr wr' : World} {bp base cp : Nat} {Ap : Option Addr} {wt : Int} {ps : List It} {vw : Value} {zs : List Int} (h : TSt w5 wr bp base Ap cp wt ps vw zs) (k : Below wr.heap.size wr wr') : TSt w5 wr' bp base Ap cp wt ps vw zs :=
  ⟨h.box.below k h.box.lt, fun j => (k.frozen (p := ⟨bp, j, none⟩) h.box.lt).trans (h.fz j), h.its.below k, h.wan.below k, h.apt, h.bel.trans (k.mono (Nat.le_of_lt h.box.lt)), h.lt, Nat.le_trans h.le k.size⟩
theorem TSt.app {w5 W w' : World} {bp base cp g cap : Nat} {Ap : Option Addr} {wt : Int} {ps : List It} {vw : Value} {zs : List Int} {p : It} (h : TSt w5 W bp base Ap cp wt ps vw zs)
    (ho : IOwn 85 w' base (.slice (some ⟨g, 0, none⟩) (ps ++ [p]).length cap) (ps ++ [p])) (hg : W.grownBy w' (Value.slice Ap ps.length cp).ownBlock) (hat : (Value.slice Ap ps.length cp).ownBlock = some g ∨ g = W.heap.size) :
    TSt w5 (w'.setCell ⟨bp, 0, none⟩ (.slice (some ⟨g, 0, none⟩) (ps ++ [p]).length cap)) bp base (some ⟨g, 0, none⟩) cap wt (ps ++ [p]) vw zs ∧ (∃ u, w'.cell? ⟨bp, 0, none⟩ = some u) ∧ w'.frozen? ⟨bp, 0, none⟩ = false := by
  have hne : ∀ k, (Value.slice Ap ps.length cp).ownBlock = some k → bp < k := fun k hk => by have := (h.its.block hk).1; have := h.lt; omega
  have hbp : (Value.slice Ap ps.length cp).ownBlock ≠ some bp := fun e => by have := hne bp e; omega
  have hgb : bp < g := by
    rcases hat with e | e
    · exact hne g e
    · have := h.le; have := h.lt; omega
  have hblk : w'.heap[bp]? = W.heap[bp]? := hg.block bp h.box.lt (fun e => hbp e.symm)
  have c0 : w'.cell? ⟨bp, 0, none⟩ = some (.slice Ap ps.length cp) := (World.cell?_of_block (w := W) hblk).trans h.box.c0
  have c1 : w'.cell? ⟨bp, 1, none⟩ = some (.int .i64 wt) := (World.cell?_of_block (w := W) hblk).trans h.box.c1
  have f : ∀ j, w'.frozen? ⟨bp, j, none⟩ = false := fun j => (World.frozen?_of_block (w := W) hblk).trans (h.fz j)
  have gs : w'.grownBy (w'.setCell ⟨bp, 0, none⟩ (.slice (some ⟨g, 0, none⟩) (ps ++ [p]).length cap)) (some bp) :=
    ⟨rfl, rfl, rfl, by rw [World.size_setCell]; exact Nat.le_refl _, fun k hk hn => Below.heap_setCell _ _ _ _ (fun e => hn (by first | exact congrArg some e | exact congrArg some e.symm))⟩
  have hvne : ∀ k, vw.ownBlock = some k → base ≤ k ∧ k < W.heap.size := fun k hk => own_block h.wan hk
  have wan1 : Own .i64 3 w' base vw zs := h.wan.kept hg (by
    cases hv : vw.ownBlock with
    | none => exact Or.inl rfl
    | some k => exact Or.inr (fun e => h.apt k e.symm hv))
  refine ⟨⟨⟨World.cell?_setCell_same _ _ _ c0, (World.cell?_setCell_other _ _ _ _ (by simp)).trans c1, by rw [World.size_setCell]; exact Nat.lt_of_lt_of_le h.box.lt hg.size⟩, fun j => by rw [World.frozen?_setCell]; exact f j, ?_, ?_, ?_, ?_, h.lt, by rw [World.size_setCell]; exact Nat.le_trans h.le hg.size⟩, ⟨_, c0⟩, f 0⟩
  · exact ho.kept gs (Or.inr (fun e => by have : g = bp := by simpa [Value.ownBlock] using e
                                          omega))
  · refine wan1.kept gs ?_
    cases hv : vw.ownBlock with
    | none => exact Or.inl rfl
    | some k => exact Or.inr (fun e => by have := (hvne k hv).1; have := h.lt; have : k = bp := by simpa using e
                                          omega)
  · intro k hk hv
    have e : g = k := by simpa [Value.ownBlock] using hk
    subst e
    rcases hat with e | e
    · exact h.apt g e hv
    · have := (hvne g hv).2; omega
  · exact ((h.bel.grown hg (Nat.le_of_lt h.box.lt) (fun k hk => Nat.le_of_lt (hne k hk))).setCell (p := ⟨bp, 0, none⟩) (Nat.le_refl bp) _)
theorem TSt.want {w5 W w' : World} {bp base cp : Nat} {Ap : Option Addr} {wt : Int} {ps : List It} {vw v' : Value} {zs : List Int} {y : Int} (h : TSt w5 W bp base Ap cp wt ps vw zs) (A : AppI base vw zs y W v' w') :
    TSt w5 w' bp base Ap cp wt ps v' (zs ++ [y]) := by
  obtain ⟨O, hg, g, c, rfl, hlt, hat⟩ := A
  have hvb : ∀ k, vw.ownBlock = some k → base ≤ k := fun k hk => (own_block h.wan hk).1
  have hblk : w'.heap[bp]? = W.heap[bp]? := hg.block bp h.box.lt (fun e => by have := hvb bp e.symm; have := h.lt; omega)
  refine ⟨⟨(World.cell?_of_block (w := W) hblk).trans h.box.c0, (World.cell?_of_block (w := W) hblk).trans h.box.c1, Nat.lt_of_lt_of_le h.box.lt hg.size⟩, fun j => (World.frozen?_of_block (w := W) hblk).trans (h.fz j), h.its.kept hg ?_, O, ?_, h.bel.grown hg (Nat.le_of_lt h.box.lt) (fun k hk => by have := hvb k hk; have := h.lt; omega), h.lt, Nat.le_trans h.le hg.size⟩
  · cases hv : (Value.slice Ap ps.length cp).ownBlock with
    | none => exact Or.inl rfl
    | some k => exact Or.inr (fun e => h.apt k hv e.symm)
  · intro k hk hv
    have e : g = k := by simpa [Value.ownBlock] using hv
    subst e
    rcases hat with e | e
    · exact h.apt g hk e
    · have := (h.its.block hk).2; omega
end Go.Proofs.Ytlagadbkencpbaa

namespace Go.Proofs.Ytlagadbkencpbaa
open Go.RowKit Go.Lib

/-- Block b is the set bs. -/
def BSet (w : World) (b : Nat) (bs : List Bool) : Prop := w.heap[b]? = some (.cells (bs.map Value.bool).toArray 4 (0, 0))
theorem BSet.lt {w : World} {b : Nat} {bs : List Bool} (h : BSet w b bs) : b < w.heap.size := (Array.getElem?_eq_some_iff.1 h).1
theorem BSet.below {w w' : World} {b B : Nat} {bs : List Bool} (h : BSet w b bs) (k : Below B w w') (hb : b < B) : BSet w' b bs := (k.block b hb).trans h
theorem BSet.drewN {w : World} {b : Nat} {bs : List Bool} (h : BSet w b bs) (n : Nat) : BSet (w.drewN n) b bs := h
theorem BSet.cell {w : World} {b : Nat} {bs : List Bool} (h : BSet w b bs) (j : Nat) (hj : j < bs.length) : w.cell? ⟨b, j, none⟩ = some (.bool (bs.getD j false)) := by
  unfold World.cell?
  rw [h]
  simp [hj]
theorem BSet.frozen {w : World} {b : Nat} {bs : List Bool} (h : BSet w b bs) (j : Nat) : w.frozen? ⟨b, j, none⟩ = false := frozen_of_row w b j _ 4 h
theorem BSet.set {w : World} {b : Nat} {bs : List Bool} (h : BSet w b bs) (j : Nat) (x : Bool) : BSet (w.setCell ⟨b, j, none⟩ (.bool x)) b (bs.set j x) := by
  have := heap_setCell_same w b j _ 4 (.bool x) h
  unfold BSet
  rw [this]
  simp
theorem BSet.new (w : World) (bs : List Bool) (b : Nat) (hb : b = w.heap.size) : BSet (w.alloc (.cells (bs.map Value.bool).toArray 4)) b bs := by subst hb; exact heap_alloc_new w _
theorem infoBool : (Try.prog.info? 4).map (fun i => (i.zero, i.size, i.bytes)) = some (some (.bool false), 1, 1) := by kernel_rfl
theorem make_bools (w : World) (X : Nat) (hX : X ≤ 1000) : (Instr.makeSlice 91 (.int .i64 (X : Int)) (.int .i64 (X : Int))).run Try.prog w = .ok (.slice (some ⟨w.heap.size, 0, none⟩) X X) (w.alloc (.cells ((List.replicate X false).map Value.bool).toArray 4)) := by
  obtain ⟨i0, hi, hz0, hz1, hz2⟩ := info_parts infoBool
  have h := run_make (P := Try.prog) w 91 4 i0 (.bool false) Try.underlying91 hi hz0 .i64 .i64 (X : Int) (X : Int) (by omega) (Int.le_refl _) (by rw [hz2]; omega) (by omega)
  rw [hz1, Int.toNat_natCast] at h
  have e : madeCells (Value.bool false).cells (X * 1) = ((List.replicate X false).map Value.bool).toArray := by
    rw [Nat.mul_one, List.map_replicate]
    apply Array.ext'
    refine List.ext_getElem? fun j => ?_
    unfold madeCells
    by_cases h : j < X
    · simp [h, Nat.mod_one, Value.cells]
    · simp [h]
  rw [e] at h
  exact h
/-- One of them is false. -/
def hasF (bs : List Bool) : Bool := bs.contains false
set_option maxHeartbeats 800000 in
theorem idxFalse_any (bs : List Bool) (g c : Nat) (w : World) (h : BSet w g bs) (hm : bs.length ≤ maxLen) :
    Calls Try.prog 78 #[.slice (some ⟨g, 0, none⟩) bs.length c, .bool false] w fun e w' => ∃ z : Int, e = .returned (.int .i64 z) ∧ hasF bs = decide (0 ≤ z) ∧ w' = w := by
  have hl : bs.length ≤ 9223372036854775807 := hm
  have H := Lib.hid h
  obtain ⟨L, hL⟩ : ∃ n, n = bs.length := ⟨_, rfl⟩
  have HL := Lib.hid hL
  rw [← hL] at hl ⊢
  clear h hL hm
  go_enter Try.func78, Try.ntmps78
  go_wp2_with fail
  go_loopw [8] (fun iv wr => ∃ k : Nat, k ≤ L ∧ iv = .int .i64 (k : Int) ∧ Hid (∀ x, x < k → bs.getD x false = true) ∧ Hid (wr = w)) (fun iv _ => L - (intOf iv).toNat)
  case atStart => exact ⟨0, by omega, rfl, Lib.hid (fun x hx => absurd hx (Nat.not_lt_zero _)), Lib.hid rfl⟩
  case round =>
    obtain ⟨k, hk, rfl, F, HW⟩ := hrel
    obtain rfl := HW.out
    by_cases hlt : k < L
    · have ck := H.out.cell k (by rw [← HL.out]; exact hlt)
      have HLT := Lib.hid hlt
      cases hz : bs.getD k false with
      | false =>
        rw [hz] at ck
        have HC := Lib.hid (show hasF bs = decide ((0 : Int) ≤ (k : Int)) from by
          unfold hasF
          have hm : bs.contains false = true := by
            rw [List.contains_iff_mem, ← hz, List.getD_eq_getElem?_getD, List.getElem?_eq_getElem (by rw [← HL.out]; exact hlt)]
            exact List.getElem_mem _
          rw [hm]; simp)
        clear hz
        go_wp2_with fail
        go_ret
        exact ⟨_, rfl, HC.out, rfl⟩
      | true =>
        rw [hz] at ck
        have HZ := Lib.hid hz
        clear hz
        go_wp2_with fail
        go_roundw
        case rel => exact ⟨k + 1, by omega, by go_num, Lib.hid (fun x hx => by
          rcases Nat.lt_or_ge x k with g | g
          · exact F.out x g
          · have : x = k := by omega
            subst this; exact HZ.out), Lib.hid trivial⟩
        case measure => simp [intOf]; omega
    · obtain rfl : k = L := by omega
      have HC := Lib.hid (show hasF bs = decide ((0 : Int) ≤ -1) from by
        unfold hasF
        have hm : bs.contains false = false := by
          rw [Bool.eq_false_iff]
          intro hc
          rw [List.contains_iff_mem] at hc
          obtain ⟨i, hi⟩ := List.mem_iff_getElem?.1 hc
          have hil := (List.getElem?_eq_some_iff.1 hi).1
          have := F.out i (by rw [HL.out]; exact hil)
          rw [List.getD_eq_getElem?_getD, hi] at this
          cases this
        rw [hm]; rfl)
      go_wp2_with fail
      go_ret
      exact ⟨-1, rfl, HC.out, rfl⟩
theorem hasFalse_any (bs : List Bool) (g c : Nat) (w : World) (h : BSet w g bs) (hm : bs.length ≤ maxLen) :
    Calls Try.prog 53 #[.slice (some ⟨g, 0, none⟩) bs.length c, .bool false] w fun e w' => e = .returned (.bool (hasF bs)) ∧ w' = w := by
  have HI := Lib.hid (idxFalse_any bs g c w h hm)
  clear h hm
  go_enter Try.func53, Try.ntmps53
  go_wp2_with fail
  refine HI.out.mono ?_
  rintro e w1 ⟨z, rfl, hz, hw⟩
  rw [hw]
  have HZ := Lib.hid hz
  clear hz hw
  go_wp2_with fail
  go_ret
  exact ⟨by rw [HZ.out]; rfl, rfl⟩
/-- The slice from A on reads as lists. -/
def PP (w : World) (A : Option Addr) (ps : List (List Int)) : Prop :=
  ∀ k p, ps[k]? = some p → ∃ ad : Addr, A = some ad ∧ ad.block < w.heap.size ∧ ∃ a c, w.cell? (ad.add k) = some (.slice a p.length c) ∧ Row .i64 w w.heap.size a p ∧ p.length ≤ maxLen
theorem PP.below {w w' : World} {A : Option Addr} {ps : List (List Int)} (h : PP w A ps) (b : Below w.heap.size w w') : PP w' A ps := fun k p hk => by
  obtain ⟨ad, e, hb, a, c, hc, hr, hm⟩ := h k p hk
  exact ⟨ad, e, Nat.lt_of_lt_of_le hb b.size, a, c, (b.cell (by rw [add_block]; exact hb)).trans hc, hr.below b, hm⟩
theorem PP.drewN {w : World} {A : Option Addr} {ps : List (List Int)} (h : PP w A ps) (n : Nat) : PP (w.drewN n) A ps := h.below ⟨rfl, rfl, rfl, Nat.le_refl _, fun _ _ => rfl⟩
theorem PP.nil {w : World} {A : Option Addr} : PP w A [] := fun k p hk => by simp at hk
theorem getD_ex {α : Type} {l : List α} {k : Nat} (z : α) (h : k < l.length) : l[k]? = some (l.getD k z) := by
  rw [List.getD_eq_getElem?_getD, List.getElem?_eq_getElem h]; rfl
theorem PP.at_ {w : World} {A : Option Addr} {ps : List (List Int)} (h : PP w A ps) {k : Nat} (hk : k < ps.length) :
    ∃ ad : Addr, A = some ad ∧ ∃ a c, w.cell? (ad.add k) = some (.slice a (ps.getD k []).length c) ∧ Row .i64 w w.heap.size a (ps.getD k []) ∧ (ps.getD k []).length ≤ maxLen := by
  obtain ⟨ad, e, _, a, c, h1, h2, h3⟩ := h k _ (getD_ex [] hk)
  exact ⟨ad, e, a, c, h1, h2, h3⟩
/-- Whether index x may come next in the list of train t, behind index p. -/
def stepOk (l : List It) (t : Int) (prev : Option Int) (seen : List Bool) (x : Int) : Bool :=
  (btw x 0 ((l.length : Int) - 1) && (!seen.getD x.toNat false && decide (trn l x.toNat = t))) && (match prev with | none => true | some p => !decide (blk l x.toNat < blk l p.toNat))
def goL (l : List It) (t : Int) (prev : Option Int) (seen : List Bool) : List Int → Option (List Bool)
  | [] => some seen
  | x :: r => if stepOk l t prev seen x = true then goL l t (some x) (seen.set x.toNat true) r else none
def goT (l : List It) (t : Int) (seen : List Bool) : List (List Int) → Option (List Bool)
  | [] => some seen
  | p :: r => match goL l t none seen p with
    | none => none
    | some s => goT l (t + 1) s r
def sortedB (l : List It) (ts : List (List Int)) : Bool := match goT l 0 (List.replicate l.length false) ts with
  | none => false
  | some s => !hasF s
theorem drop_any {α : Type} {l : List α} {k : Nat} (z : α) (hk : k < l.length) : l.drop k = l.getD k z :: l.drop (k + 1) := by
  rw [List.drop_eq_getElem_cons hk, List.getD_eq_getElem?_getD, List.getElem?_eq_getElem hk]; rfl
/-- The index ahead of place n. -/
def prvS (p : List Int) (n : Nat) : Option Int := if n = 0 then none else some (p.getD (n - 1) 0)
theorem goL_ok {l : List It} {t : Int} {prev : Option Int} {seen : List Bool} {x : Int} {r : List Int} (h : stepOk l t prev seen x = true) : goL l t prev seen (x :: r) = goL l t (some x) (seen.set x.toNat true) r := if_pos h
theorem goL_no {l : List It} {t : Int} {prev : Option Int} {seen : List Bool} {x : Int} {r : List Int} (h : stepOk l t prev seen x = false) : goL l t prev seen (x :: r) = none := if_neg (by rw [h]; exact Bool.false_ne_true)
end Go.Proofs.Ytlagadbkencpbaa

namespace Go.Proofs.Ytlagadbkencpbaa
open Go.RowKit Go.Lib

structure OL (w : World) (g base : Nat) (vs : List Value) (ts : List (List Int)) : Prop where
  blk : w.heap[g]? = some (.cells vs.toArray 22 (0, 0))
  len : vs.length = ts.length
  own : ∀ (k : Nat) v t, vs[k]? = some v → ts[k]? = some t → Own .i64 3 w base v t
  apt : ∀ (j k : Nat) u v, j ≠ k → vs[j]? = some u → vs[k]? = some v → Apt u v
  gb : g < base
  le : base ≤ w.heap.size
section
variable {w w' : World} {g base : Nat} {vs : List Value} {ts : List (List Int)}
theorem OL.lt (h : OL w g base vs ts) : g < w.heap.size := (Array.getElem?_eq_some_iff.1 h.blk).1
theorem OL.cell (h : OL w g base vs ts) {k : Nat} {v : Value} (hk : vs[k]? = some v) : w.cell? ⟨g, k, none⟩ = some v := by
  unfold World.cell?
  rw [h.blk]
  obtain ⟨h1, h2⟩ := List.getElem?_eq_some_iff.1 hk
  simp [h1, h2]
theorem OL.frozen (h : OL w g base vs ts) (j : Nat) : w.frozen? ⟨g, j, none⟩ = false := frozen_of_row w g j _ 22 h.blk
theorem OL.below (h : OL w g base vs ts) (b : Below w.heap.size w w') : OL w' g base vs ts :=
  ⟨(b.block g h.lt).trans h.blk, h.len, fun k v t h1 h2 => (h.own k v t h1 h2).below b, h.apt, h.gb, Nat.le_trans h.le b.size⟩
theorem OL.moves {m : Nat} (h : OL w g base vs ts) (b : Moves m w w') (hm : m < g) : OL w' g base vs ts :=
  ⟨(b.block g h.lt (by omega)).trans h.blk, h.len, fun k v t h1 h2 => (h.own k v t h1 h2).moves b (by have := h.gb; omega), h.apt, h.gb, Nat.le_trans h.le b.size⟩
theorem OL.drewN (h : OL w g base vs ts) (n : Nat) : OL (w.drewN n) g base vs ts := h.below ⟨rfl, rfl, rfl, Nat.le_refl _, fun _ _ => rfl⟩
theorem own_none {T : TypeId} {v : Value} {t : List Int} (h : Own .i64 T w base v t) (hv : v.ownBlock = none) : v = .slice none 0 0 := by
  rcases h.2 with ⟨e, _⟩ | ⟨g', c, cur, e, _⟩
  · exact e
  · rw [e] at hv; simp [Value.ownBlock] at hv
theorem setCell_grown (w : World) (p : Addr) (u : Value) : w.grownBy (w.setCell p u) (some p.block) :=
  ⟨rfl, rfl, rfl, by rw [World.size_setCell]; exact Nat.le_refl _, fun k hk hn => Below.heap_setCell _ _ _ _ (fun e => hn (by first | exact congrArg some e | exact congrArg some e.symm))⟩
/-- List k grows, and is put back. -/
theorem OL.app {k : Nat} {v v' : Value} {t : List Int} {y : Int} (h : OL w g base vs ts) (hv : vs[k]? = some v) (ht : ts[k]? = some t) (A : AppI base v t y w v' w') :
    w'.cell? ⟨g, k, none⟩ = some v ∧ w'.frozen? ⟨g, k, none⟩ = false ∧ OL (w'.setCell ⟨g, k, none⟩ v') g base (vs.set k v') (ts.set k (t ++ [y])) := by
  obtain ⟨O', hg, g', c, rfl, hlt, hat⟩ := A
  have O := h.own k v t hv ht
  have hvb : ∀ j, v.ownBlock = some j → base ≤ j := fun j hj => (own_block O hj).1
  have hgv : v.ownBlock ≠ some g := fun e => by have := hvb g e; have := h.gb; omega
  have hb : w'.heap[g]? = some (.cells vs.toArray 22 (0, 0)) := (hg.block g h.lt (fun e => hgv e.symm)).trans h.blk
  have hgg : base ≤ g' := by
    rcases hat with e | e
    · exact hvb g' e
    · have := h.le; omega
  have hc : w'.cell? ⟨g, k, none⟩ = some v := by
    unfold World.cell?
    rw [hb]
    obtain ⟨h1, h2⟩ := List.getElem?_eq_some_iff.1 hv
    simp [h1, h2]
  refine ⟨hc, frozen_of_row w' g k _ 22 hb, ⟨?_, by rw [List.length_set, List.length_set]; exact h.len, ?_, ?_, h.gb, by rw [World.size_setCell]; exact Nat.le_trans h.le hg.size⟩⟩
  · rw [heap_setCell_same w' g k _ 22 _ hb]; simp
  · intro j u s hu hs
    rw [List.getElem?_set] at hu hs
    by_cases e : k = j
    · subst e
      rw [if_pos rfl] at hu hs
      split at hu
      · injection hu with hu
        split at hs
        · injection hs with hs
          rw [← hu, ← hs]
          exact O'.kept (setCell_grown w' ⟨g, k, none⟩ _) (Or.inr (fun e => absurd (show g' = g by simpa [Value.ownBlock] using e) (by have := h.gb; omega)))
        · cases hs
      · cases hu
    · rw [if_neg e] at hu hs
      have Oj := h.own j u s hu hs
      have k1 : Own .i64 3 w' base u s := Oj.kept hg (by
        cases hq : u.ownBlock with
        | none => exact Or.inl rfl
        | some q => exact Or.inr (fun e2 => h.apt k j v u e hv hu q e2.symm hq))
      refine k1.kept (setCell_grown w' ⟨g, k, none⟩ _) ?_
      cases hq : u.ownBlock with
      | none => exact Or.inl rfl
      | some q => exact Or.inr (fun e2 => absurd (show q = g by simpa using e2) (by have h1 := (own_block Oj hq).1; have := h.gb; omega))
  · intro i j u s hij hu hs
    have fresh : ∀ q u, q ≠ k → vs[q]? = some u → Apt (.slice (some ⟨g', 0, none⟩) (t.length + 1) c) u := fun q u hq hu b hb1 hb2 => by
      have e : g' = b := by simpa [Value.ownBlock] using hb1
      subst e
      rcases hat with e | e
      · exact h.apt k q v u (Ne.symm hq) hv hu g' e hb2
      · have hul : q < ts.length := by rw [← h.len]; exact (List.getElem?_eq_some_iff.1 hu).1
        have := (own_block (h.own q u _ hu (List.getElem?_eq_getElem hul)) hb2).2
        omega
    rw [List.getElem?_set] at hu hs
    by_cases e1 : k = i
    · subst e1
      rw [if_pos rfl] at hu
      rw [if_neg hij] at hs
      split at hu
      · injection hu with hu
        rw [← hu]; exact fresh j s (Ne.symm hij) hs
      · cases hu
    · rw [if_neg e1] at hu
      by_cases e2 : k = j
      · subst e2
        rw [if_pos rfl] at hs
        split at hs
        · injection hs with hs
          rw [← hs]; exact (fresh i u hij hu).symm
        · cases hs
      · rw [if_neg e2] at hs
        exact h.apt i j u s hij hu hs
/-- A number of list k is written. -/
theorem OL.store {k b n c : Nat} {t : List Int} (h : OL w g base vs ts) (hv : vs[k]? = some (.slice (some ⟨b, 0, none⟩) n c)) (ht : ts[k]? = some t) (hn : n = t.length) (j : Nat) (x : Int) :
    OL (w.setCell ⟨b, j, none⟩ (.int .i64 x)) g base vs (ts.set k (t.set j x)) := by
  have O := h.own k _ t hv ht
  have hb := own_block O (g := b) rfl
  have hkl : k < ts.length := (List.getElem?_eq_some_iff.1 ht).1
  refine ⟨(Below.heap_setCell _ _ _ _ (by have := h.gb; show g ≠ b; omega)).trans h.blk, by rw [List.length_set]; exact h.len, ?_, h.apt, h.gb, by rw [World.size_setCell]; exact h.le⟩
  intro q u s hu hs
  rw [List.getElem?_set] at hs
  by_cases e : k = q
  · subst e
    rw [if_pos rfl, if_pos hkl] at hs
    injection hs with hs
    rw [hu] at hv
    injection hv with hv
    rw [hv, ← hs]
    exact O.store hn j x
  · rw [if_neg e] at hs
    refine (h.own q u s hu hs).kept (setCell_grown w ⟨b, j, none⟩ _) ?_
    cases hq : u.ownBlock with
    | none => exact Or.inl rfl
    | some q' => exact Or.inr (fun e2 => h.apt k q _ u e hv hu b rfl (by rw [hq]; exact e2))
theorem OL.pp (h : OL w g base vs ts) : PP w (some ⟨g, 0, none⟩) ts := fun k p hk => by
  have hkl : k < vs.length := by rw [h.len]; exact (List.getElem?_eq_some_iff.1 hk).1
  have hv := List.getElem?_eq_getElem hkl
  have O := h.own k _ p hv hk
  obtain ⟨A, c, e, R, _, hm, _⟩ := O.slice
  refine ⟨_, rfl, h.lt, A, c, ?_, R, hm⟩
  rw [add_own, ← e]
  exact h.cell hv
end
theorem OL.new (w : World) : OL (w.alloc (.cells #[.slice none 0 0, .slice none 0 0, .slice none 0 0] 22)) w.heap.size (w.heap.size + 1) [.slice none 0 0, .slice none 0 0, .slice none 0 0] [[], [], []] := by
  refine ⟨heap_alloc_new w _, rfl, fun k v t hv ht => ?_, fun j k u v _ hu hv => ?_, Nat.lt_succ_self _, by simp⟩
  · match k with
    | 0 => injection hv with hv; injection ht with ht; subst hv; subst ht; exact Own.nil
    | 1 => injection hv with hv; injection ht with ht; subst hv; subst ht; exact Own.nil
    | 2 => injection hv with hv; injection ht with ht; subst hv; subst ht; exact Own.nil
    | k + 3 => cases hv
  · intro b hb
    match j with
    | 0 => injection hu with hu; subst hu; cases hb
    | 1 => injection hu with hu; subst hu; cases hb
    | 2 => injection hu with hu; subst hu; cases hb
    | j + 3 => cases hu
theorem infoSli : (Try.prog.info? 22).map (fun i => (i.zero, i.size, i.bytes)) = some (some (.slice none 0 0), 1, 24) := by kernel_rfl
theorem make_lists (w : World) : (Instr.makeSlice 52 (.int .i64 3) (.int .i64 3)).run Try.prog w = .ok (.slice (some ⟨w.heap.size, 0, none⟩) 3 3) (w.alloc (.cells #[.slice none 0 0, .slice none 0 0, .slice none 0 0] 22)) := by
  obtain ⟨i0, hi, hz0, hz1, hz2⟩ := info_parts infoSli
  have h := run_make (P := Try.prog) w 52 22 i0 (.slice none 0 0) Try.underlying52 hi hz0 .i64 .i64 3 3 (by omega) (Int.le_refl _) (by rw [hz2]; omega) (by omega)
  rw [hz1] at h
  have e : madeCells (Value.slice none 0 0).cells (Int.toNat 3 * 1) = #[.slice none 0 0, .slice none 0 0, .slice none 0 0] := by kernel_rfl
  rw [e] at h
  exact h
theorem OL.store2 {w : World} {g base : Nat} {vs : List Value} {ts : List (List Int)} {k b n c : Nat} {t : List Int} (h : OL w g base vs ts) (hv : vs[k]? = some (.slice (some ⟨b, 0, none⟩) n c)) (ht : ts[k]? = some t) (hn : n = t.length) (i j : Nat) (x y : Int) :
    OL ((w.setCell ⟨b, i, none⟩ (.int .i64 x)).setCell ⟨b, j, none⟩ (.int .i64 y)) g base vs (ts.set k ((t.set i x).set j y)) := by
  have hkl : k < ts.length := (List.getElem?_eq_some_iff.1 ht).1
  have h1 := h.store hv ht hn i x
  have h2 := h1.store hv (t := t.set i x) (by rw [List.getElem?_set, if_pos rfl, if_pos hkl]) (by rw [List.length_set]; exact hn) j y
  rwa [List.set_set] at h2
/-- The cells of list k. -/
theorem OL.num {w : World} {g base : Nat} {vs : List Value} {ts : List (List Int)} {k b n c : Nat} {t : List Int} (h : OL w g base vs ts) (hv : vs[k]? = some (.slice (some ⟨b, 0, none⟩) n c)) (ht : ts[k]? = some t) (hn : n = t.length) :
    (∀ j, j < n → w.cell? ⟨b, j, none⟩ = some (.int .i64 (t.getD j 0))) ∧ (∀ j, w.frozen? ⟨b, j, none⟩ = false) ∧ g < b := by
  have O := h.own k _ t hv ht
  refine ⟨fun j hj => O.cell hn j (by omega), fun j => O.frozen hn j, ?_⟩
  have := (own_block O (g := b) rfl).1
  have := h.gb
  omega
end Go.Proofs.Ytlagadbkencpbaa

namespace Go.Proofs.Ytlagadbkencpbaa
open Go.RowKit

/-- The bits from R on that are set, below B. -/
def blN (K R : Nat) : Nat → List Int
  | 0 => []
  | b + 1 => if R ≤ b ∧ K / 2 ^ b % 2 = 1 then blN K R b ++ [(b : Int)] else blN K R b
theorem blN_yes {K R b : Nat} (h : R ≤ b) (h2 : K / 2 ^ b % 2 = 1) : blN K R (b + 1) = blN K R b ++ [(b : Int)] := by
  show (if R ≤ b ∧ K / 2 ^ b % 2 = 1 then _ else _) = _
  rw [if_pos ⟨h, h2⟩]
theorem blN_no {K R b : Nat} (h2 : ¬ K / 2 ^ b % 2 = 1) : blN K R (b + 1) = blN K R b := by
  show (if R ≤ b ∧ K / 2 ^ b % 2 = 1 then _ else _) = _
  rw [if_neg (fun g => h2 g.2)]
theorem blN_low {K R : Nat} : ∀ b, b ≤ R → blN K R b = [] := by
  intro b
  induction b with
  | zero => intro _; rfl
  | succ b ih =>
    intro h
    show (if R ≤ b ∧ K / 2 ^ b % 2 = 1 then _ else _) = _
    rw [if_neg (fun g => by omega), ih (by omega)]
theorem blN_len (K R : Nat) : ∀ b, (blN K R b).length ≤ b := by
  intro b
  induction b with
  | zero => exact Nat.le_refl _
  | succ b ih =>
    by_cases h : R ≤ b ∧ K / 2 ^ b % 2 = 1
    · rw [blN_yes h.1 h.2, List.length_append]; simp; omega
    · show (if R ≤ b ∧ K / 2 ^ b % 2 = 1 then _ else _ : List Int).length ≤ _
      rw [if_neg h]; omega
/-- What Real answers. -/
def realL (k r : Int) : List Int := if rndB r = true ∧ cdB k = true ∧ (k.toNat % 2 ^ r.toNat == 2 ^ r.toNat - 1) = true then blN k.toNat r.toNat 12 else []
def realE (k r : Int) : Int := if rndB r = true ∧ cdB k = true then (if (k.toNat % 2 ^ r.toNat == 2 ^ r.toNat - 1) = true then 0 else 15) else 2
theorem real_bad {k r : Int} (h : ¬ (rndB r = true ∧ cdB k = true)) : realL k r = [] ∧ realE k r = 2 := by
  unfold realL realE
  rw [if_neg (fun g => h ⟨g.1, g.2.1⟩), if_neg h]
  exact ⟨rfl, rfl⟩
theorem rnd_yes {R : Nat} (h : R ≤ 12) : rndB (R : Int) = true := rndB_iff.2 (by omega)
theorem cd_yes {K : Nat} (h : K < 4096) : cdB (K : Int) = true := cdB_iff.2 (by omega)
theorem real_none {K R : Nat} (hR : R ≤ 12) (hK : K < 4096) (h : (K % 2 ^ R == 2 ^ R - 1) = false) : realL K R = [] ∧ realE K R = 15 := by
  unfold realL realE
  rw [rnd_yes hR, cd_yes hK]
  show (if true = true ∧ true = true ∧ (K % 2 ^ R == 2 ^ R - 1) = true then _ else _) = _ ∧ (if true = true ∧ true = true then (if (K % 2 ^ R == 2 ^ R - 1) = true then _ else _) else _) = _
  rw [h]
  exact ⟨rfl, rfl⟩
theorem real_yes {K R : Nat} (hR : R ≤ 12) (hK : K < 4096) (h : (K % 2 ^ R == 2 ^ R - 1) = true) : realL K R = blN K R 12 ∧ realE K R = 0 := by
  unfold realL realE
  rw [rnd_yes hR, cd_yes hK]
  show (if true = true ∧ true = true ∧ (K % 2 ^ R == 2 ^ R - 1) = true then _ else _) = _ ∧ (if true = true ∧ true = true then (if (K % 2 ^ R == 2 ^ R - 1) = true then _ else _) else _) = _
  rw [h]
  exact ⟨rfl, rfl⟩
theorem realL_len (k r : Int) : (realL k r).length ≤ 12 := by
  unfold realL
  by_cases h : rndB r = true ∧ cdB k = true ∧ (k.toNat % 2 ^ r.toNat == 2 ^ r.toNat - 1) = true
  · rw [if_pos h]; exact blN_len _ _ 12
  · rw [if_neg h]; exact Nat.zero_le _
/-- A list of the call's own, and an error. -/
def RealPost (zs : List Int) (x : Int) (w : World) (e : Ending) (w' : World) : Prop := ∃ v, e = .returned (.tuple #[v, .int .i64 x]) ∧ Own .i64 3 w' w.heap.size v zs ∧ Below w.heap.size w w'
set_option maxHeartbeats 1600000 in
theorem real_any (k r : Int) (w : World) : Calls Try.prog 98 #[.int .i64 k, .int .i64 r] w (RealPost (realL k r) (realE k r) w) := by
  by_cases h : rndB r = true ∧ cdB k = true
  · obtain ⟨R, rfl⟩ := Int.eq_ofNat_of_zero_le (rndB_iff.1 h.1).1
    obtain ⟨K, rfl⟩ := Int.eq_ofNat_of_zero_le (cdB_iff.1 h.2).1
    have hR : R ≤ 12 := by have := (rndB_iff.1 h.1).2; omega
    have hK : K < 4096 := by have := (cdB_iff.1 h.2).2; omega
    obtain ⟨h1, h2⟩ := h
    cases hm : (K % 2 ^ R == 2 ^ R - 1)
    · have hz := real_none hR hK hm
      rw [hz.1, hz.2]
      clear hz
      go_enter Try.func98, Try.ntmps98
      go_wp2_with fail
      refine (isRound_any _ _).mono ?_
      rintro e w1 ⟨rfl, rfl⟩
      rw [h1]
      go_wp2_with fail
      refine (isCode_any _ _).mono ?_
      rintro e w1 ⟨rfl, rfl⟩
      rw [h2]
      go_wp2_with fail
      refine (hasMissed_any _ _ _ hR hK).mono ?_
      rintro e w1 ⟨rfl, rfl⟩
      rw [hm]
      go_wp2_with fail
      go_ret2
      exact ⟨_, rfl, Own.nil, Below.refl _ _⟩
    · have hz := real_yes hR hK hm
      rw [hz.1, hz.2]
      clear hz
      have hl0 := Lib.hid (blN_low (K := K) R (Nat.le_refl R))
      go_enter Try.func98, Try.ntmps98
      go_wp2_with fail
      refine (isRound_any _ _).mono ?_
      rintro e w1 ⟨rfl, rfl⟩
      rw [h1]
      go_wp2_with fail
      refine (isCode_any _ _).mono ?_
      rintro e w1 ⟨rfl, rfl⟩
      rw [h2]
      go_wp2_with fail
      refine (hasMissed_any _ _ _ hR hK).mono ?_
      rintro e w1 ⟨rfl, rfl⟩
      rw [hm]
      clear hm h1 h2
      go_wp2_with fail
      go_loopw [6, 7] (fun ov iv wr => ∃ b : Nat, R ≤ b ∧ b ≤ 12 ∧ iv = .int .i64 (b : Int) ∧ Hid (Own .i64 3 wr w.heap.size ov (blN K R b)) ∧ Hid (Below w.heap.size w wr)) (fun _ iv _ => 12 - (intOf iv).toNat)
      case atStart => exact ⟨R, Nat.le_refl _, by omega, rfl, Lib.hid (by rw [hl0.out]; exact Own.nil), Lib.hid (Below.refl _ _)⟩
      case round =>
        clear hl0
        obtain ⟨b, hb1, hb, rfl, O, B⟩ := hrel
        by_cases hlt : b < 12
        · have hlt' : (b : Int) < 12 := by omega
          go_wp2_with fail
          refine (hasBit_any _ _ _ hK (by omega)).mono ?_
          rintro e w1 ⟨rfl, rfl⟩
          by_cases hbit : K / 2 ^ b % 2 = 1
          · have HS := Lib.hid (blN_yes hb1 hbit)
            rw [show (K / 2 ^ b % 2 == 1) = true from beq_iff_eq.2 hbit]
            clear hbit
            have hll := Nat.le_trans (blN_len K R b) hb
            go_wp2_with (first | (at_builtin; refine wpList_appI _ rfl (.tmp 28) (.tmp 30) rfl w.heap.size _ (blN K R b) rfl (O.out.alloc _) (b : Int) wr rfl _ rfl 1 rfl (by omega) (le_allocW B.out.size) ?_; rintro v6 w6 hap; have O6 := Lib.hid hap.1; have B6 := Lib.hid (hap.below B.out B.out.size O.out); obtain ⟨_, _, g6, c6, rfl, _, _⟩ := hap; clear O B))
            go_roundw
            case rel => exact ⟨b + 1, by omega, by omega, by go_num, by rw [HS.out]; exact O6, B6⟩
            case measure => simp [intOf] <;> omega
          · have HS := Lib.hid (blN_no (R := R) hbit)
            rw [show (K / 2 ^ b % 2 == 1) = false from beq_eq_false_iff_ne.2 hbit]
            clear hbit
            go_wp2_with fail
            go_roundw
            case rel => exact ⟨b + 1, by omega, by omega, by go_num, by rw [HS.out]; exact O, B⟩
            case measure => simp [intOf] <;> omega
        · obtain rfl : b = 12 := by omega
          go_wp2_with fail
          go_ret2
          exact ⟨_, rfl, O.out, B.out⟩
  · have hz := real_bad h
    rw [hz.1, hz.2]
    clear hz
    go_enter Try.func98, Try.ntmps98
    go_wp2_with fail
    refine (isRound_any _ _).mono ?_
    rintro e w1 ⟨rfl, rfl⟩
    cases h1 : rndB r
    · go_wp2_with fail
      go_ret2
      exact ⟨_, rfl, Own.nil, Below.refl _ _⟩
    · have h2 : cdB k = false := Bool.eq_false_iff.2 (fun g => h ⟨h1, g⟩)
      clear h
      go_wp2_with fail
      refine (isCode_any _ _).mono ?_
      rintro e w1 ⟨rfl, rfl⟩
      rw [h2]
      go_wp2_with fail
      go_ret2
      exact ⟨_, rfl, Own.nil, Below.refl _ _⟩
end Go.Proofs.Ytlagadbkencpbaa

namespace Go.Proofs.Ytlagadbkencpbaa
open Go.RowKit

theorem ext_getD {a b : List Int} (hl : a.length = b.length) (h : ∀ t, t < a.length → a.getD t 0 = b.getD t 0) : a = b := by
  refine List.ext_getElem hl fun i h1 h2 => ?_
  have := h i h1
  rw [List.getD_eq_getElem?_getD, List.getD_eq_getElem?_getD, List.getElem?_eq_getElem h1, List.getElem?_eq_getElem h2] at this
  exact this
set_option maxHeartbeats 1600000 in
theorem ints_any (zs ys : List Int) (A A' : Option Addr) (n n' c c' : Nat) (w : World) (hn : n = zs.length) (hn' : n' = ys.length) (h : Row .i64 w w.heap.size A zs) (h' : Row .i64 w w.heap.size A' ys) (hl : zs.length ≤ maxLen) (hl' : ys.length ≤ maxLen) :
    Calls Try.prog 34 #[.slice A n c, .slice A' n' c'] w fun e w' => e = .returned (.bool (decide (zs = ys))) ∧ ∃ n, w' = w.drewN n := by
  unfold maxLen at hl hl'
  have H := Lib.hid h
  have H' := Lib.hid h'
  have HL := Lib.hid hn
  have HL' := Lib.hid hn'
  rw [← hn] at hl
  rw [← hn'] at hl'
  clear h h' hn hn'
  by_cases hq : n = n'
  · subst hq
    go_enter Try.func34, Try.ntmps34
    go_wp2_with fail
    go_loopw [5] (fun i wr => (∃ n, wr = w.drewN n) ∧ ∃ k : Nat, k ≤ n ∧ i = .int .i64 k ∧ Hid (∀ t, t < k → zs.getD t 0 = ys.getD t 0)) (fun i _ => n - (intOf i).toNat)
    case atStart => exact ⟨⟨0, rfl⟩, 0, by omega, rfl, Lib.hid fun t ht => absurd ht (Nat.not_lt_zero t)⟩
    case round =>
      obtain ⟨⟨d, hw⟩, k, hk, rfl, HE⟩ := hrel
      have HW := Lib.hid (show ∃ n, wr = w.drewN n from ⟨d, hw⟩)
      by_cases hlt : k < n
      · obtain ⟨a, rfl, _, hc⟩ := H.out k (by rw [← HL.out]; exact hlt)
        obtain ⟨a', rfl, _, hc'⟩ := H'.out k (by rw [← HL'.out]; exact hlt)
        have hd : wr.cell? (a.add k) = w.cell? (a.add k) := by rw [hw]; rfl
        have hd' : wr.cell? (a'.add k) = w.cell? (a'.add k) := by rw [hw]; rfl
        rw [hc] at hd
        rw [hc'] at hd'
        clear hc hc' hw
        by_cases he : zs.getD k 0 = ys.getD k 0
        · have HE2 := Lib.hid (show ∀ t, t < k + 1 → zs.getD t 0 = ys.getD t 0 from fun t ht => by
            by_cases e : t = k
            · subst e; exact he
            · exact HE.out t (by omega))
          rw [← he] at hd'
          generalize zs.getD k 0 = x at hd hd'
          clear he HE
          go_upto_region 6 with fail
          go_quiet (fail)
          clear hd hd'
          go_wp2_with fail
          go_roundw
          case rel => exact ⟨by obtain ⟨n, rfl⟩ := HW.out; exact ⟨n + nq, by rw [World.drewN_drewN]⟩, k + 1, by omega, by go_num, HE2⟩
          case measure => simp [intOf]; omega
        · have HF := Lib.hid (show false = decide (zs = ys) from (decide_eq_false (fun e => he (by rw [e]))).symm)
          have hb : (zs.getD k 0 == ys.getD k 0) = false := beq_eq_false_iff_ne.2 he
          have hb2 : (zs.getD k 0 != ys.getD k 0) = true := by unfold bne; rw [hb]; rfl
          generalize zs.getD k 0 = x at hd hb hb2
          generalize ys.getD k 0 = y at hd' hb hb2
          clear he HE
          go_upto_region 6 with fail
          go_quiet (fail)
          clear hd hd'
          go_wp2_with fail
          go_ret
          exact ⟨by rw [← HF.out]; rfl, by obtain ⟨n, rfl⟩ := HW.out; exact ⟨n + nq, by rw [World.drewN_drewN]⟩⟩
      · clear hw
        obtain rfl : k = n := by omega
        have HF := Lib.hid (show true = decide (zs = ys) from (decide_eq_true (ext_getD (HL.out.symm.trans HL'.out) (fun t ht => HE.out t (by rw [HL.out]; exact ht)))).symm)
        go_wp2_with fail
        go_ret
        exact ⟨by rw [← HF.out]; rfl, HW.out⟩
  · have HF := Lib.hid (show false = decide (zs = ys) from (decide_eq_false (fun e => hq (by rw [HL.out, HL'.out, e]))).symm)
    have hb : ((n : Int) == (n' : Int)) = false := beq_eq_false_iff_ne.2 (by omega)
    have hb2 : ((n : Int) != (n' : Int)) = true := by simp [bne, hb]
    have hb3 : ¬ (n : Int) = (n' : Int) := by omega
    go_enter Try.func34, Try.ntmps34
    go_wp2_with fail
    go_ret
    exact ⟨by rw [← HF.out]; rfl, 0, rfl⟩
end Go.Proofs.Ytlagadbkencpbaa
