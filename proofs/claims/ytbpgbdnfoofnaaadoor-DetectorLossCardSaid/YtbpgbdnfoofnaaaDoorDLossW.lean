/-
  Stage 4: the group of a word, plain; append in a region that draws.
-/
import Derived.Test.YtbpgbdnfoofnaaaDoorDSrc
import Derived.Deep.RegionLaw
set_option linter.unusedSimpArgs false
set_option linter.unusedVariables false
namespace Go.Proofs.YtbpgbdnfoofnaaaDoor
open Go.RowKit

theorem step_app_src {P : Program} {w : World} {ops : Array Oper} {o : Oper} {a : Act} {K : Act → World → Prop} {Q : Exit → Act → World → Prop} {E : Prop} (hgn : o.guard = none) (s x : Operand) (t : TypeId)
    (ho : o.op = .call { callee := .builtin .append, args := #[s, x], argTypes := #[t, t] })
    (base : Nat) (e : TypeId) (i : TypeInfo) (z : Value) (size bytes : Nat) (ht : P.underlying t = some (.slice e)) (hi : P.info? e = some i) (hz : i.zero = some z)
    (hsize : i.size = size) (hby : i.bytes = bytes) (hzs : z.cells.size = size) (hsz : 0 < size)
    (v : Value) (n : Nat) (xs : List Value) (hs : a.eval s = v) (hown : w.ownsRow base e size v n xs)
    (A : Option Addr) (m c : Nat) (news : List Value) (hx : a.eval x = .slice A m c) (hA : A = none → m = 0 ∧ c = 0) (hl : news.length = m * size) (hnews : ∀ ad, A = some ad → ∀ j u, news[j]? = some u → w.cell? (ad.add j) = some u) (h1 : ∀ u ∈ news, u.oneCell' = true)
    (h63 : n + m ≤ maxLen) (hbytes : (n + m) * bytes ≤ 140737488355328) (hbase : base ≤ w.heap.size)
    (h : ∀ v' w', w'.ownsRow base e size v' (n + m) (xs ++ news) → w.grownBy w' v.ownBlock → K (a.put o.dst v') w') : if Region.wanted o (yielded ops a.tmps) = true then Oper.wp P o a w K Q else E := by
  rw [if_pos (by simp [Region.wanted, hgn])]
  cases A with
  | none =>
    obtain ⟨rfl, rfl⟩ := hA rfl
    have hn : news = [] := List.length_eq_zero_iff.1 (by rw [hl, Nat.zero_mul])
    subst hn
    have hrun := run_append_owned_none (P := P) (w := w) base t o.type e i size ht hi v n xs hown
    unfold Oper.wp
    simp [execOp, ho, resolve, invoke, builtin, hs, hx, hrun, Result.andThen]
    exact h v w (by simpa using hown) (World.grownBy.refl w _)
  | some ad => exact wp_append_own w s x t ho base e i z size bytes ht hi hz hsize hby hzs hsz v n xs hs hown ad m c news hx hl (hnews ad rfl) h1 h63 hbytes hbase fun v' w' h2 h3 _ => h v' w' h2 h3

/-- Where the group of a word begins. -/
structure Grp (ps : List Pul) (F : Nat) (l1 l2 : List Pul) (pre : List Int) : Prop where
  eps : ps = l1 ++ l2
  val : valuesR ps = pre ++ valuesR l2
  len : pre.length = F
  ne : l2 ≠ []
  rn : ∃ u, run u l2
  dec : ∀ rest i, decV (pre ++ rest) i = (l1 ++ (decV rest (i + pre.length)).1, (decV rest (i + pre.length)).2)
theorem Grp.start {ps : List Pul} (h : run 0 ps) (hne : ps ≠ []) : Grp ps 0 [] ps [] := ⟨rfl, rfl, rfl, hne, ⟨0, h⟩, fun rest i => rfl⟩
theorem Grp.at_ {ps : List Pul} {F : Nat} {l1 l2 : List Pul} {pre : List Int} (h : Grp ps F l1 l2 pre) : (valuesR ps).getD F 0 = 1536 + (glen l2 : Int) ∧ F < (valuesR ps).length := by
  rw [h.val, values_step h.ne, ← h.len]
  unfold hd
  constructor
  · rw [List.getD_eq_getElem?_getD, List.getElem?_append_right (Nat.le_refl _), Nat.sub_self]; rfl
  · rw [List.length_append]; simp
theorem Grp.step {ps : List Pul} {F : Nat} {l1 l2 : List Pul} {pre : List Int} (h : Grp ps F l1 l2 pre) {k : Nat} (hk : F + (4 + 2 * glen l2) ≤ k) (hkl : k < (valuesR ps).length) :
    ∃ pre', Grp ps (F + (4 + 2 * glen l2)) (l1 ++ l2.take (glen l2)) (l2.drop (glen l2)) pre' := by
  obtain ⟨x, hx⟩ := h.rn
  have hb := glen_bd h.ne
  obtain ⟨u, e1, e2, _, e5, _⟩ := first_group hx h.ne
  have hv := h.val
  rw [e1] at hv
  refine ⟨pre ++ u, by rw [h.eps, List.append_assoc, List.take_append_drop], by rw [hv, List.append_assoc], by rw [List.length_append, h.len, e2], fun e => ?_, run_drop x l2 hx (glen l2) (by omega), fun rest i => ?_⟩
  · have h1 := congrArg List.length hv
    rw [e, values_nil, List.length_append, List.length_append, h.len, e2] at h1
    simp at h1
    omega
  · rw [List.append_assoc, h.dec, decV_some (e5 rest), ← e2, List.drop_left]
    simp only [List.length_append, List.append_assoc, Nat.add_assoc]
theorem Grp.lost {ps : List Pul} {F : Nat} {l1 l2 : List Pul} {pre : List Int} (h : Grp ps F l1 l2 pre) {k : Nat} (h1 : F ≤ k) (h2 : k < F + (4 + 2 * glen l2)) :
    decV ((valuesR ps).set k (-1)) 0 = (l1 ++ l2.drop (glen l2), [((F : Int), (F : Int) + 3 + 2 * glen l2)]) := by
  obtain ⟨u, hu⟩ := h.rn
  rw [h.val, loss_at (l := ps) hu h.ne pre 0 h.dec k (by rw [h.len]; exact h1) (by rw [h.len]; omega), h.len, Nat.zero_add]
theorem Grp.fin {ps : List Pul} {F : Nat} {l1 l2 : List Pul} {pre : List Int} (h : Grp ps F l1 l2 pre) : ps.take l1.length = l1 ∧ ps.drop (l1.length + glen l2) = l2.drop (glen l2) ∧ l1.length + glen l2 ≤ ps.length := by
  have hb := glen_bd h.ne
  refine ⟨by rw [h.eps, List.take_left], ?_, by rw [h.eps, List.length_append]; omega⟩
  rw [h.eps, ← List.drop_drop, List.drop_left]
end Go.Proofs.YtbpgbdnfoofnaaaDoor
