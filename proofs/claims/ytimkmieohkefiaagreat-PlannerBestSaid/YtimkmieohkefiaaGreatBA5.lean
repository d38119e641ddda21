/-
  GV, ASan, APos, ALst, ADuW, AMoW: joined.
-/
import Derived.Test.YtimkmieohkefiaaGreatBA1
import Derived.Test.YtimkmieohkefiaaGreatBA2
import Derived.Test.YtimkmieohkefiaaGreatBA3
import Derived.Test.YtimkmieohkefiaaGreatBA4
set_option linter.unusedSimpArgs false
set_option linter.unusedVariables false
namespace Go.Proofs.YtimkmieohkefiaaGreat
open Go.RowKit Go.Lib

theorem trk_ok {b : List Int} (hl : b.length ≤ 32) (hb : ∀ z ∈ b, 1 ≤ z ∧ z ≤ 38400) : trkE b = 0 := by
  unfold trkE
  rw [if_neg (by omega), if_pos (okF_of hb)]
theorem trkL_bd {z : Int} (h : z ∈ trkL) : 300 ≤ z ∧ z ≤ 4000 := by
  have : ∀ z ∈ trkL, 300 ≤ z ∧ z ≤ 4000 := by decide
  exact this z h
theorem solE_cases {l : List It} (hv : validR l 0 = 0) : solE l = 0 ∨ solE l = 15 := by
  unfold solE
  rw [if_neg (fun g => g hv)]
  split
  · exact Or.inr rfl
  · exact Or.inl rfl
theorem srt_scr {l : List It} {q : List Sc} (h : Srt17 (scL l) q) {i : Nat} {s : Sc} (hi : q[i]? = some s) : ScR l s := (scL_mem.1 (h.perm.mem_iff.1 (List.mem_of_getElem? hi))).1
theorem srt_wt {l : List It} {q : List Sc} (h : Srt17 (scL l) q) {i : Nat} {s : Sc} (hi : q[i]? = some s) : s.wt ∈ wts := (scL_mem.1 (h.perm.mem_iff.1 (List.mem_of_getElem? hi))).2
theorem wts_mem {z : Int} (h : z ∈ wts) : 0 ≤ z ∧ z ≤ 12 := by
  have : ∀ z ∈ wts, 0 ≤ z ∧ z ≤ 12 := by decide
  exact this z h
theorem plan_cases {l : List It} {b : List Int} {q : List Sc} {res : Option (Sc × List Int)} {rf : List Int} {er : Int} (hs : Srt17 (scL l) q) (hb : trkE b = 0) (h : PlanR l b q res rf er) :
    (∃ i s tk, q[i]? = some s ∧ NoRoom l b q i ∧ ScR l s ∧ res = some (s, tk) ∧ rf = [] ∧ er = 0 ∧ Asg (ldS l s) b tk ∧ fitR (ldS l s) b tk = true ∧ Hall (ldS l s) b) ∨
    (er = 14 ∧ res = none ∧ NoRoom l b q q.length ∧ ∃ s, q[0]? = some s ∧ ScR l s ∧ refR (ldS l s) b rf = true) := by
  rcases h with ⟨h0, _⟩ | ⟨_, i, s, tk, hi, hn, ⟨os, h1, h2⟩, rfl, rfl, rfl⟩ | ⟨_, hn, ⟨s, hs0, os, h1, h2⟩, rfl, rfl⟩
  · exact absurd hb h0
  · have hr := srt_scr hs hi
    have V := vd_of ((scr_loads hr b).2.trans hb)
    rcases mout_cases V h1 h2 with ⟨_, _, G, H⟩ | ⟨e, _⟩
    · exact Or.inl ⟨i, s, tk, hi, hn, hr, rfl, rfl, rfl, G, fit_asg V G, H⟩
    · cases e
  · have hr := srt_scr hs hs0
    have V := vd_of ((scr_loads hr b).2.trans hb)
    rcases mout_cases V h1 h2 with ⟨e, _⟩ | ⟨_, _, R, _⟩
    · cases e
    · exact Or.inr ⟨rfl, rfl, hn, s, hs0, hr, R⟩
/-- With longer and more tracks a plan stays possible, and needs no more steps. -/
theorem room_steps {l : List It} {b c : List Int} {q : List Sc} {res res' : Option (Sc × List Int)} {rf rf' : List Int} {er er' : Int} (hs : Srt17 (scL l) q) (hb : trkE b = 0) (hc : trkE c = 0) (h : PlanR l b q res rf er) (k : PlanR l c q res' rf' er')
    (hl : b.length ≤ c.length) (hle : ∀ i, i < b.length → ld b i ≤ ld c i) (he : er = 0) : er' = 0 ∧ ∃ s tk s' tk', res = some (s, tk) ∧ res' = some (s', tk') ∧ s'.st ≤ s.st := by
  rcases plan_cases hs hb h with ⟨i, s, tk, hi, hn, hsc, rfl, rfl, -, -, -, H⟩ | ⟨e, _⟩
  · have H' : Hall (ldS l s) c := hall_mono rfl (fun _ _ => Int.le_refl _) hl hle H
    have V := vd_of ((scr_loads hsc c).2.trans hc)
    have bad : ∀ rs, ¬ MatR (ldS l s) c [] rs 14 := fun rs g => by
      obtain ⟨os, g1, g2⟩ := g
      rcases mout_cases V g1 g2 with ⟨e, _⟩ | ⟨_, _, _, _, g3, _⟩
      · cases e
      · exact g3 H'
    rcases plan_cases hs hc k with ⟨i', s', tk', hi', hn', hsc', rfl, rfl, rfl, -, -, -⟩ | ⟨_, _, hn', _⟩
    · refine ⟨rfl, s, tk, s', tk', rfl, rfl, ?_⟩
      rcases Nat.lt_trichotomy i' i with g | g | g
      · have h1 := (List.getElem?_eq_some_iff.1 hi').1
        have h2 := (List.getElem?_eq_some_iff.1 hi).1
        have hb2 := List.pairwise_iff_getElem.1 hs.asc i' i h1 h2 g
        rw [(List.getElem?_eq_some_iff.1 hi').2, (List.getElem?_eq_some_iff.1 hi).2] at hb2
        unfold Bf at hb2
        omega
      · subst g
        rw [hi] at hi'
        injection hi' with e
        rw [e]; exact Int.le_refl _
      · obtain ⟨rs, hr⟩ := hn' i s g hi
        exact absurd hr (bad rs)
    · obtain ⟨rs, hr⟩ := hn' i s (List.getElem?_eq_some_iff.1 hi).1 hi
      exact absurd hr (bad rs)
  · omega
/-- The lengths of tracks, some of them made longer. -/
def MoreR (b ds : List Int) (k : Nat) : Prop := ds.length = b.length ∧ ∀ j, j < b.length → ld b j ≤ ld ds j ∧ ld ds j ≤ ld b j + 1000 ∧ (k ≤ j → ld ds j = ld b j)
theorem MoreR.set {b ds : List Int} {k : Nat} (h : MoreR b ds k) (hk : k < b.length) {p : Int} (h0 : 0 ≤ p) (h1 : p ≤ 1000) : MoreR b (ds.set k (ld ds k + p)) (k + 1) := by
  refine ⟨by rw [List.length_set]; exact h.1, fun j hj => ?_⟩
  have e : ld (ds.set k (ld ds k + p)) j = if j = k then ld ds k + p else ld ds j := by
    unfold ld
    exact getD_set ds k j _ (by rw [h.1]; exact hk)
  rw [e]
  by_cases g : j = k
  · subst g
    have := h.2 j hk
    have := this.2.2 (Nat.le_refl _)
    rw [if_pos rfl]
    refine ⟨by omega, by omega, fun h => by omega⟩
  · rw [if_neg g]
    have := h.2 j hj
    exact ⟨this.1, this.2.1, fun g2 => this.2.2 (by omega)⟩
end Go.Proofs.YtimkmieohkefiaaGreat

namespace Go.Proofs.YtimkmieohkefiaaGreat
open Go.RowKit Go.Lib

end Go.Proofs.YtimkmieohkefiaaGreat

namespace Go.Proofs.YtimkmieohkefiaaGreat
open Go.RowKit Go.Lib

end Go.Proofs.YtimkmieohkefiaaGreat

namespace Go.Proofs.YtimkmieohkefiaaGreat
open Go.RowKit Go.Lib

/-- A list, while it is gathered: of the call's own, with at most n numbers of kind P. -/
structure Lg (P : Int → Prop) (n m N base : Nat) (w : World) (v : Value) (l : List Int) (wr : World) : Prop where
  own : Own .i64 3 wr base v l
  len : l.length ≤ n
  all : ∀ z ∈ l, P z
  mkr : IsMk wr m N
  mv : Moves m w wr
theorem Lg.app {P : Int → Prop} {n m N base : Nat} {w : World} {v v' : Value} {l : List Int} {wr w5 w' : World} {y : Int} (h : Lg P n m N base w v l wr) (hm : m < base) (hb : base ≤ wr.heap.size) (hwb : w.heap.size ≤ base) (k5 : IsMk w5 m (N + 1)) (m5 : Moves m wr w5) (hy : P y)
    (A : AppI base v l y (w5.alloc (.cells #[.int .i64 y] 3)) v' w') : Lg P (n + 1) m (N + 1) base w v' (l ++ [y]) w' := by
  have O5 := (h.own.moves m5 hm).alloc (.cells #[.int .i64 y] 3)
  refine ⟨A.1, by have := h.len; simp; omega, fun z hz => ?_, (k5.alloc _).grown A.2.1 (fun k e => by have := (own_block O5 e.symm.symm).1; omega), ((h.mv.trans m5).alloc _).grown A.2.1 (fun k e => by have := (own_block O5 e).1; omega)⟩
  rcases List.mem_append.1 hz with hz | hz
  · exact h.all z hz
  · rw [List.mem_singleton] at hz; subst hz; exact hy
end Go.Proofs.YtimkmieohkefiaaGreat

namespace Go.Proofs.YtimkmieohkefiaaGreat
open Go.RowKit Go.Lib

end Go.Proofs.YtimkmieohkefiaaGreat

namespace Go.Proofs.YtimkmieohkefiaaGreat
open Go.RowKit Go.Lib

theorem infoIntM : (Tryz.prog.info? 3).map (fun i => (i.zero, i.size, i.bytes)) = some (some (.int .i64 0), 1, 8) := by kernel_rfl
/-- append([]int{}, xs..) -/
theorem awpList_copyI (W : World) {ops : Array Oper} {rest : List Oper} {o : Oper} {a : Act} {Q : Exit → Act → World → Prop} (hgn : o.guard = none) (s x : Operand)
    (ho : o.op = .call { callee := .builtin .append, args := #[s, x], argTypes := #[22, 22] })
    (w0 : World) (hW : W = w0.alloc (.cells #[] 3)) (hs : a.eval s = .slice (some ⟨w0.heap.size, 0, none⟩) 0 0) (A : Option Addr) (m c : Nat) (zs : List Int) (hm : m = zs.length) (hx : a.eval x = .slice A m c) (hr : Row .i64 W W.heap.size A zs) (hA : A = none → m = 0 ∧ c = 0) (hl : m ≤ 1000000)
    (h : ∀ A' c' w', Own .i64 3 w' w0.heap.size (.slice A' m c') zs → Below w0.heap.size w0 w' → wpList Tryz.prog ops Q rest (a.put o.dst (.slice A' m c')) w') : wpList Tryz.prog ops Q (o :: rest) a W := by
  obtain ⟨i0, hi, hz0, hz1, hz2⟩ := info_parts infoIntM
  subst hm
  subst hW
  refine wpList_app_src hgn s x 22 ho w0.heap.size 3 i0 (.int .i64 0) 1 8 Tryz.underlying22 hi hz0 hz1 hz2 rfl (by decide) _ 0 [] hs (own_empty (Nat.le_refl _)) A zs.length c (zs.map (Value.int .i64)) hx hA (by rw [List.length_map, Nat.mul_one]) hr.newsO one_cells (by unfold maxLen; omega) (by omega) (by simp) ?_
  intro v' w' hown hg
  have O : Own .i64 3 w' w0.heap.size v' zs := by
    unfold Own
    rw [Nat.zero_add, List.nil_append] at hown
    exact hown
  obtain ⟨A', c', rfl, -⟩ := O.slice
  exact h A' c' w' O (((Below.refl w0.heap.size w0).alloc (Nat.le_refl _) _).grown hg (by simp) (fun j hj => by
    have : j = w0.heap.size := by simpa [Value.ownBlock] using hj.symm
    omega))
theorem own_nilc {k : IntKind} {e : TypeId} {w : World} {base n c : Nat} {A : Option Addr} {zs : List Int} (h : Own k e w base (.slice A n c) zs) (hA : A = none) : n = 0 ∧ c = 0 := by
  rcases h.2 with ⟨e1, h0⟩ | ⟨g, cap, cur, e1, _⟩
  · injection e1 with e1 e2 e3
    exact ⟨e2, e3⟩
  · injection e1 with e1
    rw [hA] at e1; cases e1
theorem own_at {k : IntKind} {e : TypeId} {w : World} {base n c : Nat} {A : Option Addr} {zs : List Int} (h : Own k e w base (.slice A n c) zs) (hn : 0 < zs.length) : ∃ g, A = some ⟨g, 0, none⟩ := by
  obtain ⟨A', c', e1, -, -, -, hg⟩ := h.slice
  injection e1 with e1
  obtain ⟨g, e2, _⟩ := hg hn
  exact ⟨g, e1.trans e2⟩
def tl9 (i : Nat) : Bool := i == 9
/-- The loads, made shorter. -/
def Less (L : Nat) (a cs : List Int) : Prop := cs.length = L ∧ ∀ j, j < L → 0 ≤ ld cs j ∧ ld cs j ≤ ld a j
theorem Less.set {L : Nat} {a cs : List Int} (h : Less L a cs) {i : Nat} (hi : i < L) {v : Int} (h0 : 0 ≤ v) (h1 : v ≤ ld cs i) : Less L a (cs.set i v) := by
  refine ⟨by rw [List.length_set]; exact h.1, fun j hj => ?_⟩
  unfold ld at *
  rw [getD_setI (by rw [h.1]; exact hi)]
  split
  · rename_i e
    subst e
    have := (h.2 j hj).2
    exact ⟨h0, by unfold ld at this; omega⟩
  · exact h.2 j hj
def More (M : Nat) (b ds : List Int) (k : Nat) : Prop := ds.length = M ∧ ∀ j, j < M → ld b j ≤ ld ds j ∧ ld ds j ≤ ld b j + 4 ∧ (k ≤ j → ld ds j = ld b j)
theorem More.set {M : Nat} {b ds : List Int} {k : Nat} (h : More M b ds k) (hk : k < M) {p : Int} (h0 : 0 ≤ p) (h1 : p ≤ 4) : More M b (ds.set k (ld ds k + p)) (k + 1) := by
  refine ⟨by rw [List.length_set]; exact h.1, fun j hj => ?_⟩
  have h2 := h.2 j hj
  have h3 := (h.2 k hk).2.2 (Nat.le_refl k)
  unfold ld at *
  rw [getD_setI (by rw [h.1]; exact hk)]
  split
  · rename_i e
    subst e
    exact ⟨by omega, by omega, fun h => by omega⟩
  · exact ⟨h2.1, h2.2.1, fun h => h2.2.2 (by omega)⟩
end Go.Proofs.YtimkmieohkefiaaGreat
