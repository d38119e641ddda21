/-
  Stage 9: what the rows' condition on the variables gives the walks; a world that meets it; the wrap that keeps the world's shape.
-/
import Derived.Test.YtdoifaifhikkjaaGreatDoorLDor
import Derived.Test.YtdoifaifhikkjaaGreatDoorCards
import Derived.ProofKit
import Derived.LaidMore
import Derived.Lay
import Derived.OpenShut
import Derived.HandedShaped
import Derived.Stop.Joined
import Derived.Deep.Strs
import Derived.Lib.SmallJoins
import Derived.Lib.LaidU8
set_option linter.unusedSimpArgs false
set_option linter.unusedVariables false
namespace Go.Proofs.YtdoifaifhikkjaaGreatDoor
open Go.ChangeShapes Go.WideShapes Go.ChangeAt Go.RowKit Go.Lib

def laidL : List (String × DataW Unit) := [("math/bits.deBruijn32tab", Rows.laid_math_bits_deBruijn32tab), ("math/bits.deBruijn64tab", Rows.laid_math_bits_deBruijn64tab), ("internal/strconv.uint64pow10", Rows.laid_internal_strconv_uint64pow10), ("unicode/utf8.acceptRanges", Rows.laid_unicode_utf8_acceptRanges), ("strconv.ErrRange", Rows.laid_strconv_ErrRange), ("strconv.ErrSyntax", Rows.laid_strconv_ErrSyntax), ("humpyard/layout.kinds", Rows.laid_humpyard_layout_kinds), ("humpyard/layout.suffixes", Rows.laid_humpyard_layout_suffixes), ("unicode/utf8.first", Rows.laid_unicode_utf8_first)]
theorem door_met (os : Os) (args : Array Value) : laidMetH Tryz.prog laidL ((World.laidAll Tryz.prog os laidL).forCall (fun _ _ => 0) ⟨#[], args, []⟩).memory := by
  rw [MakeChecks.laidMetH_plain _ _ _ (by kernel_rfl)]
  exact laidMet_laidAll _ (by kernel_rfl) (by kernel_rfl)
theorem tKd : (Tryz.prog.globals[0]?).map (·.type) = some 70 := by kernel_rfl
theorem tSf : (Tryz.prog.globals[1]?).map (·.type) = some 71 := by kernel_rfl
theorem tPw : (Tryz.prog.globals[3]?).map (·.type) = some 127 := by kernel_rfl
theorem tEr : (Tryz.prog.globals[7]?).map (·.type) = some 51 := by kernel_rfl
theorem cK5 : Tryz.prog.cellsOf 70 = 20 := by kernel_rfl
theorem cK1 : Tryz.prog.cellsOf 69 = 4 := by kernel_rfl
theorem cS3 : Tryz.prog.cellsOf 71 = 3 := by kernel_rfl
theorem cS1 : Tryz.prog.cellsOf 9 = 1 := by kernel_rfl
theorem cI1 : Tryz.prog.cellsOf 3 = 1 := by kernel_rfl
theorem uU64 : Tryz.prog.underlying 107 = some (.int .u64) := by kernel_rfl
theorem uP20 : Tryz.prog.underlying 127 = some (.array 20 107) := by kernel_rfl
theorem iface_of {P : Program} {H : Type} {enc : TypeId × Value → H} {W : World} {base : Nat} {spare : Nat → Bool} {fuel : Nat} {t : TypeId} {ms : Array (String × TypeId)} {cs : List Value} {nm : String} {d : DataW H} {p : List MemPlace}
    (ht : P.underlying t = some (.interface ms)) (h : DataW.trod enc P W base spare false fuel t cs = some (.iface nm d, p)) : ∃ u v, cs = [.iface u v] := by
  cases fuel with
  | zero => simp [DataW.trod] at h
  | succ m =>
    unfold DataW.trod at h
    rw [ht] at h
    split at h <;> first | exact ⟨_, _, rfl⟩ | simp_all
theorem xs_at {xs : List (DataW Unit × List MemPlace)} {ds : List (DataW Unit)} (h : ds = xs.map (·.1)) {k : Nat} {d : DataW Unit} (hd : ds[k]? = some d) : ∃ m, xs[k]? = some (d, m) := by
  subst h
  rw [List.getElem?_map, Option.map_eq_some_iff] at hd
  obtain ⟨⟨a, m⟩, e1, e2⟩ := hd
  simp only at e2
  subst e2
  exact ⟨m, e1⟩
theorem int_ofL {enc : TypeId × Value → Unit} {W : World} {base : Nat} {spare : Nat → Bool} {held : Bool} {fuel : Nat} {cs : List Value} {z : Int} {m : List MemPlace} (h : DataW.trod enc Tryz.prog W base spare held fuel 3 cs = some (.lit (.int .i64 z), m)) : cs = [.int .i64 z] := by
  obtain ⟨y, e1, e2, _⟩ := DataW.trod_int Tryz.underlying3 h
  simp only [Prod.mk.injEq, DataW.lit.injEq, Lit.int.injEq, true_and] at e2
  rw [e1, e2.1]
theorem str_ofL {enc : TypeId × Value → Unit} {W : World} {base : Nat} {spare : Nat → Bool} {held : Bool} {fuel : Nat} {cs : List Value} {l : List UInt8} {m : List MemPlace} (h : DataW.trod enc Tryz.prog W base spare held fuel 9 cs = some (.lit (.string l), m)) : cs = [.string ⟨⟨l⟩⟩] := by
  obtain ⟨s, e1, e2, _⟩ := DataW.trod_string Tryz.underlying9 h
  simp only [Prod.mk.injEq, DataW.lit.injEq, Lit.string.injEq] at e2
  rw [e1, e2.1]
set_option maxRecDepth 100000 in
theorem kind_ofL {enc : TypeId × Value → Unit} {W : World} {base : Nat} {spare : Nat → Bool} {held : Bool} {fuel : Nat} {cs : List Value} {l : List UInt8} {z1 z2 z3 : Int} {m : List MemPlace} (h : DataW.trod enc Tryz.prog W base spare held fuel 69 cs = some (.agg [.lit (.string l), .lit (.int .i64 z1), .lit (.int .i64 z2), .lit (.int .i64 z3)], m)) : cs = [.string ⟨⟨l⟩⟩, .int .i64 z1, .int .i64 z2, .int .i64 z3] := by
  obtain ⟨y0, y1, y2, y3, n, e, hl, h0, h1, h2, h3⟩ := Joins.trod_struct4 Tryz.underlying69 h
  rw [cK1] at hl
  simp only [Prod.mk.injEq, DataW.agg.injEq, List.cons.injEq, and_true] at e
  obtain ⟨⟨a0, a1, a2, a3⟩, _⟩ := e
  obtain ⟨y0, n0⟩ := y0
  obtain ⟨y1, n1⟩ := y1
  obtain ⟨y2, n2⟩ := y2
  obtain ⟨y3, n3⟩ := y3
  simp only at a0 a1 a2 a3
  subst a0; subst a1; subst a2; subst a3
  match cs, hl with
  | [v0, v1, v2, v3], _ =>
    simp only [cI1, cS1] at h0 h1 h2 h3
    have k0 := str_ofL h0
    have k1 := int_ofL h1
    have k2 := int_ofL h2
    have k3 := int_ofL h3
    simp at k0 k1 k2 k3
    rw [k0, k1, k2, k3]
theorem row_at {cs : List Value} {n q : Nat} {row : List Value} (h : (cs.drop (q * n)).take n = row) (r : Nat) (hr : r < n) : cs[q * n + r]? = row[r]? := by
  rw [← h, List.getElem?_take_of_lt hr, List.getElem?_drop]
set_option maxRecDepth 100000 in
theorem kd_of {W : World} (h : VarReads Tryz.prog W "humpyard/layout.kinds" Rows.laid_humpyard_layout_kinds) : W.var? Tryz.prog "humpyard/layout.kinds" = some kdV.toArray := by
  obtain ⟨g, t, cs, fuel, p, hg, ht, hv, hd⟩ := h
  obtain rfl := Option.some.inj (gKd.symm.trans hg)
  obtain rfl := Option.some.inj (tKd.symm.trans ht)
  obtain ⟨xs, m1, rfl, hx1, hlen, hn, hel⟩ := DataW.trod_array Tryz.underlying70 hd
  have hds := (DataW.agg.inj (Prod.mk.inj hx1).1)
  rw [cK5] at hlen
  rw [hv]
  congr 1
  apply Array.ext'
  apply List.ext_getElem?
  intro j
  by_cases hj : j < 20
  · obtain ⟨q, r, rfl, hq, hr⟩ : ∃ q r, j = q * 4 + r ∧ q < 5 ∧ r < 4 := ⟨j / 4, j % 4, by omega, by omega, by omega⟩
    have hk := hel q hq
    rw [cK1] at hk
    rcases (by omega : q = 0 ∨ q = 1 ∨ q = 2 ∨ q = 3 ∨ q = 4) with rfl | rfl | rfl | rfl | rfl
    · obtain ⟨m, hm⟩ := xs_at (k := 0) hds rfl
      have hc := kind_ofL (hk.trans hm)
      rw [row_at hc r hr]
      rcases (by omega : r = 0 ∨ r = 1 ∨ r = 2 ∨ r = 3) with rfl | rfl | rfl | rfl <;> rfl
    · obtain ⟨m, hm⟩ := xs_at (k := 1) hds rfl
      have hc := kind_ofL (hk.trans hm)
      rw [row_at hc r hr]
      rcases (by omega : r = 0 ∨ r = 1 ∨ r = 2 ∨ r = 3) with rfl | rfl | rfl | rfl <;> rfl
    · obtain ⟨m, hm⟩ := xs_at (k := 2) hds rfl
      have hc := kind_ofL (hk.trans hm)
      rw [row_at hc r hr]
      rcases (by omega : r = 0 ∨ r = 1 ∨ r = 2 ∨ r = 3) with rfl | rfl | rfl | rfl <;> rfl
    · obtain ⟨m, hm⟩ := xs_at (k := 3) hds rfl
      have hc := kind_ofL (hk.trans hm)
      rw [row_at hc r hr]
      rcases (by omega : r = 0 ∨ r = 1 ∨ r = 2 ∨ r = 3) with rfl | rfl | rfl | rfl <;> rfl
    · obtain ⟨m, hm⟩ := xs_at (k := 4) hds rfl
      have hc := kind_ofL (hk.trans hm)
      rw [row_at hc r hr]
      rcases (by omega : r = 0 ∨ r = 1 ∨ r = 2 ∨ r = 3) with rfl | rfl | rfl | rfl <;> rfl
  · rw [List.getElem?_eq_none (by omega), List.getElem?_eq_none (by simp [kdV]; omega)]
set_option maxRecDepth 100000 in
theorem sf_of {W : World} (h : VarReads Tryz.prog W "humpyard/layout.suffixes" Rows.laid_humpyard_layout_suffixes) : W.var? Tryz.prog "humpyard/layout.suffixes" = some sfV.toArray := by
  obtain ⟨g, t, cs, fuel, p, hg, ht, hv, hd⟩ := h
  obtain rfl := Option.some.inj (gSf.symm.trans hg)
  obtain rfl := Option.some.inj (tSf.symm.trans ht)
  obtain ⟨xs, m1, rfl, hx1, hlen, hn, hel⟩ := DataW.trod_array Tryz.underlying71 hd
  have hds := (DataW.agg.inj (Prod.mk.inj hx1).1)
  rw [cS3] at hlen
  rw [hv]
  congr 1
  apply Array.ext'
  apply List.ext_getElem?
  intro j
  by_cases hj : j < 3
  · have hk := hel j hj
    rw [cS1] at hk
    rcases (by omega : j = 0 ∨ j = 1 ∨ j = 2) with rfl | rfl | rfl
    · obtain ⟨m, hm⟩ := xs_at (k := 0) hds rfl
      have hc := str_ofL (hk.trans hm)
      exact (row_at hc 0 (by omega)).trans rfl
    · obtain ⟨m, hm⟩ := xs_at (k := 1) hds rfl
      have hc := str_ofL (hk.trans hm)
      exact (row_at hc 0 (by omega)).trans rfl
    · obtain ⟨m, hm⟩ := xs_at (k := 2) hds rfl
      have hc := str_ofL (hk.trans hm)
      exact (row_at hc 0 (by omega)).trans rfl
  · rw [List.getElem?_eq_none (by omega), List.getElem?_eq_none (by simp [sfV]; omega)]
set_option maxRecDepth 100000 in
theorem pw_of {W : World} (h : VarReads Tryz.prog W "internal/strconv.uint64pow10" Rows.laid_internal_strconv_uint64pow10) : Lib.TabIs Tryz.prog W "internal/strconv.uint64pow10" .u64 Lib.pow10Tab := by
  obtain ⟨g, t, cs, fuel, p, hg, ht, hv, hd⟩ := h
  obtain rfl := Option.some.inj (gPw.symm.trans hg)
  obtain rfl := Option.some.inj (tPw.symm.trans ht)
  have := cells_of_tab (zs := Lib.pow10Tab) (k := .u64) uP20 uU64 (by kernel_rfl) (by kernel_rfl) hd
  unfold TabIs
  rw [hv, ← this]
set_option maxRecDepth 100000 in
theorem er_of {W : World} (h : VarReads Tryz.prog W "strconv.ErrRange" Rows.laid_strconv_ErrRange) : ∃ tp p, W.var? Tryz.prog "strconv.ErrRange" = some #[.iface tp p] := by
  obtain ⟨g, t, cs, fuel, p, hg, ht, hv, hd⟩ := h
  obtain rfl := Option.some.inj (gEr.symm.trans hg)
  obtain rfl := Option.some.inj (tEr.symm.trans ht)
  obtain ⟨u, v, e⟩ := iface_of Tryz.underlying51 hd
  exact ⟨u, v, by rw [hv]; congr 1; exact Array.ext' e⟩
set_option maxRecDepth 100000 in
/-- The variables, out of the rows' condition. -/
theorem of_laid {W : World} (h : laidMetH Tryz.prog laidL W) (hs : W.ShapedOpen Tryz.prog) : Dor W := by
  rw [MakeChecks.laidMetH_plain _ _ _ (by kernel_rfl)] at h
  exact ⟨kd_of (laidMet.reads h (.tail _ (.tail _ (.tail _ (.tail _ (.tail _ (.tail _ (.head _)))))))), sf_of (laidMet.reads h (.tail _ (.tail _ (.tail _ (.tail _ (.tail _ (.tail _ (.tail _ (.head _))))))))), pw_of (laidMet.reads h (.tail _ (.tail _ (.head _)))), er_of (laidMet.reads h (.tail _ (.tail _ (.tail _ (.tail _ (.head _)))))),
    cell_of_shapedOpen_int (t := 3) (zero := #[.int .i64 0]) hs (of_decide_eq_true (by kernel_rfl)) (by kernel_rfl) rfl (by kernel_rfl) (by kernel_rfl) Tryz.underlying3⟩
/-- The wrap: a condition on the variables, and the world's shape kept. -/
theorem returns_laid_shaped {H : Type} {enc : TypeId × Value → H} {C : Checked} {os : Os} {f : FuncId} {fn : Func} {s : ChangeSpec} {conds : List PathCond} {apart fresh handsOn again : Bool} {X : World → Array Value → Prop}
    (hX : ∀ (w w' : World) (args : Array Value), w.heap = w'.heap → X w args → X w' args)
    (own : ownKnob C.prog.godebug = none) (started : os.Started) (noInit : C.prog.inits.idxOf? f = none) (hfn : C.prog.funcs[f]? = some fn)
    (witness : ∃ (w : World) (tape : Tape) (i : Input), w.os = os ∧ (w.forCall tape i).Shaped C.prog ∧ i.vars = [] ∧ Input.okWide C.prog (w.forCall tape i) .any w.heap.size f i ∧
      ((s.pre enc C.prog fn conds apart (w.forCall tape i).memory i.args ∧ X (w.forCall tape i).memory i.args) ∧ sizedMet enc C.prog fn (OpenSpec.ofChange s) apart (w.forCall tape i).memory i.args) ∧ ({} : Assume).holds C.prog (lone (Frame.enter C.prog f i.args .normal) [] (w.forCall tape i)))
    (contract : ∀ (W : World) (base : Nat) (args : Array Value) (ds gs : List (DataW H)) (before : List MemPlace),
      (∀ (j : Nat) t v, fn.params[j]? = some t → args[j]? = some v → Value.okWide C.prog W .any base t v) →
      DataW.Whole enc C.prog fn.params.toList s.vars apart W args.toList ds gs before →
      (DataW.weightsEach C.prog (fn.params.toList ++ s.plain.varTypes C.prog) (ds ++ gs)).all (· ≤ reachBytes) = true → X W args → W.ShapedOpen C.prog →
      Calls C.prog f args W fun e W' => ∃ v, e = .returned v ∧ s.post enc C.prog fn apart fresh handsOn again W args v W') :
    ReturnsInHanded {} C os f .any (fun w args => (s.pre enc C.prog fn conds apart w args ∧ X w args) ∧ sizedMet enc C.prog fn (OpenSpec.ofChange s) apart w args) (s.post enc C.prog fn apart fresh handsOn again) := by
  refine returnsInHanded_of_calls own started noInit witness ?_
  intro w tape i _ hsh _ hok hpre _
  obtain ⟨_, _, _, fn', hfn', _, _, _, _, hval⟩ := hok
  obtain rfl : fn' = fn := Option.some.inj (hfn'.symm.trans hfn)
  obtain ⟨⟨⟨ds, gs, before, hw, hc⟩, hx⟩, hz⟩ := hpre
  refine (contract (w.forCall tape i) w.heap.size i.args ds gs before hval (DataW.Whole.of_heap (w' := w.forCall tape i) (by rfl) hw) (hz.weights hw) (hX _ _ _ (by rfl) hx) hsh).mono fun e W' ⟨v, he, hp⟩ => ?_
  subst he
  exact ChangeSpec.post_blind hp
end Go.Proofs.YtdoifaifhikkjaaGreatDoor
