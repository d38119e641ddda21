/-
  Stage 8: the reference's table: rows of -1, appended one by one.
-/
import Derived.Test.YtbdiilkdajadcaaDoorRNew
import Derived.Test.YtbdiilkdajadcaaDoorWApp
set_option linter.unusedSimpArgs false
set_option linter.unusedVariables false
namespace Go.Proofs.YtbdiilkdajadcaaDoor
open Go.RowKit

abbrev Dsc := Option Addr × Nat × Nat
abbrev dscV (d : Dsc) : Value := .slice d.1 d.2.1 d.2.2
def PR : Rec Dsc := ⟨1, by decide, fun d => [dscV d], fun _ => rfl, fun d u hu => by
  obtain rfl := List.mem_singleton.1 hu; rfl⟩
def AppS (base : Nat) (v : Value) (ds : List Dsc) (y : Dsc) (W : World) (v' : Value) (w' : World) : Prop :=
  ROwn PR 22 w' base v' (ds ++ [y]) ∧ W.grownBy w' v.ownBlock ∧ ∃ g c, v' = .slice (some ⟨g, 0, none⟩) (ds.length + 1) c ∧ g < w'.heap.size ∧ (v.ownBlock = some g ∨ g = W.heap.size)
theorem wpList_appSl (W : World) {ops : Array Oper} {rest : List Oper} {o : Oper} {a : Act} {Q : Exit → Act → World → Prop} (hgd : o.guard = none) (s x : Operand)
    (ho : o.op = .call { callee := .builtin .append, args := #[s, x], argTypes := #[26, 26] }) (base : Nat) (v : Value) (ds : List Dsc) (hs : a.eval s = v) (O : ROwn PR 22 W base v ds)
    (y : Dsc) (w0 : World) (hW : W = w0.alloc (.cells #[dscV y] 22)) (z : Nat) (hz : w0.heap.size = z) (c : Nat) (hx : a.eval x = .slice (some ⟨z, 0, none⟩) 1 c)
    (hl : ds.length + 1 ≤ 1000000000) (hb : base ≤ W.heap.size)
    (h : ∀ v' w', AppS base v ds y W v' w' → wpList Tryd.prog ops Q rest (a.put o.dst v') w') : wpList Tryd.prog ops Q (o :: rest) a W := by
  obtain ⟨i0, hi, hz0, hz1, hz2⟩ := info_parts infoLI
  subst hz
  refine wpList_append_lies W hgd s x 26 ho base 22 i0 (.slice none 0 0) 1 24 Tryd.underlying26 hi hz0 hz1 hz2 rfl (by decide) v ds.length (PR.flat ds) hs O ⟨w0.heap.size, 0, none⟩ 1 c (PR.flat [y]) hx rfl (by rw [hW]; exact newR (R := PR)) (flatR_one PR [y]) (by decide) (by unfold maxLen; omega) (by omega) hb W.heap.size rfl ?_
  intro g cap w1 hown hg hat hlt
  exact h _ w1 ⟨ROwn.app (R := PR) (l := ds) (m := [y]) hown rfl rfl, hg, g, cap, rfl, hlt, hat⟩
theorem PR.cell {w : World} {base g n c : Nat} {ds : List Dsc} (h : ROwn PR 22 w base (.slice (some ⟨g, 0, none⟩) n c) ds) {k : Nat} {d : Dsc} (hk : ds[k]? = some d) : w.cell? ⟨g, k, none⟩ = some (dscV d) := by
  obtain ⟨A, c', e, R⟩ := h.slice
  injection e with e _ _
  subst e
  obtain ⟨ad, e2, C⟩ := R.at_ hk
  injection e2 with e2
  subst e2
  have hc := C.cs 0 (dscV d) rfl
  have e4 : k * PR.m + 0 = k := Nat.mul_one k
  rw [e4, add_own] at hc
  exact hc
abbrev rowM (b M c : Nat) : Dsc := (some ⟨b, 0, none⟩, M, c)
/-- The table while its rows are appended. -/
structure RTb (w : World) (base M : Nat) (v : Value) (ds : List Dsc) : Prop where
  own : ROwn PR 22 w base v ds
  each : ∀ (j : Nat) d, ds[j]? = some d → ∃ b c, d = rowM b M c ∧ ROwn IR 3 w base (.slice (some ⟨b, 0, none⟩) M c) (rowL (fun _ => (-1 : Int)) M) ∧ v.ownBlock ≠ some b
  apart : ∀ (i j : Nat) d d', ds[i]? = some d → ds[j]? = some d' → i ≠ j → d.1 ≠ d'.1
theorem RTb.nil {w : World} {base M : Nat} : RTb w base M (.slice none 0 0) [] := ⟨ROwn.nil, fun j d hj => by simp at hj, fun i j d d' hi => by simp at hi⟩
theorem RTb.below {w w' : World} {base M : Nat} {v : Value} {ds : List Dsc} (h : RTb w base M v ds) (b : Below w.heap.size w w') : RTb w' base M v ds :=
  ⟨h.own.below b, fun j d hj => by
    obtain ⟨q, c, e, o, n⟩ := h.each j d hj
    exact ⟨q, c, e, o.below b, n⟩, h.apart⟩
theorem RTb.app {w w' : World} {base M b c : Nat} {v v' : Value} {ds : List Dsc} {o : Obj} (h : RTb w base M v ds) (hr : ROwn IR 3 w base (.slice (some ⟨b, 0, none⟩) M c) (rowL (fun _ => (-1 : Int)) M)) (hv : v.ownBlock ≠ some b) (hn : ∀ (j : Nat) d, ds[j]? = some d → d.1 ≠ some ⟨b, 0, none⟩)
    (A : AppS base v ds (rowM b M c) (w.alloc o) v' w') : RTb w' base M v' (ds ++ [rowM b M c]) := by
  obtain ⟨O', hg, g, c', rfl, hlt, hat⟩ := A
  have keep : ∀ (q cc : Nat), ROwn IR 3 w base (.slice (some ⟨q, 0, none⟩) M cc) (rowL (fun _ => (-1 : Int)) M) → v.ownBlock ≠ some q → ROwn IR 3 w' base (.slice (some ⟨q, 0, none⟩) M cc) (rowL (fun _ => (-1 : Int)) M) ∧ (Value.slice (some ⟨g, 0, none⟩) (ds.length + 1) c').ownBlock ≠ some q := fun q cc hq hne => by
    refine ⟨(hq.alloc o).kept hg (Or.inr (fun e => hne (by rw [← e]; rfl))), fun e => ?_⟩
    have e1 : g = q := by simpa [Value.ownBlock] using e
    subst e1
    rcases hat with hat | hat
    · exact hne hat
    · have h1 := (hq.block (g := g) rfl).2
      simp at hat
      omega
  refine ⟨O', fun j d hj => ?_, fun i j d d' hi hj hij => ?_⟩
  · by_cases hjl : j < ds.length
    · rw [List.getElem?_append_left hjl] at hj
      obtain ⟨q, cc, e, o1, n1⟩ := h.each j d hj
      exact ⟨q, cc, e, keep q cc o1 n1⟩
    · rw [List.getElem?_append_right (by omega)] at hj
      have hj0 : j - ds.length = 0 := by have := (List.getElem?_eq_some_iff.1 hj).1; simp at this; omega
      rw [hj0] at hj
      injection hj with hj
      subst hj
      exact ⟨b, c, rfl, keep b c hr hv⟩
  · have last : ∀ {k : Nat} {x : Dsc}, ¬ k < ds.length → (ds ++ [rowM b M c])[k]? = some x → k = ds.length ∧ x = rowM b M c := fun {k x} hk hx => by
      rw [List.getElem?_append_right (by omega)] at hx
      have hk0 : k - ds.length = 0 := by have := (List.getElem?_eq_some_iff.1 hx).1; simp at this; omega
      rw [hk0] at hx
      injection hx with hx
      exact ⟨by omega, hx.symm⟩
    by_cases hil : i < ds.length
    · by_cases hjl : j < ds.length
      · rw [List.getElem?_append_left hil] at hi
        rw [List.getElem?_append_left hjl] at hj
        exact h.apart i j d d' hi hj hij
      · obtain ⟨_, rfl⟩ := last hjl hj
        rw [List.getElem?_append_left hil] at hi
        exact hn i d hi
    · obtain ⟨e1, rfl⟩ := last hil hi
      by_cases hjl : j < ds.length
      · rw [List.getElem?_append_left hjl] at hj
        exact fun e => hn j d' hj e.symm
      · obtain ⟨e2, _⟩ := last hjl hj
        omega
theorem RTb.tab {w : World} {base M g n c : Nat} {ds : List Dsc} (h : RTb w base M (.slice (some ⟨g, 0, none⟩) n c) ds) (hn : ds.length = n) : n ≤ c ∧ ∃ rb rc, Tab IR 3 w base g n M n rb rc (fun _ _ => (-1 : Int)) := by
  obtain ⟨A, c', e, H, h1, h2, _⟩ := h.own.full
  injection e with e1 _ e3
  subst e1; subst e3
  have hb := h.own.block (g := g) rfl
  have hex : ∀ i, ∃ b c, i < n → ds[i]? = some (rowM b M c) ∧ ROwn IR 3 w base (.slice (some ⟨b, 0, none⟩) M c) (rowL (fun _ => (-1 : Int)) M) ∧ b ≠ g := fun i => by
    by_cases hi : i < n
    · have hd : ds[i]? = some ds[i] := List.getElem?_eq_getElem (by omega)
      obtain ⟨b, c, e, o, q⟩ := h.each i _ hd
      exact ⟨b, c, fun _ => ⟨by rw [hd, e], o, fun e => q (by rw [e]; rfl)⟩⟩
    · exact ⟨0, 0, fun h => absurd h hi⟩
  refine ⟨by omega, fun i => Classical.choose (hex i), fun i => Classical.choose (Classical.choose_spec (hex i)), hb.2, hb.1, fun j => h.own.frozen hn.symm j, fun i hi => ?_, fun i h1 h2 => by omega, fun i hi => ?_, fun i hi => ?_, fun i j hi hj e => ?_⟩
  · exact PR.cell h.own ((Classical.choose_spec (Classical.choose_spec (hex i))) hi).1
  · exact ((Classical.choose_spec (Classical.choose_spec (hex i))) hi).2.1
  · exact ((Classical.choose_spec (Classical.choose_spec (hex i))) hi).2.2
  · by_cases g' : i = j
    · exact g'
    · exact absurd (by show (some (⟨_, 0, none⟩ : Addr)) = some ⟨_, 0, none⟩; rw [e]) (h.apart i j _ _ ((Classical.choose_spec (Classical.choose_spec (hex i))) hi).1 ((Classical.choose_spec (Classical.choose_spec (hex j))) hj).1 g')
theorem rowL_snoc (z : Int) (j : Nat) : rowL (fun _ => z) (j + 1) = rowL (fun _ => z) j ++ [z] := by
  unfold rowL; rw [List.range_succ, List.map_append]; rfl
set_option maxRecDepth 100000 in
set_option maxHeartbeats 6400000 in
theorem rtbl_any (A B : Option Addr) (la ca lb cb : Nat) (w : World) (l1 : la ≤ 96) (l2 : lb ≤ 96) :
    Calls Tryd.prog 32 #[.slice A la ca, .slice B lb cb] w fun e w' => (∃ g c rb rc, e = .returned (.slice (some ⟨g, 0, none⟩) (la + 1) c) ∧ la + 1 ≤ c ∧ Tab IR 3 w' w.heap.size g (la + 1) (lb + 1) (la + 1) rb rc (fun _ _ => (-1 : Int))) ∧ Below w.heap.size w w' := by
  go_enter Tryd.func32, Tryd.ntmps32
  go_wp2_with fail
  go_loopw [5, 6] (fun v x wr => ∃ (i : Nat) (ds : List Dsc), i ≤ la + 1 ∧ x = .int .i64 (i : Int) ∧ ds.length = i ∧ Hid (RTb wr w.heap.size (lb + 1) v ds) ∧ Hid (Below w.heap.size w wr)) (fun _ x _ => la + 1 - (intOf x).toNat)
  case atStart => exact ⟨0, [], by omega, rfl, rfl, Lib.hid RTb.nil, Lib.hid (Below.refl _ _)⟩
  case round =>
    obtain ⟨i, ds, hi, rfl, hds, HT, HB⟩ := hrel
    generalize wr = wo at *
    generalize u5 = vo at *
    by_cases hlt : i ≤ la
    · have i1 : (i : Int) ≤ (la : Int) := by omega
      go_wp2_with fail
      go_loopw [7, 8] (fun v x wr => ∃ j : Nat, j ≤ lb + 1 ∧ x = .int .i64 (j : Int) ∧ Hid (Own .i64 3 wr wo.heap.size v (rowL (fun _ => (-1 : Int)) j)) ∧ Hid (Below wo.heap.size wo wr)) (fun _ x _ => lb + 1 - (intOf x).toNat)
      case atStart => exact ⟨0, by omega, rfl, Lib.hid Own.nil, Lib.hid (Below.refl _ _)⟩
      case round =>
        obtain ⟨j, hj, rfl, HO, HB2⟩ := hrel
        generalize wr = wi at *
        by_cases hltj : j ≤ lb
        · have j1 : (j : Int) ≤ (lb : Int) := by omega
          have HLEN := Lib.hid (show (rowL (fun _ => (-1 : Int)) j).length + 1 ≤ 1000000000 by rw [rowL_len]; omega)
          have HSB := Lib.hid HB2.out.size
          go_wp2_with (first | (at_builtin; refine wpList_appI _ rfl (.tmp 21) (.tmp 22) rfl wo.heap.size _ (rowL (fun _ => (-1 : Int)) j) rfl (HO.out.alloc _) (-1) wi rfl _ rfl 1 rfl HLEN.out (le_allocW HSB.out) ?_; intro v5 w5 A5; have HB5 := Lib.hid (AppI.below A5 HB2.out HSB.out HO.out); have O5 := Lib.hid A5.1; clear A5))
          go_roundw
          case rel => exact ⟨j + 1, by omega, by go_num, Lib.hid (by rw [rowL_snoc]; exact O5.out), HB5⟩
          case measure => simp [intOf] <;> omega
        · obtain rfl : j = lb + 1 := by omega
          have j1 : ¬ ((lb : Int) + 1) ≤ (lb : Int) := by omega
          have j2 : ¬ (((lb + 1 : Nat) : Int)) ≤ (lb : Int) := by omega
          obtain ⟨A7, c7, rfl, -, -, -, hg7⟩ := HO.out.slice
          obtain ⟨b7, rfl, hb7, hb8⟩ := hg7 (by rw [rowL_len]; omega)
          rw [rowL_len] at HO ⊢
          have HT2 := Lib.hid (HT.out.below HB2.out)
          have HR := Lib.hid (IR_of_own (HO.out.base HB.out.size))
          have HNV := Lib.hid (show vo.ownBlock ≠ some b7 from fun e => by have := (HT.out.own.block e).2; omega)
          have HND := Lib.hid (show ∀ (j : Nat) d, ds[j]? = some d → d.1 ≠ some ⟨b7, 0, none⟩ from fun j d hd e => by
            obtain ⟨q, c, rfl, o, _⟩ := HT.out.each j d hd
            have e1 : q = b7 := by simpa using e
            have := (o.block (g := q) rfl).2
            omega)
          have HB3 := Lib.hid (HB.out.trans (HB2.out.mono HB.out.size))
          have HDL := Lib.hid (show ds.length + 1 ≤ 1000000000 by omega)
          clear HO HB2 HT HB hj
          go_wp2_with (first | (at_builtin; refine wpList_appSl _ rfl (.tmp 24) (.tmp 26) rfl w.heap.size _ ds rfl (HT2.out.own.alloc _) (rowM b7 (lb + 1) c7) wi rfl _ rfl 1 rfl HDL.out (le_allocW HB3.out.size) ?_; intro v5 w5 A5; have HT5 := Lib.hid (HT2.out.app HR.out HNV.out HND.out A5); have HB5 := Lib.hid ((HB3.out.alloc HB3.out.size (.cells #[dscV (rowM b7 (lb + 1) c7)] 22)).grown A5.2.1 (le_allocW HB3.out.size) (fun j hj => (HT2.out.own.block hj).1)); clear A5))
          go_roundw
          case rel => exact ⟨i + 1, ds ++ [rowM b7 (lb + 1) c7], by omega, by go_num, by rw [List.length_append, hds]; rfl, HT5, HB5⟩
          case measure => simp [intOf] <;> omega
    · obtain rfl : i = la + 1 := by omega
      have i1 : ¬ ((la : Int) + 1) ≤ (la : Int) := by omega
      have i2 : ¬ (((la + 1 : Nat) : Int)) ≤ (la : Int) := by omega
      obtain ⟨A7, c7, rfl, -, -, -, hg7, -⟩ := HT.out.own.full
      obtain ⟨g7, rfl, -, -⟩ := hg7 (by omega)
      rw [hds] at HT ⊢
      obtain ⟨hc, rb, rc, T⟩ := HT.out.tab hds
      go_wp2_with fail
      go_ret
      exact ⟨⟨g7, c7, rfl, hc, rb, rc, T⟩, HB.out⟩
end Go.Proofs.YtbdiilkdajadcaaDoor
