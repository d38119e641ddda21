/-
  Stage 4: messages of valid lists; the maker of a list that came in.
-/
import Derived.Test.YtbpgbdnfoofnaaaDoorDSane
set_option linter.unusedSimpArgs false
set_option linter.unusedVariables false
namespace Go.Proofs.YtbpgbdnfoofnaaaDoor
open Go.RowKit

theorem values_okV (n : Nat) (l : List Pul) (hn : l.length ≤ n) (t : Int) (h : run t l) : ∀ v ∈ valuesR l, okV v := by
  induction n generalizing l t with
  | zero =>
    have : l = [] := List.length_eq_zero_iff.1 (by omega)
    subst this
    intro v hv; cases hv
  | succ n ih =>
    by_cases hl : l = []
    · subst hl; intro v hv; cases hv
    · have hb := glen_bd hl
      obtain ⟨u, e1, _, ⟨r, e3, e4⟩, _, _⟩ := first_group h hl
      obtain ⟨x, hx⟩ := run_drop t l h (glen l) (by omega)
      intro v hv
      rw [e1, List.mem_append] at hv
      rcases hv with hv | hv
      · rw [e3] at hv
        unfold okV
        rcases List.mem_cons.1 hv with rfl | hv
        · omega
        · have := e4 v hv; omega
      · exact ih (l.drop (glen l)) (by rw [List.length_drop]; omega) x hx v hv
theorem enc_run {l : List Pul} (h : run 0 l) (hl : l.length ≤ 4096) : encL l = ((valuesR l).flatMap two, 0) := by
  have hv := (values_len l.length l (Nat.le_refl _)).1
  have e : validR l = 0 := by
    unfold validR
    rw [if_neg (by omega)]
    exact (vw_run 0 l).2 h
  unfold encL
  rw [if_pos e]
  exact packR_ok (by omega) (values_okV _ l (Nat.le_refl _) 0 h)
theorem Good.all {zs : List Int} (hz : ∀ v ∈ zs, okV v) : Good zs (zs.flatMap two) zs.length := by
  have : ∀ k, k ≤ zs.length → Good zs (zs.flatMap two) k := fun k => by
    induction k with
    | zero => exact fun _ => Good.start hz
    | succ k ih => exact fun hk => (ih (by omega)).skip hz (by omega)
  exact this _ (Nat.le_refl _)
theorem dec_good {l : List Pul} {xs : List Int} (h : run 0 l) (hl : l.length ≤ 4096) (g : Good (valuesR l) xs (valuesR l).length) : decD xs = (l, [], 0) := by
  have hv := (values_len l.length l (Nat.le_refl _)).1
  have e := decV_values l.length l (Nat.le_refl _) 0 h [] 0
  rw [List.append_nil, decV_nil, List.append_nil] at e
  exact decD_ok (g.unpack (by omega)) e (by omega)
theorem dec_join {l m : List Pul} (h : run 0 l) (h' : run 0 m) (hl : l.length + m.length ≤ 4096) : decD ((valuesR l).flatMap two ++ (valuesR m).flatMap two) = (l ++ m, [], 0) := by
  have hv := (values_len l.length l (Nat.le_refl _)).1
  have hv' := (values_len m.length m (Nat.le_refl _)).1
  have hz : ∀ v ∈ valuesR l ++ valuesR m, okV v := fun v hm => by
    rcases List.mem_append.1 hm with hm | hm
    · exact values_okV _ l (Nat.le_refl _) 0 h v hm
    · exact values_okV _ m (Nat.le_refl _) 0 h' v hm
  have g := (Good.all hz).unpack (by rw [List.length_append]; omega)
  rw [List.flatMap_append] at g
  have e := decV_values l.length l (Nat.le_refl _) 0 h (valuesR m) 0
  have e' := decV_values m.length m (Nat.le_refl _) 0 h' [] (0 + (valuesR l).length)
  rw [List.append_nil, decV_nil, List.append_nil] at e'
  rw [e'] at e
  exact decD_ok g e (by rw [List.length_append]; omega)
theorem dec_twice {l : List Pul} (h : run 0 l) (hl : l.length ≤ 4096) (hb : 4096 < l.length + l.length) : decD ((valuesR l).flatMap two ++ (valuesR l).flatMap two) = ([], [], 3) := by
  have hv := (values_len l.length l (Nat.le_refl _)).1
  have hz : ∀ v ∈ valuesR l ++ valuesR l, okV v := fun v hm => by
    rcases List.mem_append.1 hm with hm | hm <;> exact values_okV _ l (Nat.le_refl _) 0 h v hm
  have g := (Good.all hz).unpack (by rw [List.length_append]; omega)
  rw [List.flatMap_append] at g
  have e := decV_values l.length l (Nat.le_refl _) 0 h (valuesR l) 0
  have e' := decV_values l.length l (Nat.le_refl _) 0 h [] (0 + (valuesR l).length)
  rw [List.append_nil, decV_nil, List.append_nil] at e'
  rw [e'] at e
  exact decD_big g (by rw [e]; show 4096 < (l ++ l).length; rw [List.length_append]; exact hb)
theorem two_bytR (l : List Pul) (h : run 0 l) : byt ((valuesR l).flatMap two) := two_byt _ (values_okV _ l (Nat.le_refl _) 0 h)

/-- The maker of a list that came in. -/
theorem mk_row {w : World} {A : Option Addr} {c : Nat} {l : List Int} {T : TypeId} (h : RowB .i64 w A l) (hw : ∀ n ∈ l, (Lit.int .i64 n).wf = true) : IsMk (w.alloc (.cells #[.slice A l.length c, .int .i64 0] T)) w.heap.size 0 := by
  have e : (w.alloc (.cells #[.slice A l.length c, .int .i64 0] T)).heap[w.heap.size]? = some (.cells #[.slice A l.length c, .int .i64 0] T) := by
    show (w.heap.push _)[w.heap.size]? = _
    rw [Array.getElem?_push, if_pos rfl]
  refine ⟨by simp, ⟨0, Nat.le_refl _, by rw [cell_new]; rfl⟩, ?_, A, l.length, c, by rw [cell_new]; rfl, h.2, ?_⟩
  · unfold World.frozen?; rw [e]; rfl
  · rcases Nat.eq_zero_or_pos l.length with h0 | h0
    · exact Or.inl h0
    · obtain ⟨ad, rfl, hb, h1⟩ := h.1 0 h0
      obtain ⟨b, off, spot⟩ := ad
      have hs : spot = none := by simpa [Addr.add] using World.cell?_spot h1
      subst hs
      refine Or.inr ⟨b, off, rfl, hb, fun i hi => ⟨l.getD i 0, ?_, bounds_i64 (hw _ (getD_mem hi))⟩⟩
      obtain ⟨ad', e', _, hc⟩ := h.1 i hi
      have ea : (⟨b, off, none⟩ : Addr) = ad' := by injection e'
      subst ea
      rw [((Below.refl w.heap.size w).alloc (Nat.le_refl _) _).cell (p := ⟨b, off + i, none⟩) hb]
      by_cases i0 : i = 0
      · subst i0; simpa [Addr.add] using hc
      · simpa [Addr.add, i0] using hc
theorem POwn.full {w : World} {base : Nat} {v : Value} {l : List Pul} (h : POwn w base v l) :
    ∃ A c, v = .slice A l.length c ∧ PRow w A l ∧ l.length ≤ c ∧ c ≤ maxLen ∧ (0 < l.length → ∃ g, A = some ⟨g, 0, none⟩ ∧ base ≤ g ∧ g < w.heap.size) := by
  obtain ⟨A, c, rfl, R, h1, h3⟩ := h.slice
  refine ⟨A, c, rfl, R, h1, ?_, h3⟩
  rcases h.2 with ⟨e, _⟩ | ⟨g, cap, cur, e, _, _, _, h5, _⟩
  · injection e with e1 e2 e3; rw [e3]; decide
  · injection e with e1 e2 e3; rw [e3]; exact h5
end Go.Proofs.YtbpgbdnfoofnaaaDoor
