/-
  Stage 2: the reference's insert: a string into an ascending list.
-/
import Derived.Test.YtmhjdpmibfkhnaaFmt
import Derived.Laws.AppendOwnNone
set_option linter.unusedSimpArgs false
set_option linter.unusedVariables false
namespace Go.Proofs.Ytmhjdpmibfkhnaa
open Go.RowKit

/-- The order of strings. -/
def sless (a b : ByteArray) : Bool := Op.bytesLess a.toList b.toList
def insS : List ByteArray → ByteArray → List ByteArray
  | [], s => [s]
  | x :: r, s => if sless x s = true then x :: insS r s else if x = s then x :: r else s :: x :: r

theorem insS_end (l : List ByteArray) (s : ByteArray) (h : ∀ x ∈ l, sless x s = true) : insS l s = l ++ [s] := by
  induction l with
  | nil => rfl
  | cons x r ih => rw [insS, if_pos (h x (by simp)), ih (fun y hy => h y (by simp [hy]))]; rfl
theorem insS_mid (l r : List ByteArray) (x s : ByteArray) (h : ∀ y ∈ l, sless y s = true) (hx : sless x s = false) :
    insS (l ++ x :: r) s = if x = s then l ++ x :: r else l ++ s :: x :: r := by
  induction l with
  | nil => show insS (x :: r) s = _; rw [insS, if_neg (by simp [hx])]; rfl
  | cons y t ih =>
    show insS (y :: (t ++ x :: r)) s = _
    rw [insS, if_pos (h y (by simp)), ih (fun z hz => h z (by simp [hz]))]
    split <;> rfl

theorem infoStr : (Try.prog.info? 9).map (fun i => (i.zero, i.size, i.bytes)) = some (some (.string ⟨#[]⟩), 1, 16) := by kernel_rfl

/-- A list of strings, as a value in a world. -/
abbrev Strs (w : World) (base : Nat) (v : Value) (l : List ByteArray) : Prop := w.ownsRow base 9 1 v l.length (l.map Value.string)

theorem Strs.form {w : World} {base : Nat} {v : Value} {l : List ByteArray} (h : Strs w base v l) (hl : 0 < l.length) : ∃ g cap, v = .slice (some ⟨g, 0, none⟩) l.length cap ∧ base ≤ g ∧ g < w.heap.size ∧ l.length ≤ cap ∧ cap ≤ maxLen := by
  obtain ⟨h1, h2 | ⟨g, cap, cur, rfl, hg, hh, hc, hm, _⟩⟩ := h
  · omega
  · refine ⟨g, cap, rfl, hg, ?_, hc, hm⟩
    by_cases e : g < w.heap.size
    · exact e
    · rw [Array.getElem?_eq_none (by omega)] at hh; cases hh

/-- What insert leaves. -/
def InsPost (base : Nat) (l : List ByteArray) (w : World) (e : Ending) (w' : World) : Prop := ∃ v', e = .returned v' ∧ Strs w' base v' l ∧ Below w.heap.size w w'

theorem own_base {w : World} {base base' : Nat} {e : TypeId} {size : Nat} {v : Value} {n : Nat} {xs : List Value} (h : w.ownsRow base e size v n xs) (hb : base' ≤ base) : w.ownsRow base' e size v n xs := by
  obtain ⟨h1, h2 | ⟨g, cap, cur, hv, hg, r⟩⟩ := h
  · exact ⟨h1, Or.inl h2⟩
  · exact ⟨h1, Or.inr ⟨g, cap, cur, hv, Nat.le_trans hb hg, r⟩⟩

theorem bytes_inj {a b : ByteArray} (h : a.toList = b.toList) : a = b := by
  rw [ByteArray.toList_eq, ByteArray.toList_eq] at h
  cases a; cases b
  congr 1
  exact Array.toList_inj.1 h

/-- The source of an append, from place o on. -/
theorem news_at {w W : World} {g : Nat} {l : List ByteArray} (hb : Below w.heap.size w W) (src : ∀ (W : World), Below w.heap.size w W → ∀ j u, (l.map Value.string)[j]? = some u → W.cell? ⟨g, j, none⟩ = some u) (o : Nat) (ho : (⟨g, o, none⟩ : Addr) = ⟨g, o, none⟩) (k : Nat) :
    ∀ j u, ((l.drop o |>.take k).map Value.string)[j]? = some u → W.cell? ((⟨g, o, none⟩ : Addr).add j) = some u := fun j u hj => by
  have e : (⟨g, o, none⟩ : Addr).add j = ⟨g, o + j, none⟩ := by unfold Addr.add; split <;> simp_all
  rw [e]
  refine src _ hb (o + j) u ?_
  rw [List.map_take, List.getElem?_take] at hj
  split at hj
  · rw [List.map_drop, List.getElem?_drop] at hj; exact hj
  · cases hj
theorem news_one (w1 : World) (s : ByteArray) : ∀ j u, [Value.string s][j]? = some u → (w1.alloc (.cells #[.string s] 9)).cell? ((⟨w1.heap.size, 0, none⟩ : Addr).add j) = some u := fun j u hj => by
  have e : (⟨w1.heap.size, 0, none⟩ : Addr).add j = ⟨w1.heap.size, j, none⟩ := by unfold Addr.add; split <;> simp_all
  rw [e, cell_new]
  simpa using hj

theorem split_at (l : List ByteArray) (k : Nat) (h : k < l.length) : l = l.take k ++ l[k] :: l.drop (k + 1) := by
  rw [List.getElem_cons_drop, List.take_append_drop]

set_option maxHeartbeats 1600000 in
theorem insert_full (l : List ByteArray) (s : ByteArray) (base g cap : Nat) (w : World) (h : Strs w base (.slice (some ⟨g, 0, none⟩) l.length cap) l) (h0 : 0 < l.length) (hl : l.length ≤ 1000) (hg : g < w.heap.size) (hcap : l.length ≤ cap) (hcm : cap ≤ maxLen) (hbase : base ≤ w.heap.size) :
    Calls Try.prog 40 #[.slice (some ⟨g, 0, none⟩) l.length cap, .string s] w (InsPost base (insS l s) w) := by
  obtain ⟨i0, hi, hz0, hz1, hz2⟩ := info_parts infoStr
  have HO := Lib.hid h
  clear h
  go_enter Try.func40, Try.ntmps40
  go_wp2_with fail
  go_loop [5] (fun i => ∃ k : Nat, k ≤ l.length ∧ i = .int .i64 k ∧ ∀ y ∈ l.take k, sless y s = true) (fun i => l.length - (intOf i).toNat)
  case atStart => exact ⟨0, by omega, rfl, by simp⟩
  case round =>
    obtain ⟨k, hk, rfl, hall⟩ := hrel
    have HA := Lib.hid hall
    clear hall
    by_cases hlt : k < l.length
    · have hc : w.cell? ⟨g, k, none⟩ = some (.string l[k]) := by
        rw [HO.out.cellAt k (by omega)]; simp [hlt]
      cases hs : Op.bytesLess l[k].toList s.toList
      · have HM := Lib.hid (insS_mid (l.take k) (l.drop (k + 1)) l[k] s HA.out hs)
        rw [← split_at l k hlt] at HM
        by_cases he : l[k] = s
        · have HI : Hid (insS l s = l) := Lib.hid (by rw [HM.out, if_pos he])
          clear HM
          subst he
          go_wp2_with fail
          go_ret
          exact ⟨_, rfl, by rw [HI.out]; exact HO.out, Below.refl _ _⟩
        · have HI : Hid (insS l s = l.take k ++ s :: l.drop k) := Lib.hid (by rw [HM.out, if_neg he, List.getElem_cons_drop])
          clear HM
          have he1 : (l[k].toList == s.toList) = false := beq_eq_false_iff_ne.2 (fun h => he (bytes_inj h))
          have own0 : (w.alloc (.cells #[] 9)).ownsRow w.heap.size 9 1 (.slice (some ⟨w.heap.size, 0, none⟩) 0 0) 0 [] := World.ownsRow_lit w #[] 0 (Nat.le_refl _) (Nat.zero_le _) rfl
          have src : ∀ (W : World), Below w.heap.size w W → ∀ j u, (l.map Value.string)[j]? = some u → W.cell? ⟨g, j, none⟩ = some u := fun W hb j u hj => by
            rw [hb.cell (p := ⟨g, j, none⟩) hg, HO.out.cellAt j (by
              have := (List.getElem?_eq_some_iff.1 hj).1
              simpa using this)]
            exact hj
          have HSRC := Lib.hid src
          have hB0 : Below w.heap.size w (w.alloc (.cells #[] 9)) := (Below.refl _ _).alloc (Nat.le_refl _) _
          have hk0 : 0 ≤ (k : Int) := by omega
          have hk1 : (k : Int) ≤ (cap : Int) := by omega
          clear src
          go_upto_region 6 with fail
          have HK := Lib.hid (And.intro hlt (And.intro hcap hcm))
          go_wp2_with (first
            | (at_builtin; refine wpList_append_own _ rfl (.tmp 34) (.tmp 37) 35 rfl w.heap.size 9 i0 (.string ⟨#[]⟩) 1 16 Try.underlying35 hi hz0 hz1 hz2 rfl (by decide) _ 0 [] rfl (by exact own0) ⟨g, 0, none⟩ k cap ((l.take k).map Value.string) rfl (by simp; omega) (by exact news_at hB0 HSRC.out 0 (by simp) k) (by intro u hu; simp only [List.mem_map] at hu; obtain ⟨x, _, rfl⟩ := hu; rfl) (by unfold maxLen; omega) (by omega) (by simp) ?_; intro v1 w1 hown1 hgrow1 hn1; clear hn1; simp only [Nat.zero_add, List.nil_append] at hown1; have hB1 := hB0.grown hgrow1 (by simp) (by intro q hq; cases hq; exact Nat.le_refl _))
            | (at_builtin; refine wpList_append_own _ rfl (.tmp 39) (.tmp 41) 35 rfl w.heap.size 9 i0 (.string ⟨#[]⟩) 1 16 Try.underlying35 hi hz0 hz1 hz2 rfl (by decide) _ k ((l.take k).map Value.string) rfl (by exact hown1.alloc _) ⟨w1.heap.size, 0, none⟩ 1 1 [.string s] rfl rfl (by exact news_one w1 s) (by intro u hu; simp only [List.mem_singleton] at hu; subst hu; rfl) (by unfold maxLen; omega) (by omega) (by have := hB1.size; simp; omega) ?_; intro v2 w2 hown2 hgrow2 hn2; clear hn2; have hB2 := (hB1.alloc hB1.size (.cells #[.string s] 9)).grown hgrow2 (by have := hB1.size; simp; omega) (fun q hq => (hown1.lt q hq).1))
            | (at_builtin; refine wpList_append_own _ rfl (.tmp 43) (.tmp 46) 35 rfl w.heap.size 9 i0 (.string ⟨#[]⟩) 1 16 Try.underlying35 hi hz0 hz1 hz2 rfl (by decide) _ (k + 1) ((l.take k).map Value.string ++ [.string s]) rfl (by exact hown2) ⟨g, k, none⟩ (l.length - k) (cap - k) (((l.drop k).take (l.length - k)).map Value.string) rfl (by simp) (by exact news_at hB2 HSRC.out k rfl (l.length - k)) (by intro u hu; simp only [List.mem_map] at hu; obtain ⟨x, _, rfl⟩ := hu; rfl) (by unfold maxLen; omega) (by omega) (by exact hB2.size) ?_; intro v3 w3 hown3 hgrow3 hn3; clear hn3; have hB3 := hB2.grown hgrow3 hB2.size (fun q hq => (hown2.lt q hq).1)))
          go_ret
          refine ⟨v3, rfl, ?_, hB3⟩
          rw [HI.out]
          have ht : (l.drop k).take (l.length - k) = l.drop k := List.take_of_length_le (by simp)
          have e1 : k + 1 + (l.length - k) = (l.take k ++ s :: l.drop k).length := by simp; omega
          have e2 : (l.take k).map Value.string ++ [Value.string s] ++ (l.drop k).map Value.string = (l.take k ++ s :: l.drop k).map Value.string := by simp
          rw [ht, e1, e2] at hown3
          exact own_base hown3 hbase
      · have HS := Lib.hid hs
        go_wp2
        go_round
        case rel => exact ⟨k + 1, by omega, by go_num, fun y hy => by
          rw [List.take_succ_eq_append_getElem hlt, List.mem_append] at hy
          rcases hy with hy | hy
          · exact HA.out y hy
          · rw [List.mem_singleton] at hy; subst hy; exact HS.out⟩
        case measure => simp [intOf]; omega
    · obtain rfl : k = l.length := by omega
      have HI : Hid (insS l s = l ++ [s]) := Lib.hid (insS_end l s (by have := HA.out; rwa [List.take_of_length_le (Nat.le_refl _)] at this))
      have own0 : (w.alloc (.cells #[] 9)).ownsRow w.heap.size 9 1 (.slice (some ⟨w.heap.size, 0, none⟩) 0 0) 0 [] := World.ownsRow_lit w #[] 0 (Nat.le_refl _) (Nat.zero_le _) rfl
      have src : ∀ (W : World), Below w.heap.size w W → ∀ j u, (l.map Value.string)[j]? = some u → W.cell? ⟨g, j, none⟩ = some u := fun W hb j u hj => by
        rw [hb.cell (p := ⟨g, j, none⟩) hg, HO.out.cellAt j (by
          have := (List.getElem?_eq_some_iff.1 hj).1
          simpa using this)]
        exact hj
      have HSRC := Lib.hid src
      have hB0 : Below w.heap.size w (w.alloc (.cells #[] 9)) := (Below.refl _ _).alloc (Nat.le_refl _) _
      have hk0 : 0 ≤ (l.length : Int) := by omega
      have hk1 : (l.length : Int) ≤ (cap : Int) := by omega
      clear src
      by_cases hcn : cap = l.length
      · subst hcn
        go_upto_region 6 with fail
        have HK := Lib.hid (And.intro hcap hcm)
        go_wp2_with (first
          | (at_builtin; refine wpList_append_own _ rfl (.tmp 34) (.tmp 37) 35 rfl w.heap.size 9 i0 (.string ⟨#[]⟩) 1 16 Try.underlying35 hi hz0 hz1 hz2 rfl (by decide) _ 0 [] rfl (by exact own0) ⟨g, 0, none⟩ l.length l.length ((l.take l.length).map Value.string) rfl (by simp) (by exact news_at hB0 HSRC.out 0 (by simp) l.length) (by intro u hu; simp only [List.mem_map] at hu; obtain ⟨x, _, rfl⟩ := hu; rfl) (by unfold maxLen; omega) (by omega) (by simp) ?_; intro v1 w1 hown1 hgrow1 hn1; clear hn1; simp only [Nat.zero_add, List.nil_append] at hown1; have hB1 := hB0.grown hgrow1 (by simp) (by intro q hq; cases hq; exact Nat.le_refl _))
          | (at_builtin; refine wpList_append_own _ rfl (.tmp 39) (.tmp 41) 35 rfl w.heap.size 9 i0 (.string ⟨#[]⟩) 1 16 Try.underlying35 hi hz0 hz1 hz2 rfl (by decide) _ l.length ((l.take l.length).map Value.string) rfl (by exact hown1.alloc _) ⟨w1.heap.size, 0, none⟩ 1 1 [.string s] rfl rfl (by exact news_one w1 s) (by intro u hu; simp only [List.mem_singleton] at hu; subst hu; rfl) (by unfold maxLen; omega) (by omega) (by have := hB1.size; simp; omega) ?_; intro v2 w2 hown2 hgrow2 hn2; clear hn2; have hB2 := (hB1.alloc hB1.size (.cells #[.string s] 9)).grown hgrow2 (by have := hB1.size; simp; omega) (fun q hq => (hown1.lt q hq).1))
          | (at_builtin; refine wpList_append_own _ rfl (.tmp 43) (.tmp 46) 35 rfl w.heap.size 9 i0 (.string ⟨#[]⟩) 1 16 Try.underlying35 hi hz0 hz1 hz2 rfl (by decide) _ (l.length + 1) ((l.take l.length).map Value.string ++ [.string s]) rfl (by exact hown2) ⟨g, 0, none⟩ 0 0 [] rfl rfl (by intro j u hj; cases hj) (by intro u hu; cases hu) (by unfold maxLen; omega) (by omega) (by exact hB2.size) ?_; intro v3 w3 hown3 hgrow3 hn3; clear hn3; have hB3 := hB2.grown hgrow3 hB2.size (fun q hq => (hown2.lt q hq).1)))
        go_ret
        refine ⟨v3, rfl, ?_, hB3⟩
        rw [HI.out]
        have e0 : l.take l.length = l := List.take_of_length_le (Nat.le_refl _)
        have e1 : l.length + 1 + 0 = (l ++ [s]).length := by simp
        have e2 : (l.take l.length).map Value.string ++ [Value.string s] ++ [] = (l ++ [s]).map Value.string := by rw [e0]; simp
        rw [e1, e2] at hown3
        exact own_base hown3 hbase
      · have hcn' : l.length < cap := by omega
        go_upto_region 6 with fail
        have HK := Lib.hid (And.intro hcap hcm)
        go_wp2_with (first
          | (at_builtin; refine wpList_append_own _ rfl (.tmp 34) (.tmp 37) 35 rfl w.heap.size 9 i0 (.string ⟨#[]⟩) 1 16 Try.underlying35 hi hz0 hz1 hz2 rfl (by decide) _ 0 [] rfl (by exact own0) ⟨g, 0, none⟩ l.length cap ((l.take l.length).map Value.string) rfl (by simp) (by exact news_at hB0 HSRC.out 0 (by simp) l.length) (by intro u hu; simp only [List.mem_map] at hu; obtain ⟨x, _, rfl⟩ := hu; rfl) (by unfold maxLen; omega) (by omega) (by simp) ?_; intro v1 w1 hown1 hgrow1 hn1; clear hn1; simp only [Nat.zero_add, List.nil_append] at hown1; have hB1 := hB0.grown hgrow1 (by simp) (by intro q hq; cases hq; exact Nat.le_refl _))
          | (at_builtin; refine wpList_append_own _ rfl (.tmp 39) (.tmp 41) 35 rfl w.heap.size 9 i0 (.string ⟨#[]⟩) 1 16 Try.underlying35 hi hz0 hz1 hz2 rfl (by decide) _ l.length ((l.take l.length).map Value.string) rfl (by exact hown1.alloc _) ⟨w1.heap.size, 0, none⟩ 1 1 [.string s] rfl rfl (by exact news_one w1 s) (by intro u hu; simp only [List.mem_singleton] at hu; subst hu; rfl) (by unfold maxLen; omega) (by omega) (by have := hB1.size; simp; omega) ?_; intro v2 w2 hown2 hgrow2 hn2; clear hn2; have hB2 := (hB1.alloc hB1.size (.cells #[.string s] 9)).grown hgrow2 (by have := hB1.size; simp; omega) (fun q hq => (hown1.lt q hq).1))
          | (at_builtin; refine wpList_append_own _ rfl (.tmp 43) (.tmp 46) 35 rfl w.heap.size 9 i0 (.string ⟨#[]⟩) 1 16 Try.underlying35 hi hz0 hz1 hz2 rfl (by decide) _ (l.length + 1) ((l.take l.length).map Value.string ++ [.string s]) rfl (by exact hown2) ⟨g, l.length, none⟩ 0 (cap - l.length) [] rfl rfl (by intro j u hj; cases hj) (by intro u hu; cases hu) (by unfold maxLen; omega) (by omega) (by exact hB2.size) ?_; intro v3 w3 hown3 hgrow3 hn3; clear hn3; have hB3 := hB2.grown hgrow3 hB2.size (fun q hq => (hown2.lt q hq).1)))
        go_ret
        refine ⟨v3, rfl, ?_, hB3⟩
        rw [HI.out]
        have e0 : l.take l.length = l := List.take_of_length_le (Nat.le_refl _)
        have e1 : l.length + 1 + 0 = (l ++ [s]).length := by simp
        have e2 : (l.take l.length).map Value.string ++ [Value.string s] ++ [] = (l ++ [s]).map Value.string := by rw [e0]; simp
        rw [e1, e2] at hown3
        exact own_base hown3 hbase

end Go.Proofs.Ytmhjdpmibfkhnaa
