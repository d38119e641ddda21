/-
  Stage 2: insert at every list that Repairs holds: the nil list, too.
-/
import Derived.Test.YtmhjdpmibfkhnaaIns
set_option linter.unusedSimpArgs false
set_option linter.unusedVariables false
namespace Go.Proofs.Ytmhjdpmibfkhnaa
open Go.RowKit

set_option maxHeartbeats 1600000 in
theorem insert_nil (s : ByteArray) (base : Nat) (w : World) (hbase : base ≤ w.heap.size) :
    Calls Try.prog 40 #[.slice none 0 0, .string s] w (InsPost base [s] w) := by
  obtain ⟨i0, hi, hz0, hz1, hz2⟩ := info_parts infoStr
  have own0 : (w.alloc (.cells #[] 9)).ownsRow w.heap.size 9 1 (.slice (some ⟨w.heap.size, 0, none⟩) 0 0) 0 [] := World.ownsRow_lit w #[] 0 (Nat.le_refl _) (Nat.zero_le _) rfl
  have hB0 : Below w.heap.size w (w.alloc (.cells #[] 9)) := (Below.refl _ _).alloc (Nat.le_refl _) _
  go_enter Try.func40, Try.ntmps40
  go_wp2_with fail
  go_loop [5] (fun i => i = .int .i64 0) (fun i => 0)
  case atStart => rfl
  case round =>
    obtain rfl := hrel
    go_upto_region 6 with fail
    go_wp2_with (first
      | (at_builtin; refine wpList_append_own_none rfl (.tmp 34) (.tmp 37) 35 rfl w.heap.size 9 i0 1 Try.underlying35 hi _ _ _ rfl (by exact own0) rfl ?_)
      | (at_builtin; refine wpList_append_own _ rfl (.tmp 39) (.tmp 41) 35 rfl w.heap.size 9 i0 (.string ⟨#[]⟩) 1 16 Try.underlying35 hi hz0 hz1 hz2 rfl (by decide) _ 0 [] rfl (by exact own0.alloc _) ⟨w.heap.size + 1, 0, none⟩ 1 1 [.string s] rfl rfl (by have := news_one (w.alloc (.cells #[] 9)) s; simpa using this) (by intro u hu; simp only [List.mem_singleton] at hu; subst hu; rfl) (by unfold maxLen; omega) (by omega) (by simp; omega) ?_; intro v2 w2 hown2 hgrow2 hn2; clear hn2)
      | (at_builtin; refine wpList_append_own_none rfl (.tmp 43) (.tmp 46) 35 rfl w.heap.size 9 i0 1 Try.underlying35 hi _ _ _ rfl (by exact hown2) rfl ?_))
    go_ret
    exact ⟨v2, rfl, own_base hown2 hbase, (hB0.alloc (by simp) (.cells #[.string s] 9)).grown hgrow2 (by simp; omega) (fun q hq => (own0.lt q hq).1)⟩

/-- A list that is nil where it is empty. -/
def StrsN (w : World) (base : Nat) (v : Value) (l : List ByteArray) : Prop := (l = [] ∧ v = .slice none 0 0) ∨ (0 < l.length ∧ Strs w base v l)
theorem StrsN.strs {w : World} {base : Nat} {v : Value} {l : List ByteArray} (h : StrsN w base v l) : Strs w base v l := by
  rcases h with ⟨rfl, rfl⟩ | ⟨_, h⟩
  · exact World.ownsRow_nil _ _ _ _
  · exact h
theorem insS_pos (l : List ByteArray) (s : ByteArray) : 0 < (insS l s).length := by
  cases l with
  | nil => simp [insS]
  | cons x r => rw [insS]; split <;> (try split) <;> simp

theorem insert_any (l : List ByteArray) (s : ByteArray) (base : Nat) (v : Value) (w : World) (h : StrsN w base v l) (hl : l.length ≤ 1000) (hbase : base ≤ w.heap.size) :
    Calls Try.prog 40 #[v, .string s] w fun e w' => ∃ v', e = .returned v' ∧ StrsN w' base v' (insS l s) ∧ Below w.heap.size w w' := by
  rcases h with ⟨rfl, rfl⟩ | ⟨h0, h⟩
  · refine (insert_nil s base w hbase).mono ?_
    rintro e w' ⟨v', rfl, k1, k2⟩
    exact ⟨v', rfl, Or.inr ⟨insS_pos _ _, k1⟩, k2⟩
  · obtain ⟨g, cap, rfl, h1, h2, h3, h4⟩ := h.form h0
    refine (insert_full l s base g cap w h h0 hl h2 h3 h4 hbase).mono ?_
    rintro e w' ⟨v', rfl, k1, k2⟩
    exact ⟨v', rfl, Or.inr ⟨insS_pos _ _, k1⟩, k2⟩

end Go.Proofs.Ytmhjdpmibfkhnaa
