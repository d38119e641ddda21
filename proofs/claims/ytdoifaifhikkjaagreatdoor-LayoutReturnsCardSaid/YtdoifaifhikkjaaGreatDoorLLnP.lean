/-
  Stage 9, plain: a text with lines without words ahead, a layout, and a line that is none.
-/
import Derived.Test.YtdoifaifhikkjaaGreatDoorLRT
import Derived.Test.YtdoifaifhikkjaaGreatDoorLLines
set_option linter.unusedSimpArgs false
set_option linter.unusedVariables false
namespace Go.Proofs.YtdoifaifhikkjaaGreatDoor
open Go.RowKit Go.Lib

/-- The bytes 10 of a list. -/
def nl10 : List UInt8 → Nat
  | [] => 0
  | c :: t => (if c = 10 then 1 else 0) + nl10 t
theorem nl10_app (a b : List UInt8) : nl10 (a ++ b) = nl10 a + nl10 b := by
  induction a with
  | nil => show nl10 b = 0 + nl10 b; omega
  | cons c a ih => show (if c = 10 then 1 else 0) + nl10 (a ++ b) = (if c = 10 then 1 else 0) + nl10 a + nl10 b; rw [ih]; omega
theorem nl10_none {a : List UInt8} (h : (10 : UInt8) ∉ a) : nl10 a = 0 := by
  induction a with
  | nil => rfl
  | cons c a ih =>
    show (if c = 10 then 1 else 0) + nl10 a = 0
    rw [if_neg (fun e => h (by rw [e]; exact List.mem_cons_self ..)), ih (fun g => h (List.mem_cons_of_mem _ g))]
theorem nl10_take (a : List UInt8) {i : Nat} (h : i < a.length) : nl10 (a.take (i + 1)) = nl10 (a.take i) + (if a[i] = 10 then 1 else 0) := by
  rw [List.take_add_one, List.getElem?_eq_getElem h, nl10_app]
  rfl
theorem nl10_le (a : List UInt8) : nl10 a ≤ a.length := by
  induction a with
  | nil => exact Nat.le_refl _
  | cons c a ih =>
    show (if c = 10 then 1 else 0) + nl10 a ≤ a.length + 1
    by_cases h : c = 10
    · rw [if_pos h]; omega
    · rw [if_neg h]; omega
theorem nl10_take_le (a : List UInt8) (i : Nat) : nl10 (a.take i) ≤ a.length := Nat.le_trans (nl10_le _) (by rw [List.length_take]; omega)
/-- No line of a layout holds a line's end. -/
theorem line_no10 {l : List El} {k : Nat} {x : El} (hv : validE l = 0) (hk : l[k]? = some x) : (10 : UInt8) ∉ Lib.join (wlE x l) [32] := by
  intro hm
  obtain ⟨h1, h2, _⟩ := words_of hv hk
  generalize wlE x l = ws at h1 h2 hm
  cases ws with
  | nil => exact h2 rfl
  | cons w r =>
    rw [Lib.join_cons] at hm
    rcases List.mem_append.1 hm with hm | hm
    · exact ((h1 w (by simp)).2 10 hm).2.2 rfl
    · unfold Lib.joinTail at hm
      obtain ⟨q, hq, hm⟩ := List.mem_flatten.1 hm
      obtain ⟨y, hy, rfl⟩ := List.mem_map.1 hq
      rcases List.mem_append.1 hm with hm | hm
      · exact absurd hm (by decide)
      · exact ((h1 y (List.mem_cons_of_mem _ hy)).2 10 hm).2.2 rfl
theorem lineT_wl (x : El) (l : List El) : lineT x l = Lib.join (wlE x l) [32] ++ [10] := rfl
theorem text_nl {l : List El} (hv : validE l = 0) : ∀ k, k ≤ l.length → nl10 (textE l k) = k := by
  intro k
  induction k with
  | zero => intro _; simp [textE, nl10]
  | succ k ih =>
    intro h
    obtain ⟨x, hx, _, ht⟩ := drop_ex (l := l) (k := k) (by omega)
    rw [textE_snoc ht, nl10_app, ih (by omega), lineT_wl, nl10_app, nl10_none (line_no10 hv hx)]; rfl
theorem text_size {l : List El} (hv : validE l = 0) : ∀ k, k ≤ l.length → (textE l k).length ≤ k * 128 := by
  intro k
  induction k with
  | zero => intro _; simp [textE]
  | succ k ih =>
    intro h
    obtain ⟨x, hx, _, ht⟩ := drop_ex (l := l) (k := k) (by omega)
    have := (words_of hv hx).2.2
    rw [textE_snoc ht, List.length_append, lineT_wl, List.length_append]
    have ih := ih (by omega)
    simp only [List.length_cons, List.length_nil]
    omega
/-- The lines ahead. -/
def padS (i : Nat) : List UInt8 := [[10], [32, 10], [35, 10]].getD (i % 3) []
def padL (i : Nat) : List UInt8 := [[], [32], [35]].getD (i % 3) []
theorem padS_eq (i : Nat) : padS i = padL i ++ [10] := by
  unfold padS padL
  rcases (by omega : i % 3 = 0 ∨ i % 3 = 1 ∨ i % 3 = 2) with e | e | e <;> rw [e] <;> rfl
def padE : Nat → List UInt8
  | 0 => []
  | n + 1 => padE n ++ padS n
theorem padE_len : ∀ n, (padE n).length ≤ 2 * n := by
  intro n
  induction n with
  | zero => exact Nat.le_refl _
  | succ n ih =>
    have : (padS n).length ≤ 2 := by
      unfold padS
      rcases (by omega : n % 3 = 0 ∨ n % 3 = 1 ∨ n % 3 = 2) with e | e | e <;> rw [e] <;> decide
    show (padE n ++ padS n).length ≤ _
    rw [List.length_append]; omega
def padsL (n : Nat) : List (List UInt8) := (List.range n).map padL
theorem padE_flat : ∀ n, padE n = ((padsL n).map (· ++ [10])).flatten := by
  intro n
  induction n with
  | zero => rfl
  | succ n ih =>
    show padE n ++ padS n = _
    unfold padsL at ih ⊢
    rw [List.range_succ, List.map_append, List.map_append, List.flatten_append, ← ih, padS_eq]
    simp
set_option maxRecDepth 100000 in
theorem pad_com {p : List UInt8} (h : p = [] ∨ p = [32] ∨ p = [35]) : isCom (wdsB (bs p)) = true := by
  rcases h with rfl | rfl | rfl <;> decide +kernel
theorem padL_is (i : Nat) : padL i = [] ∨ padL i = [32] ∨ padL i = [35] := by
  unfold padL
  rcases (by omega : i % 3 = 0 ∨ i % 3 = 1 ∨ i % 3 = 2) with e | e | e <;> rw [e]
  · exact Or.inl rfl
  · exact Or.inr (Or.inl rfl)
  · exact Or.inr (Or.inr rfl)
theorem lines_pads {es : List El} {f : Idx} {t : List ByteArray} : ∀ (ps : List (List UInt8)) (n : Nat), (∀ p ∈ ps, isCom (wdsB (bs p)) = true) → linesE es f n (ps.map bs ++ t) = linesE es f (n + ps.length) t := by
  intro ps
  induction ps with
  | nil => intro n _; rfl
  | cons p ps ih =>
    intro n h
    have hl : lineE f (wdsB (bs p)) = (0, none) := lineE_com (h p (List.mem_cons_self ..))
    show linesE es f n (bs p :: (ps.map bs ++ t)) = _
    rw [linesE_ok (by rw [hl]), hl]
    show linesE (es ++ []) f (n + 1) (ps.map bs ++ t) = _
    rw [List.append_nil, ih (n + 1) (fun q hq => h q (List.mem_cons_of_mem _ hq)), List.length_cons, show n + 1 + ps.length = n + (ps.length + 1) by omega]
theorem words_wl {l : List El} {k : Nat} {x : El} (hv : validE l = 0) (hk : l[k]? = some x) : wdsB (bs (Lib.join (wlE x l) [32])) = wofE x l := by
  obtain ⟨h1, h2, _⟩ := words_of hv hk
  have hb : (wlE x l).map bs = wofE x l := by
    rw [List.map_map]
    have : (bs ∘ fun (x : ByteArray) => x.data.toList) = id := by funext s; exact bs_list s
    rw [this, List.map_id]
  generalize wlE x l = ws at h1 h2 hb ⊢
  cases ws with
  | nil => exact absurd rfl h2
  | cons w r =>
    rw [wds_join (h1 w (by simp)).1 (h1 w (by simp)).2 (fun y hy => h1 y (List.mem_cons_of_mem _ hy)), ← hb]
    rfl
theorem lines_lay {l : List El} (hv : validE l = 0) (t : List ByteArray) (n : Nat) : ∀ (m k : Nat) (f : Idx), k + m = l.length → IdxOk f (l.take k) →
    ∃ f', linesE (l.take k) f (n + k) ((l.drop k).map (fun x => bs (Lib.join (wlE x l) [32])) ++ t) = linesE l f' (n + l.length) t := by
  intro m
  induction m with
  | zero =>
    intro k f hk F
    have hk' : k = l.length := by omega
    subst hk'
    exact ⟨f, by rw [List.drop_length, List.take_length, List.map_nil, List.nil_append]⟩
  | succ m ih =>
    intro k f hk F
    obtain ⟨x, hx, hd, ht⟩ := drop_ex (l := l) (k := k) (by omega)
    rw [hd, List.map_cons, List.cons_append]
    have hl : lineE f (wdsB (bs (Lib.join (wlE x l) [32]))) = (0, some x) := by
      rw [words_wl hv hx]; exact line_of hv hx F
    rw [linesE_ok (by rw [hl]), hl]
    have hst := vlE_zero (valid_vl hv) hx
    rw [List.nil_append] at hst
    obtain ⟨s1, _, s3, _⟩ := stepE_parts hst
    have F2 := F.snoc (soundE_name s1) s3
    obtain ⟨f', e⟩ := ih (k + 1) (updI f x.name (l.take k).length) (by omega) (by rw [ht]; exact F2)
    rw [ht] at e
    exact ⟨f', e⟩
/-- The line that is none. -/
def railS : List UInt8 := [114, 97, 105, 108, 32, 120, 32, 121, 32, 49, 32, 50, 32, 51]
set_option maxRecDepth 1000000 in
theorem rail_words : wdsB (bs railS) = [bs [114, 97, 105, 108], bs [120], bs [121], bs [49], bs [50], bs [51]] := by decide +kernel
set_option maxRecDepth 1000000 in
theorem rail_line (f : Idx) : lineE f (wdsB (bs railS)) = (6, none) := by
  rw [rail_words]
  rfl
def lineText (n : Nat) (l : List El) : List UInt8 := padE n ++ textE l l.length ++ (railS ++ [10])
theorem parse_line {l : List El} (hv : validE l = 0) (hl : l.length ≤ 64) {n : Nat} (hn : n ≤ 4) : parseE (bs (lineText n l)) = ([], (n : Int) + (l.length : Int) + 1, 6) := by
  have hs1 := text_size hv l.length (Nat.le_refl _)
  have hs2 := padE_len n
  have htx : textE l l.length = ((l.map fun x => Lib.join (wlE x l) [32]).map (· ++ [10])).flatten := by
    unfold textE
    rw [List.take_length, List.map_map]
    rfl
  have hall : lineText n l = (((padsL n ++ (l.map fun x => Lib.join (wlE x l) [32])) ++ [railS]).map (· ++ [10])).flatten := by
    unfold lineText
    rw [padE_flat, htx, List.map_append, List.map_append, List.flatten_append, List.flatten_append]
    simp
  have hno : ∀ a ∈ (padsL n ++ (l.map fun x => Lib.join (wlE x l) [32])) ++ [railS], (10 : UInt8) ∉ a := by
    intro a ha
    rcases List.mem_append.1 ha with ha | ha
    · rcases List.mem_append.1 ha with ha | ha
      · unfold padsL at ha
        obtain ⟨i, _, rfl⟩ := List.mem_map.1 ha
        rcases padL_is i with e | e | e <;> rw [e] <;> decide
      · obtain ⟨x, hx, rfl⟩ := List.mem_map.1 ha
        obtain ⟨k, hk⟩ := List.mem_iff_getElem?.1 hx
        exact line_no10 hv hk
    · obtain rfl := List.mem_singleton.1 ha
      decide
  have hlines : lnsB (bs (lineText n l)) = (padsL n).map bs ++ ((l.map fun x => bs (Lib.join (wlE x l) [32])) ++ [bs railS, bs []]) := by
    rw [hall, lns_flat _ hno, List.map_append, List.map_append, List.map_map]
    simp
  have hres : linesE [] (fun _ => none) 0 (lnsB (bs (lineText n l))) = ([], (n : Int) + (l.length : Int) + 1, 6) := by
    rw [hlines, lines_pads (padsL n) 0 (fun p hp => by
      unfold padsL at hp
      obtain ⟨i, _, rfl⟩ := List.mem_map.1 hp
      exact pad_com (padL_is i))]
    have hpl : (padsL n).length = n := by unfold padsL; simp
    rw [hpl, Nat.zero_add]
    obtain ⟨f', e⟩ := lines_lay hv [bs railS, bs []] n l.length 0 (fun _ => none) (by omega) IdxOk.start
    rw [List.drop_zero, List.take_zero, Nat.add_zero] at e
    rw [e, linesE_bad (show (lineE f' (wdsB (bs railS))).1 ≠ 0 from by rw [rail_line]; exact (by decide : (6 : Int) ≠ 0)), rail_line]
    show ([], (((n + l.length : Nat) : Int)) + 1, (6 : Int)) = _
    rw [Int.natCast_add]
  have hsz : (bs (lineText n l)).size ≤ 16384 := by
    show (lineText n l).length ≤ _
    unfold lineText
    rw [List.length_append, List.length_append]
    show _ + _ + 15 ≤ _
    omega
  unfold parseE
  rw [if_neg (by omega), hres, if_pos (show (6 : Int) ≠ 0 by decide)]
end Go.Proofs.YtdoifaifhikkjaaGreatDoor
