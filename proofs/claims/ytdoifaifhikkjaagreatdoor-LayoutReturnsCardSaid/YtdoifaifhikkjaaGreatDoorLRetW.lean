/-
  Stage 9: the walk of LayoutReturns. Written by tools/gen_ret9.py.
-/
import Derived.Test.YtdoifaifhikkjaaGreatDoorLLnP
import Derived.Test.YtdoifaifhikkjaaGreatDoorLFmt
import Derived.Test.YtdoifaifhikkjaaGreatDoorLSane
import Derived.Test.YtdoifaifhikkjaaGreatDoorLSame
import Derived.Test.YtdoifaifhikkjaaGreatDoorTMkLay
set_option linter.unusedSimpArgs false
set_option linter.unusedVariables false
namespace Go.Proofs.YtdoifaifhikkjaaGreatDoor
open Go.RowKit Go.Lib

/-- The words of a list of bytes. -/
def wlS : Option (List UInt8) → List UInt8 → List (List UInt8)
  | none, [] => []
  | some w, [] => [w]
  | none, c :: t => if c = 32 then wlS none t else wlS (some [c]) t
  | some w, c :: t => if c = 32 then w :: wlS none t else wlS (some (w ++ [c])) t
theorem take_next {s : List UInt8} {pos : Nat} {c : UInt8} {t : List UInt8} (h : s.drop pos = c :: t) : s.take (pos + 1) = s.take pos ++ [c] := by
  have e : s[pos]? = some c := by
    have := congrArg (fun x : List UInt8 => x[0]?) h
    simpa [List.getElem?_drop] using this
  rw [List.take_add_one, e]; rfl
theorem spans_gen (s : ByteArray) : ∀ (t : List UInt8) (f pos : Nat) (st : Option Nat) (acc : List (Nat × Nat)), s.data.toList.drop pos = t → pos ≤ s.size → s.size ≤ pos + f → (∀ c ∈ t, c.toNat < 128) → (∀ a, st = some a → a ≤ pos) →
    (Lib.closeSpans s (Lib.spansFromP isSp s f pos st acc)).map (fun x => s.extract x.1 x.2) = acc.map (fun x => s.extract x.1 x.2) ++ (wlS (st.map fun a => (s.data.toList.take pos).drop a) t).map bs := by
  have hsz : s.data.toList.length = s.size := by simp
  have hext : ∀ a b, s.extract a b = bs ((s.data.toList.take b).drop a) := fun a b => by
    apply ba_ext; rw [ext_list]
  intro t
  induction t with
  | nil =>
    intro f pos st acc h hp hf _ _
    have hl : s.data.toList.length ≤ pos := List.drop_eq_nil_iff.1 h
    have hz : s.size = pos := by omega
    rw [Lib.spansFromP_end _ _ _ _ _ _ (by omega)]
    unfold Lib.closeSpans
    cases st with
    | none => simp [wlS]
    | some a =>
      show (acc ++ [(a, s.size)]).map _ = acc.map _ ++ [bs ((s.data.toList.take pos).drop a)]
      rw [List.map_append, hz]
      show _ ++ [s.extract a pos] = _
      rw [hext]
  | cons c t ih =>
    intro f pos st acc h hp hf hw ha
    obtain ⟨hs, hd⟩ := dec_at h (hw c (List.mem_cons_self ..))
    obtain ⟨g, rfl⟩ : ∃ g, f = g + 1 := ⟨f - 1, by omega⟩
    have hn := drop_next h
    have htk := take_next h
    have hw2 : ∀ d ∈ t, d.toNat < 128 := fun d hd => hw d (List.mem_cons_of_mem _ hd)
    have htl : (s.data.toList.take pos).length = pos := by rw [List.length_take]; omega
    unfold Lib.spansFromP
    rw [if_pos hs, hd]
    by_cases h32 : c = 32
    · subst h32
      have e32 : isSp (32 : UInt8).toNat = true := by decide
      simp only [e32]
      rw [if_pos trivial]
      cases st with
      | none =>
        rw [ih g (pos + 1) none acc hn (by omega) (by omega) hw2 (fun a e => by cases e)]
        simp [wlS]
      | some a =>
        rw [ih g (pos + 1) none (acc ++ [(a, pos)]) hn (by omega) (by omega) hw2 (fun a e => by cases e)]
        have e1 : wlS (some ((s.data.toList.take pos).drop a)) (32 :: t) = (s.data.toList.take pos).drop a :: wlS none t := by
          show (if (32 : UInt8) = 32 then _ else _) = _
          rw [if_pos rfl]
        show _ = _ ++ (wlS (some ((s.data.toList.take pos).drop a)) (32 :: t)).map bs
        rw [e1, List.map_append, List.append_assoc]
        show _ ++ ([s.extract a pos] ++ _) = _
        rw [hext]; rfl
    · simp only [sp_no h32]
      rw [if_neg (by decide)]
      cases st with
      | none =>
        rw [ih g (pos + 1) (some pos) acc hn (by omega) (by omega) hw2 (fun a e => by injection e with e; omega)]
        show _ ++ (wlS (some ((s.data.toList.take (pos + 1)).drop pos)) t).map bs = _ ++ (wlS none (c :: t)).map bs
        rw [htk, List.drop_append_of_le_length (by omega), List.drop_of_length_le (by omega)]
        show _ = _ ++ ((if c = 32 then wlS none t else wlS (some [c]) t)).map bs
        rw [if_neg h32]; rfl
      | some a =>
        have := ha a rfl
        rw [ih g (pos + 1) (some a) acc hn (by omega) (by omega) hw2 (fun a e => by injection e with e; omega)]
        show _ ++ (wlS (some ((s.data.toList.take (pos + 1)).drop a)) t).map bs = _ ++ (wlS (some ((s.data.toList.take pos).drop a)) (c :: t)).map bs
        rw [htk, List.drop_append_of_le_length (by omega)]
        show _ = _ ++ ((if c = 32 then _ :: wlS none t else wlS (some ((s.data.toList.take pos).drop a ++ [c])) t)).map bs
        rw [if_neg h32]
theorem wds_gen {x : List UInt8} (h : ∀ c ∈ x, c.toNat < 128) : wdsB (bs x) = (wlS none x).map bs := by
  have e := spans_gen (bs x) x (bs x).size 0 none [] (by simp [bs]) (Nat.zero_le _) (by omega) h (fun a e => by cases e)
  unfold wdsB Lib.goFieldsP Lib.spansOfP
  exact e
theorem wlS_word {w t : List UInt8} (h : ∀ c ∈ w, c ≠ 32) : ∀ v, wlS (some v) (w ++ t) = wlS (some (v ++ w)) t := by
  induction w with
  | nil => intro v; simp
  | cons c w ih =>
    intro v
    show (if c = 32 then v :: wlS none (w ++ t) else wlS (some (v ++ [c])) (w ++ t)) = _
    rw [if_neg (h c (List.mem_cons_self ..)), ih (fun d hd => h d (List.mem_cons_of_mem _ hd)), List.append_assoc]; rfl
theorem wlS_new {w t : List UInt8} (h : ∀ c ∈ w, c ≠ 32) (hn : w ≠ []) : wlS none (w ++ t) = wlS (some w) t := by
  cases w with
  | nil => exact absurd rfl hn
  | cons c w =>
    show (if c = 32 then wlS none (w ++ t) else wlS (some [c]) (w ++ t)) = _
    rw [if_neg (h c (List.mem_cons_self ..)), wlS_word (fun d hd => h d (List.mem_cons_of_mem _ hd))]; rfl
/-- What becomes of a byte. -/
def expC (c : UInt8) (g : Nat) : List UInt8 :=
  if c = 32 ∧ g = 1 then [32, 32, 32] else if c = 10 ∧ g = 2 then [32, 10, 10, 35, 32, 99, 114, 101, 115, 116, 32, 120, 10, 32] else [c]
def expT : (Nat → Nat) → List UInt8 → List UInt8
  | _, [] => []
  | g, c :: t => expC c (g 0) ++ expT (fun i => g (i + 1)) t
theorem expT_app (a b : List UInt8) : ∀ g, expT g (a ++ b) = expT g a ++ expT (fun i => g (i + a.length)) b := by
  induction a with
  | nil => intro g; rfl
  | cons c a ih =>
    intro g
    show expC c (g 0) ++ expT (fun i => g (i + 1)) (a ++ b) = (expC c (g 0) ++ expT (fun i => g (i + 1)) a) ++ _
    rw [ih, List.append_assoc]
    rfl
theorem expC_word {c : UInt8} {g : Nat} (h : c ≠ 32) (h2 : c ≠ 10) : expC c g = [c] := by
  unfold expC
  rw [if_neg (fun e => h e.1), if_neg (fun e => h2 e.1)]
theorem expT_word {w : List UInt8} (h : ∀ c ∈ w, c ≠ 32 ∧ c ≠ 10) : ∀ g, expT g w = w := by
  induction w with
  | nil => intro g; rfl
  | cons c w ih =>
    intro g
    show expC c (g 0) ++ expT _ w = _
    rw [expC_word (h c (List.mem_cons_self ..)).1 (h c (List.mem_cons_self ..)).2, ih (fun d hd => h d (List.mem_cons_of_mem _ hd))]; rfl
theorem expC_sp (g : Nat) : expC 32 g = [32] ∨ expC 32 g = [32, 32, 32] := by
  unfold expC
  by_cases h : g = 1
  · rw [if_pos ⟨rfl, h⟩]; exact Or.inr rfl
  · rw [if_neg (fun e => h e.2), if_neg (fun e => absurd e.1 (by decide))]; exact Or.inl rfl
theorem wlS_gap (g : Nat) (v t : List UInt8) : wlS (some v) (expC 32 g ++ t) = v :: wlS none t := by
  rcases expC_sp g with e | e <;> rw [e] <;> simp [wlS]
theorem wrd_no {w : List UInt8} (h : wrd w) : ∀ c ∈ w, c ≠ 32 ∧ c ≠ 10 := fun c hc => ⟨(h.2 c hc).2.1, (h.2 c hc).2.2⟩
theorem wlS_tail {tr : List UInt8} (ht : tr = [] ∨ tr = [32]) : ∀ (r : List (List UInt8)) (v : List UInt8) (g : Nat → Nat), (∀ y ∈ r, wrd y) → wlS (some v) (expT g (Lib.joinTail [32] r) ++ tr) = v :: r := by
  intro r
  induction r with
  | nil =>
    intro v g _
    show wlS (some v) ([] ++ tr) = [v]
    rcases ht with rfl | rfl <;> simp [wlS]
  | cons y r ih =>
    intro v g hy
    have hj : Lib.joinTail [32] (y :: r) = [32] ++ (y ++ Lib.joinTail [32] r) := by simp [Lib.joinTail]
    have h1 := hy y (List.mem_cons_self ..)
    rw [hj, expT_app, expT_app, expT_word (wrd_no h1)]
    show wlS (some v) (((expC 32 (g 0) ++ []) ++ (y ++ expT _ (Lib.joinTail [32] r))) ++ tr) = _
    rw [List.append_nil, List.append_assoc, wlS_gap, List.append_assoc, wlS_new (fun c hc => (wrd_no h1 c hc).1) h1.1, ih y _ (fun z hz => hy z (List.mem_cons_of_mem _ hz))]
theorem wlS_line {ld tr : List UInt8} (hl : ld = [] ∨ ld = [32]) (ht : tr = [] ∨ tr = [32]) {ws : List (List UInt8)} (hw : ∀ y ∈ ws, wrd y) (hn : ws ≠ []) (g : Nat → Nat) : wlS none (ld ++ (expT g (Lib.join ws [32]) ++ tr)) = ws := by
  have hlead : ∀ x, wlS none (ld ++ x) = wlS none x := fun x => by
    rcases hl with rfl | rfl <;> simp [wlS]
  rw [hlead]
  cases ws with
  | nil => exact absurd rfl hn
  | cons w r =>
    have h1 := hw w (List.mem_cons_self ..)
    rw [Lib.join_cons, expT_app, expT_word (wrd_no h1), List.append_assoc, wlS_new (fun c hc => (wrd_no h1 c hc).1) h1.1, wlS_tail ht r w _ (fun z hz => hw z (List.mem_cons_of_mem _ hz))]
/-- The bytes of a line with gaps. -/
theorem expT_mem {a : List UInt8} : ∀ (g : Nat → Nat), (10 : UInt8) ∉ a → ∀ c ∈ expT g a, c ∈ a ∨ c = 32 := by
  induction a with
  | nil => intro g _ c h; cases h
  | cons d a ih =>
    intro g h c hc
    rcases List.mem_append.1 (show c ∈ expC d (g 0) ++ expT (fun i => g (i + 1)) a from hc) with hc | hc
    · unfold expC at hc
      by_cases h1 : d = 32 ∧ g 0 = 1
      · rw [if_pos h1] at hc
        right
        simpa using hc
      · rw [if_neg h1, if_neg (fun e => h (by rw [e.1]; exact List.mem_cons_self ..))] at hc
        left
        rw [List.mem_singleton.1 hc]; exact List.mem_cons_self ..
    · rcases ih (fun i => g (i + 1)) (fun q => h (List.mem_cons_of_mem _ q)) c hc with k | k
      · exact Or.inl (List.mem_cons_of_mem _ k)
      · exact Or.inr k
theorem join_ascii {ws : List (List UInt8)} (hw : ∀ y ∈ ws, wrd y) : ∀ c ∈ Lib.join ws [32], c.toNat < 128 := by
  intro c hc
  cases ws with
  | nil => cases hc
  | cons w r =>
    rw [Lib.join_cons] at hc
    rcases List.mem_append.1 hc with hc | hc
    · exact ((hw w (by simp)).2 c hc).1
    · unfold Lib.joinTail at hc
      obtain ⟨q, hq, hc⟩ := List.mem_flatten.1 hc
      obtain ⟨y, hy, rfl⟩ := List.mem_map.1 hq
      rcases List.mem_append.1 hc with hc | hc
      · rw [List.mem_singleton.1 hc]; decide
      · exact ((hw y (List.mem_cons_of_mem _ hy)).2 c hc).1
theorem lead_no10 {ld : List UInt8} (hl : ld = [] ∨ ld = [32]) : (10 : UInt8) ∉ ld ∧ ∀ c ∈ ld, c.toNat < 128 := by
  rcases hl with rfl | rfl
  · exact ⟨by decide, fun c h => by cases h⟩
  · exact ⟨by decide, fun c h => by rw [List.mem_singleton.1 h]; decide⟩
def comS : List UInt8 := [35, 32, 99, 114, 101, 115, 116, 32, 120]
set_option maxRecDepth 1000000 in
theorem com_com : isCom (wdsB (bs comS)) = true := by decide +kernel
theorem expC_nl (g : Nat) : expC 10 g = [10] ∨ expC 10 g = [32] ++ 10 :: ([] ++ 10 :: (comS ++ 10 :: [32])) := by
  unfold expC
  rw [if_neg (fun e => absurd e.1 (by decide))]
  by_cases h : g = 2
  · rw [if_pos ⟨rfl, h⟩]; exact Or.inr rfl
  · rw [if_neg (fun e => h e.2)]; exact Or.inl rfl
theorem com_step {es : List El} {f : Idx} {n : Nat} {p : List UInt8} {t : List ByteArray} (h : isCom (wdsB (bs p)) = true) : linesE es f n (bs p :: t) = linesE es f (n + 1) t := by
  have hl : lineE f (wdsB (bs p)) = (0, none) := lineE_com h
  rw [linesE_ok (by rw [hl]), hl]
  show linesE (es ++ []) f (n + 1) t = _
  rw [List.append_nil]
theorem lines_gap {l : List El} (hv : validE l = 0) : ∀ (m k : Nat) (f : Idx) (ld : List UInt8) (g : Nat → Nat) (n : Nat), k + m = l.length → IdxOk f (l.take k) → (ld = [] ∨ ld = [32]) →
    linesE (l.take k) f n (lnsB (bs (ld ++ expT g (((l.drop k).map (lineT · l)).flatten)))) = (l, 0, 0) := by
  intro m
  induction m with
  | zero =>
    intro k f ld g n hk F hl
    have hk' : k = l.length := by omega
    subst hk'
    rw [List.drop_length, List.take_length]
    show linesE l f n (lnsB (bs (ld ++ []))) = _
    rw [List.append_nil, lnsB_last (lead_no10 hl).1, com_step (pad_com (by rcases hl with h | h <;> simp [h]))]
    rfl
  | succ m ih =>
    intro k f ld g n hk F hl
    obtain ⟨x, hx, hd, ht⟩ := drop_ex (l := l) (k := k) (by omega)
    obtain ⟨w1, w2, _⟩ := words_of hv hx
    have hno := line_no10 hv hx
    have hst := vlE_zero (valid_vl hv) hx
    rw [List.nil_append] at hst
    obtain ⟨s1, _, s3, _⟩ := stepE_parts hst
    have F2 := F.snoc (soundE_name s1) s3
    have hwb : (wlE x l).map bs = wofE x l := by
      rw [List.map_map]
      have : (bs ∘ fun (x : ByteArray) => x.data.toList) = id := by funext s; exact bs_list s
      rw [this, List.map_id]
    have seg : ∀ (tr : List UInt8) (g : Nat → Nat), (tr = [] ∨ tr = [32]) → (10 : UInt8) ∉ ld ++ (expT g (Lib.join (wlE x l) [32]) ++ tr) ∧ lineE f (wdsB (bs (ld ++ (expT g (Lib.join (wlE x l) [32]) ++ tr)))) = (0, some x) := by
      intro tr g htr
      have hmem : ∀ c ∈ ld ++ (expT g (Lib.join (wlE x l) [32]) ++ tr), c ≠ 10 ∧ c.toNat < 128 := by
        intro c hc
        rcases List.mem_append.1 hc with hc | hc
        · exact ⟨fun e => (lead_no10 hl).1 (e ▸ hc), (lead_no10 hl).2 c hc⟩
        · rcases List.mem_append.1 hc with hc | hc
          · rcases expT_mem g hno c hc with h | rfl
            · exact ⟨fun e => hno (e ▸ h), join_ascii w1 c h⟩
            · exact ⟨by decide, by decide⟩
          · exact ⟨fun e => (lead_no10 htr).1 (e ▸ hc), (lead_no10 htr).2 c hc⟩
      refine ⟨fun h => (hmem 10 h).1 rfl, ?_⟩
      rw [wds_gen (fun c hc => (hmem c hc).2), wlS_line hl htr w1 w2, hwb]
      exact line_of hv hx F
    have next : ∀ (q : Nat) (ld2 : List UInt8) (g2 : Nat → Nat), (ld2 = [] ∨ ld2 = [32]) → linesE (l.take k ++ [x]) (updI f x.name (l.take k).length) q (lnsB (bs (ld2 ++ expT g2 (((l.drop (k + 1)).map (lineT · l)).flatten)))) = (l, 0, 0) := by
      intro q ld2 g2 h2
      have := ih (k + 1) (updI f x.name (l.take k).length) ld2 g2 q (by omega) (by rw [ht]; exact F2) h2
      rw [ht] at this
      exact this
    rw [hd, List.map_cons, List.flatten_cons, lineT_wl, expT_app, expT_app]
    show linesE _ f n (lnsB (bs (ld ++ ((expT g (Lib.join (wlE x l) [32]) ++ (expC 10 _ ++ [])) ++ expT _ (((l.drop (k + 1)).map (lineT · l)).flatten))))) = _
    rw [List.append_nil]
    generalize hE : Lib.join (wlE x l) [32] = J at *
    rcases expC_nl (g (0 + J.length)) with e | e
    · obtain ⟨h1, h2⟩ := seg [] g (Or.inl rfl)
      have k1 : ∀ Z : List UInt8, ld ++ ((expT g J ++ [10]) ++ Z) = (ld ++ (expT g J ++ [])) ++ 10 :: ([] ++ Z) := fun Z => by simp
      rw [e, k1, lnsB_hit h1, linesE_ok (by rw [h2]), h2]
      exact next _ [] _ (Or.inl rfl)
    · obtain ⟨h1, h2⟩ := seg [32] g (Or.inr rfl)
      have k1 : ∀ Z : List UInt8, ld ++ ((expT g J ++ ([32] ++ 10 :: ([] ++ 10 :: (comS ++ 10 :: [32])))) ++ Z) = (ld ++ (expT g J ++ [32])) ++ 10 :: ([] ++ 10 :: (comS ++ 10 :: ([32] ++ Z))) := fun Z => by simp
      rw [e, k1, lnsB_hit h1, lnsB_hit (by decide), lnsB_hit (by decide), linesE_ok (by rw [h2]), h2, com_step (pad_com (Or.inl rfl)), com_step com_com]
      exact next _ [32] _ (Or.inr rfl)
theorem parse_gap {l : List El} (hv : validE l = 0) (g : Nat → Nat) (hs : (expT g (textE l l.length)).length ≤ 16384) : parseE (bs (expT g (textE l l.length))) = (l, 0, 0) := by
  have hm := lines_gap hv l.length 0 (fun _ => none) [] g 0 (by omega) IdxOk.start (Or.inl rfl)
  rw [List.drop_zero, List.take_zero] at hm
  have ht : textE l l.length = (l.map (lineT · l)).flatten := by unfold textE; rw [List.take_length]
  rw [← ht, List.nil_append] at hm
  unfold parseE
  rw [if_neg (by show ¬ 16384 < (expT g (textE l l.length)).length; omega), hm, if_neg (by simp), if_neg (by simp only [hv]; decide)]
theorem expC_len (c : UInt8) (g : Nat) : (expC c g).length ≤ 14 := by
  unfold expC
  by_cases h1 : c = 32 ∧ g = 1
  · rw [if_pos h1]; decide
  · rw [if_neg h1]
    by_cases h2 : c = 10 ∧ g = 2
    · rw [if_pos h2]; decide
    · rw [if_neg h2]; exact Nat.le_add_left 1 13
theorem expT_len (a : List UInt8) : ∀ g, (expT g a).length ≤ 14 * a.length := by
  induction a with
  | nil => intro g; exact Nat.le_refl _
  | cons c a ih =>
    intro g
    show (expC c (g 0) ++ expT _ a).length ≤ _
    have h1 := expC_len c (g 0)
    have h2 := ih (fun i => g (i + 1))
    rw [List.length_append, List.length_cons]; omega
theorem expT_snoc (a : List UInt8) (g : Nat → Nat) {i : Nat} (h : i < a.length) : expT g (a.take (i + 1)) = expT g (a.take i) ++ expC a[i] (g i) := by
  rw [List.take_add_one, List.getElem?_eq_getElem h, expT_app]
  show _ ++ (expC a[i] (g (0 + (a.take i).length)) ++ []) = _
  rw [List.append_nil, List.length_take, Nat.zero_add, Nat.min_eq_left (by omega)]
theorem ROwn.plainN {w : World} {base : Nat} {v : Value} {l : List El} (h : ROwn ER 39 w base v l) : ∃ A c, v = .slice A l.length c ∧ RRow ER w A l ∧ PlainA A ∧ l.length ≤ c := by
  obtain ⟨A, c, e, R, h1, h2, h3, h4⟩ := h.full
  refine ⟨A, c, e, R, ?_, h1⟩
  intro ad e2
  rcases Nat.eq_zero_or_pos l.length with g | g
  · rcases h.2 with ⟨rfl, _⟩ | ⟨g', cap, cur, rfl, _⟩
    · injection e with e1; rw [e2] at e1; cases e1
    · injection e with e1; rw [e2] at e1; injection e1 with e1; rw [← e1]
  · obtain ⟨b, e3, _⟩ := h3 g
    rw [e2] at e3; injection e3 with e3; rw [e3]
theorem sz_ofN {l : List El} (h : vlE [] l = 0) : SzE l := fun x hx => by
  obtain ⟨k, hk⟩ := List.mem_iff_getElem?.1 hx
  have hst := vlE_zero h hk
  rw [List.nil_append] at hst
  have := nameS_size (soundE_name (stepE_parts hst).1)
  unfold maxLen; omega
/-- The gap that a number of the second list means. -/
def gapV (ys : List Int) (i : Nat) : Nat := if ys.length = 0 then 0 else (((ys.getD (i % ys.length) 0).tmod 5 + 5) % 5).toNat
theorem below_dnR {w w1 w2 : World} (h : Below w.heap.size w w1) (h2 : ∃ n, w2 = w1.drewN n) : Below w.heap.size w w2 := by
  obtain ⟨n, rfl⟩ := h2
  exact bdn h
theorem text_chars {l : List El} (hv : validE l = 0) : (bs (textE l l.length)).data.toList = textE l l.length := by simp [bs]
theorem one_ext {s : ByteArray} {j : Nat} (h : j < s.size) : s.extract j (j + 1) = bs [s[j]] := by
  apply ba_ext
  rw [ext_list]
  have hl : s.data.toList.length = s.size := by simp
  rw [List.take_add_one, List.getElem?_eq_getElem (by rw [hl]; exact h), List.drop_append_of_le_length (by rw [List.length_take]; omega), List.drop_of_length_le (by rw [List.length_take]; omega)]
  simp [bs]
  rfl
set_option maxRecDepth 100000 in
set_option maxHeartbeats 3200000 in
theorem returns_walk (A : Option Addr) (c : Nat) (zs : List Int) (A2 : Option Addr) (c2 : Nat) (ys : List Int) (w : World) (D : Dor w) (hr : Row .i64 w w.heap.size A zs) (hm : zs.length ≤ maxLen) (hw : ∀ n ∈ zs, (Lit.int .i64 n).wf = true)
    (hr2 : Row .i64 w w.heap.size A2 ys) (hm2 : ys.length ≤ maxLen) :
    Calls Tryz.prog 3 #[.slice A zs.length c, .slice A2 ys.length c2] w fun e w' => e = .returned (.bool true) ∧ Below w.heap.size w w' := by
  have K := Lib.hid (mk_row (c := c) (T := 36) hr hm hw)
  have B := Lib.hid ((Below.refl w.heap.size w).alloc (Nat.le_refl _) (.cells #[.slice A zs.length c, .int .i64 0] 36))
  obtain ⟨m, hmm⟩ : ∃ m, m = w.heap.size := ⟨_, rfl⟩
  have HMM := Lib.hid hmm
  have DD := Lib.hid D
  have HR2 := Lib.hid hr2
  have hY9 : ys.length ≤ 9223372036854775807 := hm2
  obtain ⟨Y, hY⟩ : ∃ Y, Y = ys.length := ⟨_, rfl⟩
  have HYL := Lib.hid hY
  rw [← hY] at hY9 ⊢
  clear hr hw D hr2 hm2 hY
  go_enter Tryz.func3, Tryz.ntmps3
  go_wp2_with fail
  refine (new_any A zs.length c w).mono ?_
  rintro e w1 ⟨rfl, hw1⟩
  rw [← hw1] at K B
  rw [← hmm] at K ⊢
  clear hmm hw1 hm
  go_wp2_with fail
  refine (mlayout_any m 0 6 w1 K.out (by omega) (by omega)).mono ?_
  rintro e w2 ⟨v, l, rfl, O, HL, K2, V2⟩
  have hl1 := HL.2.1
  have hl2 := HL.2.2.1
  have HV := Lib.hid (HL.1.valid (by omega) (by omega) (by have := HL.2.2.2; omega))
  have HVL := Lib.hid HL.1.vl
  have HB2 := Lib.hid (V2.below B.out (by rw [HMM.out]; exact Nat.le_refl _) B.out.size)
  obtain ⟨lA, lc, rfl, R, hpl, hlc⟩ := O.plainN
  have HFA := Lib.hid (fmt_any l lA lc w2 R hpl hlc (DD.out.below HB2.out) (sz_ofN HVL.out))
  have HFM := Lib.hid (show fmtE l = (bs (textE l l.length), 0) by unfold fmtE; rw [if_pos HV.out])
  have HLR := Lib.hid R
  clear O HL K2 V2 K B R hpl hlc HVL
  go_wp2_with fail
  refine HFA.out.mono ?_
  rintro e w3 ⟨rfl, B3⟩
  rw [HFM.out]
  have HB3 := Lib.hid (HB2.out.trans (B3.mono HB2.out.size))
  have HLR3 := Lib.hid (HLR.out.below B3)
  have hsz : (bs (textE l l.length)).size ≤ 5120 := by
    show (textE l l.length).length ≤ _
    have := text_size HV.out l.length (Nat.le_refl _)
    omega
  have HPA := Lib.hid (parse_any (bs (textE l l.length)) w3 (by omega) (DD.out.below HB3.out))
  have HPR := Lib.hid (show parseE (bs (textE l l.length)) = (l, 0, 0) from by
    have := round_trip l HV.out
    rwa [HFM.out] at this)
  have HPG := Lib.hid (fun (h : (bs (expT (gapV ys) (textE l l.length))).size ≤ 16384) => parse_gap HV.out (gapV ys) h)
  have HTE := Lib.hid (text_chars HV.out)
  have HEX := Lib.hid (expT_len (textE l l.length) (gapV ys))
  clear B3 HFA HFM HLR hl1 HB2
  obtain ⟨s, hs⟩ : ∃ s, s = bs (textE l l.length) := ⟨_, rfl⟩
  rw [← hs] at hsz HPA HPR HTE ⊢
  have HS := Lib.hid hs
  rw [← HTE.out] at HPG HEX
  clear hs
  go_wp2_with fail
  refine HPA.out.mono ?_
  rintro e w4 ⟨v4, rfl, O4, B4⟩
  rw [HPR.out] at O4 ⊢
  have HB4 := Lib.hid (HB3.out.trans (B4.mono HB3.out.size))
  have HLR4 := Lib.hid (HLR3.out.below B4)
  obtain ⟨A4, c4, rfl, R4, -, -⟩ := O4.plainN
  have HEL := Lib.hid (els_same l lA A4 lc c4 w4 HLR4.out R4)
  clear B4 O4 R4 HB3 HLR3 HPA HPR
  go_wp2_with fail
  refine HEL.out.mono ?_
  rintro e w5 ⟨rfl, hw5⟩
  have HB5 := Lib.hid (below_dnR HB4.out hw5)
  have HLR5 := Lib.hid (show RRow ER w5 lA l from by obtain ⟨q, rfl⟩ := hw5; exact HLR4.out.below ⟨rfl, rfl, rfl, Nat.le_refl _, fun _ _ => rfl⟩)
  clear hw5 HB4 HLR4 HEL
  go_wp2_with fail
  go_loopw [11, 12] (fun ov iv wr => ∃ j : Nat, j ≤ s.size ∧ iv = .int .i64 (j : Int) ∧ ov = .string (bs (expT (gapV ys) (s.data.toList.take j))) ∧ Hid (Below w.heap.size w wr ∧ RRow ER wr lA l)) (fun _ iv _ => s.size - (intOf iv).toNat)
  case atStart => exact ⟨0, by omega, rfl, by simp [expT, bs], Lib.hid ⟨HB5.out, HLR5.out⟩⟩
  case round =>
    clear HB5 HLR5
    obtain ⟨j, hj, rfl, rfl, B⟩ := hrel
    have hcl : s.data.toList.length = s.size := by simp
    have hol : (bs (expT (gapV ys) (s.data.toList.take j))).size ≤ 71680 := by
      have := expT_len (s.data.toList.take j) (gapV ys)
      rw [List.length_take] at this
      show (expT (gapV ys) (s.data.toList.take j)).length ≤ _
      omega
    by_cases hlt : j < s.size
    · have hlt' : (j : Int) < (s.size : Int) := by omega
      have hst := expT_snoc s.data.toList (gapV ys) (i := j) (by rw [hcl]; exact hlt)
      have hsj : s.data.toList[j]'(by rw [hcl]; exact hlt) = s[j] := by rw [Array.getElem_toList]; rfl
      rw [hsj] at hst
      have HST := Lib.hid (show ∀ e, expC s[j] (gapV ys j) = e → bs (expT (gapV ys) (s.data.toList.take (j + 1))) = bs (expT (gapV ys) (s.data.toList.take j)) ++ bs e from fun e he => by rw [hst, he]; exact ba_ext (by rw [ByteArray.data_append, Array.toList_append]))
      generalize bs (expT (gapV ys) (s.data.toList.take j)) = ob at *
      clear hsj hcl
      have c32 : s[j] = 32 ∨ s[j] ≠ 32 := by by_cases e : s[j] = 32 <;> simp [e]
      have n32 : s[j] ≠ 32 → ((s[j].toNat : Int) == 32) = false := fun e => by
        rw [beq_eq_false_iff_ne]; intro g; exact e (UInt8.toNat_inj.1 (by have : s[j].toNat = 32 := by omega
                                                                          rw [this]; rfl))
      have n10 : s[j] ≠ 10 → ((s[j].toNat : Int) == 10) = false := fun e => by
        rw [beq_eq_false_iff_ne]; intro g; exact e (UInt8.toNat_inj.1 (by have : s[j].toNat = 10 := by omega
                                                                          rw [this]; rfl))
      have N32 := Lib.hid n32
      have N10 := Lib.hid n10
      clear n32 n10 c32
      by_cases hY0 : Y = 0
      · have hgv : gapV ys j = 0 := by unfold gapV; rw [if_pos (by rw [← HYL.out]; exact hY0)]
        have hY0' : ¬ (0 : Int) < (Y : Int) := by omega
        rw [hgv] at HST
        have hg : ¬ (0 : Nat) = 1 := by decide
        go_upto_region 14 with fail
        clear hY0'
        by_cases h32 : s[j] = 32
        · have hb32 : ((s[j].toNat : Int) == 32) = true := by rw [beq_iff_eq, h32]; rfl
          have hb10 : ((s[j].toNat : Int) == 10) = false := by rw [beq_eq_false_iff_ne, h32]; decide
          have h10 : ¬ s[j] = 10 := by rw [h32]; decide
          have HN := Lib.hid (HST.out [s[j]] (by unfold expC; rw [if_neg (by rintro ⟨e1, e2⟩; first | exact h32 e1 | exact hg e2 | omega), if_neg (by rintro ⟨e1, e2⟩; first | exact h10 e1 | exact hg e2 | exact absurd (h32.symm.trans e1) (by decide) | omega)]))
          rw [← one_ext hlt] at HN
          have hx1 : (s.extract j (j + 1)).size = 1 := by rw [one_ext hlt]; rfl
          have cc : ¬ 9223372036854775807 < ob.size + (s.extract j (j + 1)).size := by omega
          have cc2 : ¬ 9223372036854775807 < ob.size + 1 := by omega
          clear h32 h10 hst HST hgv
          go_wp2_with fail
          go_roundw
          case rel => exact ⟨j + 1, by omega, by go_num, by rw [HN.out], B⟩
          case measure => simp [intOf] <;> omega
        · have hb32 := N32.out h32
          by_cases h10 : s[j] = 10
          · have hb10 : ((s[j].toNat : Int) == 10) = true := by rw [beq_iff_eq, h10]; rfl
            have HN := Lib.hid (HST.out [s[j]] (by unfold expC; rw [if_neg (by rintro ⟨e1, e2⟩; first | exact h32 e1 | exact hg e2 | omega), if_neg (by rintro ⟨e1, e2⟩; first | exact h10 e1 | exact hg e2 | exact absurd (h32.symm.trans e1) (by decide) | omega)]))
            rw [← one_ext hlt] at HN
            have hx1 : (s.extract j (j + 1)).size = 1 := by rw [one_ext hlt]; rfl
            have cc : ¬ 9223372036854775807 < ob.size + (s.extract j (j + 1)).size := by omega
            have cc2 : ¬ 9223372036854775807 < ob.size + 1 := by omega
            clear h32 h10 hst HST hgv
            go_wp2_with fail
            go_roundw
            case rel => exact ⟨j + 1, by omega, by go_num, by rw [HN.out], B⟩
            case measure => simp [intOf] <;> omega
          · have hb10 := N10.out h10
            have HN := Lib.hid (HST.out [s[j]] (by unfold expC; rw [if_neg (by rintro ⟨e1, e2⟩; first | exact h32 e1 | exact hg e2 | omega), if_neg (by rintro ⟨e1, e2⟩; first | exact h10 e1 | exact hg e2 | exact absurd (h32.symm.trans e1) (by decide) | omega)]))
            rw [← one_ext hlt] at HN
            have hx1 : (s.extract j (j + 1)).size = 1 := by rw [one_ext hlt]; rfl
            have cc : ¬ 9223372036854775807 < ob.size + (s.extract j (j + 1)).size := by omega
            have cc2 : ¬ 9223372036854775807 < ob.size + 1 := by omega
            clear h32 h10 hst HST hgv
            go_wp2_with fail
            go_roundw
            case rel => exact ⟨j + 1, by omega, by go_num, by rw [HN.out], B⟩
            case measure => simp [intOf] <;> omega
      · have hYp : (0 : Int) < (Y : Int) := by omega
        have hYz : ¬ (Y : Int) = 0 := by omega
        obtain ⟨r, hr⟩ : ∃ r, r = j % Y := ⟨_, rfl⟩
        have hrY : r < Y := by rw [hr]; exact Nat.mod_lt _ (by omega)
        have hri : (j : Int) % (Y : Int) = (r : Int) := by rw [hr]; rfl
        have hrY' : (r : Int) < (Y : Int) := by omega
        obtain ⟨ad, rfl, -, hcel⟩ := (HR2.out.below B.out.1) r (by rw [← HYL.out]; exact hrY)
        obtain ⟨y, hy⟩ : ∃ y, y = ys.getD r 0 := ⟨_, rfl⟩
        rw [← hy] at hcel
        have a5 := tmod_bd y 5 (by decide)
        obtain ⟨G, hG⟩ := Int.eq_ofNat_of_zero_le (show 0 ≤ (y.tmod 5 + 5) % 5 by omega)
        have hgv : gapV ys j = G := by
          unfold gapV
          rw [if_neg (by rw [← HYL.out]; exact hY0), ← HYL.out, ← hr, ← hy, hG]; rfl
        rw [hgv] at HST
        clear hy hr hY0 HR2
        go_upto_region 14 with fail
        rw [hG]
        generalize y.tmod 5 + 5 = e1
        generalize y.tmod 5 = e2
        clear hcel a5 hG hri hrY' hYp hYz
        by_cases h32 : s[j] = 32
        · have hb32 : ((s[j].toNat : Int) == 32) = true := by rw [beq_iff_eq, h32]; rfl
          have hb10 : ((s[j].toNat : Int) == 10) = false := by rw [beq_eq_false_iff_ne, h32]; decide
          have h10 : ¬ s[j] = 10 := by rw [h32]; decide
          by_cases hg : G = 1
          · have hg1 : ((G : Int) == 1) = true := by rw [beq_iff_eq]; omega
            have HN := Lib.hid (HST.out [32, 32, 32] (by unfold expC; rw [if_pos ⟨h32, hg⟩]))
            have cc : ¬ 9223372036854775807 < ob.size + 3 := by omega
            rw [show bs [32, 32, 32] = ⟨#[32, 32, 32]⟩ from rfl] at HN
            clear h32 h10 hst HST hgv
            go_wp2_with fail
            go_roundw
            case rel => exact ⟨j + 1, by omega, by go_num, by rw [HN.out], B⟩
            case measure => simp [intOf] <;> omega
          · have hg1 : ((G : Int) == 1) = false := by rw [beq_eq_false_iff_ne]; omega
            have HN := Lib.hid (HST.out [s[j]] (by unfold expC; rw [if_neg (by rintro ⟨e1, e2⟩; first | exact h32 e1 | exact hg e2 | omega), if_neg (by rintro ⟨e1, e2⟩; first | exact h10 e1 | exact hg e2 | exact absurd (h32.symm.trans e1) (by decide) | omega)]))
            rw [← one_ext hlt] at HN
            have hx1 : (s.extract j (j + 1)).size = 1 := by rw [one_ext hlt]; rfl
            have cc : ¬ 9223372036854775807 < ob.size + (s.extract j (j + 1)).size := by omega
            have cc2 : ¬ 9223372036854775807 < ob.size + 1 := by omega
            clear h32 h10 hst HST hgv
            go_wp2_with fail
            go_roundw
            case rel => exact ⟨j + 1, by omega, by go_num, by rw [HN.out], B⟩
            case measure => simp [intOf] <;> omega
        · have hb32 := N32.out h32
          by_cases h10 : s[j] = 10
          · have hb10 : ((s[j].toNat : Int) == 10) = true := by rw [beq_iff_eq, h10]; rfl
            by_cases hg : G = 2
            · have hg2 : ((G : Int) == 2) = true := by rw [beq_iff_eq]; omega
              have HN := Lib.hid (HST.out [32, 10, 10, 35, 32, 99, 114, 101, 115, 116, 32, 120, 10, 32] (by unfold expC; rw [if_neg (fun e => h32 e.1), if_pos ⟨h10, hg⟩]))
              have cc : ¬ 9223372036854775807 < ob.size + 14 := by omega
              rw [show bs [32, 10, 10, 35, 32, 99, 114, 101, 115, 116, 32, 120, 10, 32] = ⟨#[32, 10, 10, 35, 32, 99, 114, 101, 115, 116, 32, 120, 10, 32]⟩ from rfl] at HN
              clear h32 h10 hst HST hgv
              go_wp2_with fail
              go_roundw
              case rel => exact ⟨j + 1, by omega, by go_num, by rw [HN.out], B⟩
              case measure => simp [intOf] <;> omega
            · have hg2 : ((G : Int) == 2) = false := by rw [beq_eq_false_iff_ne]; omega
              have HN := Lib.hid (HST.out [s[j]] (by unfold expC; rw [if_neg (by rintro ⟨e1, e2⟩; first | exact h32 e1 | exact hg e2 | omega), if_neg (by rintro ⟨e1, e2⟩; first | exact h10 e1 | exact hg e2 | exact absurd (h32.symm.trans e1) (by decide) | omega)]))
              rw [← one_ext hlt] at HN
              have hx1 : (s.extract j (j + 1)).size = 1 := by rw [one_ext hlt]; rfl
              have cc : ¬ 9223372036854775807 < ob.size + (s.extract j (j + 1)).size := by omega
              have cc2 : ¬ 9223372036854775807 < ob.size + 1 := by omega
              clear h32 h10 hst HST hgv
              go_wp2_with fail
              go_roundw
              case rel => exact ⟨j + 1, by omega, by go_num, by rw [HN.out], B⟩
              case measure => simp [intOf] <;> omega
          · have hb10 := N10.out h10
            have hg : True := trivial
            have HN := Lib.hid (HST.out [s[j]] (by unfold expC; rw [if_neg (by rintro ⟨e1, e2⟩; first | exact h32 e1 | exact hg e2 | omega), if_neg (by rintro ⟨e1, e2⟩; first | exact h10 e1 | exact hg e2 | exact absurd (h32.symm.trans e1) (by decide) | omega)]))
            rw [← one_ext hlt] at HN
            have hx1 : (s.extract j (j + 1)).size = 1 := by rw [one_ext hlt]; rfl
            have cc : ¬ 9223372036854775807 < ob.size + (s.extract j (j + 1)).size := by omega
            have cc2 : ¬ 9223372036854775807 < ob.size + 1 := by omega
            clear h32 h10 hst HST hgv
            go_wp2_with fail
            go_roundw
            case rel => exact ⟨j + 1, by omega, by go_num, by rw [HN.out], B⟩
            case measure => simp [intOf] <;> omega
    · obtain rfl : j = s.size := by omega
      rw [show s.data.toList.take s.size = s.data.toList from by rw [← hcl, List.take_length]] at hol ⊢
      have HPA := Lib.hid (parse_any (bs (expT (gapV ys) s.data.toList)) wr (by omega) (DD.out.below B.out.1))
      clear hcl HEX
      generalize bs (expT (gapV ys) s.data.toList) = ob at *
      go_wp2_with fail
      refine HPA.out.mono ?_
      rintro e w6 ⟨v6, rfl, O6, B6⟩
      have HB6 := Lib.hid (B.out.1.trans (B6.mono B.out.1.size))
      by_cases hbig : 16384 < ob.size
      · have hbig' : (16384 : Int) < (ob.size : Int) := by omega
        generalize parseE ob = pr at *
        clear O6 B6 HPA HPG
        go_wp2_with fail
        go_ret
        exact ⟨rfl, HB6.out⟩
      · have hbig' : ¬ (16384 : Int) < (ob.size : Int) := by omega
        have hpe := HPG.out (by omega)
        rw [hpe] at O6 ⊢
        obtain ⟨A6, c6, rfl, R6, -, -⟩ := O6.plainN
        have HEL := Lib.hid (els_same l lA A6 lc c6 w6 (B.out.2.below B6) R6)
        clear O6 B6 HPA HPG hpe hbig R6
        go_wp2_with fail
        refine HEL.out.mono ?_
        rintro e w7 ⟨rfl, hw7⟩
        have HB7 := Lib.hid (below_dnR HB6.out hw7)
        have HSN := Lib.hid (sane_any w7 (DD.out.below HB7.out))
        clear hw7 HEL
        go_wp2_with fail
        refine HSN.out.mono ?_
        rintro e w8 ⟨rfl, B8⟩
        go_wp2_with fail
        go_ret
        exact ⟨rfl, HB7.out.trans (B8.mono HB7.out.size)⟩
end Go.Proofs.YtdoifaifhikkjaaGreatDoor
