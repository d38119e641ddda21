/-
  Stage 2: the reference's Repairs.
-/
import Derived.Test.YtmhjdpmibfkhnaaInsN
import Derived.Test.YtmhjdpmibfkhnaaPRep
set_option linter.unusedSimpArgs false
set_option linter.unusedVariables false
namespace Go.Proofs.Ytmhjdpmibfkhnaa
open Go.RowKit

theorem insS_len (l : List ByteArray) (s : ByteArray) : (insS l s).length ≤ l.length + 1 := by
  induction l with
  | nil => simp [insS]
  | cons x r ih =>
    rw [insS]; split
    · simpa using ih
    · split <;> simp

/-- One digit tried; the exchange tried; a round of the outer loop. -/
def stepR (s : ByteArray) (i : Nat) (acc : List ByteArray) (k : Nat) : List ByteArray := if 48 + k ≠ (bt s i).toNat ∧ okP (rep1 s i k) = true then insS acc (rep1 s i k) else acc
def innR (s : ByteArray) (i : Nat) (acc : List ByteArray) (n : Nat) : List ByteArray := (List.range n).foldl (stepR s i) acc
def excR (s : ByteArray) (i : Nat) (acc : List ByteArray) : List ByteArray := if i < 11 ∧ (bt s i).toNat ≠ (bt s (i + 1)).toNat ∧ okP (exc1 s i) = true then insS acc (exc1 s i) else acc
def outR (s : ByteArray) (n : Nat) : List ByteArray := (List.range n).foldl (fun acc i => excR s i (innR s i acc 10)) []
theorem innR_zero (s : ByteArray) (i : Nat) (acc : List ByteArray) : innR s i acc 0 = acc := rfl
theorem innR_succ (s : ByteArray) (i : Nat) (acc : List ByteArray) (n : Nat) : innR s i acc (n + 1) = stepR s i (innR s i acc n) n := by
  unfold innR; rw [List.range_succ, List.foldl_append]; rfl
theorem outR_succ (s : ByteArray) (n : Nat) : outR s (n + 1) = excR s n (innR s n (outR s n) 10) := by
  unfold outR; rw [List.range_succ, List.foldl_append]; rfl
theorem stepR_len (s : ByteArray) (i : Nat) (acc : List ByteArray) (k : Nat) : (stepR s i acc k).length ≤ acc.length + 1 := by
  unfold stepR; split
  · exact insS_len _ _
  · omega
theorem excR_len (s : ByteArray) (i : Nat) (acc : List ByteArray) : (excR s i acc).length ≤ acc.length + 1 := by
  unfold excR; split
  · exact insS_len _ _
  · omega
theorem innR_len (s : ByteArray) (i : Nat) (acc : List ByteArray) (n : Nat) : (innR s i acc n).length ≤ acc.length + n := by
  induction n with
  | zero => simp [innR_zero]
  | succ n ih => rw [innR_succ]; have := stepR_len s i (innR s i acc n) n; omega
theorem outR_len (s : ByteArray) (n : Nat) : (outR s n).length ≤ 11 * n := by
  induction n with
  | zero => simp [outR]
  | succ n ih => rw [outR_succ]; have := excR_len s n (innR s n (outR s n) 10); have := innR_len s n (outR s n) 10; omega

theorem StrsN.below {w w' : World} {base : Nat} {v : Value} {l : List ByteArray} (h : StrsN w base v l) (k : Below w.heap.size w w') : StrsN w' base v l := by
  rcases h with h | ⟨h0, h⟩
  · exact Or.inl h
  · exact Or.inr ⟨h0, Strs.below h k⟩
theorem below_draws {w : World} {n : Nat} : Below w.heap.size w (w.drewN n) := ⟨rfl, rfl, rfl, Nat.le_refl _, fun _ _ => rfl⟩
/-- Valid of a string of twelve digits. -/
theorem validR_12 {x : ByteArray} (h : dgs x 12 = true) : validR x = if okP x = true then 0 else 9 := by
  unfold validR; rw [if_pos h, okP_12 (dgs_t h).1]
theorem toList_ne {a b : ByteArray} (h : a ≠ b) : (a.toList == b.toList) = false := beq_eq_false_iff_ne.2 fun e => h (bytes_inj e)

theorem one_byte_drew (W : World) (v : Int) : (convert 33 9 (.slice (some ⟨W.heap.size, 0, none⟩) 1 1)).run Try.prog (W.alloc (.cells #[.int .u8 v] 5)).drew = .ok (.string (strOfNums [v])) (W.alloc (.cells #[.int .u8 v] 5)).drew := one_byte W.drew v

theorem two_bytes (W : World) (a b : Int) : (convert 33 9 (.slice (some ⟨W.heap.size, 0, none⟩) 2 2)).run Try.prog (W.alloc (.cells #[.int .u8 a, .int .u8 b] 5)) = .ok (.string (strOfNums [a, b])) (W.alloc (.cells #[.int .u8 a, .int .u8 b] 5)) :=
  run_convert_bytes_arg _ 33 5 Try.underlying33 Try.underlying5 W.heap.size 0 2 2 [a, b] rfl (fun i hi => by
    have e : i = 0 ∨ i = 1 := by have : i < 2 := hi; omega
    rcases e with rfl | rfl
    · rw [Nat.zero_add, cell_new]; rfl
    · rw [Nat.zero_add, cell_new]; rfl) 9 Try.underlying9
theorem two_bytes_drew (W : World) (a b : Int) : (convert 33 9 (.slice (some ⟨W.heap.size, 0, none⟩) 2 2)).run Try.prog (W.alloc (.cells #[.int .u8 a, .int .u8 b] 5)).drew = .ok (.string (strOfNums [a, b])) (W.alloc (.cells #[.int .u8 a, .int .u8 b] 5)).drew := two_bytes W.drew a b
theorem two_list (a b : UInt8) : (strOfNums [(a.toNat : Int), (b.toNat : Int)]).data.toList = [a, b] := by
  rw [strOfNums_data]
  show [UInt8.ofNat (a.toNat : Int).toNat, UInt8.ofNat (b.toNat : Int).toNat] = _
  rw [Int.toNat_natCast, Int.toNat_natCast]
  congr 1
  · exact UInt8.ofNat_toNat
  · congr 1; exact UInt8.ofNat_toNat
theorem exc_ref {s : ByteArray} (h : s.size = 12) (i : Nat) (hi : i < 11) : s.extract 0 i ++ strOfNums [((s.data.toList.getD (i + 1) 48).toNat : Int), ((s.data.toList.getD i 48).toNat : Int)] ++ s.extract (i + 2) 12 = exc1 s i := by
  apply bytes_ext
  rw [exc_list h i hi]
  obtain ⟨b0, b1, b2, b3, b4, b5, b6, b7, b8, b9, b10, b11, rfl⟩ := twelve h
  rw [ByteArray.data_append, ByteArray.data_append, Array.toList_append, Array.toList_append, two_list, ByteArray.data_extract, ByteArray.data_extract, Array.toList_extract, Array.toList_extract]
  have e : i = 0 ∨ i = 1 ∨ i = 2 ∨ i = 3 ∨ i = 4 ∨ i = 5 ∨ i = 6 ∨ i = 7 ∨ i = 8 ∨ i = 9 ∨ i = 10 := by omega
  rcases e with rfl | rfl | rfl | rfl | rfl | rfl | rfl | rfl | rfl | rfl | rfl <;> rfl

set_option maxHeartbeats 1600000 in
theorem rrepairs_ok (s : ByteArray) (w : World) (h : dgs s 12 = true) :
    Calls Try.prog 27 #[.string s] w (RepPost w.heap.size (outR s 12, 0) w) := by
  obtain ⟨hz, hd⟩ := dgs_t h
  have HD := Lib.hid hd
  have HS := Lib.hid h
  go_enter Try.func27, Try.ntmps27
  go_wp2_with fail
  refine (digits_any _ _ _ (by omega) (by omega)).mono ?_
  rintro e w' ⟨rfl, rfl⟩
  clear hd
  go_wp2_with fail
  go_loopw [4, 5] (fun c i wr => ∃ k : Nat, k ≤ 12 ∧ i = .int .i64 k ∧ StrsN wr w.heap.size c (outR s k) ∧ Below w.heap.size w wr) (fun _ i _ => 12 - (intOf i).toNat)
  case atStart => exact ⟨0, by omega, rfl, Or.inl ⟨rfl, rfl⟩, Below.refl _ _⟩
  case round =>
    obtain ⟨k, hk, rfl, O, B⟩ := hrel
    by_cases hlt : k < 12
    · have hks : k < s.size := by omega
      have hd12 : decide ((k : Int) < 12) = true := decide_eq_true (by omega)
      have lo := outR_len s k
      have q0 : (0 : Int) ≤ (k : Int) := by omega
      have q1 : (k : Int) ≤ 12 := by omega
      have q2 : (0 : Int) ≤ (k : Int) + 1 := by omega
      have q3 : (k : Int) + 1 ≤ 12 := by omega
      have q4 : IntKind.i64.wrap ((k : Int) + 1) = (k : Int) + 1 := IntWalk.i64_in _ (by omega)
      go_wp2_with fail
      go_loopw [4, 6] (fun c d wr => ∃ j : Nat, j ≤ 10 ∧ d = .int .i64 j ∧ StrsN wr w.heap.size c (innR s k (outR s k) j) ∧ Below w.heap.size w wr) (fun _ d _ => 10 - (intOf d).toNat)
      case atStart => exact ⟨0, by omega, rfl, by rw [innR_zero]; exact O, B⟩
      case round =>
        obtain ⟨j, hj, rfl, O2, B2⟩ := hrel
        by_cases hlj : j < 10
        · have hd10 : decide ((j : Int) < 10) = true := decide_eq_true (by omega)
          have q6 : (strOfNums [48 + (j : Int)]).size = 1 := by rw [strOfNums_size]; rfl
          have q7 : IntKind.i64.wrap (48 + (j : Int)) = 48 + (j : Int) := IntWalk.i64_in _ (by omega)
          have q8 : IntKind.u8.wrap (48 + (j : Int)) = 48 + (j : Int) := IntWalk.u8_in _ (by omega)
          have hin := innR_len s k (outR s k) j
          have hob := fun v => one_byte_drew wr v
          have HE := Lib.hid (innR_succ s k (outR s k) j)
          have hl := B2.size
          have O3 : StrsN (wr.alloc (.cells #[.int .u8 (48 + (j : Int))] 5)).drew w.heap.size _ (innR s k (outR s k) j) := O2.below ((Below.refl _ _).alloc (Nat.le_refl _) _).drew
          have B3 : Below w.heap.size w (wr.alloc (.cells #[.int .u8 (48 + (j : Int))] 5)).drew := (B2.alloc hl _).drew
          clear O B O2 B2
          by_cases c : 48 + j = (bt s k).toNat
          · have HQ : Hid (s.extract 0 k ++ strOfNums [48 + (j : Int)] ++ s.extract (k + 1) 12 = s) := Lib.hid ((rep_self hz hlt hlj).2 c)
            have HC := Lib.hid c
            clear c
            go_wp2_with fail
            go_region
            go_upto_region 11 with fail
            rw [HQ.out]
            generalize (wr.alloc (.cells #[.int .u8 (48 + (j : Int))] 5)).drew = wq at *
            clear hob
            go_wp2_with fail
            exact ⟨⟨j + 1, by omega, by go_num, by rw [HE.out, show stepR s k (innR s k (outR s k) j) j = innR s k (outR s k) j from if_neg (fun g => g.1 HC.out)]; exact O3, B3⟩, by simp [intOf]; omega⟩
          · have HQ : Hid (s.extract 0 k ++ strOfNums [48 + (j : Int)] ++ s.extract (k + 1) 12 = rep1 s k j) := Lib.hid rfl
            have hne : rep1 s k j ≠ s := fun e => c ((rep_self hz hlt hlj).1 e)
            have hne1 := toList_ne hne
            have HC := Lib.hid c
            have HV := Lib.hid (validR_12 (dgs_rep h k j hlt hlj))
            clear c hne
            cases ho : okP (rep1 s k j)
            · have ev : (validR (rep1 s k j) == 0) = false := by rw [HV.out, ho]; rfl
              have ev2 : stepR s k (innR s k (outR s k) j) j = innR s k (outR s k) j := if_neg (fun g => by rw [ho] at g; cases g.2)
              have HEV := Lib.hid ev2
              clear ho ev2
              go_wp2_with fail
              go_region
              go_upto_region 11 with fail
              rw [HQ.out]
              generalize (wr.alloc (.cells #[.int .u8 (48 + (j : Int))] 5)).drew = wq at *
              clear hob
              go_wp2_with fail
              refine (rvalid_any _ _).mono ?_
              rintro e w' ⟨rfl, n, rfl⟩
              go_wp2_with fail
              exact ⟨⟨j + 1, by omega, by go_num, by rw [HE.out, HEV.out]; exact O3.below below_draws, bdn B3⟩, by simp [intOf]; omega⟩
            · have ev : (validR (rep1 s k j) == 0) = true := by rw [HV.out, ho]; rfl
              have ev2 : stepR s k (innR s k (outR s k) j) j = insS (innR s k (outR s k) j) (rep1 s k j) := if_pos ⟨HC.out, ho⟩
              have HEV := Lib.hid ev2
              clear ho ev2
              go_wp2_with fail
              go_region
              go_upto_region 11 with fail
              rw [HQ.out]
              generalize (wr.alloc (.cells #[.int .u8 (48 + (j : Int))] 5)).drew = wq at *
              clear hob
              go_wp2_with fail
              refine (rvalid_any _ _).mono ?_
              rintro e w' ⟨rfl, n, rfl⟩
              have O4 : StrsN (wq.drewN n) w.heap.size _ (innR s k (outR s k) j) := O3.below below_draws
              have B4 : Below w.heap.size w (wq.drewN n) := bdn B3
              generalize wq.drewN n = wv at *
              go_wp2_with fail
              refine (insert_any _ (rep1 s k j) w.heap.size _ _ O4 (by omega) B4.size).mono ?_
              rintro e w5 ⟨v5, rfl, O5, B5⟩
              go_wp2_with fail
              exact ⟨⟨j + 1, by omega, by go_num, by rw [HE.out, HEV.out]; exact O5, B4.trans (B5.mono B4.size)⟩, by simp [intOf]; omega⟩
        · obtain rfl : j = 10 := by omega
          have HE := Lib.hid (outR_succ s k)
          have hin := innR_len s k (outR s k) 10
          have hl := B2.size
          clear O B
          by_cases hk11 : k < 11
          · have hk1 : k + 1 < s.size := by omega
            have hd11 : decide ((k : Int) < 11) = true := decide_eq_true (by omega)
            have r1 : (k : Int) + 1 < (s.size : Int) := by omega
            have r2 : (k : Int) + 1 < 12 := by omega
            have r3 : (k : Int) < 12 := by omega
            have HB := Lib.hid (And.intro (getD_byte s k hks 48) (getD_byte s (k + 1) hk1 48))
            by_cases c : s[k].toNat = s[k + 1].toNat
            · have hc' : ((s[k].toNat : Int) != (s[k + 1].toNat : Int)) = false := by rw [bne_eq_false_iff_eq]; omega
              have HEV : Hid (excR s k (innR s k (outR s k) 10) = innR s k (outR s k) 10) := Lib.hid (if_neg (fun g => g.2.1 (by show (s.data.toList.getD k 48).toNat = (s.data.toList.getD (k + 1) 48).toNat; rw [HB.out.1, HB.out.2, c])))
              clear c
              go_wp2_with fail
              go_quiet (fail)
              go_wp2_with fail
              exact ⟨⟨k + 1, by omega, by go_num, by rw [HE.out, HEV.out]; exact O2.below below_draws, bdn B2⟩, by simp [intOf]; omega⟩
            · have hc' : ((s[k].toNat : Int) != (s[k + 1].toNat : Int)) = true := by rw [bne_iff_ne]; omega
              have HC : Hid ((bt s k).toNat ≠ (bt s (k + 1)).toNat) := Lib.hid (by show (s.data.toList.getD k 48).toNat ≠ (s.data.toList.getD (k + 1) 48).toNat; rw [HB.out.1, HB.out.2]; exact c)
              have HQ : Hid (s.extract 0 k ++ strOfNums [(s[k + 1].toNat : Int), (s[k].toNat : Int)] ++ s.extract (k + 2) 12 = exc1 s k) := Lib.hid (by rw [← HB.out.1, ← HB.out.2]; exact exc_ref hz k hk11)
              have HV := Lib.hid (validR_12 (dgs_exc HS.out k hk11))
              have q5 : IntKind.i64.wrap ((k : Int) + 2) = (k : Int) + 2 := IntWalk.i64_in _ (by omega)
              have q6 : (strOfNums [(s[k + 1].toNat : Int), (s[k].toNat : Int)]).size = 2 := by rw [strOfNums_size]; rfl
              have q7 : (0 : Int) ≤ (k : Int) + 2 := by omega
              have q8 : (k : Int) + 2 ≤ 12 := by omega
              clear c
              go_wp2_with fail
              go_quiet (fail)
              have O3 : StrsN (wr.drewN nq) w.heap.size _ (innR s k (outR s k) 10) := O2.below below_draws
              have B3 : Below w.heap.size w (wr.drewN nq) := bdn B2
              generalize wr.drewN nq = wy at *
              have hly := B3.size
              have hob := fun a b => two_bytes_drew wy a b
              have O4 : StrsN (wy.alloc (.cells #[.int .u8 s[k + 1].toNat, .int .u8 s[k].toNat] 5)).drew w.heap.size _ (innR s k (outR s k) 10) := O3.below ((Below.refl _ _).alloc (Nat.le_refl _) _).drew
              have B4 : Below w.heap.size w (wy.alloc (.cells #[.int .u8 s[k + 1].toNat, .int .u8 s[k].toNat] 5)).drew := (B3.alloc hly _).drew
              clear O2 B2 O3 B3
              go_wp2_with fail
              go_region
              go_upto_region 15 with fail
              rw [HQ.out]
              generalize (wy.alloc (.cells #[.int .u8 s[k + 1].toNat, .int .u8 s[k].toNat] 5)).drew = wq at *
              clear hob
              cases ho : okP (exc1 s k)
              · have ev : (validR (exc1 s k) == 0) = false := by rw [HV.out, ho]; rfl
                have HEV : Hid (excR s k (innR s k (outR s k) 10) = innR s k (outR s k) 10) := Lib.hid (if_neg (fun g => by have := g.2.2; rw [ho] at this; cases this))
                clear ho
                go_wp2_with fail
                refine (rvalid_any _ _).mono ?_
                rintro e w' ⟨rfl, n, rfl⟩
                go_wp2_with fail
                exact ⟨⟨k + 1, by omega, by go_num, by rw [HE.out, HEV.out]; exact O4.below below_draws, bdn B4⟩, by simp [intOf]; omega⟩
              · have ev : (validR (exc1 s k) == 0) = true := by rw [HV.out, ho]; rfl
                have HEV : Hid (excR s k (innR s k (outR s k) 10) = insS (innR s k (outR s k) 10) (exc1 s k)) := Lib.hid (if_pos ⟨hk11, HC.out, ho⟩)
                clear ho
                go_wp2_with fail
                refine (rvalid_any _ _).mono ?_
                rintro e w' ⟨rfl, n, rfl⟩
                have O5 : StrsN (wq.drewN n) w.heap.size _ (innR s k (outR s k) 10) := O4.below below_draws
                have B5 : Below w.heap.size w (wq.drewN n) := bdn B4
                generalize wq.drewN n = wv at *
                go_wp2_with fail
                refine (insert_any _ (exc1 s k) w.heap.size _ _ O5 (by omega) B5.size).mono ?_
                rintro e w5 ⟨v5, rfl, O6, B6⟩
                go_wp2_with fail
                exact ⟨⟨k + 1, by omega, by go_num, by rw [HE.out, HEV.out]; exact O6, B5.trans (B6.mono B5.size)⟩, by simp [intOf]; omega⟩
          · have hd11 : decide ((k : Int) < 11) = false := decide_eq_false (by omega)
            have HEV : Hid (excR s k (innR s k (outR s k) 10) = innR s k (outR s k) 10) := Lib.hid (if_neg (fun g => hk11 g.1))
            go_wp2_with fail
            go_quiet (fail)
            go_wp2_with fail
            exact ⟨⟨k + 1, by omega, by go_num, by rw [HE.out, HEV.out]; exact O2.below below_draws, bdn B2⟩, by simp [intOf]; omega⟩
    · obtain rfl : k = 12 := by omega
      go_wp2_with fail
      go_ret2
      exact ⟨_, rfl, O.strs, B⟩

set_option maxHeartbeats 400000 in
theorem rrepairs_bad (s : ByteArray) (w : World) (h : dgs s 12 = false) :
    Calls Try.prog 27 #[.string s] w (RepPost w.heap.size ([], 11) w) := by
  go_enter Try.func27, Try.ntmps27
  go_wp2_with fail
  refine (digits_any _ _ _ (by omega) (by omega)).mono ?_
  rintro e w' ⟨rfl, rfl⟩
  go_wp2_with fail
  go_ret2
  exact ⟨_, rfl, World.ownsRow_nil _ _ _ _, Below.refl _ _⟩

/-! The two lists are one. -/
theorem sless_eq (a b : ByteArray) : sless a b = decide (a.data.toList < b.data.toList) := by
  unfold sless; rw [bytesLess_eq, ByteArray.toList_eq, ByteArray.toList_eq]

/-- Ascending, each once. -/
def Asc (l : List ByteArray) : Prop := l.Pairwise fun a b => a.data.toList < b.data.toList
theorem mem_insS {l : List ByteArray} {s x : ByteArray} : x ∈ insS l s ↔ x = s ∨ x ∈ l := by
  induction l with
  | nil => simp [insS]
  | cons y r ih =>
    rw [insS]; split
    · rw [List.mem_cons, ih, List.mem_cons]; constructor
      · rintro (h | h | h) <;> simp [h]
      · rintro (h | h | h) <;> simp [h]
    · split
      · rename_i h; subst h; simp
      · simp
theorem asc_insS {l : List ByteArray} {s : ByteArray} (h : Asc l) : Asc (insS l s) := by
  induction l with
  | nil => exact List.pairwise_singleton _ _
  | cons y r ih =>
    have h1 := List.pairwise_cons.1 h
    rw [insS]; split
    · rename_i c
      rw [sless_eq, decide_eq_true_eq] at c
      refine List.pairwise_cons.2 ⟨fun x hx => ?_, ih h1.2⟩
      rcases mem_insS.1 hx with rfl | hx
      · exact c
      · exact h1.1 x hx
    · split
      · exact h
      · rename_i c d
        rw [sless_eq, decide_eq_true_eq] at c
        have lt : s.data.toList < y.data.toList := by
          by_cases g : s.data.toList < y.data.toList
          · exact g
          · exact absurd (bytes_ext (List.le_antisymm (List.not_lt.1 g) (List.not_lt.1 c))) d
        refine List.pairwise_cons.2 ⟨fun x hx => ?_, h⟩
        rcases List.mem_cons.1 hx with rfl | hx
        · exact lt
        · exact List.lt_trans lt (h1.1 x hx)

end Go.Proofs.Ytmhjdpmibfkhnaa
