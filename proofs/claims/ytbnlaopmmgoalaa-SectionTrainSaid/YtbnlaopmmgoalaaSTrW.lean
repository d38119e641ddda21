/-
  Stage 5: the walk of SectionTrain.
-/
import Derived.Test.YtbnlaopmmgoalaaSTrP
set_option linter.unusedSimpArgs false
set_option linter.unusedVariables false
namespace Go.Proofs.Ytbnlaopmmgoalaa
open Go.RowKit

/-- Of the blocks below G, none has turned but block m. -/
structure Mv2 (m G : Nat) (w w' : World) : Prop where
  os : w'.os = w.os
  tape : w'.tape = w.tape
  output : w'.output = w.output
  size : w.heap.size ≤ w'.heap.size
  block : ∀ k, k < G → k ≠ m → w'.heap[k]? = w.heap[k]?
theorem Mv2.refl (m G : Nat) (w : World) : Mv2 m G w w := ⟨rfl, rfl, rfl, Nat.le_refl _, fun _ _ _ => rfl⟩
theorem Mv2.drewN {m G n : Nat} {a b : World} (h : Mv2 m G a b) : Mv2 m G a (b.drewN n) := ⟨h.os, h.tape, h.output, h.size, h.block⟩
theorem Mv2.below {m G : Nat} {a b c : World} (h : Mv2 m G a b) (k : Below b.heap.size b c) (hG : G ≤ b.heap.size) : Mv2 m G a c :=
  ⟨k.os.trans h.os, k.tape.trans h.tape, k.output.trans h.output, Nat.le_trans h.size k.size, fun i hi hm => (k.block i (by omega)).trans (h.block i hi hm)⟩
theorem Mv2.moves {m G : Nat} {a b c : World} (h : Mv2 m G a b) (k : Moves m b c) (hG : G ≤ b.heap.size) : Mv2 m G a c :=
  ⟨k.os.trans h.os, k.tape.trans h.tape, k.output.trans h.output, Nat.le_trans h.size k.size, fun i hi hm => (k.block i (by omega) hm).trans (h.block i hi hm)⟩
theorem Mv2.grown {m G : Nat} {a b c : World} {row : Option Nat} (h : Mv2 m G a b) (k : b.grownBy c row) (hG : G ≤ b.heap.size) (hr : ∀ j, row = some j → G ≤ j) : Mv2 m G a c :=
  ⟨k.os.trans h.os, k.tape.trans h.tape, k.output.trans h.output, Nat.le_trans h.size k.size, fun i hi hm => (k.block i (by omega) (fun e => by have := hr i e.symm; omega)).trans (h.block i hi hm)⟩
theorem Mv2.setCell {m G : Nat} {a b : World} (h : Mv2 m G a b) {p : Addr} (hp : G ≤ p.block) (u : Value) : Mv2 m G a (b.setCell p u) :=
  ⟨h.os, h.tape, h.output, by rw [World.size_setCell]; exact h.size, fun i hi hm => (heap_setCell_other b p i u (by omega)).trans (h.block i hi hm)⟩
theorem Mv2.to_below {m G : Nat} {a b c : World} (h : Mv2 m G b c) (k : Below m a b) (hm : m ≤ G) : Below m a c :=
  k.trans ⟨h.os, h.tape, h.output, h.size, fun i hi => h.block i (by omega) (by omega)⟩
theorem TOwn.mv2 {T : TypeId} {m G : Nat} {a b : World} {base : Nat} {v : Value} {l : List Pul} (h : TOwn T a base v l) (k : Mv2 m G a b) (hb : m < base) (hG : a.heap.size ≤ G) : TOwn T b base v l := by
  refine ⟨h.1, ?_⟩
  rcases h.2 with g | ⟨g, cap, cur, e1, e2, e3, e4⟩
  · exact Or.inl g
  · exact Or.inr ⟨g, cap, cur, e1, e2, (k.block g (by have := (Array.getElem?_eq_some_iff.1 e3).1; omega) (by omega)).trans e3, e4⟩
theorem Blk.moves {m : Nat} {w w' : World} {b : Nat} {T : TypeId} {zs : List Int} (h : Blk w b T zs) (k : Moves m w w') (hm : b ≠ m) : Blk w' b T zs := (k.block b h.lt hm).trans h
theorem Blk.grown {w w' : World} {b : Nat} {T : TypeId} {zs : List Int} {row : Option Nat} (h : Blk w b T zs) (k : w.grownBy w' row) (hm : some b ≠ row) : Blk w' b T zs := (k.block b h.lt hm).trans h

/-- The memory of the walk: the chain from A on, the axles' places in block G, the pulses ov, the maker in block m. ws: where it was when the chain had been made. -/
structure TrSt (m G n : Nat) (vc : Value) (ws wr : World) (ov : Value) (zs : List Int) (p : List Pul) (N : Nat) : Prop where
  mv : Mv2 m G ws wr
  at_ : Blk wr G 3 zs
  pl : TOwn 40 wr (G + 1) ov p
  maker : IsMk wr m N
  lt : m < G
  ch : TOwn 24 ws (m + 1) vc (chn n)
  sz : ws.heap.size ≤ G
theorem TrSt.gt {m G n N : Nat} {vc ov : Value} {ws wr : World} {zs : List Int} {p : List Pul} (h : TrSt m G n vc ws wr ov zs p N) : G < wr.heap.size := h.at_.lt
theorem TrSt.chain {m G n N : Nat} {vc ov : Value} {ws wr : World} {zs : List Int} {p : List Pul} (h : TrSt m G n vc ws wr ov zs p N) : TOwn 24 wr (m + 1) vc (chn n) := h.ch.mv2 h.mv (Nat.lt_succ_self m) h.sz
theorem TrSt.drewN {m G n N k : Nat} {vc ov : Value} {ws wr : World} {zs : List Int} {p : List Pul} (h : TrSt m G n vc ws wr ov zs p N) : TrSt m G n vc ws (wr.drewN k) ov zs p N :=
  ⟨h.mv.drewN, h.at_.drewN, h.pl.drewN k, h.maker.drewN, h.lt, h.ch, h.sz⟩
theorem TrSt.below {m G n N : Nat} {vc ov : Value} {ws wr w' : World} {zs : List Int} {p : List Pul} (h : TrSt m G n vc ws wr ov zs p N) (k : Below wr.heap.size wr w') : TrSt m G n vc ws w' ov zs p N :=
  ⟨h.mv.below k (Nat.le_of_lt h.gt), h.at_.below k, h.pl.below k, h.maker.stays' k, h.lt, h.ch, h.sz⟩
theorem TrSt.moves {m G n N M : Nat} {vc ov : Value} {ws wr w' : World} {zs : List Int} {p : List Pul} (h : TrSt m G n vc ws wr ov zs p N) (k : Moves m wr w') (hk : IsMk w' m M) : TrSt m G n vc ws w' ov zs p M :=
  ⟨h.mv.moves k (Nat.le_of_lt h.gt), h.at_.moves k (by have := h.lt; omega), h.pl.moves k (by have := h.lt; omega), hk, h.lt, h.ch, h.sz⟩
theorem TrSt.more {m G n N M : Nat} {vc ov : Value} {ws wr : World} {zs : List Int} {p : List Pul} (h : TrSt m G n vc ws wr ov zs p N) (k : N ≤ M) : TrSt m G n vc ws wr ov zs p M :=
  ⟨h.mv, h.at_, h.pl, h.maker.more k, h.lt, h.ch, h.sz⟩
/-- A further pulse. -/
theorem TrSt.add {m G n N : Nat} {vc ov v : Value} {ws wr w' : World} {zs : List Int} {p q : List Pul} {row : Option Nat} (h : TrSt m G n vc ws wr ov zs p N) (k : wr.grownBy w' row) (hr : ∀ j, row = some j → G + 1 ≤ j) (hp : TOwn 40 w' (G + 1) v q) : TrSt m G n vc ws w' v zs q N :=
  ⟨h.mv.grown k (Nat.le_of_lt h.gt) (fun j hj => by have := hr j hj; omega), h.at_.grown k (fun e => by have := hr G e.symm; omega), hp, h.maker.grown k (fun j hj => by have := hr j hj; have := h.lt; omega), h.lt, h.ch, h.sz⟩
/-- An axle goes on. -/
theorem TrSt.go {m G n N : Nat} {vc ov : Value} {ws wr : World} {zs : List Int} {p : List Pul} (h : TrSt m G n vc ws wr ov zs p N) (i : Nat) (x : Int) : TrSt m G n vc ws (wr.setCell ⟨G, i, none⟩ (.int .i64 x)) ov (zs.set i x) p N :=
  ⟨h.mv.setCell (p := ⟨G, i, none⟩) (Nat.le_refl _) _, h.at_.set i x, h.pl.setOther (p := ⟨G, i, none⟩) (by simp) _, h.maker.setCell (p := ⟨G, i, none⟩) (by have := h.lt; simpa using this) _, h.lt, h.ch, h.sz⟩
theorem make_ints (w : World) (X : Nat) (hX : X ≤ 6) : (Instr.makeSlice 27 (.int .i64 (X : Int)) (.int .i64 (X : Int))).run Try.prog w = .ok (.slice (some ⟨w.heap.size, 0, none⟩) X X) (w.alloc (.cells ((List.replicate X 0).map (Value.int .i64)).toArray 3)) := by
  obtain ⟨i0, hi, hz0, hz1, hz2⟩ := info_parts infoInt
  have h := run_make (P := Try.prog) w 27 3 i0 (.int .i64 0) Try.underlying27 hi hz0 .i64 .i64 (X : Int) (X : Int) (by omega) (Int.le_refl _) (by rw [hz2]; omega) (by omega)
  rw [hz1, Int.toNat_natCast] at h
  have e : madeCells (Value.int .i64 0).cells (X * 1) = ((List.replicate X 0).map (Value.int .i64)).toArray := by
    rcases (by omega : X = 0 ∨ X = 1 ∨ X = 2 ∨ X = 3 ∨ X = 4 ∨ X = 5 ∨ X = 6) with rfl | rfl | rfl | rfl | rfl | rfl | rfl <;> kernel_rfl
  rw [e] at h
  exact h
theorem getD_rep (X i : Nat) : (List.replicate X (0 : Int)).getD i 0 = 0 := by
  rw [List.getD_eq_getElem?_getD, List.getElem?_replicate]; split <;> rfl
theorem tot_rep (X : Nat) : tot (List.replicate X 0) = 0 := by
  induction X with
  | zero => rfl
  | succ X ih => rw [List.replicate_succ]; show 0 + tot _ = 0; rw [ih]; rfl
theorem cA_rep (X : Nat) (s : Nat) : cA (s : Int) (List.replicate X 0) = 0 := by
  induction X with
  | zero => rfl
  | succ X ih => rw [List.replicate_succ]; show (if (0 : Int) = (s : Int) + 1 then 1 else 0) + cA _ _ = 0; rw [ih, if_neg (by omega)]; rfl
theorem trn_rep (n X : Nat) : Trn n (List.replicate X 0) := ⟨fun i _ => by rw [getD_rep]; omega, fun i _ => by rw [getD_rep, getD_rep]; omega⟩
theorem cts_rep (n X : Nat) : Cts n [] (List.replicate X 0) := fun s _ => ⟨(cA_rep X s).symm, rfl⟩

theorem tr_meas {i i' j X : Nat} {x : Int} (h1 : x = (i' : Int)) (hij : i ≠ j) (hi : i < X) (hj : j < X) (h3 : if i + 1 = X then i' = 0 else i' = i + 1) :
    (if (intOf (.int .i64 x)).toNat ≤ j then j - (intOf (.int .i64 x)).toNat else X + j - (intOf (.int .i64 x)).toNat) < (if (intOf (.int .i64 (i : Int))).toNat ≤ j then j - (intOf (.int .i64 (i : Int))).toNat else X + j - (intOf (.int .i64 (i : Int))).toNat) := by
  subst h1
  have e : ∀ n : Nat, (intOf (.int .i64 (n : Int))).toNat = n := fun n => rfl
  rw [e, e]
  by_cases g : i + 1 = X
  · rw [if_pos g] at h3
    repeat' split
    all_goals omega
  · rw [if_neg g] at h3
    repeat' split
    all_goals omega
set_option maxRecDepth 100000 in
set_option maxHeartbeats 1600000 in
theorem tr_walk (t : Option Addr) (len cap : Nat) (zs0 : List Int) (x0 : Int) (w : World) (h : IsRow .i64 w t len cap zs0) (ha : -9223372036854775808 ≤ x0 ∧ x0 ≤ 9223372036854775807) :
    Calls Try.prog 7 #[.slice t len cap, .int .i64 x0] w fun e w' => e = .returned (.bool true) ∧ Below w.heap.size w w' := by
  obtain ⟨i0, hi, hz0, hz1, hz2⟩ := info_parts infoPul
  have K0 := Lib.hid (mk_new (T := 58) h)
  have tb := tmod_bd x0 6 (by decide)
  clear h
  go_enter Try.func7, Try.ntmps7
  go_wp2_with fail
  refine (new_any t len cap w).mono ?_
  rintro e w1 ⟨rfl, e1⟩
  have HB1 := Lib.hid (show Below w.heap.size w w1 by rw [e1]; exact (Below.refl _ _).alloc (Nat.le_refl _) _)
  have K1 := Lib.hid (show IsMk w1 w.heap.size 0 by rw [e1]; exact K0.out)
  clear e1 K0
  go_wp2_with fail
  refine (from_any w.heap.size 0 1 5 w1 K1.out (by decide) (by decide) (by decide) (by decide)).mono ?_
  rintro e w2 ⟨nv, rfl, n1, n2, K2, M2⟩
  have HB2 := Lib.hid (M2.below HB1.out (Nat.le_refl _) HB1.out.size)
  have HK2 := Lib.hid K2
  obtain ⟨n, rfl⟩ := Int.eq_ofNat_of_zero_le (show 0 ≤ nv by omega)
  clear K2 M2
  go_wp2_with fail
  refine (mchain_any _ n w2 (by omega)).mono ?_
  rintro e w3 ⟨v3, rfl, O3, B3⟩
  have HB3 := Lib.hid (HB2.out.trans (B3.mono HB2.out.size))
  have HK3 := Lib.hid (HK2.out.stays' B3)
  have HO3 := Lib.hid (show TOwn 24 w3 (w.heap.size + 1) v3 (chn n) from O3.base HK2.out.lt)
  obtain ⟨A, c, rfl, RC, _⟩ := HO3.out.full
  have hcl := chn_len n
  obtain ⟨L, hL⟩ : ∃ L, L = (chn n).length := ⟨_, rfl⟩
  have HL := Lib.hid hL
  rw [← hL] at hcl HO3 ⊢
  have hll : L ≤ 10 := by omega
  clear O3 B3 RC hcl hL
  go_upto_region 6 with fail
  obtain ⟨X, hX⟩ : ∃ X : Nat, 1 + x0.tmod 6 % 6 = (X : Int) := ⟨(1 + x0.tmod 6 % 6).toNat, by omega⟩
  have hX1 : 1 ≤ X ∧ X ≤ 6 := by omega
  have hmk := make_ints w3 X hX1.2
  obtain ⟨G, hG⟩ : ∃ G, G = w3.heap.size := ⟨_, rfl⟩
  have hat := Blk.new w3 3 (List.replicate X 0)
  have hmv : Mv2 w.heap.size G w3 (w3.alloc (.cells ((List.replicate X 0).map (Value.int .i64)).toArray 3)) := (Mv2.refl _ _ _).below ((Below.refl _ _).alloc (Nat.le_refl _) _) (by omega)
  have hmk4 := HK3.out.alloc (.cells ((List.replicate X 0).map (Value.int .i64)).toArray 3)
  rw [← hG] at hat hmk
  generalize w3.alloc (.cells ((List.replicate X 0).map (Value.int .i64)).toArray 3) = w4 at hat hmv hmk4 hmk
  have S4 := Lib.hid (show TrSt w.heap.size G n (.slice A L c) w3 w4 (.slice none 0 0) (List.replicate X 0) [] 1 from ⟨hmv, hat, TOwn.nil, hmk4, by rw [hG]; exact HK3.out.lt, HO3.out, by omega⟩)
  rw [hX]
  generalize x0.tmod 6 = y1
  generalize (y1 + 6) % 6 = y2
  generalize y1 + 6 = y3
  obtain ⟨Y, hY⟩ : ∃ Y : Nat, (X : Int) * ((n : Int) + 1) = (Y : Int) := ⟨X * (n + 1), by push_cast; rfl⟩
  have hY1 : Y ≤ 36 := by
    have : Y = X * (n + 1) := by
      have e : ((X * (n + 1) : Nat) : Int) = (Y : Int) := by push_cast; exact hY
      exact (Int.ofNat_inj.1 e).symm
    rw [this]
    exact Nat.mul_le_mul hX1.2 (show n + 1 ≤ 6 by omega)
  have HBW := Lib.hid (show Below w.heap.size w w3 from HB3.out)
  clear hG hat hmv hmk4 HK3 HO3 HB2 HB1 HK2 K1 tb hX ha HB3
  go_wp2_with fail
  go_loopw [11, 8, 10] (fun sv ov tv wr => ∃ (k N : Nat) (zs : List Int) (p : List Pul) (T : Int), k ≤ Y ∧ sv = .int .i64 (k : Int) ∧ tv = .int .i64 T ∧ (0 ≤ T ∧ T ≤ 300 * (k : Int)) ∧ N ≤ 1 + 2 * k ∧ Hid (TrSt w.heap.size G n (.slice A L c) w3 wr ov zs p N) ∧ Hid (Trn n zs ∧ zs.length = X ∧ tot zs = k) ∧ Hid (p.length = k ∧ run 0 p ∧ ∀ q ∈ p, q.2.1 ≤ T) ∧ Hid (Cts n p zs)) (fun sv _ _ _ => Y - (intOf sv).toNat)
  case atStart => exact ⟨0, 1, List.replicate X 0, [], 0, by omega, rfl, rfl, ⟨by omega, by omega⟩, by omega, S4, Lib.hid ⟨trn_rep n X, by simp, tot_rep X⟩, Lib.hid ⟨rfl, trivial, fun q hq => by cases hq⟩, Lib.hid (cts_rep n X)⟩
  case round =>
    clear S4
    obtain ⟨k, N, zs, p, T, hk, rfl, rfl, hT, hN, S, HTR, HP, HCT⟩ := hrel
    by_cases hkY : k < Y
    · have hdk : decide ((k : Int) < (Y : Int)) = true := decide_eq_true (by omega)
      have HKY := Lib.hid hkY
      obtain ⟨j, hj1, hj2, hj3⟩ := HTR.out.1.free (by rw [HTR.out.2.2, HTR.out.2.1, hY]; omega)
      rw [HTR.out.2.1] at hj1
      have HJ := Lib.hid (And.intro hj2 hj3)
      clear hj2 hj3 hkY
      go_wp2_with fail
      refine (next_any w.heap.size N (X : Int) wr S.out.maker (by omega) (by omega) (by omega)).mono ?_
      rintro e w5 ⟨iv, rfl, i1, i2, K5, M5⟩
      have S5 := Lib.hid (S.out.moves M5 K5)
      obtain ⟨i5, rfl⟩ := Int.eq_ofNat_of_zero_le i1
      have hi5 : i5 < X := by omega
      clear K5 M5 S i1 i2
      go_wp2_with fail
      go_loopw [12] (fun iv wx => ∃ i : Nat, i < X ∧ iv = .int .i64 (i : Int) ∧ Hid (TrSt w.heap.size G n (.slice A L c) w3 wx u8 zs p (N + 1))) (fun iv _ => if (intOf iv).toNat ≤ j then j - (intOf iv).toNat else X + j - (intOf iv).toNat)
      case atStart => exact ⟨i5, hi5, rfl, S5⟩
      case round =>
        clear S5 hi5
        obtain ⟨i, hiX, rfl, S⟩ := hrel
        have hX0 : ((X : Int) == 0) = false := beq_eq_false_iff_ne.2 (by omega)
        have hcell := S.out.at_.cell i (by rw [HTR.out.2.1]; exact hiX)
        have hzi := HTR.out.1.1 i (by rw [HTR.out.2.1]; exact hiX)
        obtain ⟨z, hz⟩ : ∃ z, z = zs.getD i 0 := ⟨_, rfl⟩
        rw [← hz] at hcell hzi
        have HZ := Lib.hid hz
        clear hz
        have hmod : ∃ i' : Nat, i' < X ∧ ((i : Int) + 1) % (X : Int) = (i' : Int) ∧ (if i + 1 = X then i' = 0 else i' = i + 1) := by
          by_cases e : i + 1 = X
          · refine ⟨0, by omega, ?_, by rw [if_pos e]⟩
            rw [show (i : Int) + 1 = (X : Int) by omega, Int.emod_self]; rfl
          · refine ⟨i + 1, by omega, ?_, by rw [if_neg e]⟩
            rw [Int.emod_eq_of_lt (by omega) (by omega)]; omega
        obtain ⟨i', hi'1, hi'2, hi'3⟩ := hmod
        by_cases hzn : (n : Int) < z
        · have hij : i ≠ j := fun e => by subst e; have := HJ.out.1; rw [← HZ.out] at this; omega
          go_wp2_with fail
          go_quiet (fail)
          go_wp2_with fail
          go_roundw
          case rel => exact ⟨i', hi'1, by rw [hi'2], Lib.hid S.out.drewN⟩
          case measure => exact tr_meas hi'2 hij hiX hj1 hi'3
        · have hdz : decide ((n : Int) < z) = false := decide_eq_false hzn
          by_cases hi0 : i = 0
          · subst hi0
            have HST := Lib.hid (show ∀ m, 0 = m + 1 → zs.getD 0 0 < zs.getD m 0 from fun m hm => by omega)
            rw [show ((0 : Nat) : Int) = 0 from rfl]
            clear hi'1 hi'2 hi'3
            go_wp2_with fail
            go_quiet (fail)
            obtain ⟨wq, hwq⟩ : ∃ x, x = wr.drewN nq := ⟨_, rfl⟩
            have S := Lib.hid (show TrSt w.heap.size G n (.slice A L c) w3 wq u8 zs p (N + 1) by rw [hwq]; exact S.out.drewN)
            rw [← hwq]
            clear hwq
            have HZN := Lib.hid (show zs.getD 0 0 ≤ n by rw [← HZ.out]; omega)
            clear hcell hzi hzn hX0
            have hz := HTR.out.1.1 0 (by rw [HTR.out.2.1]; exact hiX)
            obtain ⟨z0, hz0'⟩ : ∃ z, z = zs.getD 0 0 := ⟨_, rfl⟩
            have HZ0 := Lib.hid hz0'
            rw [← hz0'] at hz
            have hcell := S.out.at_.cell 0 (by rw [HTR.out.2.1]; exact hiX)
            rw [← hz0'] at hcell
            have PL := S.out.pl.alloc (.cells #[.int .i64 z0, .int .i64 T, .int .i64 1] 40)
            unfold TOwn Flat at PL
            rw [HP.out.1] at PL
            have HPL := Lib.hid PL
            have HKK := Lib.hid (show k ≤ 40 by omega)
            have HGS := Lib.hid S.out.gt
            clear PL hz0'
            go_wp2_with (first | (at_builtin; refine wpList_append_lies _ rfl (.tmp 72) (.tmp 79) 32 rfl (G + 1) 40 i0 (.agg #[.int .i64 0, .int .i64 0, .int .i64 0]) 3 24 Try.underlying32 hi hz0 hz1 hz2 rfl (by decide) _ k ((flatP p).map (Value.int .i64)) rfl HPL.out ⟨wq.heap.size, 0, none⟩ 1 1 ((flatP [(z0, T, 1)]).map (Value.int .i64)) rfl rfl (news_int (W := wq) (ys := flatP [(z0, T, 1)])) (one_cells (ys := flatP [(z0, T, 1)])) (by decide) (by unfold maxLen; have := HKK.out; omega) (by have := HKK.out; omega) (by have := HGS.out; simp only [World.size_alloc]; omega) _ rfl ?_; intro g capp w7 hown hgr hgb hlt2; have AP := Lib.hid (TOwn.app (l := p) (m := [(z0, T, 1)]) hown HP.out.1.symm rfl); have S7 := Lib.hid ((S.out.below ((Below.refl _ _).alloc (Nat.le_refl _) (.cells #[.int .i64 z0, .int .i64 T, .int .i64 1] 40))).add hgr (fun j hj => (S.out.pl.block hj).1) AP.out); have hc7 := S7.out.at_.cell 0 (by rw [HTR.out.2.1]; exact hiX); have hf7 := S7.out.at_.frozen 0; rw [← HZ0.out] at hc7; clear hcell hown hgr hgb hlt2))
            have S8 := Lib.hid (S7.out.go 0 (z0 + 1))
            have HS8 := Lib.hid (S7.out.maker)
            generalize w7.setCell ⟨G, 0, none⟩ (.int .i64 (z0 + 1)) = w8 at S8 ⊢
            clear hc7 hf7 AP S7 HS8 S HPL
            refine (next_any w.heap.size (N + 1) 300 w8 S8.out.maker (by omega) (by omega) (by omega)).mono ?_
            rintro e w9 ⟨dt, rfl, dt1, dt2, K9, M9⟩
            have S9 := Lib.hid (S8.out.moves M9 K9)
            clear K9 M9 S8
            have HTR' := Lib.hid (show Trn n (zs.set 0 (z0 + 1)) ∧ (zs.set 0 (z0 + 1)).length = X ∧ tot (zs.set 0 (z0 + 1)) = ((k + 1 : Nat) : Int) from by
              have hl : 0 < zs.length := by rw [HTR.out.2.1]; exact hiX
              rw [HZ0.out]
              exact ⟨HTR.out.1.step hl HZN.out HST.out, by rw [List.length_set]; exact HTR.out.2.1, by rw [tot_set hl, HTR.out.2.2]; rfl⟩)
            have hlt' : 0 < zs.length := by rw [HTR.out.2.1]; exact hiX
            have HCT' := Lib.hid (show Cts n (p ++ [(z0, T, 1)]) (zs.set 0 (z0 + 1)) from by rw [HZ0.out]; exact HCT.out.step hlt' hT.1)
            have hz31 : z0 ≤ 31 := by have := HZN.out; rw [← HZ0.out] at this; omega
            have HP' := Lib.hid (show (p ++ [(z0, T, 1)]).length = k + 1 ∧ run 0 (p ++ [(z0, T, 1)]) ∧ ∀ q ∈ p ++ [(z0, T, 1)], q.2.1 ≤ T + dt from by
              refine ⟨by rw [List.length_append, HP.out.1]; rfl, run_snoc HP.out.2.1 ⟨⟨hz.1, hz31⟩, ⟨hT.1, by show T ≤ 1000000000; omega⟩, Or.inl rfl⟩ hT.1 (fun q hq => HP.out.2.2 q hq), fun q hq => ?_⟩
              rcases List.mem_append.1 hq with hq | hq
              · have := HP.out.2.2 q hq; omega
              · rw [List.mem_singleton] at hq; subst hq; show T ≤ T + dt; omega)
            have HCK := Lib.hid (show ∀ s : Nat, s < n → chkR (chn n) (p ++ [(z0, T, 1)]) s = 0 from fun s hs => chk_ok (bor_chn n (by omega)) (by rw [← HL.out]; omega) HP'.out.2.1 (by rw [HP'.out.1]; omega) (by omega) (by omega))
            generalize p ++ [(z0, T, 1)] = p' at *
            generalize zs.set 0 (z0 + 1) = zs' at *
            have hk37 : k + 1 ≤ 37 := by omega
            have hT' : 0 ≤ T + dt ∧ T + dt ≤ 300 * ((k : Int) + 1) := by omega
            have HTB := Lib.hid hT'
            have HNB := Lib.hid hN
            clear hlt' hz31 HZ0 HZN HST HTR HCT HP hz hT hN HJ hj1 hiX
            go_wp2_with fail
            go_loopw [13] (fun sv wr => ∃ s : Nat, s ≤ n ∧ sv = .int .i64 (s : Int) ∧ Hid (TrSt w.heap.size G n (.slice A L c) w3 wr (.slice (some ⟨g, 0, none⟩) (k + 1) capp) zs' p' (N + 1 + 1))) (fun sv _ => n - (intOf sv).toNat)
            case atStart => exact ⟨0, by omega, rfl, S9⟩
            case round =>
              clear S9
              obtain ⟨s, hs, rfl, S⟩ := hrel
              by_cases hsn : s < n
              · have hds : decide ((s : Int) < (n : Int)) = true := decide_eq_true (by omega)
                have HSN := Lib.hid hsn
                obtain ⟨wo, hwo⟩ : ∃ x, x = wr := ⟨_, rfl⟩
                subst hwo
                go_wp2_with fail
                go_loopw [98, 14] (fun qv cv wx => ∃ q : Nat, q ≤ X ∧ qv = .int .i64 (q : Int) ∧ ∃ y : Int, cv = .int .i64 y ∧ Hid (y = cA s (zs'.take q)) ∧ wx = wo) (fun qv _ _ => X - (intOf qv).toNat)
                case atStart => exact ⟨0, by omega, rfl, 0, rfl, Lib.hid rfl, rfl⟩
                case round =>
                  obtain ⟨q, hq, rfl, y, rfl, HC, rfl⟩ := hrel
                  by_cases hqX : q < X
                  · have hzl : q < zs'.length := by rw [HTR'.out.2.1]; exact hqX
                    have hcq := S.out.at_.cell q hzl
                    have HCA := Lib.hid (cA_take hzl (s : Int))
                    have hcb : 0 ≤ y ∧ y ≤ q := by
                      have := cA_nn (s : Int) (zs'.take q)
                      rw [List.length_take] at this
                      rw [HC.out]; omega
                    obtain ⟨x, hx⟩ : ∃ x, x = zs'.getD q 0 := ⟨_, rfl⟩
                    rw [← hx] at hcq
                    have HX := Lib.hid hx
                    clear hx hzl
                    by_cases hxs : x = (s : Int) + 1
                    · have HE := Lib.hid (show cA s (zs'.take (q + 1)) = cA s (zs'.take q) + 1 by rw [HCA.out, ← HX.out, if_pos hxs])
                      subst hxs
                      go_wp2_with fail
                      go_roundw
                      case rel => exact ⟨q + 1, by omega, by go_num, y + 1, rfl, Lib.hid (by rw [HE.out, HC.out]), trivial⟩
                      case measure => simp [intOf]; omega
                    · have hxs' : (x == (s : Int) + 1) = false := beq_eq_false_iff_ne.2 hxs
                      have HE := Lib.hid (show cA s (zs'.take (q + 1)) = cA s (zs'.take q) by rw [HCA.out, ← HX.out, if_neg hxs, Int.add_zero])
                      clear hxs
                      go_wp2_with fail
                      go_roundw
                      case rel => exact ⟨q + 1, by omega, by go_num, y, rfl, Lib.hid (by rw [HE.out, HC.out]), trivial⟩
                      case measure => simp [intOf]; omega
                  · obtain rfl : q = X := by omega
                    have hc := HC.out
                    rw [List.take_of_length_le (by rw [HTR'.out.2.1]; exact Nat.le_refl _)] at hc
                    obtain ⟨e1, e2⟩ := state_cts HCT'.out HSN.out (HCK.out s HSN.out)
                    rw [← hc] at e1 e2
                    have ca := fun w h1 h2 => pcount_any (chn n) p' A (some ⟨g, 0, none⟩) c capp s (-1) w h1 h2
                    have cb := fun w h1 h2 => pstate_any (chn n) p' A (some ⟨g, 0, none⟩) c capp s (-1) w h1 h2
                    rw [e1, ← HL.out, HP'.out.1] at ca
                    rw [e2, ← HL.out, HP'.out.1] at cb
                    have HCA := Lib.hid ca
                    have HCB := Lib.hid cb
                    clear ca cb e1 e2 hc hqX hq HC
                    go_wp2_with fail
                    refine (HCA.out wr S.out.chain.prow S.out.pl.prow).mono ?_
                    rintro e w10 ⟨rfl, B10⟩
                    have S10 := Lib.hid (S.out.below B10)
                    clear B10 HCA
                    go_wp2_with fail
                    refine (HCB.out w10 S10.out.chain.prow S10.out.pl.prow).mono ?_
                    rintro e w11 ⟨rfl, B11⟩
                    have S11 := Lib.hid (S10.out.below B11)
                    clear B11 HCB S10 S
                    by_cases hc0 : y = 0
                    · rw [if_pos hc0]
                      subst hc0
                      go_wp2_with fail
                      go_roundw
                      case rel => exact ⟨s + 1, by have := HSN.out; omega, by go_num, S11⟩
                      case measure => have := HSN.out; simp [intOf]; omega
                    · rw [if_neg hc0]
                      have hc0' : (y == 0) = false := beq_eq_false_iff_ne.2 hc0
                      clear hc0
                      go_wp2_with fail
                      go_roundw
                      case rel => exact ⟨s + 1, by have := HSN.out; omega, by go_num, S11⟩
                      case measure => have := HSN.out; simp [intOf]; omega
              · obtain rfl : s = n := by omega
                clear hsn hs
                go_wp2_with fail
                go_roundw
                case rel => exact ⟨k + 1, N + 1 + 1, zs', p', T + dt, by have := HKY.out; omega, by go_num, rfl, by have := HTB.out; omega, by have := HNB.out; omega, S, HTR', HP', HCT'⟩
                case measure => have := HKY.out; simp [intOf]; omega
          · obtain ⟨m, hm⟩ : ∃ m, i = m + 1 := ⟨i - 1, by omega⟩
            have hi00 : decide (0 < i) = true := decide_eq_true (by omega)
            have him : (i : Int) - 1 = (m : Int) := by omega
            have HMM := Lib.hid hm
            have hmX : m < X := by omega
            clear hm
            have hcm := S.out.at_.cell m (by rw [HTR.out.2.1]; exact hmX)
            obtain ⟨zm, hzm⟩ : ∃ z, z = zs.getD m 0 := ⟨_, rfl⟩
            rw [← hzm] at hcm
            have HZM := Lib.hid hzm
            clear hzm
            by_cases hle : zm ≤ z
            · have hij : i ≠ j := fun e => by have := HJ.out.2 m (e.symm.trans HMM.out); rw [← e, ← HZ.out, ← HZM.out] at this; omega
              go_wp2_with fail
              go_quiet (fail)
              go_wp2_with fail
              go_roundw
              case rel => exact ⟨i', hi'1, by rw [hi'2], Lib.hid S.out.drewN⟩
              case measure => exact tr_meas hi'2 hij hiX hj1 hi'3
            · have hdl : decide (zm ≤ z) = false := decide_eq_false hle
              clear hi'1 hi'2 hi'3
              have HST := Lib.hid (show ∀ m', i = m' + 1 → zs.getD i 0 < zs.getD m' 0 from fun m' hm' => by
                obtain rfl : m = m' := by have := HMM.out; omega
                rw [← HZ.out, ← HZM.out]; omega)
              go_wp2_with fail
              go_quiet (fail)
              obtain ⟨wq, hwq⟩ : ∃ x, x = wr.drewN nq := ⟨_, rfl⟩
              have S := Lib.hid (show TrSt w.heap.size G n (.slice A L c) w3 wq u8 zs p (N + 1) by rw [hwq]; exact S.out.drewN)
              rw [← hwq]
              clear hwq
              have HZN := Lib.hid (show zs.getD i 0 ≤ n by rw [← HZ.out]; omega)
              clear hcell hzi hzn hX0 hcm hle
              have hz := HTR.out.1.1 i (by rw [HTR.out.2.1]; exact hiX)
              obtain ⟨z0, hz0'⟩ : ∃ z, z = zs.getD i 0 := ⟨_, rfl⟩
              have HZ0 := Lib.hid hz0'
              rw [← hz0'] at hz
              have hcell := S.out.at_.cell i (by rw [HTR.out.2.1]; exact hiX)
              rw [← hz0'] at hcell
              have PL := S.out.pl.alloc (.cells #[.int .i64 z0, .int .i64 T, .int .i64 1] 40)
              unfold TOwn Flat at PL
              rw [HP.out.1] at PL
              have HPL := Lib.hid PL
              have HKK := Lib.hid (show k ≤ 40 by omega)
              have HGS := Lib.hid S.out.gt
              clear PL hz0'
              go_wp2_with (first | (at_builtin; refine wpList_append_lies _ rfl (.tmp 72) (.tmp 79) 32 rfl (G + 1) 40 i0 (.agg #[.int .i64 0, .int .i64 0, .int .i64 0]) 3 24 Try.underlying32 hi hz0 hz1 hz2 rfl (by decide) _ k ((flatP p).map (Value.int .i64)) rfl HPL.out ⟨wq.heap.size, 0, none⟩ 1 1 ((flatP [(z0, T, 1)]).map (Value.int .i64)) rfl rfl (news_int (W := wq) (ys := flatP [(z0, T, 1)])) (one_cells (ys := flatP [(z0, T, 1)])) (by decide) (by unfold maxLen; have := HKK.out; omega) (by have := HKK.out; omega) (by have := HGS.out; simp only [World.size_alloc]; omega) _ rfl ?_; intro g capp w7 hown hgr hgb hlt2; have AP := Lib.hid (TOwn.app (l := p) (m := [(z0, T, 1)]) hown HP.out.1.symm rfl); have S7 := Lib.hid ((S.out.below ((Below.refl _ _).alloc (Nat.le_refl _) (.cells #[.int .i64 z0, .int .i64 T, .int .i64 1] 40))).add hgr (fun j hj => (S.out.pl.block hj).1) AP.out); have hc7 := S7.out.at_.cell i (by rw [HTR.out.2.1]; exact hiX); have hf7 := S7.out.at_.frozen i; rw [← HZ0.out] at hc7; clear hcell hown hgr hgb hlt2))
              have S8 := Lib.hid (S7.out.go i (z0 + 1))
              have HS8 := Lib.hid (S7.out.maker)
              generalize w7.setCell ⟨G, i, none⟩ (.int .i64 (z0 + 1)) = w8 at S8 ⊢
              clear hc7 hf7 AP S7 HS8 S HPL
              refine (next_any w.heap.size (N + 1) 300 w8 S8.out.maker (by omega) (by omega) (by omega)).mono ?_
              rintro e w9 ⟨dt, rfl, dt1, dt2, K9, M9⟩
              have S9 := Lib.hid (S8.out.moves M9 K9)
              clear K9 M9 S8
              have HTR' := Lib.hid (show Trn n (zs.set i (z0 + 1)) ∧ (zs.set i (z0 + 1)).length = X ∧ tot (zs.set i (z0 + 1)) = ((k + 1 : Nat) : Int) from by
                have hl : i < zs.length := by rw [HTR.out.2.1]; exact hiX
                rw [HZ0.out]
                exact ⟨HTR.out.1.step hl HZN.out HST.out, by rw [List.length_set]; exact HTR.out.2.1, by rw [tot_set hl, HTR.out.2.2]; rfl⟩)
              have hlt' : i < zs.length := by rw [HTR.out.2.1]; exact hiX
              have HCT' := Lib.hid (show Cts n (p ++ [(z0, T, 1)]) (zs.set i (z0 + 1)) from by rw [HZ0.out]; exact HCT.out.step hlt' hT.1)
              have hz31 : z0 ≤ 31 := by have := HZN.out; rw [← HZ0.out] at this; omega
              have HP' := Lib.hid (show (p ++ [(z0, T, 1)]).length = k + 1 ∧ run 0 (p ++ [(z0, T, 1)]) ∧ ∀ q ∈ p ++ [(z0, T, 1)], q.2.1 ≤ T + dt from by
                refine ⟨by rw [List.length_append, HP.out.1]; rfl, run_snoc HP.out.2.1 ⟨⟨hz.1, hz31⟩, ⟨hT.1, by show T ≤ 1000000000; omega⟩, Or.inl rfl⟩ hT.1 (fun q hq => HP.out.2.2 q hq), fun q hq => ?_⟩
                rcases List.mem_append.1 hq with hq | hq
                · have := HP.out.2.2 q hq; omega
                · rw [List.mem_singleton] at hq; subst hq; show T ≤ T + dt; omega)
              have HCK := Lib.hid (show ∀ s : Nat, s < n → chkR (chn n) (p ++ [(z0, T, 1)]) s = 0 from fun s hs => chk_ok (bor_chn n (by omega)) (by rw [← HL.out]; omega) HP'.out.2.1 (by rw [HP'.out.1]; omega) (by omega) (by omega))
              generalize p ++ [(z0, T, 1)] = p' at *
              generalize zs.set i (z0 + 1) = zs' at *
              have hk37 : k + 1 ≤ 37 := by omega
              have hT' : 0 ≤ T + dt ∧ T + dt ≤ 300 * ((k : Int) + 1) := by omega
              have HTB := Lib.hid hT'
              have HNB := Lib.hid hN
              clear hlt' hz31 HZ0 HZN HST HTR HCT HP hz hT hN HJ hj1 hiX
              go_wp2_with fail
              go_loopw [13] (fun sv wr => ∃ s : Nat, s ≤ n ∧ sv = .int .i64 (s : Int) ∧ Hid (TrSt w.heap.size G n (.slice A L c) w3 wr (.slice (some ⟨g, 0, none⟩) (k + 1) capp) zs' p' (N + 1 + 1))) (fun sv _ => n - (intOf sv).toNat)
              case atStart => exact ⟨0, by omega, rfl, S9⟩
              case round =>
                clear S9
                obtain ⟨s, hs, rfl, S⟩ := hrel
                by_cases hsn : s < n
                · have hds : decide ((s : Int) < (n : Int)) = true := decide_eq_true (by omega)
                  have HSN := Lib.hid hsn
                  obtain ⟨wo, hwo⟩ : ∃ x, x = wr := ⟨_, rfl⟩
                  subst hwo
                  go_wp2_with fail
                  go_loopw [98, 14] (fun qv cv wx => ∃ q : Nat, q ≤ X ∧ qv = .int .i64 (q : Int) ∧ ∃ y : Int, cv = .int .i64 y ∧ Hid (y = cA s (zs'.take q)) ∧ wx = wo) (fun qv _ _ => X - (intOf qv).toNat)
                  case atStart => exact ⟨0, by omega, rfl, 0, rfl, Lib.hid rfl, rfl⟩
                  case round =>
                    obtain ⟨q, hq, rfl, y, rfl, HC, rfl⟩ := hrel
                    by_cases hqX : q < X
                    · have hzl : q < zs'.length := by rw [HTR'.out.2.1]; exact hqX
                      have hcq := S.out.at_.cell q hzl
                      have HCA := Lib.hid (cA_take hzl (s : Int))
                      have hcb : 0 ≤ y ∧ y ≤ q := by
                        have := cA_nn (s : Int) (zs'.take q)
                        rw [List.length_take] at this
                        rw [HC.out]; omega
                      obtain ⟨x, hx⟩ : ∃ x, x = zs'.getD q 0 := ⟨_, rfl⟩
                      rw [← hx] at hcq
                      have HX := Lib.hid hx
                      clear hx hzl
                      by_cases hxs : x = (s : Int) + 1
                      · have HE := Lib.hid (show cA s (zs'.take (q + 1)) = cA s (zs'.take q) + 1 by rw [HCA.out, ← HX.out, if_pos hxs])
                        subst hxs
                        go_wp2_with fail
                        go_roundw
                        case rel => exact ⟨q + 1, by omega, by go_num, y + 1, rfl, Lib.hid (by rw [HE.out, HC.out]), trivial⟩
                        case measure => simp [intOf]; omega
                      · have hxs' : (x == (s : Int) + 1) = false := beq_eq_false_iff_ne.2 hxs
                        have HE := Lib.hid (show cA s (zs'.take (q + 1)) = cA s (zs'.take q) by rw [HCA.out, ← HX.out, if_neg hxs, Int.add_zero])
                        clear hxs
                        go_wp2_with fail
                        go_roundw
                        case rel => exact ⟨q + 1, by omega, by go_num, y, rfl, Lib.hid (by rw [HE.out, HC.out]), trivial⟩
                        case measure => simp [intOf]; omega
                    · obtain rfl : q = X := by omega
                      have hc := HC.out
                      rw [List.take_of_length_le (by rw [HTR'.out.2.1]; exact Nat.le_refl _)] at hc
                      obtain ⟨e1, e2⟩ := state_cts HCT'.out HSN.out (HCK.out s HSN.out)
                      rw [← hc] at e1 e2
                      have ca := fun w h1 h2 => pcount_any (chn n) p' A (some ⟨g, 0, none⟩) c capp s (-1) w h1 h2
                      have cb := fun w h1 h2 => pstate_any (chn n) p' A (some ⟨g, 0, none⟩) c capp s (-1) w h1 h2
                      rw [e1, ← HL.out, HP'.out.1] at ca
                      rw [e2, ← HL.out, HP'.out.1] at cb
                      have HCA := Lib.hid ca
                      have HCB := Lib.hid cb
                      clear ca cb e1 e2 hc hqX hq HC
                      go_wp2_with fail
                      refine (HCA.out wr S.out.chain.prow S.out.pl.prow).mono ?_
                      rintro e w10 ⟨rfl, B10⟩
                      have S10 := Lib.hid (S.out.below B10)
                      clear B10 HCA
                      go_wp2_with fail
                      refine (HCB.out w10 S10.out.chain.prow S10.out.pl.prow).mono ?_
                      rintro e w11 ⟨rfl, B11⟩
                      have S11 := Lib.hid (S10.out.below B11)
                      clear B11 HCB S10 S
                      by_cases hc0 : y = 0
                      · rw [if_pos hc0]
                        subst hc0
                        go_wp2_with fail
                        go_roundw
                        case rel => exact ⟨s + 1, by have := HSN.out; omega, by go_num, S11⟩
                        case measure => have := HSN.out; simp [intOf]; omega
                      · rw [if_neg hc0]
                        have hc0' : (y == 0) = false := beq_eq_false_iff_ne.2 hc0
                        clear hc0
                        go_wp2_with fail
                        go_roundw
                        case rel => exact ⟨s + 1, by have := HSN.out; omega, by go_num, S11⟩
                        case measure => have := HSN.out; simp [intOf]; omega
                · obtain rfl : s = n := by omega
                  clear hsn hs
                  go_wp2_with fail
                  go_roundw
                  case rel => exact ⟨k + 1, N + 1 + 1, zs', p', T + dt, by have := HKY.out; omega, by go_num, rfl, by have := HTB.out; omega, by have := HNB.out; omega, S, HTR', HP', HCT'⟩
                  case measure => have := HKY.out; simp [intOf]; omega
    · obtain rfl : k = Y := by omega
      have BB := Lib.hid (S.out.mv.to_below HBW.out (Nat.le_of_lt S.out.lt))
      clear hkY hk S
      go_wp2_with fail
      refine (sane_any wr).mono ?_
      rintro e w12 ⟨rfl, B12⟩
      have B' := Lib.hid (BB.out.trans (B12.mono BB.out.size))
      clear B12
      go_wp2_with fail
      go_ret
      exact ⟨rfl, B'.out⟩
end Go.Proofs.Ytbnlaopmmgoalaa
