/-
  Stage 4: the laws' sanity check; the law's reads.
-/
import Derived.Test.YtbpgbdnfoofnaaaDoorDRdecW
import Derived.Test.YtbpgbdnfoofnaaaDoorDSpoil
import Derived.Test.YtbpgbdnfoofnaaaDoorDVals
set_option linter.unusedSimpArgs false
set_option linter.unusedVariables false
namespace Go.Proofs.YtbpgbdnfoofnaaaDoor
open Go.RowKit

/-- The example's message. -/
def exB : List Int := (encL [(2, 5, 1)]).1
theorem ex_enc : encL [(2, 5, 1)] = (exB, 0) := by decide +kernel
theorem ex_len : exB.length = 12 := by decide +kernel
theorem ex_dec : decD exB = ([(2, 5, 1)], [], 0) := by decide +kernel
theorem ex_byt : ∀ z ∈ exB, 0 ≤ z ∧ z ≤ 255 := by decide +kernel
theorem ex_two : exB.getD 2 0 = ((exB.getD 2 0).toNat : Int) ∧ (exB.getD 2 0).toNat < 256 := by decide +kernel
theorem ex_bad : decD (exB.set 2 (((exB.getD 2 0).toNat ^^^ 3 : Nat) : Int)) = ([], [(0, 5)], 0) := by decide +kernel
theorem ex_bby : ∀ z ∈ exB.set 2 (((exB.getD 2 0).toNat ^^^ 3 : Nat) : Int), 0 ≤ z ∧ z ≤ 255 := by decide +kernel
theorem enc_at {l : List Pul} {b : List Int} {er : Int} (h : encL l = (b, er)) (A : Option Addr) (c L : Nat) (hL : L = l.length) (w : World) (R : PRow w A l) (hc : l.length ≤ c) (hcm : c ≤ maxLen) (D : Dat w) :
    Calls Tryd.prog 11 #[.slice A L c] w fun e w' => ∃ v, e = .returned (.tuple #[v, .int .i64 er]) ∧ Own .u8 5 w' w.heap.size v b ∧ Below w.heap.size w w' := by
  subst hL
  refine (enc_any l A c w R hc hcm D).mono ?_
  rintro e w' ⟨v, e1, O, B⟩
  rw [h] at e1 O
  exact ⟨v, e1, O, B⟩
theorem renc_at {l : List Pul} {b : List Int} {er : Int} (h : encL l = (b, er)) (A : Option Addr) (c L : Nat) (hL : L = l.length) (w : World) (R : PRow w A l) :
    Calls Tryd.prog 18 #[.slice A L c] w fun e w' => ∃ v, e = .returned (.tuple #[v, .int .i64 er]) ∧ Own .u8 5 w' w.heap.size v b ∧ Below w.heap.size w w' := by
  subst hL
  refine (renc_any l A c w R).mono ?_
  rintro e w' ⟨v, e1, O, B⟩
  rw [h] at e1 O
  exact ⟨v, e1, O, B⟩
def DecRow (l : List Pul) (g : List Ivl) (er : Int) (base : Nat) (w : World) (e : Ending) (w' : World) : Prop :=
  ∃ A c A' c', e = .returned (.tuple #[.slice A l.length c, .slice A' g.length c', .int .i64 er]) ∧ PRow w' A l ∧ IvRow w' A' g ∧ Below base w w'
theorem dec_at {xs : List Int} {l : List Pul} {g : List Ivl} {er : Int} (h : decD xs = (l, g, er)) (A : Option Addr) (c N : Nat) (hN : N = xs.length) (w : World) (R : RowB .u8 w A xs) (hb : ∀ z ∈ xs, 0 ≤ z ∧ z ≤ 255) (D : Dat w) :
    Calls Tryd.prog 14 #[.slice A N c] w (DecRow l g er w.heap.size w) := by
  subst hN
  refine (dec_any xs A c w R hb D).mono ?_
  rintro e w' ⟨v, u, e1, O, P, B⟩
  rw [h] at e1 O P
  obtain ⟨A1, c1, rfl, R1, _, _⟩ := O.slice
  obtain ⟨A2, c2, rfl, R2⟩ := P.slice
  exact ⟨A1, c1, A2, c2, e1, R1, R2, B⟩
theorem IOwn.moves {m : Nat} {w w' : World} {base : Nat} {v : Value} {l : List Ivl} (h : IOwn w base v l) (b : Moves m w w') (hm : m < base) : IOwn w' base v l := Flat.moves h b hm
theorem decO_at {xs : List Int} {l : List Pul} {g : List Ivl} {er : Int} (h : decD xs = (l, g, er)) (A : Option Addr) (c N : Nat) (hN : N = xs.length) (w : World) (R : RowB .u8 w A xs) (hb : ∀ z ∈ xs, 0 ≤ z ∧ z ≤ 255) (D : Dat w) :
    Calls Tryd.prog 14 #[.slice A N c] w fun e w' => ∃ v u, e = .returned (.tuple #[v, u, .int .i64 er]) ∧ POwn w' w.heap.size v l ∧ IOwn w' w.heap.size u g ∧ Below w.heap.size w w' := by
  subst hN
  refine (dec_any xs A c w R hb D).mono ?_
  rintro e w' ⟨v, u, e1, O, P, B⟩
  rw [h] at e1 O P
  exact ⟨v, u, e1, O, P, B⟩
theorem rdec_at {xs : List Int} {l : List Pul} {g : List Ivl} {er : Int} (h : decD xs = (l, g, er)) (A : Option Addr) (c N : Nat) (hN : N = xs.length) (w : World) (R : RowB .u8 w A xs) (hb : ∀ z ∈ xs, 0 ≤ z ∧ z ≤ 255) :
    Calls Tryd.prog 36 #[.slice A N c] w (DecRow l g er w.heap.size w) := by
  subst hN
  refine (rdec_any xs A c w R hb).mono ?_
  rintro e w' ⟨v, u, e1, O, P, B⟩
  rw [h] at e1 O P
  obtain ⟨A1, c1, rfl, R1, _, _⟩ := O.slice
  obtain ⟨A2, c2, rfl, R2⟩ := P.slice
  exact ⟨A1, c1, A2, c2, e1, R1, R2, B⟩
theorem psame_at {l : List Pul} (A A' : Option Addr) (c c' n n' : Nat) (hn : n = l.length) (hn' : n' = l.length) (w : World) (h : PRow w A l) (h' : PRow w A' l) :
    Calls Tryd.prog 15 #[.slice A n c, .slice A' n' c'] w fun e w' => e = .returned (.bool true) ∧ ∃ n, w' = w.drewN n := by subst hn; subst hn'; exact psame_any l A A' c c' w h h'
theorem isame_at {l : List Ivl} (A A' : Option Addr) (c c' n n' : Nat) (hn : n = l.length) (hn' : n' = l.length) (w : World) (h : IvRow w A l) (h' : IvRow w A' l) :
    Calls Tryd.prog 25 #[.slice A n c, .slice A' n' c'] w fun e w' => e = .returned (.bool true) ∧ ∃ n, w' = w.drewN n := by subst hn; subst hn'; exact isame_any l A A' c c' w h h'
theorem prow_new {W : World} {T : TypeId} (l : List Pul) (b : Nat) (hb : b = W.heap.size) (hl : l.length ≤ 1000) : PRow (W.alloc (.cells ((flatP l).map (Value.int .i64)).toArray T)) (some ⟨b, 0, none⟩) l := by
  subst hb; exact ⟨row_new _, by unfold maxLen; omega⟩
theorem ivrow_new {W : World} {T : TypeId} (l : List Ivl) (b : Nat) (hb : b = W.heap.size) (hl : l.length ≤ 1000) : IvRow (W.alloc (.cells ((flatI l).map (Value.int .i64)).toArray T)) (some ⟨b, 0, none⟩) l := by
  subst hb; exact ⟨row_new _, by unfold maxLen; omega⟩

set_option maxRecDepth 100000 in
set_option maxHeartbeats 1600000 in
theorem reads_any (xs : List Int) (A : Option Addr) (c N : Nat) (hN : N = xs.length) (w : World) (R : RowB .u8 w A xs) (hb : ∀ z ∈ xs, 0 ≤ z ∧ z ≤ 255) (D : Dat w) :
    Calls Tryd.prog 23 #[.slice A N c] w fun e w' => e = .returned (.bool true) ∧ Below w.heap.size w w' := by
  obtain ⟨⟨l, g, er⟩, hd⟩ : ∃ t, decD xs = t := ⟨_, rfl⟩
  have HD := Lib.hid hd
  have HR := Lib.hid R
  have HB := Lib.hid hb
  have HN := Lib.hid hN
  have HDt := Lib.hid D
  clear hd R hb hN D
  go_enter Tryd.func23, Tryd.ntmps23
  go_wp2_with fail
  refine (dec_at HD.out A c N HN.out _ HR.out HB.out HDt.out).mono ?_
  rintro e w1 ⟨A1, c1, A2, c2, rfl, R1, R2, B1⟩
  have H1 := Lib.hid R1
  have H2 := Lib.hid R2
  have HB1 := Lib.hid B1
  clear R1 R2 B1
  go_wp2_with fail
  refine (rdec_at HD.out A c N HN.out _ (HR.out.below HB1.out) HB.out).mono ?_
  rintro e w2 ⟨A3, c3, A4, c4, rfl, R3, R4, B2⟩
  have H3 := Lib.hid R3
  have H4 := Lib.hid R4
  have H1' := Lib.hid (H1.out.below B2)
  have H2' := Lib.hid (H2.out.below B2)
  have HB2 := Lib.hid (HB1.out.trans (B2.mono HB1.out.size))
  clear R3 R4 B2
  go_wp2_with fail
  refine (psame_at A1 A3 c1 c3 _ _ rfl rfl _ H1'.out H3.out).mono ?_
  rintro e w' ⟨rfl, n1, rfl⟩
  go_wp2_with fail
  refine (isame_at A2 A4 c2 c4 _ _ rfl rfl _ (H2'.out.drewN n1) (H4.out.drewN n1)).mono ?_
  rintro e w' ⟨rfl, n2, rfl⟩
  go_wp2_with fail
  go_ret
  exact ⟨rfl, bdn HB2.out⟩

set_option maxRecDepth 100000 in
set_option maxHeartbeats 1600000 in
theorem sane_any (w : World) (D : Dat w) : Calls Tryd.prog 13 #[] w fun e w' => e = .returned (.bool true) ∧ Below w.heap.size w w' := by
  have HDt := Lib.hid D
  clear D
  go_enter Tryd.func13, Tryd.ntmps13
  go_wp2_with fail
  have BA : Below w.heap.size w (w.alloc (.cells ((flatP [(2, 5, 1)]).map (Value.int .i64)).toArray 28)) := (Below.refl _ _).alloc (Nat.le_refl _) _
  have RL := Lib.hid (prow_new (W := w) (T := 28) [(2, 5, 1)] w.heap.size rfl (by decide))
  have HBA := Lib.hid BA
  clear BA
  refine (enc_at ex_enc _ 1 1 rfl _ RL.out (by decide) (by decide) (HDt.out.below' HBA.out)).mono ?_
  rintro e w1 ⟨v1, rfl, O1, B1⟩
  obtain ⟨A1, c1, rfl, R1, _, _, hf⟩ := O1.slice
  obtain ⟨g, rfl, hg1, hg2⟩ := hf (by rw [ex_len]; decide)
  rw [ex_len] at O1 ⊢
  have HB1 := Lib.hid (HBA.out.trans (B1.mono HBA.out.size))
  have HC1 := Lib.hid B1
  have HO1 := Lib.hid O1
  have HR1 := Lib.hid (show RowB .u8 w1 (some ⟨g, 0, none⟩) exB from ⟨R1, by rw [ex_len]; decide⟩)
  clear O1 R1 B1 hf
  go_wp2_with fail
  refine (decO_at ex_dec _ c1 12 ex_len.symm _ HR1.out ex_byt (HDt.out.below' HB1.out)).mono ?_
  rintro e w2 ⟨v2, u2, rfl, P2, I2, B2⟩
  obtain ⟨x, hx⟩ : ∃ x, x = (exB.getD 2 0).toNat := ⟨_, rfl⟩
  have e2 := ex_two
  rw [← hx] at e2
  have HO2 := Lib.hid (HO1.out.below B2)
  have hcx := HO2.out.cell ex_len.symm 2 (by rw [ex_len]; decide)
  have hfx := HO2.out.frozen ex_len.symm 2
  rw [e2.1] at hcx
  have hxr : bits .xor .u8 (x : Int) 3 = ((x ^^^ 3 : Nat) : Int) := u8_xor_nat x 3 e2.2 (by decide)
  have HB2 := Lib.hid (HB1.out.trans (B2.mono HB1.out.size))
  have HP2 := Lib.hid P2
  have HI2 := Lib.hid I2
  have HC2 := Lib.hid (HC1.out.trans (B2.mono HC1.out.size))
  have HX := Lib.hid hx
  have HG2 := Lib.hid (show w.heap.size < g from by have := HBA.out.size; simp at this hg1; omega)
  clear P2 I2 B2 hx e2
  go_wp2_with fail
  have S3 := HO2.out.store ex_len.symm 2 ((x ^^^ 3 : Nat) : Int)
  have M3 : Moves g w2 (w2.setCell ⟨g, 2, none⟩ (.int .u8 ((x ^^^ 3 : Nat) : Int))) := (Moves.refl g w2).setCell (Or.inl rfl) _
  have C3 := HC2.out.setCell (p := ⟨g, 2, none⟩) hg1 (.int .u8 ((x ^^^ 3 : Nat) : Int))
  obtain ⟨w3, e3⟩ : ∃ y, y = w2.setCell ⟨g, 2, none⟩ (.int .u8 ((x ^^^ 3 : Nat) : Int)) := ⟨_, rfl⟩
  rw [← e3] at S3 M3 C3 ⊢
  have HP3 := Lib.hid (HP2.out.moves M3 hg2)
  have HI3 := Lib.hid (HI2.out.moves M3 hg2)
  have HC3 := Lib.hid C3
  rw [HX.out] at S3
  have HR3 := Lib.hid (show RowB .u8 w3 (some ⟨g, 0, none⟩) (exB.set 2 (((exB.getD 2 0).toNat ^^^ 3 : Nat) : Int)) from by
    obtain ⟨A5, c5, e5, R5⟩ := Own.rowB S3
    have ea : A5 = some ⟨g, 0, none⟩ := by injection e5 with h1 h2 h3; exact h1.symm
    rw [← ea]; exact R5)
  clear S3 M3 C3 e3 hcx hfx hxr
  refine (decO_at ex_bad _ c1 12 (by rw [List.length_set, ex_len]) _ HR3.out ex_bby (HDt.out.below' (HBA.out.trans (HC3.out.mono HBA.out.size)))).mono ?_
  rintro e w4 ⟨v4, u4, rfl, P4, I4, B4⟩
  have HC4 := Lib.hid (HC3.out.trans (B4.mono HC3.out.size))
  have BW := Lib.hid (HBA.out.trans (HC4.out.mono HBA.out.size))
  obtain ⟨A2, c2, rfl, Q2, _, _⟩ := (HP3.out.below B4).slice
  obtain ⟨A3, c3, rfl, Q3⟩ := (HI3.out.below B4).slice
  obtain ⟨A4, c4, rfl, Q4, _, _⟩ := P4.slice
  obtain ⟨A5, c5, rfl, Q5⟩ := I4.slice
  have H2 := Lib.hid Q2
  have H5 := Lib.hid Q5
  have HL4 := Lib.hid ((RL.out.u.under HC4.out).p HC4.out.size)
  clear Q2 Q3 Q4 Q5 P4 I4 B4
  go_wp2_with fail
  refine (psame_at A2 _ c2 1 _ _ rfl rfl _ H2.out HL4.out).mono ?_
  rintro e w' ⟨rfl, n1, rfl⟩
  go_wp2_with fail
  have RI := ivrow_new (W := w4.drewN n1) (T := 52) [(0, 5)] w4.heap.size rfl (by decide)
  have BI : Below (w4.drewN n1).heap.size (w4.drewN n1) ((w4.drewN n1).alloc (.cells ((flatI [(0, 5)]).map (Value.int .i64)).toArray 52)) := (Below.refl _ _).alloc (Nat.le_refl _) _
  refine (isame_at A5 _ c5 1 _ _ rfl rfl _ ((H5.out.drewN n1).below BI) RI).mono ?_
  rintro e w' ⟨rfl, n2, rfl⟩
  have BF := Lib.hid (bdn (n := n2) ((bdn (n := n1) BW.out).trans (BI.mono BW.out.size)))
  clear RI BI
  go_wp2_with fail
  go_ret
  exact ⟨rfl, BF.out⟩
end Go.Proofs.YtbpgbdnfoofnaaaDoor
