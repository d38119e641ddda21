/-
  Stage 6: the reader's number. Written by tools/gen_cnum.py.
-/
import Derived.Test.YtjgeolfjhfdbmaaCRd
set_option linter.unusedSimpArgs false
set_option linter.unusedVariables false
namespace Go.Proofs.Ytjgeolfjhfdbmaa
open Go.RowKit

/-- The digits of bytes, and whether one is none. -/
def numB : List Int → List Int
  | [] => []
  | x :: l => (48 + x / 16) :: (48 + x % 16) :: numB l
def badB : List Int → Bool
  | [] => false
  | x :: l => (decide (9 < x / 16) || decide (9 < x % 16)) || badB l
theorem numB_app (a b : List Int) : numB (a ++ b) = numB a ++ numB b := by
  induction a with
  | nil => rfl
  | cons x a ih => show _ :: _ :: numB (a ++ b) = _; rw [ih]; rfl
theorem badB_app (a b : List Int) : badB (a ++ b) = (badB a || badB b) := by
  induction a with
  | nil => simp [badB]
  | cons x a ih => show (_ || badB (a ++ b)) = _; rw [ih]; simp [badB, Bool.or_assoc]
theorem numB_len (a : List Int) : (numB a).length = 2 * a.length := by
  induction a with
  | nil => rfl
  | cons x a ih => show (numB a).length + 1 + 1 = _; rw [ih, List.length_cons]; omega
theorem numB_one (a : List Int) (x : Int) : numB (a ++ [x]) = numB a ++ [48 + x / 16, 48 + x % 16] := numB_app a [x]
theorem badB_one (a : List Int) (x : Int) : badB (a ++ [x]) = (badB a || (decide (9 < x / 16) || decide (9 < x % 16))) := by
  rw [badB_app]; simp [badB]
theorem and_15' : ∀ a : Fin 256, bits BinOp.and IntKind.u8 ((a : Nat) : Int) 15 = ((a : Nat) : Int) % 16 := by decide +kernel
theorem and_15 {a : Int} (h0 : 0 ≤ a) (h1 : a ≤ 255) : bits BinOp.and IntKind.u8 a 15 = a % 16 := by
  obtain ⟨x, rfl⟩ := Int.eq_ofNat_of_zero_le h0
  have := and_15' ⟨x, by omega⟩
  exact this
def nmV (bs : List Int) (n : Nat) : ByteArray := strOfNums (numB (tkV bs n 6))
def nmG (bs : List Int) (n : Nat) : Bool := badB (tkV bs n 6)
def NmPost (p : Nat) (A : Option Addr) (c : Nat) (bs : List Int) (v : ByteArray) (n' : Nat) (s' g' : Bool) (w : World) (e : Ending) (w' : World) : Prop :=
  e = .returned (.string v) ∧ Rd w' p A c bs n' s' g' ∧ Moves p w w'
theorem take_get {xs : List Int} {k : Nat} (hk : k < xs.length) : xs.take (k + 1) = xs.take k ++ [xs.getD k 0] := by
  rw [List.take_succ_eq_append_getElem hk, List.getD_eq_getElem?_getD, List.getElem?_eq_getElem hk, Option.getD_some]
set_option maxHeartbeats 1600000 in
theorem number_any (p : Nat) (A : Option Addr) (c : Nat) (bs : List Int) (n : Nat) (s g : Bool) (w : World) (h : Rd w p A c bs n s g) :
    Calls Try.prog 55 #[.pointer (some ⟨p, 0, none⟩)] w (NmPost p A c bs (nmV bs n) (tkN bs n 6) (tkS bs n 6 s) (g || nmG bs n) w) := by
  have H := Lib.hid h
  have HLT := Lib.hid h.lt
  have HBB := Lib.hid (tkV_bd h.bd n 6)
  clear h
  go_enter Try.func55, Try.ntmps55
  go_wp2_with fail
  refine (take_any p A c bs n 6 s g w H.out (by decide)).mono ?_
  rintro e w1 ⟨A', c', rfl, R, H1, M⟩
  have HV := Lib.hid (show nmV bs n = strOfNums (numB (tkV bs n 6)) from rfl)
  have HG := Lib.hid (show nmG bs n = badB (tkV bs n 6) from rfl)
  have HXL := Lib.hid (tkV_len (bs := bs) (n := n) (k := 6))
  obtain ⟨xs, hxs⟩ : ∃ xs, xs = tkV bs n 6 := ⟨_, rfl⟩
  rw [← hxs] at R HV HG HXL HBB
  have HR := Lib.hid R
  have HH := Lib.hid H1
  have HM := Lib.hid M
  have HM1 := Lib.hid (show w.heap.size ≤ w1.heap.size from M.size)
  generalize tkN bs n 6 = n1 at *
  generalize tkS bs n 6 s = s1 at *
  clear R H1 M hxs
  go_wp2_with fail
  go_loopw [11, 3] (fun i u wr => ∃ k : Nat, k ≤ 6 ∧ i = .int .i64 k ∧ Hid (Own .u8 5 wr w1.heap.size u (numB (xs.take k))) ∧ Hid (Rd wr p A c bs n1 s1 (g || badB (xs.take k))) ∧ Hid (Moves p w wr) ∧ Hid (w1.heap.size ≤ wr.heap.size) ∧ Hid (RowNe wr p w1.heap.size A' xs)) (fun i _ _ => 6 - (intOf i).toNat)
  case atStart => exact ⟨0, by omega, rfl, Lib.hid Own.nil, Lib.hid (by rw [List.take_zero]; show Rd _ _ _ _ _ _ _ (g || false); rw [Bool.or_false]; exact HH.out), HM, Lib.hid (Nat.le_refl _), HR⟩
  case round =>
    clear HM HR HH
    obtain ⟨k, hk, rfl, O, RD, V, W1, RN⟩ := hrel
    have HLT1 := Lib.hid (show p < w1.heap.size from Nat.lt_of_lt_of_le HLT.out HM1.out)
    by_cases hlt : k < 6
    · have hkx : k < xs.length := by have := HXL.out; omega
      obtain ⟨ad, rfl, _, _, hc⟩ := RN.out k hkx
      obtain ⟨b1, b2⟩ := HBB.out.at_ k
      have ht := take_get hkx
      obtain ⟨x, hx⟩ : ∃ x, x = xs.getD k 0 := ⟨_, rfl⟩
      rw [← hx] at hc b1 b2 ht
      have T1 := Lib.hid (show numB (xs.take (k + 1)) = numB (xs.take k) ++ [48 + x / 16, 48 + x % 16] by rw [ht, numB_one])
      have T2 := Lib.hid (show (g || badB (xs.take (k + 1))) = ((g || badB (xs.take k)) || (decide (9 < x / 16) || decide (9 < x % 16))) by rw [ht, badB_one, Bool.or_assoc])
      have ha := and_15 b1 b2
      have q0 : (k : Int) < ((6 : Nat) : Int) := by omega
      have h1 : 0 ≤ x / 16 := by omega
      have h2 : x / 16 ≤ 15 := by omega
      have l1 : 0 ≤ x % 16 := by omega
      have l2 : x % 16 ≤ 15 := by omega
      have LN := Lib.hid (show (numB (xs.take k)).length ≤ 12 by rw [numB_len, List.length_take]; omega)
      obtain ⟨gk, hgk⟩ : ∃ gk, gk = (g || badB (xs.take k)) := ⟨_, rfl⟩
      rw [← hgk] at RD T2
      obtain ⟨c0, c1, c2, c3, f1, f2, f3, lt, _, _, _, _, _⟩ := RD.out
      clear hx ht hgk
      cases gk with
      | true =>
        have H9 := Lib.hid (show (true : Bool) = true from rfl)
        go_wp2_with (first | (at_builtin; refine wpList_app8g _ rfl (.tmp 34) (.tmp 39) rfl w1.heap.size _ (numB (xs.take k)) rfl ((Own.moves O.out (Moves.setCell (m := p) (p := ⟨p, 3, none⟩) (Moves.refl p wr) (Or.inl rfl) _) HLT1.out).alloc _) [48 + x / 16, 48 + x % 16] _ rfl wr.heap.size (World.size_setCell _ _ _) 2 2 rfl (by decide) rfl (by have := LN.out; omega) (le_alloc (by rw [World.size_setCell]; exact W1.out)) ?_; intro v4 w4 O4 A4))
        go_roundw
        case rel =>
          have hob := fun j (hj : u3.ownBlock = some j) => (own_block O.out hj).1
          refine ⟨k + 1, by omega, by go_num, Lib.hid (by rw [T1.out]; exact O4), ?_, ?_, Lib.hid (Nat.le_trans W1.out (by have := A4.g.size; rw [World.size_alloc, World.size_setCell] at this; omega)), ?_⟩
          · rw [T2.out]
            exact Lib.hid (by first | exact ((RD.out.setG _).alloc _).grown A4.g (fun j hj => Nat.lt_of_lt_of_le HLT1.out (hob j hj)) | (simp only [H9.out, Bool.or_true, Bool.true_or, Bool.false_or, Bool.or_false]; exact ((RD.out.setG _).alloc _).grown A4.g (fun j hj => Nat.lt_of_lt_of_le HLT1.out (hob j hj))))
          · exact Lib.hid (((Moves.setCell (m := p) (p := ⟨p, 3, none⟩) V.out (Or.inl rfl) _).alloc _).grown A4.g (fun j hj => Nat.le_trans HM1.out (hob j hj)))
          · exact Lib.hid ((RN.out.moves ((Moves.setCell (m := p) (p := ⟨p, 3, none⟩) (Moves.refl p wr) (Or.inl rfl) _).alloc _) W1.out).grown A4.g hob)
        case measure => simp [intOf]; omega
      | false =>
        by_cases h9 : 9 < x / 16
        · have e9 := decide_eq_true h9
          have H9 := Lib.hid e9
          go_wp2_with (first | (at_builtin; refine wpList_app8g _ rfl (.tmp 34) (.tmp 39) rfl w1.heap.size _ (numB (xs.take k)) rfl ((Own.moves O.out (Moves.setCell (m := p) (p := ⟨p, 3, none⟩) (Moves.refl p wr) (Or.inl rfl) _) HLT1.out).alloc _) [48 + x / 16, 48 + x % 16] _ rfl wr.heap.size (World.size_setCell _ _ _) 2 2 rfl (by decide) rfl (by have := LN.out; omega) (le_alloc (by rw [World.size_setCell]; exact W1.out)) ?_; intro v4 w4 O4 A4))
          go_roundw
          case rel =>
            have hob := fun j (hj : u3.ownBlock = some j) => (own_block O.out hj).1
            refine ⟨k + 1, by omega, by go_num, Lib.hid (by rw [T1.out]; exact O4), ?_, ?_, Lib.hid (Nat.le_trans W1.out (by have := A4.g.size; rw [World.size_alloc, World.size_setCell] at this; omega)), ?_⟩
            · rw [T2.out]
              exact Lib.hid (by first | exact ((RD.out.setG _).alloc _).grown A4.g (fun j hj => Nat.lt_of_lt_of_le HLT1.out (hob j hj)) | (simp only [H9.out, Bool.or_true, Bool.true_or, Bool.false_or, Bool.or_false]; exact ((RD.out.setG _).alloc _).grown A4.g (fun j hj => Nat.lt_of_lt_of_le HLT1.out (hob j hj))))
            · exact Lib.hid (((Moves.setCell (m := p) (p := ⟨p, 3, none⟩) V.out (Or.inl rfl) _).alloc _).grown A4.g (fun j hj => Nat.le_trans HM1.out (hob j hj)))
            · exact Lib.hid ((RN.out.moves ((Moves.setCell (m := p) (p := ⟨p, 3, none⟩) (Moves.refl p wr) (Or.inl rfl) _).alloc _) W1.out).grown A4.g hob)
          case measure => simp [intOf]; omega
        · by_cases h8 : 9 < x % 16
          · have e9 := And.intro (decide_eq_false h9) (decide_eq_true h8)
            have H9 := Lib.hid e9
            clear e9
            go_wp2_with (first | (at_builtin; refine wpList_app8g _ rfl (.tmp 34) (.tmp 39) rfl w1.heap.size _ (numB (xs.take k)) rfl ((Own.moves O.out (Moves.setCell (m := p) (p := ⟨p, 3, none⟩) (Moves.refl p wr) (Or.inl rfl) _) HLT1.out).alloc _) [48 + x / 16, 48 + x % 16] _ rfl wr.heap.size (World.size_setCell _ _ _) 2 2 rfl (by decide) rfl (by have := LN.out; omega) (le_alloc (by rw [World.size_setCell]; exact W1.out)) ?_; intro v4 w4 O4 A4))
            go_roundw
            case rel =>
              have hob := fun j (hj : u3.ownBlock = some j) => (own_block O.out hj).1
              refine ⟨k + 1, by omega, by go_num, Lib.hid (by rw [T1.out]; exact O4), ?_, ?_, Lib.hid (Nat.le_trans W1.out (by have := A4.g.size; rw [World.size_alloc, World.size_setCell] at this; omega)), ?_⟩
              · rw [T2.out]
                exact Lib.hid (by first | exact ((RD.out.setG _).alloc _).grown A4.g (fun j hj => Nat.lt_of_lt_of_le HLT1.out (hob j hj)) | (simp only [H9.out, Bool.or_true, Bool.true_or, Bool.false_or, Bool.or_false]; exact ((RD.out.setG _).alloc _).grown A4.g (fun j hj => Nat.lt_of_lt_of_le HLT1.out (hob j hj))))
              · exact Lib.hid (((Moves.setCell (m := p) (p := ⟨p, 3, none⟩) V.out (Or.inl rfl) _).alloc _).grown A4.g (fun j hj => Nat.le_trans HM1.out (hob j hj)))
              · exact Lib.hid ((RN.out.moves ((Moves.setCell (m := p) (p := ⟨p, 3, none⟩) (Moves.refl p wr) (Or.inl rfl) _).alloc _) W1.out).grown A4.g hob)
            case measure => simp [intOf]; omega
          · have e9 := And.intro (decide_eq_false h9) (decide_eq_false h8)
            have H9 := Lib.hid e9
            clear e9
            go_wp2_with (first | (at_builtin; refine wpList_app8g _ rfl (.tmp 34) (.tmp 39) rfl w1.heap.size _ (numB (xs.take k)) rfl ((Own.moves O.out (Moves.setCell (m := p) (p := ⟨p, 3, none⟩) (Moves.refl p wr) (Or.inl rfl) _) HLT1.out).alloc _) [48 + x / 16, 48 + x % 16] _ rfl wr.heap.size (World.size_setCell _ _ _) 2 2 rfl (by decide) rfl (by have := LN.out; omega) (le_alloc (by rw [World.size_setCell]; exact W1.out)) ?_; intro v4 w4 O4 A4))
            go_roundw
            case rel =>
              have hob := fun j (hj : u3.ownBlock = some j) => (own_block O.out hj).1
              refine ⟨k + 1, by omega, by go_num, Lib.hid (by rw [T1.out]; exact O4), ?_, ?_, Lib.hid (Nat.le_trans W1.out (by have := A4.g.size; rw [World.size_alloc, World.size_setCell] at this; omega)), ?_⟩
              · rw [T2.out]
                exact Lib.hid (by first | exact ((RD.out.setG _).alloc _).grown A4.g (fun j hj => Nat.lt_of_lt_of_le HLT1.out (hob j hj)) | (simp only [H9.out, Bool.or_true, Bool.true_or, Bool.false_or, Bool.or_false]; exact ((RD.out.setG _).alloc _).grown A4.g (fun j hj => Nat.lt_of_lt_of_le HLT1.out (hob j hj))))
              · exact Lib.hid (((Moves.setCell (m := p) (p := ⟨p, 3, none⟩) V.out (Or.inl rfl) _).alloc _).grown A4.g (fun j hj => Nat.le_trans HM1.out (hob j hj)))
              · exact Lib.hid ((RN.out.moves ((Moves.setCell (m := p) (p := ⟨p, 3, none⟩) (Moves.refl p wr) (Or.inl rfl) _).alloc _) W1.out).grown A4.g hob)
            case measure => simp [intOf]; omega
    · obtain rfl : k = 6 := by omega
      have e6 : xs.take 6 = xs := List.take_of_length_le (by rw [HXL.out]; decide)
      have o6 := O.out
      have r6 := RD.out
      rw [e6] at o6 r6
      obtain ⟨A4, c4, e4, R4, _⟩ := Own.slice o6
      have hl12 : (numB xs).length = 12 := by rw [numB_len, HXL.out]
      rw [hl12] at e4
      subst e4
      have hcv := conv_row wr (A := A4) (c := c4) (zs := numB xs) (fun j hj => by obtain ⟨ad, e, _, h⟩ := R4 j hj; exact ⟨ad, e, h⟩) 12 hl12.symm
      have R6 := Lib.hid r6
      clear hlt hk o6 r6 e6 R4 O RD hl12
      go_wp2_with fail
      go_ret
      exact ⟨ret_str HV.out.symm, by rw [HG.out]; exact R6.out, V.out⟩
end Go.Proofs.Ytjgeolfjhfdbmaa
