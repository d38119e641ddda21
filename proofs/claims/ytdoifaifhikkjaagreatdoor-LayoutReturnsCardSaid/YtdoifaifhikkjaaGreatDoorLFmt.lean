/-
  Stage 9: a layout as text (the program).
-/
import Derived.Test.YtdoifaifhikkjaaGreatDoorLWof
import Derived.Lib.ItoaLen
set_option linter.unusedSimpArgs false
set_option linter.unusedVariables false
namespace Go.Proofs.YtdoifaifhikkjaaGreatDoor
open Go.RowKit Go.Lib

/-- The line of an element; a layout as text. -/
def lineT (x : El) (l : List El) : List UInt8 := Lib.join ((wofE x l).map (·.data.toList)) [32] ++ [10]
def textE (l : List El) (k : Nat) : List UInt8 := ((l.take k).map (lineT · l)).flatten
def fmtE (l : List El) : ByteArray × Int := if validE l = 0 then (bs (textE l l.length), 0) else (⟨#[]⟩, validE l)
theorem joinTail_le (sep : List UInt8) (M : Nat) : ∀ (r : List (List UInt8)), (∀ x ∈ r, x.length ≤ M) → (Lib.joinTail sep r).length ≤ r.length * (sep.length + M)
  | [], _ => by simp [Lib.joinTail]
  | x :: r, h => by
    have ih := joinTail_le sep M r (fun y hy => h y (List.mem_cons_of_mem _ hy))
    have hx := h x (by simp)
    have e : Lib.joinTail sep (x :: r) = (sep ++ x) ++ Lib.joinTail sep r := by simp [Lib.joinTail]
    rw [e, List.length_append, List.length_append, List.length_cons, Nat.succ_mul]
    omega
theorem join_le (sep : List UInt8) (M : Nat) (r : List (List UInt8)) (h : ∀ x ∈ r, x.length ≤ M) : (Lib.join r sep).length ≤ r.length * (sep.length + M) := by
  cases r with
  | nil => simp [Lib.join_nil]
  | cons x r =>
    have hx := h x (by simp)
    have := joinTail_le sep M r (fun y hy => h y (List.mem_cons_of_mem _ hy))
    rw [Lib.join_cons, List.length_append, List.length_cons, Nat.succ_mul]
    omega
theorem soundE_rng {x : El} (h : soundE x = true) : (x.kind = 0 ∧ x.par = -1 ∧ x.side = 0 ∧ x.len = 0 ∧ x.gra = 0 ∧ x.cur = 0 ∧ x.pow = 0) ∨ (rngE x ∧ 0 ≤ x.pow ∧ x.pow ≤ 1000000000) := by
  unfold soundE behE at h
  split at h
  · rename_i hk
    rw [Bool.and_eq_true] at h
    exact Or.inl ⟨hk, of_decide_eq_true h.2⟩
  · split at h
    · rw [Bool.and_eq_true, Bool.and_eq_true] at h
      have h1 := of_decide_eq_true h.1.2
      have h2 := of_decide_eq_true h.2
      exact Or.inr ⟨h1, by omega, by omega⟩
    · split at h
      · rw [Bool.and_eq_true, Bool.and_eq_true] at h
        have h1 := of_decide_eq_true h.1.2
        have h2 := of_decide_eq_true h.2
        exact Or.inr ⟨h1, by omega, by omega⟩
      · cases h
theorem BuilderAt.belowL {T e : TypeId} {B b : Nat} {p : Value} {cs : List Value} {w w' : World} (h : Lib.BuilderAt T e B b p cs w) (k : Below w.heap.size w w') : Lib.BuilderAt T e B b p cs w' := by
  have hlt := h.lt
  obtain ⟨h1, v, h2, own, h3⟩ := h
  refine ⟨h1, v, (k.block b hlt).trans h2, ⟨own.1, ?_⟩, h3⟩
  rcases own.2 with g | ⟨g, cap, cur, e1, e2, e3, e4⟩
  · exact Or.inl g
  · exact Or.inr ⟨g, cap, cur, e1, e2, (k.block g (Array.getElem?_eq_some_iff.1 e3).1).trans e3, e4⟩
theorem IsBuilder.belowL {T e : TypeId} {B b : Nat} {cs : List Value} {w w' : World} (h : Lib.IsBuilder T e B b cs w) (k : Below w.heap.size w w') : Lib.IsBuilder T e B b cs w' := by
  rcases h with h | h
  · exact Or.inl (BuilderAt.belowL h k)
  · exact Or.inr (BuilderAt.belowL h k)
theorem okW_of {l : List El} (hv : validE l = 0) {x : El} (hx : x ∈ l) : OkW x l := by
  have hvl : vlE [] l = 0 := by
    unfold validE at hv
    split at hv
    · cases hv
    · split at hv
      · cases hv
      · split at hv
        · assumption
        · exact hv
  obtain ⟨k, hk, rfl⟩ := List.getElem_of_mem hx
  have hk' : l[k]? = some l[k] := List.getElem?_eq_getElem hk
  have hst := vlE_zero hvl hk'
  obtain ⟨s1, s2, s3, s4⟩ := stepE_parts hst
  rw [List.nil_append] at s4
  have ht := tree_ok hvl k _ hk'
  refine ⟨ht.1, ?_, ht.2, ?_, fun y hy => ?_⟩
  · rcases soundE_rng s1 with ⟨_, _, h, _⟩ | ⟨h, _⟩
    · omega
    · unfold rngE at h; omega
  · rcases soundE_rng s1 with ⟨_, _, _, h1, h2, h3, h4⟩ | ⟨h, h4⟩
    · omega
    · unfold rngE at h; omega
  · obtain ⟨j, hj, rfl⟩ := List.getElem_of_mem hy
    have hst := vlE_zero hvl (List.getElem?_eq_getElem hj)
    exact (nameS_size (soundE_name (stepE_parts hst).1)).2
theorem wof_few {x : El} {l : List El} (O : OkW x l) : (wofE x l).length ≤ 7 := by
  unfold wofE
  rw [List.length_append, List.length_append, List.length_map, List.length_take]
  have : nlK x.kind.toNat ≤ 4 := by unfold nlK; by_cases g : x.kind.toNat = 0; rw [if_pos g]; omega; rw [if_neg g]; split <;> omega
  split <;> simp <;> omega
theorem itoB_le {n : Int} (h : -1000000000 ≤ n ∧ n ≤ 1000000000) : (itoB n).data.toList.length ≤ 21 := Lib.itoa_length_le n (by omega) (by omega)
theorem wof_short {x : El} {l : List El} (O : OkW x l) (hx : x.name.size ≤ 12) : ∀ y ∈ (wofE x l).map (·.data.toList), y.length ≤ 40 := by
  intro y hy
  obtain ⟨s, hs, rfl⟩ := List.mem_map.1 hy
  unfold wofE at hs
  rcases List.mem_append.1 hs with hs | hs
  · rcases List.mem_append.1 hs with hs | hs
    · simp only [List.mem_cons, List.not_mem_nil, or_false] at hs
      rcases hs with rfl | rfl
      · have hk := O.k
        rcases (by omega : x.kind.toNat = 0 ∨ x.kind.toNat = 1 ∨ x.kind.toNat = 2 ∨ x.kind.toNat = 3 ∨ x.kind.toNat = 4) with h | h | h | h | h <;> rw [h] <;> decide
      · have : x.name.data.toList.length = x.name.size := rfl
        omega
    · split at hs
      · simp only [List.mem_cons, List.not_mem_nil, or_false] at hs
        subst hs
        have h1 : (l.getD x.par.toNat zeroE).name.size ≤ 12 := by
          by_cases g : x.par.toNat < l.length
          · have e : l.getD x.par.toNat zeroE = l[x.par.toNat] := by simp [List.getD, g]
            rw [e]; exact O.z _ (List.getElem_mem g)
          · have e : l.getD x.par.toNat zeroE = zeroE := by simp [List.getD, g]
            rw [e]; decide
        have h2 : (bs (sxL.getD x.side.toNat [])).size ≤ 6 := by
          have hs := O.s
          rcases (by omega : x.side.toNat = 0 ∨ x.side.toNat = 1 ∨ x.side.toNat = 2) with h | h | h <;> rw [h] <;> decide
        have : (parW x l).data.toList.length = (parW x l).size := rfl
        rw [this]
        unfold parW
        rw [ByteArray.size_append]; omega
      · cases hs
  · obtain ⟨z, hz, rfl⟩ := List.mem_map.1 hs
    have hz2 := List.mem_of_mem_take hz
    have : -1000000000 ≤ z ∧ z ≤ 1000000000 := by
      have hn := O.n
      simp [numbersE] at hz2
      rcases hz2 with rfl | rfl | rfl | rfl <;> omega
    have := itoB_le this
    omega
theorem lineT_le {x : El} {l : List El} (O : OkW x l) (hx : x.name.size ≤ 12) : (Lib.join ((wofE x l).map (·.data.toList)) [32]).length ≤ 300 := by
  have h1 := join_le [32] 40 _ (wof_short O hx)
  have h2 := wof_few O
  rw [List.length_map] at h1
  have : (wofE x l).length * (([32] : List UInt8).length + 40) ≤ 7 * 41 := Nat.mul_le_mul h2 (Nat.le_refl _)
  omega
theorem textE_snoc {l : List El} {k : Nat} {x : El} (ht : l.take (k + 1) = l.take k ++ [x]) : textE l (k + 1) = textE l k ++ lineT x l := by
  unfold textE; rw [ht, List.map_append, List.flatten_append]; simp
theorem wof_ne (x : El) (l : List El) : wofE x l ≠ [] := by unfold wofE; simp
/-- What a call of Format leaves. -/
def FmPost (l : List El) (w : World) (e : Ending) (w' : World) : Prop := e = .returned (.tuple #[.string (fmtE l).1, .int .i64 (fmtE l).2]) ∧ Below w.heap.size w w'
set_option maxRecDepth 100000 in
set_option maxHeartbeats 3200000 in
theorem fmt_any (l : List El) (A : Option Addr) (c : Nat) (w : World) (h : RRow ER w A l) (hA : PlainA A) (hc : l.length ≤ c) (D : Dor w) (hz : SzE l) :
    Calls Tryz.prog 6 #[.slice A l.length c] w (FmPost l w) := by
  have hl : l.length ≤ 9223372036854775807 := h.len
  have HV := Lib.hid (valid_any l A c w h hA hc D hz)
  have H := Lib.hid h
  have HD := Lib.hid D
  obtain ⟨L, hL⟩ : ∃ n, n = l.length := ⟨_, rfl⟩
  have HL := Lib.hid hL
  rw [← hL] at hl HV ⊢
  clear h D hL hA hz
  go_enter Tryz.func6, Tryz.ntmps6
  go_wp2_with fail
  refine HV.out.mono ?_
  rintro e w1 ⟨rfl, B1⟩
  have HB1 := Lib.hid B1
  have HH1 := Lib.hid (H.out.below B1)
  have HD1 := Lib.hid (HD.out.below B1)
  obtain ⟨ve, hve⟩ : ∃ ve, ve = validE l := ⟨_, rfl⟩
  have HVE := Lib.hid hve
  rw [← hve]
  clear HV B1 hve H HD
  by_cases h0 : ve = 0
  · have ee : (ve != 0) = false := by rw [h0]; rfl
    have HFM := Lib.hid (show fmtE l = (bs (textE l l.length), 0) by unfold fmtE; rw [if_pos (by rw [← HVE.out]; exact h0)])
    have HOK := Lib.hid (fun x (hx : x ∈ l) => okW_of (by rw [← HVE.out]; exact h0) hx)
    have hm : L ≤ 128 := by
      have hv := HVE.out
      rw [h0] at hv
      unfold validE at hv
      split at hv
      · cases hv
      · have := HL.out; omega
    have BU : Hid (Lib.IsBuilder 49 5 w1.heap.size w1.heap.size [] (w1.alloc (.cells #[.pointer none, .slice none 0 0] 49))) := Lib.hid (Lib.fresh_isBuilder _ _ w1)
    have b2 : Below w1.heap.size w1 (w1.alloc (.cells #[.pointer none, .slice none 0 0] 49)) := (Below.refl _ _).alloc (Nat.le_refl _) _
    have HB2 := Lib.hid b2
    clear h0 b2
    go_upto_region 6 with fail
    go_loopw [15] (fun i wr => ∃ k : Nat, k ≤ L ∧ i = .int .i64 k ∧ Hid (Lib.IsBuilder 49 5 w1.heap.size w1.heap.size (Lib.byteCells (textE l k)) wr) ∧ Hid (Below w1.heap.size w1 wr) ∧ Hid ((textE l k).length ≤ k * 301)) (fun i _ => L - (intOf i).toNat)
    case atStart => exact ⟨0, by omega, rfl, BU, HB2, Lib.hid (by simp [textE])⟩
    case round =>
      clear BU HB2
      obtain ⟨k, hk, rfl, U, B, TL⟩ := hrel
      by_cases hlt : k < L
      · obtain ⟨x, hx, hd, ht⟩ := drop_ex (l := l) (k := k) (by rw [← HL.out]; exact hlt)
        have hmem := List.mem_of_getElem? hx
        obtain ⟨ad, rfl, C⟩ := (HH1.out.below B.out).at_ hx
        obtain ⟨c0, c1, c2, c3, c4, c5, c6, c7⟩ := ESpelt.of C
        have HO := Lib.hid (HOK.out x hmem)
        have hnx := HO.out.z x hmem
        have HTX := Lib.hid (textE_snoc ht)
        have b3 : Below w1.heap.size w1 (wr.alloc (.cells #[.int .i64 x.kind, .string x.name, .int .i64 x.par, .int .i64 x.side, .int .i64 x.len, .int .i64 x.gra, .int .i64 x.cur, .int .i64 x.pow] 39)) := B.out.alloc B.out.size _
        have hw := wof_any x l (some ad) c (wr.alloc (.cells #[.int .i64 x.kind, .string x.name, .int .i64 x.par, .int .i64 x.side, .int .i64 x.len, .int .i64 x.gra, .int .i64 x.cur, .int .i64 x.pow] 39)) (HH1.out.below b3) (HD1.out.below b3) HO.out
        rw [← HL.out] at hw
        have HW := Lib.hid hw
        have HLE := Lib.hid (lineT_le HO.out hnx)
        have HB3 := Lib.hid b3
        have hul : w1.heap.size < wr.heap.size := by
          rcases U.out with u | u <;> exact u.lt
        have UB : Hid (∀ W, Below wr.heap.size wr W → Lib.IsBuilder 49 5 w1.heap.size w1.heap.size (Lib.byteCells (textE l k)) W) := Lib.hid (fun W hb => IsBuilder.belowL U.out hb)
        clear hx hd ht C hmem hnx hw b3
        go_wp2_with fail
        refine HW.out.mono ?_
        rintro e w3 ⟨v, rfl, S3, B3⟩
        obtain ⟨A3, cq, rfl, R3, hc3, hA3, hAg⟩ := S3.full
        obtain ⟨g3, rfl, hg3⟩ : ∃ g3, A3 = some ⟨g3, 0, none⟩ ∧ g3 < w3.heap.size := by
          cases A3 with
          | none => exact absurd (List.length_eq_zero_iff.1 (hA3 rfl)) (wof_ne x l)
          | some ad => obtain ⟨g, e, h⟩ := hAg ad rfl; exact ⟨g, by rw [e], h⟩
        have hj := Any.strings_Join joinS joinX g3 0 cq (wofE x l) ⟨#[32]⟩ w3 (fun j y hy => by
          obtain ⟨ad, e, _, hc⟩ := R3.at_ hy
          injection e with e
          subst e
          rw [add_own] at hc
          rw [Nat.zero_add]; exact hc) hg3 (by have := wof_few HO.out; omega) hc3 (by have := HLE.out; show (Lib.join _ [32]).length ≤ _; omega)
        change Calls Tryz.prog 16 _ _ _ at hj
        have HJ : Hid (Calls Tryz.prog 16 #[.slice (some ⟨g3, 0, none⟩) (wofE x l).length cq, .string ⟨#[32]⟩] w3 (fun e w' => e = .returned (.string (bs (Lib.join ((wofE x l).map (·.data.toList)) [32]))) ∧ Below w3.heap.size w3 w')) := Lib.hid hj
        have HLT := Lib.hid (show lineT x l = Lib.join ((wofE x l).map (·.data.toList)) [32] ++ [10] from rfl)
        generalize Lib.join ((wofE x l).map (·.data.toList)) [32] = jn at HLE HJ HLT
        have HB33 := Lib.hid (show Below wr.heap.size wr w3 from below1 B3)
        clear hj B3 S3 R3 hc3 hA3 hAg hg3 c0 c1 c2 c3 c4 c5 c6 c7 HW
        go_wp2_with fail
        refine HJ.out.mono ?_
        rintro e w4 ⟨rfl, B4⟩
        have HB4 := Lib.hid (show Below wr.heap.size wr w4 from HB33.out.trans (B4.mono HB33.out.size))
        have hbw : w1.heap.size ≤ w4.heap.size := by have := B.out.size; have := HB4.out.size; omega
        have hws := Any.Builder_WriteString wrS joinX w1.heap.size w1.heap.size (Lib.byteCells (textE l k)) (bs jn) w4 (UB.out w4 HB4.out) (by rw [Lib.byteCells_length]; have := TL.out; have := HLE.out; show _ + jn.length ≤ _; omega) hbw
        change Calls Tryz.prog 15 _ _ _ at hws
        have HWS := Lib.hid hws
        clear hws HJ B4
        go_wp2_with fail
        refine HWS.out.mono ?_
        rintro e w5 ⟨rfl, U5, B5⟩
        have hU5 : Lib.IsBuilder 49 5 w1.heap.size w1.heap.size (Lib.byteCells (textE l k ++ jn)) w5 := by
          rw [Lib.byteCells_append]; exact Or.inr U5
        have hwb := Any.Builder_WriteByte wrB wrBX w1.heap.size w1.heap.size (Lib.byteCells (textE l k ++ jn)) 10 w5 hU5 (by rw [Lib.byteCells_length, List.length_append]; have := TL.out; have := HLE.out; omega) (by have := B5.size; omega)
        change Calls Tryz.prog 18 _ _ _ at hwb
        have HWB := Lib.hid hwb
        have HB5 := Lib.hid (show Below w1.heap.size w1 w5 from (B.out.trans (HB4.out.mono B.out.size)).trans B5)
        clear hwb hU5 U5 B5 HWS hbw
        go_wp2_with fail
        refine HWB.out.mono ?_
        rintro e w6 ⟨rfl, U6, B6⟩
        have hU6 : Lib.IsBuilder 49 5 w1.heap.size w1.heap.size (Lib.byteCells (textE l (k + 1))) w6 := by
          rw [HTX.out, HLT.out, ← List.append_assoc, Lib.byteCells_append]; exact Or.inr U6
        have HU6 := Lib.hid hU6
        have HB6 := Lib.hid (HB5.out.trans B6)
        have HT6 : Hid ((textE l (k + 1)).length ≤ (k + 1) * 301) := Lib.hid (by
          rw [HTX.out, HLT.out, List.length_append, List.length_append]
          have := TL.out; have := HLE.out; simp; omega)
        clear hU6 U6 B6 HWB
        go_wp2_with fail
        go_roundw
        case rel => exact ⟨k + 1, by omega, by go_num, HU6, HB6, HT6⟩
        case measure => simp [intOf]; omega
      · obtain rfl : k = L := by omega
        have hst := Any.Builder_String_any { joinS with } joinX w1.heap.size w1.heap.size (textE l k) wr U.out B.out.size
        change Calls Tryz.prog 19 _ _ _ at hst
        have HST : Hid (Calls Tryz.prog 19 #[.pointer (some ⟨w1.heap.size, 0, none⟩)] wr (fun e w' => e = .returned (.string (bs (textE l k))) ∧ Below w1.heap.size wr w')) := Lib.hid hst
        clear hst hlt
        go_wp2_with fail
        refine HST.out.mono ?_
        rintro e w2 ⟨rfl, B2⟩
        have HBF := Lib.hid (HB1.out.trans ((B.out.trans B2).mono HB1.out.size))
        clear B2
        go_wp2_with fail
        go_ret2
        exact ⟨by rw [HFM.out, ← HL.out]; rfl, HBF.out⟩
  · have ee : (ve != 0) = true := bne_iff_ne.2 h0
    have HFM := Lib.hid (show fmtE l = (⟨#[]⟩, ve) by unfold fmtE; rw [if_neg (by rw [← HVE.out]; exact h0), HVE.out])
    clear h0
    go_wp2_with fail
    go_ret2
    exact ⟨by rw [HFM.out]; rfl, HB1.out⟩
end Go.Proofs.YtdoifaifhikkjaaGreatDoor
