/-
  Stage 5: the program's inRange, sensesOf, Valid.
-/
import Derived.Test.YtbnlaopmmgoalaaSMap
import Derived.Test.YtbnlaopmmgoalaaSPlain
import Derived.Test.YtbnlaopmmgoalaaSValid
set_option linter.unusedSimpArgs false
set_option linter.unusedVariables false
namespace Go.Proofs.Ytbnlaopmmgoalaa
open Go.RowKit

theorem okB_dec {p : Pul} {b : Bool} (h : b = true ↔ okB p) : b = decide (okB p) := by
  cases b with
  | true => exact (decide_eq_true (h.1 rfl)).symm
  | false => exact (decide_eq_false (fun g => by have := h.2 g; cases this)).symm
set_option maxHeartbeats 800000 in
theorem bin_any (d t s : Int) (w : World) :
    Calls Try.prog 33 #[.agg #[.int .i64 d, .int .i64 t, .int .i64 s]] w fun e w' => e = .returned (.bool (decide (okB (d, t, s)))) ∧ Below w.heap.size w w' := by
  by_cases h1 : 0 ≤ d
  · by_cases h2 : d ≤ 31
    · by_cases h3 : 0 ≤ t
      · by_cases h4 : t ≤ 31
        · by_cases h5 : s = 1
          · subst h5
            go_enter Try.func33, Try.ntmps33
            go_wp2
            go_ret
            exact ⟨ret_bool (okB_dec (by unfold okB; simp; omega)), (Below.refl _ _).alloc (Nat.le_refl _) _⟩
          · have h5' : (s == 1) = false := by rw [beq_eq_false_iff_ne]; exact h5
            go_enter Try.func33, Try.ntmps33
            go_wp2
            go_ret
            exact ⟨ret_bool (okB_dec (by unfold okB; simp; omega)), (Below.refl _ _).alloc (Nat.le_refl _) _⟩
        · go_enter Try.func33, Try.ntmps33
          go_wp2
          go_ret
          exact ⟨ret_bool (okB_dec (by unfold okB; simp; omega)), (Below.refl _ _).alloc (Nat.le_refl _) _⟩
      · go_enter Try.func33, Try.ntmps33
        go_wp2
        go_ret
        exact ⟨ret_bool (okB_dec (by unfold okB; simp; omega)), (Below.refl _ _).alloc (Nat.le_refl _) _⟩
    · go_enter Try.func33, Try.ntmps33
      go_wp2
      go_ret
      exact ⟨ret_bool (okB_dec (by unfold okB; simp; omega)), (Below.refl _ _).alloc (Nat.le_refl _) _⟩
  · go_enter Try.func33, Try.ntmps33
    go_wp2
    go_ret
    exact ⟨ret_bool (okB_dec (by unfold okB; simp; omega)), (Below.refl _ _).alloc (Nat.le_refl _) _⟩

theorem take_at {l : List Pul} {k : Nat} {b : Pul} (hb : b = l.getD k (0, 0, 0)) (hk : k < l.length) : l.take (k + 1) = l.take k ++ [b] := by
  rw [hb, List.take_succ_eq_append_getElem hk, List.getD_eq_getElem?_getD, List.getElem?_eq_getElem hk, Option.getD_some]
theorem sen_upd {p : List Pul} {b : Pul} (h : sen p b.1 b.2.1 = none) : sen (p ++ [b]) = upd (sen p) b.1 b.2.1 b.2.2 := by
  funext s d
  rw [sen_snoc]
  unfold upd
  by_cases g : b.1 = s ∧ b.2.1 = d
  · obtain ⟨rfl, rfl⟩ := g
    simp [h]
  · rw [if_neg (fun e : s = b.1 ∧ d = b.2.1 => g ⟨e.1.symm, e.2.symm⟩)]
    cases e : sen p s d with
    | some z => rfl
    | none => simp only [if_neg g]
theorem wf_small {s : Int} (h : -1000 ≤ s ∧ s ≤ 1000) : (Lit.int .i64 s).wf = true := WalkArith.wf_i64 (by omega)
def SensPost (l : List Pul) (w : World) (e : Ending) (w' : World) : Prop :=
  ∃ v, e = .returned (.tuple #[v, .int .i64 (bordR l)]) ∧ Below w.heap.size w w' ∧ (bordR l = 0 → ∃ b, v = .map (some b) ∧ SMap w' b 64 (sen l))
theorem SensPost.mk' {l : List Pul} {w w' : World} {e : Ending} {v : Value} {x : Int} (h : bordR l = x) (h1 : e = .returned (.tuple #[v, .int .i64 x])) (h2 : Below w.heap.size w w') (h3 : x = 0 → ∃ b, v = .map (some b) ∧ SMap w' b 64 (sen l)) : SensPost l w e w' := by
  subst h; exact ⟨v, h1, h2, h3⟩

set_option maxHeartbeats 800000 in
theorem sens_any (l : List Pul) (A : Option Addr) (c : Nat) (w : World) (h : PRow w A l) :
    Calls Try.prog 24 #[.slice A l.length c] w (SensPost l w) := by
  have hl : l.length ≤ 9223372036854775807 := h.len
  by_cases hbig : 64 < l.length
  · have HP := Lib.hid (show bordR l = 3 by unfold bordR; rw [if_pos hbig])
    have hb : (64 : Int) < (l.length : Int) := by omega
    clear h
    go_enter Try.func24, Try.ntmps24
    go_wp2_with fail
    go_ret2
    exact SensPost.mk' HP.out rfl (Below.refl _ _) (fun h => absurd h (by decide))
  · have H := Lib.hid h
    have HP := Lib.hid (show bordR l = bw [] l by unfold bordR; rw [if_neg hbig])
    obtain ⟨L, hL⟩ : ∃ n, n = l.length := ⟨_, rfl⟩
    have HL := Lib.hid hL
    rw [← hL] at hl hbig ⊢
    have hmm : ∀ w, (Instr.makeMap 49 (some (.int .i64 (L : Int)))).run Try.prog w = .ok (.map (some w.heap.size)) (w.alloc (.map #[] 0)) := fun w => by
      simp [Instr.makeMap, run_underlying Try.underlying49, Result.andThen, asInt, asIntOf]
    clear h hL
    go_enter Try.func24, Try.ntmps24
    go_wp2_with fail
    go_loopw [18] (fun i wr => ∃ k : Nat, k ≤ L ∧ i = .int .i64 k ∧ Hid (bw [] l = bw (l.take k) (l.drop k)) ∧ Hid (SMap wr w.heap.size k (sen (l.take k))) ∧ Hid (Below w.heap.size w wr)) (fun i _ => L - (intOf i).toNat)
    case atStart => exact ⟨0, by omega, rfl, Lib.hid rfl, Lib.hid (SMap.made w), Lib.hid ((Below.refl _ _).alloc (Nat.le_refl _) _)⟩
    case round =>
      obtain ⟨k, hk, rfl, V, M, B⟩ := hrel
      by_cases hlt : k < L
      · obtain ⟨ad, rfl, C⟩ := (H.out.below B.out).at_ k (by rw [← HL.out]; exact hlt)
        have hd := drop_at (l := l) (k := k) (by rw [← HL.out]; exact hlt)
        obtain ⟨⟨s, d, z⟩, hp⟩ : ∃ p, p = l.getD k (0, 0, 0) := ⟨_, rfl⟩
        have ht := take_at hp (by rw [← HL.out]; exact hlt)
        rw [← hp] at C hd
        have hv := V.out
        rw [hd] at hv
        have HV := Lib.hid hv
        have HT := Lib.hid ht
        obtain ⟨c0, c1, c2⟩ := C.spelt
        clear hp hd hv V C ht
        go_wp2_with fail
        refine (bin_any s d z _).mono ?_
        rintro e w' ⟨rfl, B1⟩
        clear c0 c1 c2
        have P1 := (Pl.new (w := wr) (p := (s, d, z)) (T := 24) wr.heap.size rfl).below B1
        have BB := Lib.hid (B.out.trans ((below1 B1).mono B.out.size))
        have M1 := Lib.hid ((M.out.alloc (.cells #[.int .i64 s, .int .i64 d, .int .i64 z] 24)).below B1)
        clear B1 M
        by_cases ho : okB (s, d, z)
        · have e1 : decide (okB (s, d, z)) = true := decide_eq_true ho
          rw [e1]
          have hs : (Lit.int .i64 s).wf = true := wf_small (by have := ho.1; simp only at this; omega)
          have hd : (Lit.int .i64 d).wf = true := wf_small (by have := ho.2.1; simp only at this; omega)
          have hz : (Lit.int .i64 z).wf = true := wf_small (by have := ho.2.2; simp only at this; omega)
          have HO := Lib.hid ho
          have M2 := Lib.hid (M1.out.alloc (.cells #[.int .i64 s, .int .i64 d] 65))
          have hlook := M2.out.look s d hs hd
          have HS := Lib.hid hs
          have HD := Lib.hid hd
          have HZ := Lib.hid hz
          obtain ⟨p0, p1, p2, plt⟩ := P1
          clear e1 ho hs hd hz M1
          cases hsen : sen (l.take k) s d with
          | some y =>
            rw [hsen] at hlook
            have HV2 := Lib.hid (HV.out.trans (bw_dup HO.out hsen))
            clear hsen
            go_wp2_with fail
            go_ret2
            exact SensPost.mk' (HP.out.trans HV2.out) rfl (BB.out.alloc (by have := BB.out.size; omega) _) (fun h => absurd h (by decide))
          | none =>
            rw [hsen] at hlook
            have HV2 := Lib.hid (HV.out.trans (bw_ok HO.out hsen))
            have HU := Lib.hid (sen_upd (p := l.take k) (b := (s, d, z)) hsen)
            obtain ⟨w3, hput, M3, G3⟩ := M2.out.put (by unfold maxLen; omega) s d z HS.out HD.out HZ.out
            have M3' := Lib.hid M3
            have G3' := Lib.hid G3
            clear hsen M3 G3
            go_wp2_with fail
            go_roundw
            case rel => exact ⟨k + 1, by omega, by go_num, Lib.hid (by rw [HT.out]; exact HV2.out), Lib.hid (by rw [HT.out, HU.out]; exact M3'.out), Lib.hid ((BB.out.alloc (by have := BB.out.size; omega) _).grown G3'.out (by simp; have := BB.out.size; omega) (fun j hj => by injection hj with hj; omega))⟩
            case measure => simp [intOf]; omega
        · have e1 : decide (okB (s, d, z)) = false := decide_eq_false ho
          have HV2 := Lib.hid (HV.out.trans (bw_bad ho))
          rw [e1]
          clear e1 ho
          go_wp2_with fail
          go_ret2
          exact SensPost.mk' (HP.out.trans HV2.out) rfl BB.out (fun h => absurd h (by decide))
      · obtain rfl : k = L := by omega
        have hv := V.out
        rw [HL.out, List.drop_length] at hv
        have HV := Lib.hid hv
        have hm := M.out
        rw [HL.out, List.take_length] at hm
        have HM := Lib.hid (hm.more (by have := HL.out; omega : l.length ≤ 64))
        clear hv hlt hk hm
        go_wp2_with fail
        go_ret2
        exact SensPost.mk' (HP.out.trans HV.out) rfl B.out (fun _ => ⟨_, rfl, HM.out⟩)

set_option maxHeartbeats 800000 in
theorem bvalid_any (l : List Pul) (A : Option Addr) (c : Nat) (w : World) (h : PRow w A l) :
    Calls Try.prog 9 #[.slice A l.length c] w fun e w' => e = .returned (.int .i64 (bordR l)) ∧ Below w.heap.size w w' := by
  have hl : l.length ≤ 9223372036854775807 := h.len
  have H := Lib.hid h
  clear h
  go_enter Try.func9, Try.ntmps9
  go_wp2_with fail
  refine (sens_any l A c w H.out).mono ?_
  rintro e w1 ⟨v, rfl, B1, _⟩
  go_wp2_with fail
  go_ret
  exact ⟨rfl, B1⟩
end Go.Proofs.Ytbnlaopmmgoalaa
