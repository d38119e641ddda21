/-
  GK, GPs, GS, MkFrom, GT, ZSorT, PU, GV, ASan, APos, ALst, ADuW, AMoW, CChk, CTake, CApp, CRd, CNum, CWagR, CMk, CMkW, CLs, CMkL, GMk, GMkL: joined.
-/
import Derived.BigQuiet
import Derived.Laws.Append
import Derived.StillTailTactics
import Derived.Deep.RegionLaw
import Derived.Lib.AppendStr
import Derived.Test.YtimkmieohkefiaaGreatBA1
import Derived.Test.YtimkmieohkefiaaGreatBA2
import Derived.Test.YtimkmieohkefiaaGreatBA3
import Derived.Test.YtimkmieohkefiaaGreatBA4
set_option linter.unusedSimpArgs false
set_option linter.unusedVariables false
namespace Go.Proofs.YtimkmieohkefiaaGreat
open Go.RowKit Go.Lib

/-- What an append of one item leaves. -/
def AppIt (base : Nat) (v : Value) (l : List It) (p : It) (W : World) (v' : Value) (w' : World) : Prop :=
  IOwn 52 w' base v' (l ++ [p]) ∧ W.grownBy w' v.ownBlock ∧ ∃ g c, v' = .slice (some ⟨g, 0, none⟩) (l.length + 1) c ∧ g < w'.heap.size
theorem wpList_appIt (W : World) {ops : Array Oper} {rest : List Oper} {o : Oper} {a : Act} {Q : Exit → Act → World → Prop} (hgd : o.guard = none) (s x : Operand)
    (ho : o.op = .call { callee := .builtin .append, args := #[s, x], argTypes := #[35, 35] }) (base : Nat) (v : Value) (l : List It) (hs : a.eval s = v) (O : IOwn 52 W base v l)
    (p : It) (w0 : World) (hW : W = w0.alloc (.cells #[.int .i64 p.1, .int .i64 p.2.1, .int .i64 p.2.2.1, .int .i64 p.2.2.2] 52)) (z : Nat) (hz : w0.heap.size = z) (hx : a.eval x = .slice (some ⟨z, 0, none⟩) 1 1)
    (hl : l.length ≤ 1000000) (hb : base ≤ W.heap.size)
    (h : ∀ v' w', AppIt base v l p W v' w' → wpList Tryz.prog ops Q rest (a.put o.dst v') w') : wpList Tryz.prog ops Q (o :: rest) a W := by
  obtain ⟨i0, hi, hz0, hz1, hz2⟩ := info_parts infoItem17
  subst hz
  have O' : World.ownsRow W base 52 4 v l.length ((flatI l).map (Value.int .i64)) := O
  refine wpList_append_lies W hgd s x 35 ho base 52 i0 (.agg #[.int .i64 0, .int .i64 0, .int .i64 0, .int .i64 0]) 4 32 Tryz.underlying35 hi hz0 hz1 hz2 rfl (by decide) v l.length ((flatI l).map (Value.int .i64)) hs O' ⟨w0.heap.size, 0, none⟩ 1 1 ((flatI [p]).map (Value.int .i64)) hx rfl (by rw [hW]; exact news_int (W := w0) (ys := flatI [p])) (one_cells (ys := flatI [p])) (by decide) (by unfold maxLen; omega) (by omega) hb W.heap.size rfl ?_
  intro g cap w1 hown hg hat hlt
  exact h _ w1 ⟨IOwn.app (l := l) (m := [p]) hown rfl rfl, hg, g, cap, rfl, hlt⟩
/-- The items of the wagons, behind those that there are. -/
def itsZ (os : List (List ByteArray)) : List It → List Wag → List It × Int
  | out, [] => (out, 0)
  | out, x :: l => if validW x ≠ 0 then ([], validW x) else if (plcZ x.dst 0 os).2.2 = true then itsZ os (out ++ [((plcZ x.dst 0 os).1, (plcZ x.dst 0 os).2.1, 0, x.len)]) l else ([], 13)
def itemsR (os : List (List ByteArray)) (l : List Wag) : List It × Int := if limB os l.length = true then itsZ os [] l else ([], 3)
theorem itsZ_at (os : List (List ByteArray)) (out : List It) {l : List Wag} {k : Nat} {x : Wag} (hk : l[k]? = some x) :
    itsZ os out (l.drop k) = if validW x ≠ 0 then ([], validW x) else if (plcZ x.dst 0 os).2.2 = true then itsZ os (out ++ [((plcZ x.dst 0 os).1, (plcZ x.dst 0 os).2.1, 0, x.len)]) (l.drop (k + 1)) else ([], 13) := by
  obtain ⟨hl, rfl⟩ := List.getElem?_eq_some_iff.1 hk
  rw [List.drop_eq_getElem_cons hl]; rfl
def ItmPost (os : List (List ByteArray)) (l : List Wag) (w : World) (e : Ending) (w' : World) : Prop :=
  ∃ v, e = .returned (.tuple #[v, .int .i64 (itemsR os l).2]) ∧ IOwn 52 w' w.heap.size v (itemsR os l).1 ∧ Below w.heap.size w w'
set_option maxRecDepth 100000 in
set_option maxHeartbeats 6400000 in
theorem items_any (os : List (List ByteArray)) (l : List Wag) (A B : Option Addr) (n c m d : Nat) (hn : n = os.length) (hnm : n ≤ maxLen) (hm : m = l.length) (w : World) (h : ORw w A os) (hl : RRow WR w B l) :
    Calls Tryz.prog 17 #[.slice A n c, .slice B m d] w (ItmPost os l w) := by
  have HLM := Lib.hid (limits_any os A B n c m d hn hnm (by rw [hm]; exact hl.len) w h)
  have HPL := Lib.hid (fun (s : ByteArray) (W : World) (k : Below w.heap.size w W) => place_any os s A n c hn hnm W (h.below k))
  have HRW := Lib.hid hl
  have HM := Lib.hid hm
  have hmm : m ≤ 9223372036854775807 := by rw [hm]; exact hl.len
  obtain ⟨r, hr⟩ : ∃ r, r = itemsR os l := ⟨_, rfl⟩
  have HR := Lib.hid (show r = if limB os m = true then itsZ os [] l else ([], 3) by rw [hr, hm]; rfl)
  have HP := Lib.hid (show ∀ v W, IOwn 52 W w.heap.size v r.1 → Below w.heap.size w W → ItmPost os l w (.returned (.tuple #[v, .int .i64 r.2])) W from fun v W h1 h2 => ⟨v, by rw [hr], by rw [← hr]; exact h1, h2⟩)
  clear h hl hn hnm hm hr
  go_enter Tryz.func17, Tryz.ntmps17
  go_wp2_with fail
  refine HLM.out.mono ?_
  rintro e w1 ⟨rfl, B1⟩
  have HB := Lib.hid B1
  clear B1 HLM
  cases hlb : limB os m with
  | false =>
    have HE := Lib.hid (show r = ([], 3) by rw [HR.out, hlb]; rfl)
    clear hlb HR
    go_wp2_with fail
    go_ret2
    have := HP.out (.slice none 0 0) w1 (by rw [HE.out]; exact IOwn.nil) HB.out
    rw [HE.out] at this
    exact this
  | true =>
    have HE := Lib.hid (show itsZ os [] l = r by rw [HR.out, hlb, if_pos rfl])
    have HM96 := Lib.hid (show m ≤ 96 by unfold limB at hlb; simp at hlb; omega)
    have hm96 := HM96.out
    clear hlb HR
    go_upto_region 5 with fail
    obtain ⟨bb, hbb⟩ : ∃ b, b = w1.heap.size := ⟨_, rfl⟩
    have HBB := Lib.hid hbb
    have HWB := Lib.hid (show w.heap.size ≤ bb by rw [hbb]; exact HB.out.size)
    clear hbb
    go_loopw [6, 19] (fun v6 iv wr => ∃ (k : Nat) (out : List It), k ≤ m ∧ iv = .int .i64 (k : Int) ∧ Hid (itsZ os out (l.drop k) = r ∧ out.length = k) ∧ Hid (IOwn 52 wr bb v6 out) ∧ Hid (Below bb w1 wr)) (fun _ iv _ => m - (intOf iv).toNat)
    case atStart => exact ⟨0, [], Nat.zero_le _, rfl, Lib.hid ⟨by rw [List.drop_zero]; exact HE.out, rfl⟩, Lib.hid IOwn.nil, Lib.hid (by rw [HBB.out]; exact Below.refl _ _)⟩
    case round =>
      obtain ⟨k, out, hk, rfl, HF, HO, HR⟩ := hrel
      have HZ := Lib.hid (show bb ≤ wr.heap.size by rw [HBB.out]; exact HR.out.size)
      have HBW := Lib.hid (HB.out.trans (HR.out.mono HWB.out))
      by_cases hlt : k < m
      · obtain ⟨x, hx⟩ : ∃ x, l[k]? = some x := ⟨_, List.getElem?_eq_getElem (by rw [← HM.out]; exact hlt)⟩
        have hat := itsZ_at os out hx
        rw [HF.out.1] at hat
        have HAT := Lib.hid hat
        obtain ⟨ad, rfl, CR⟩ := (HRW.out.below HBW.out).at_ hx
        have CX := WSpelt.of CR
        have HVC := Lib.hid (fun W => cvalid_any x W)
        obtain ⟨vv, hvv⟩ : ∃ z, z = validW x := ⟨_, rfl⟩
        have HVV := Lib.hid hvv
        obtain ⟨x0, x1, x2, x3, x4, x5, x6, x7⟩ := x
        have c0 : wr.cell? (ad.add (k * 8)) = some (.string x0) := CX.c0
        have c1 : wr.cell? ⟨(ad.add (k * 8)).block, (ad.add (k * 8)).off + 1, none⟩ = some (.int .i64 x1) := CX.c1
        have c2 : wr.cell? ⟨(ad.add (k * 8)).block, (ad.add (k * 8)).off + 2, none⟩ = some (.int .i64 x2) := CX.c2
        have c3 : wr.cell? ⟨(ad.add (k * 8)).block, (ad.add (k * 8)).off + 3, none⟩ = some (.int .i64 x3) := CX.c3
        have c4 : wr.cell? ⟨(ad.add (k * 8)).block, (ad.add (k * 8)).off + 4, none⟩ = some (.int .i64 x4) := CX.c4
        have c5 : wr.cell? ⟨(ad.add (k * 8)).block, (ad.add (k * 8)).off + 5, none⟩ = some (.int .i64 x5) := CX.c5
        have c6 : wr.cell? ⟨(ad.add (k * 8)).block, (ad.add (k * 8)).off + 6, none⟩ = some (.bool x6) := CX.c6
        have c7 : wr.cell? ⟨(ad.add (k * 8)).block, (ad.add (k * 8)).off + 7, none⟩ = some (.string x7) := CX.c7
        have HLB := Lib.hid CR.lt
        have HKL := Lib.hid HF.out.2
        have B4 := Lib.hid (box1W wr (.cells #[.string x0, .int .i64 x1, .int .i64 x2, .int .i64 x3, .int .i64 x4, .int .i64 x5, .bool x6, .string x7] 33))
        have O4 := Lib.hid (HO.out.below B4.out)
        have Y4 := Lib.hid (show AB 33 (wr.alloc (.cells #[.string x0, .int .i64 x1, .int .i64 x2, .int .i64 x3, .int .i64 x4, .int .i64 x5, .bool x6, .string x7] 33)) wr.heap.size [.string x0, .int .i64 x1, .int .i64 x2, .int .i64 x3, .int .i64 x4, .int .i64 x5, .bool x6, .string x7] from AB.new wr [.string x0, .int .i64 x1, .int .i64 x2, .int .i64 x3, .int .i64 x4, .int .i64 x5, .bool x6, .string x7] 33 wr.heap.size rfl)
        have R4 := Lib.hid (HR.out.trans (B4.out.mono HZ.out))
        have HLT := Lib.hid hlt
        clear CX CR hx HO HR HBW HF hat hvv
        go_upto_region 7 with fail
        obtain ⟨y, hy⟩ : ∃ y, y = wr.heap.size := ⟨_, rfl⟩
        rw [← hy] at Y4 ⊢
        generalize wr.alloc (.cells #[.string x0, .int .i64 x1, .int .i64 x2, .int .i64 x3, .int .i64 x4, .int .i64 x5, .bool x6, .string x7] 33) = w4 at *
        clear hy c0 c1 c2 c3 c4 c5 c6 c7 B4
        have y0 := Y4.out.cell 0 (u := .string x0) rfl
        have y1 := Y4.out.cell 1 (u := .int .i64 x1) rfl
        have y2 := Y4.out.cell 2 (u := .int .i64 x2) rfl
        have y3 := Y4.out.cell 3 (u := .int .i64 x3) rfl
        have y4 := Y4.out.cell 4 (u := .int .i64 x4) rfl
        have y5 := Y4.out.cell 5 (u := .int .i64 x5) rfl
        have y6 := Y4.out.cell 6 (u := .bool x6) rfl
        have y7 := Y4.out.cell 7 (u := .string x7) rfl
        go_wp2_with fail
        refine (HVC.out w4).mono ?_
        rintro e w5 ⟨rfl, B5⟩
        rw [← HVV.out]
        have hs4 : bb ≤ w4.heap.size := by rw [HBB.out]; exact R4.out.size
        have O5 := Lib.hid (O4.out.below B5)
        have Y5 := Lib.hid (Y4.out.below B5 Y4.out.lt)
        have R5 := Lib.hid (R4.out.trans (B5.mono hs4))
        have W5 := Lib.hid (HB.out.trans (R5.out.mono HWB.out))
        clear y0 y1 y2 y3 y4 y5 y6 y7 hs4 O4 Y4 R4 B5 HVC
        by_cases hv0 : vv = 0
        · have HA1 := Lib.hid (show r = if (plcZ x7 0 os).2.2 = true then itsZ os (out ++ [((plcZ x7 0 os).1, (plcZ x7 0 os).2.1, 0, x1)]) (l.drop (k + 1)) else ([], 13) from by have := HAT.out; rw [← HVV.out, if_neg (fun g => g hv0)] at this; exact this)
          obtain ⟨p, hp⟩ : ∃ p, p = plcZ x7 0 os := ⟨_, rfl⟩
          have HPC := Lib.hid (HPL.out x7 w5 W5.out)
          rw [← hp] at HA1 HPC
          have HV0 := Lib.hid hv0
          subst hv0
          clear hp HAT
          have y7 := Y5.out.cell 7 (u := .string x7) rfl
          go_wp2_with fail
          refine HPC.out.mono ?_
          rintro e w6 ⟨rfl, B6⟩
          have hs5 : bb ≤ w5.heap.size := by rw [HBB.out]; exact R5.out.size
          have O6 := Lib.hid (O5.out.below B6)
          have Y6 := Lib.hid (Y5.out.below B6 Y5.out.lt)
          have R6 := Lib.hid (R5.out.trans (B6.mono hs5))
          have W6 := Lib.hid (HB.out.trans (R6.out.mono HWB.out))
          have HZ6 := Lib.hid (show bb ≤ w6.heap.size by rw [HBB.out]; exact R6.out.size)
          clear y7 hs5 O5 Y5 R5 W5 B6 HPC
          obtain ⟨p1, p2, p3⟩ := p
          simp only at HA1
          cases p3 with
          | false =>
            have HE2 := Lib.hid (show r = ([], 13) by rw [HA1.out]; rfl)
            clear HA1
            go_wp2_with fail
            go_ret2
            have := HP.out (.slice none 0 0) w6 (by rw [HE2.out]; exact IOwn.nil) W6.out
            rw [HE2.out] at this
            exact this
          | true =>
            have HE2 := Lib.hid (show itsZ os (out ++ [(p1, p2, 0, x1)]) (l.drop (k + 1)) = r by rw [HA1.out]; rfl)
            clear HA1
            obtain ⟨oA, oc, hv6, -⟩ := O6.out.full
            rw [HKL.out] at hv6
            subst hv6
            have y1 := Y6.out.cell 1 (u := .int .i64 x1) rfl
            have hk96 : k ≤ 96 := by omega
            have HK96 := Lib.hid hk96
            go_wp2_with (first | (at_builtin; refine wpList_appIt _ rfl (.tmp 38) (.tmp 44) rfl bb _ out rfl (O6.out.alloc _) (p1, p2, 0, x1) w6 rfl _ rfl rfl (by rw [HKL.out]; omega) (le_allocG HZ6.out) ?_; intro v8 w8 A8))
            have O8 := Lib.hid A8.1
            have R8 := Lib.hid (below_grown (R6.out.trans ((box1W w6 (.cells #[.int .i64 p1, .int .i64 p2, .int .i64 0, .int .i64 x1] 52)).mono HZ6.out)) A8.2.1 (fun g hg => (O6.out.block hg).1) (le_allocG HZ6.out))
            clear A8
            go_roundw
            case rel => exact ⟨k + 1, out ++ [(p1, p2, 0, x1)], by have := HLT.out; omega, by go_num, Lib.hid ⟨HE2.out, by rw [List.length_append, HKL.out]; rfl⟩, O8, R8⟩
            case measure => simp [intOf]; have := HLT.out; omega
        · have hne : (vv != 0) = true := bne_iff_ne.2 hv0
          have HE2 := Lib.hid (show r = ([], vv) by have := HAT.out; rw [← HVV.out, if_pos hv0] at this; exact this)
          clear hv0 HAT
          go_wp2_with fail
          go_ret2
          have := HP.out (.slice none 0 0) w5 (by rw [HE2.out]; exact IOwn.nil) W5.out
          rw [HE2.out] at this
          exact this
      · have HE2 := Lib.hid (show r = (out, 0) by have := HF.out.1; rw [List.drop_of_length_le (by rw [← HM.out]; omega)] at this; exact this.symm)
        go_wp2_with fail
        go_ret2
        have := HP.out _ wr (by rw [HE2.out]; exact HO.out.base HWB.out) HBW.out
        rw [HE2.out] at this
        exact this
end Go.Proofs.YtimkmieohkefiaaGreat

namespace Go.Proofs.YtimkmieohkefiaaGreat
open Go.RowKit Go.Lib

theorem back_ex {l : List It} {wt : Int} {bs v : List Int} (hf : FormOk l wt) (h : Sol l wt bs v) : ∀ (n y : Nat), y < l.length → blk l y < (n : Int) → ∃ c, IsBackB l v bs y c := by
  intro n
  induction n with
  | zero => intro y hy hb; have := (hf.blk y hy).1; omega
  | succ n ih =>
    intro y hy hb
    by_cases h0 : bs.getD y 0 ≤ 0
    · exact ⟨_, .one y h0⟩
    · have hM := h.base y hy
      rcases hM.hit with g | ⟨x, hx, e⟩
      · omega
      · have hx' : x < l.length := hx
        obtain ⟨z, hz, hzm⟩ : ∃ z, (z < l.length ∧ via l v z y = bs.getD y 0) ∧ ∀ u, u < z → via l v u y ≠ bs.getD y 0 := by
          have : ∀ k x, x < k → x < l.length → via l v x y = bs.getD y 0 → ∃ z, (z < l.length ∧ via l v z y = bs.getD y 0) ∧ ∀ u, u < z → via l v u y ≠ bs.getD y 0 := by
            intro k
            induction k with
            | zero => intro x hx; omega
            | succ k ihk =>
              intro x hxk hxl hxe
              by_cases g : ∃ u, u < x ∧ via l v u y = bs.getD y 0
              · obtain ⟨u, hu, hue⟩ := g
                exact ihk u (by omega) (by omega) hue
              · exact ⟨x, ⟨hxl, hxe⟩, fun u hu k => g ⟨u, hu, k⟩⟩
          exact this (x + 1) x (Nat.lt_succ_self _) hx' e
        have hr : rel l z y ≠ 0 := fun g => by
          have := via_zero (v := v) g
          omega
        obtain ⟨c, hc⟩ := ih z hz.1 (by have := (rel_pos hr).2; omega)
        exact ⟨_, .step y z c (by omega) hz.1 hz.2 hzm hc⟩
theorem mk_ex {l : List It} {wt : Int} {bs v : List Int} (hv : validR l wt = 0) (h : Sol l wt bs v) : ∃ st ch, MakeR l wt st v ch 0 := by
  have hf := formOk_of hv
  by_cases h0 : l.length = 0
  · have e : v = [] := List.length_eq_zero_iff.1 (h.vlen.trans h0)
    exact ⟨0, [], Or.inr (Or.inr ⟨hv, rfl, ⟨bs, h⟩, Or.inl ⟨e, rfl⟩⟩), Or.inr (Or.inr ⟨hv, rfl, bs, v, h, Or.inl ⟨h0, rfl⟩⟩)⟩
  · obtain ⟨M, hM⟩ := TopV.ex v v.length (by rw [h.vlen]; omega)
    obtain ⟨y, hy⟩ := hM.top
    obtain ⟨c, hc⟩ := back_ex hf h 33 y (by rw [← h.vlen]; exact hy.lt) (by have := (hf.blk y (by rw [← h.vlen]; exact hy.lt)).2; omega)
    exact ⟨_, toZ c, Or.inr (Or.inr ⟨hv, rfl, ⟨bs, h⟩, Or.inr ⟨M, hM, rfl⟩⟩), Or.inr (Or.inr ⟨hv, rfl, bs, v, h, Or.inr ⟨y, c, hy, hc, rfl⟩⟩)⟩
/-- A test for solutions. -/
def solB (l : List It) (wt : Int) (bs v : List Int) : Bool :=
  (v.length == l.length) && (bs.length == l.length) && (List.range l.length).all fun y =>
    decide (0 ≤ bs.getD y 0) && ((List.range l.length).all fun x => decide (via l v x y ≤ bs.getD y 0)) && (decide (bs.getD y 0 = 0) || (List.range l.length).any fun x => decide (via l v x y = bs.getD y 0)) && decide (nextZ (bs.getD y 0) (rnd l y) wt = (v.getD y 0, 0))
theorem sol_of {l : List It} {wt : Int} {bs v : List Int} (h : solB l wt bs v = true) : Sol l wt bs v := by
  unfold solB at h
  simp only [Bool.and_eq_true, beq_iff_eq, List.all_eq_true, List.mem_range, decide_eq_true_eq, Bool.or_eq_true, List.any_eq_true] at h
  obtain ⟨⟨h1, h2⟩, h3⟩ := h
  refine ⟨h1, h2, fun _ h => h, fun x y _ hx _ => hx, fun y hy => ?_, fun y hy => (h3 y hy).2, fun y hy => ?_⟩
  · obtain ⟨⟨⟨a, b⟩, c⟩, _⟩ := h3 y hy
    refine ⟨a, fun x hx => b x hx, ?_⟩
    rcases c with c | ⟨x, hx, e⟩
    · exact Or.inl c
    · exact Or.inr ⟨x, hx, e⟩
  · have : l.length ≤ y := Nat.not_lt.1 hy
    exact ⟨by rw [List.getD_eq_getElem?_getD, List.getElem?_eq_none (by omega)]; rfl, by rw [List.getD_eq_getElem?_getD, List.getElem?_eq_none (by omega)]; rfl⟩
/-- The scheme of a solution that is known. -/
theorem sc_at {l : List It} {wt : Int} {bs v : List Int} {S : Nat} (hv : validR l wt = 0) (h : Sol l wt bs v) (hs : StepsOf v (S : Int)) : ∃ ch, ScR l ⟨wt, (S : Int), mvZ l (S : Int) v, (pushZ l wt (S : Int) v).1, v, ch⟩ := by
  obtain ⟨st, ch, hm⟩ := mk_ex hv h
  have : LeastR l wt (S : Int) v 0 := Or.inr (Or.inr ⟨hv, rfl, ⟨bs, h⟩, hs⟩)
  obtain ⟨e, -, -⟩ := hm.1.uniq this
  subst e
  exact ⟨ch, hm, rfl, rfl⟩
abbrev its3 : List It := [(0, 0, 0, 100), (0, 0, 0, 100), (0, 1, 0, 100)]
abbrev its4 : List It := [(0, 1, 0, 100), (0, 3, 0, 100), (0, 0, 0, 100), (0, 2, 0, 100)]
set_option maxRecDepth 100000 in
theorem its3_sol : solB its3 0 [0, 0, 0] [0, 0, 0] = true ∧ solB its3 1 [0, 0, 0] [0, 0, 0] = true ∧ solB its3 2 [0, 0, 0] [0, 0, 0] = true ∧ solB its3 12 [0, 0, 0] [0, 0, 0] = true := by decide +kernel
set_option maxRecDepth 100000 in
theorem its4_sol : solB its4 1 [1, 2, 0, 1] [1, 2, 0, 1] = true ∧ solB its4 2 [1, 2, 0, 1] [1, 2, 0, 1] = true ∧ solB its4 12 [1, 2, 0, 1] [1, 2, 0, 1] = true := by decide +kernel
theorem its3_v : validR its3 0 = 0 := by decide
theorem its4_v : validR its4 0 = 0 := by decide
theorem its4_no : ∀ bs v, ¬ Sol its4 0 bs v := fun bs v h => by
  have hf := formOk_of its4_v
  have hb := h.bound hf
  have h2 := (h.base 0 (by decide)).le 2 (by decide)
  have e : via its4 v 2 0 = v.getD 2 0 + 1 := rfl
  have h3 : 1 ≤ bs.getD 0 0 := by
    have h4 : via its4 v 2 0 ≤ bs.getD 0 0 := h2
    have := (hb 2).1
    omega
  obtain ⟨j, hj, _⟩ := next_mono (a := 1) (by omega) h3 (hf.rb 0 (by decide)) hf.wb (h.code 0 (by decide))
  have h5 : nextZ 1 0 0 = (j, 0) := hj
  rw [next4.2.2.2.1] at h5
  injection h5 with _ h5
  omega
theorem steps3 : StepsOf [0, 0, 0] ((0 : Nat) : Int) := Or.inr ⟨0, ⟨by decide, ⟨0, by decide, rfl⟩⟩, by decide⟩
theorem steps4 : StepsOf [1, 2, 0, 1] ((2 : Nat) : Int) := Or.inr ⟨2, ⟨by decide, ⟨1, by decide, rfl⟩⟩, by decide⟩
set_option maxRecDepth 100000 in
theorem mv3 : mvZ its3 ((0 : Nat) : Int) [0, 0, 0] = 3 := by decide +kernel
set_option maxRecDepth 100000 in
theorem pu3 : (pushZ its3 0 ((0 : Nat) : Int) [0, 0, 0]).1 = 1 ∧ (pushZ its3 1 ((0 : Nat) : Int) [0, 0, 0]).1 = 1 ∧ (pushZ its3 2 ((0 : Nat) : Int) [0, 0, 0]).1 = 1 ∧ (pushZ its3 12 ((0 : Nat) : Int) [0, 0, 0]).1 = 1 := by decide +kernel
set_option maxRecDepth 100000 in
theorem ld4 : loadL its4 1 ((2 : Nat) : Int) [1, 2, 0, 1] = [200, 100, 400] := by decide +kernel
theorem q_first {P q : List Sc} (h : Srt17 P q) {s : Sc} (hs : s ∈ P) (hm : ∀ t ∈ P, t = s ∨ Bf s t) : q[0]? = some s := by
  have hq : s ∈ q := h.perm.mem_iff.2 hs
  obtain ⟨i, hi⟩ := List.mem_iff_getElem?.1 hq
  obtain ⟨hil, e⟩ := List.getElem?_eq_some_iff.1 hi
  rcases Nat.eq_zero_or_pos i with rfl | hp
  · exact hi
  · have h0 : 0 < q.length := by omega
    have hb := List.pairwise_iff_getElem.1 h.asc 0 i h0 hil hp
    rw [e] at hb
    rcases hm q[0] (h.perm.mem_iff.1 (List.getElem_mem h0)) with g | g
    · rw [g] at hb; exact absurd hb Bf.irr
    · exact absurd (hb.trans g) Bf.irr
theorem scL_cons {l : List It} : scL l = (scO l 0).toList ++ ((scO l 1).toList ++ ((scO l 2).toList ++ (scO l 12).toList)) := by
  unfold scL scK wts
  simp only [List.take, List.filterMap_cons, List.filterMap_nil]
  cases scO l 0 <;> cases scO l 1 <;> cases scO l 2 <;> cases scO l 12 <;> rfl
theorem scL_of3 {l : List It} {s1 s2 s3 : Sc} (e0 : scO l 0 = none) (h1 : ScR l s1) (w1 : s1.wt = 1) (h2 : ScR l s2) (w2 : s2.wt = 2) (h3 : ScR l s3) (w3 : s3.wt = 12) : scL l = [s1, s2, s3] := by
  have g1 := scO_some h1
  have g2 := scO_some h2
  have g3 := scO_some h3
  rw [w1] at g1; rw [w2] at g2; rw [w3] at g3
  rw [scL_cons, e0, g1, g2, g3]; rfl
theorem its3_sc : ∃ c0 c1 c2 c3, scL its3 = [⟨0, ((0 : Nat) : Int), 3, 1, [0, 0, 0], c0⟩, ⟨1, ((0 : Nat) : Int), 3, 1, [0, 0, 0], c1⟩, ⟨2, ((0 : Nat) : Int), 3, 1, [0, 0, 0], c2⟩, ⟨12, ((0 : Nat) : Int), 3, 1, [0, 0, 0], c3⟩] := by
  obtain ⟨a0, a1, a2, a3⟩ := its3_sol
  obtain ⟨p0, p1, p2, p3⟩ := pu3
  obtain ⟨c0, s0⟩ := sc_at (wt := 0) its3_v (sol_of a0) steps3
  obtain ⟨c1, s1⟩ := sc_at (wt := 1) ((valid_w (by decide) (by decide)).trans its3_v) (sol_of a1) steps3
  obtain ⟨c2, s2⟩ := sc_at (wt := 2) ((valid_w (by decide) (by decide)).trans its3_v) (sol_of a2) steps3
  obtain ⟨c3, s3⟩ := sc_at (wt := 12) ((valid_w (by decide) (by decide)).trans its3_v) (sol_of a3) steps3
  rw [mv3, p0] at s0
  rw [mv3, p1] at s1
  rw [mv3, p2] at s2
  rw [mv3, p3] at s3
  exact ⟨c0, c1, c2, c3, by rw [scL_cons, show scO its3 0 = _ from scO_some s0, show scO its3 1 = _ from scO_some s1, show scO its3 2 = _ from scO_some s2, show scO its3 12 = _ from scO_some s3]; rfl⟩
theorem sane3E : solE its3 = 0 := by
  obtain ⟨c0, c1, c2, c3, e⟩ := its3_sc
  unfold solE; rw [if_neg (fun g => g its3_v), e]; rfl
theorem sane3 {q : List Sc} (h : Srt17 (scL its3) q) : q.length = 4 ∧ ∃ s, q[0]? = some s ∧ s.wt = 0 ∧ s.st = 0 ∧ s.mv = 3 ∧ s.pu = 1 := by
  obtain ⟨c0, c1, c2, c3, e⟩ := its3_sc
  refine ⟨?_, ?_⟩
  · rw [h.len, e]; rfl
  · refine ⟨_, q_first h (s := ⟨0, ((0 : Nat) : Int), 3, 1, [0, 0, 0], c0⟩) (by rw [e]; exact List.mem_cons_self ..) (fun t ht => ?_), rfl, rfl, rfl, rfl⟩
    rw [e] at ht
    simp only [List.mem_cons, List.not_mem_nil, or_false] at ht
    rcases ht with rfl | rfl | rfl | rfl
    · exact Or.inl rfl
    · exact Or.inr (Or.inr ⟨rfl, Or.inr ⟨rfl, by simp only; omega⟩⟩)
    · exact Or.inr (Or.inr ⟨rfl, Or.inr ⟨rfl, by simp only; omega⟩⟩)
    · exact Or.inr (Or.inr ⟨rfl, Or.inr ⟨rfl, by simp only; omega⟩⟩)
theorem ord4 : IsOrd [200, 100, 400] [2, 0, 1] := ⟨by decide, by unfold Rk; decide⟩
theorem mout4 : MOut [200, 100, 400] [500, 500, 500] [2, 0, 1] [1, 2, 0] [] 0 := Or.inr (Or.inl ⟨by decide, by unfold OkTo; decide, by decide, rfl, rfl⟩)
abbrev s4a (c : List Int) : Sc := ⟨1, ((2 : Nat) : Int), mvZ its4 ((2 : Nat) : Int) [1, 2, 0, 1], (pushZ its4 1 ((2 : Nat) : Int) [1, 2, 0, 1]).1, [1, 2, 0, 1], c⟩
abbrev s4b (c : List Int) : Sc := ⟨2, ((2 : Nat) : Int), mvZ its4 ((2 : Nat) : Int) [1, 2, 0, 1], (pushZ its4 2 ((2 : Nat) : Int) [1, 2, 0, 1]).1, [1, 2, 0, 1], c⟩
abbrev s4c (c : List Int) : Sc := ⟨12, ((2 : Nat) : Int), mvZ its4 ((2 : Nat) : Int) [1, 2, 0, 1], (pushZ its4 12 ((2 : Nat) : Int) [1, 2, 0, 1]).1, [1, 2, 0, 1], c⟩
theorem its4_sc : ∃ c1 c2 c3, scL its4 = [s4a c1, s4b c2, s4c c3] := by
  obtain ⟨a1, a2, a3⟩ := its4_sol
  obtain ⟨c1, s1⟩ := sc_at (wt := 1) ((valid_w (by decide) (by decide)).trans its4_v) (sol_of a1) steps4
  obtain ⟨c2, s2⟩ := sc_at (wt := 2) ((valid_w (by decide) (by decide)).trans its4_v) (sol_of a2) steps4
  obtain ⟨c3, s3⟩ := sc_at (wt := 12) ((valid_w (by decide) (by decide)).trans its4_v) (sol_of a3) steps4
  have e0 : scO its4 0 = none := by
    cases e : scO its4 0 with
    | none => rfl
    | some t =>
      obtain ⟨h1, h2⟩ := (scO_spec its4 0).1 t e
      rcases h1.1.1 with ⟨g1, g2, _⟩ | ⟨_, g2, _⟩ | ⟨_, _, ⟨bs, g3⟩, _⟩
      · exact absurd g2.symm g1
      · cases g2
      · rw [h2] at g3; exact absurd g3 (its4_no _ _)
  exact ⟨c1, c2, c3, scL_of3 e0 s1 rfl s2 rfl s3 rfl⟩
theorem sane4E : solE its4 = 0 := by
  obtain ⟨c1, c2, c3, e⟩ := its4_sc
  unfold solE; rw [if_neg (fun g => g its4_v), e]; rfl
theorem sane4 {q : List Sc} {res : Option (Sc × List Int)} {rf : List Int} {er : Int} (h : Srt17 (scL its4) q) (k : PlanR its4 [500, 500, 500] q res rf er) : er = 0 ∧ ∃ s tk, res = some (s, tk) ∧ s.wt = 1 ∧ s.st = 2 := by
  obtain ⟨c1, c2, c3, e'⟩ := its4_sc
  have hq := q_first h (s := ⟨1, ((2 : Nat) : Int), mvZ its4 ((2 : Nat) : Int) [1, 2, 0, 1], (pushZ its4 1 ((2 : Nat) : Int) [1, 2, 0, 1]).1, [1, 2, 0, 1], c1⟩) (by rw [e']; exact List.mem_cons_self ..) (fun t ht => by
    rw [e'] at ht
    simp only [List.mem_cons, List.not_mem_nil, or_false] at ht
    rcases ht with rfl | rfl | rfl
    · exact Or.inl rfl
    · exact Or.inr (Or.inr ⟨rfl, Or.inr ⟨rfl, by simp only; omega⟩⟩)
    · exact Or.inr (Or.inr ⟨rfl, Or.inr ⟨rfl, by simp only; omega⟩⟩))
  have hm : MatR (ldS its4 ⟨1, ((2 : Nat) : Int), mvZ its4 ((2 : Nat) : Int) [1, 2, 0, 1], (pushZ its4 1 ((2 : Nat) : Int) [1, 2, 0, 1]).1, [1, 2, 0, 1], c1⟩) [500, 500, 500] [1, 2, 0] [] 0 := by
    show MatR (loadL its4 1 ((2 : Nat) : Int) [1, 2, 0, 1]) _ _ _ _
    rw [ld4]
    exact ⟨_, ord4, mout4⟩
  have hk : PlanR its4 [500, 500, 500] q (some (_, [1, 2, 0])) [] 0 := Or.inr (Or.inl ⟨by decide, 0, _, [1, 2, 0], hq, fun j t hj => absurd hj (Nat.not_lt_zero _), hm, rfl, rfl, rfl⟩)
  obtain ⟨rfl, -, rfl⟩ := k.uniq hk
  exact ⟨rfl, _, _, rfl, rfl, rfl⟩
abbrev wag17 : Wag := ⟨⟨#[51, 49, 56, 48, 50, 55, 55, 51, 49, 50, 51, 55]⟩, 100, 2, 100, 0, 0, false, ⟨#[97]⟩⟩
set_option maxRecDepth 100000 in
theorem items17 : itemsR [[⟨#[98]⟩]] [wag17] = ([], 13) := by decide +kernel
end Go.Proofs.YtimkmieohkefiaaGreat

namespace Go.Proofs.YtimkmieohkefiaaGreat
open Go.RowKit Go.Lib

def litI (bs : List Int) : List It := bs.map fun b => (0, b, 0, 100)
theorem litI_take {bs : List Int} {k : Nat} (hk : k < bs.length) : litI (bs.take (k + 1)) = litI (bs.take k) ++ [(0, bs.getD k 0, 0, 100)] := by
  unfold litI
  rw [List.take_add_one, List.map_append, List.getD_eq_getElem?_getD, List.getElem?_eq_getElem hk]; rfl
set_option maxHeartbeats 1600000 in
theorem litems_any (bs : List Int) (A : Option Addr) (n c : Nat) (hn : n = bs.length) (hm : n ≤ 1000) (w : World) (h : Row .i64 w w.heap.size A bs) :
    Calls Tryz.prog 14 #[.slice A n c] w fun e w' => ∃ v, e = .returned v ∧ IOwn 52 w' w.heap.size v (litI bs) ∧ Below w.heap.size w w' := by
  have H := Lib.hid h
  have HN := Lib.hid hn
  clear h hn
  go_enter Tryz.func14, Tryz.ntmps14
  go_wp2_with fail
  go_loopw [3, 8] (fun ov iv wr => ∃ k : Nat, k ≤ n ∧ iv = .int .i64 (k : Int) ∧ Hid (IOwn 52 wr w.heap.size ov (litI (bs.take k))) ∧ Hid (Below w.heap.size w wr)) (fun _ iv _ => n - (intOf iv).toNat)
  case atStart => exact ⟨0, Nat.zero_le _, rfl, Lib.hid IOwn.nil, Lib.hid (Below.refl _ _)⟩
  case round =>
    obtain ⟨k, hk, rfl, HO, HB⟩ := hrel
    by_cases hlt : k < n
    · obtain ⟨ad, rfl, hb, ck⟩ := (H.out.below HB.out) k (by rw [← HN.out]; exact hlt)
      have HT := Lib.hid (litI_take (bs := bs) (k := k) (by rw [← HN.out]; exact hlt))
      have HLT := Lib.hid hlt
      have HKL := Lib.hid (show (litI (bs.take k)).length = k by unfold litI; rw [List.length_map, List.length_take, ← HN.out]; omega)
      obtain ⟨z, hz⟩ : ∃ z, z = bs.getD k 0 := ⟨_, rfl⟩
      rw [← hz] at ck HT
      obtain ⟨oA, oc, hv6, -⟩ := HO.out.full
      rw [HKL.out] at hv6
      subst hv6
      clear hz
      go_wp2_with (first | (at_builtin; refine wpList_appIt _ rfl (.tmp 12) (.tmp 15) rfl w.heap.size _ (litI (bs.take k)) rfl (HO.out.alloc _) (0, z, 0, 100) wr rfl _ rfl rfl (by rw [HKL.out]; omega) (le_allocG HB.out.size) ?_; intro v8 w8 A8))
      have O8 := Lib.hid (show IOwn 52 w8 w.heap.size v8 (litI (bs.take (k + 1))) by rw [HT.out]; exact A8.1)
      have R8 := Lib.hid (below_grown (HB.out.trans ((box1W wr (.cells #[.int .i64 0, .int .i64 z, .int .i64 0, .int .i64 100] 52)).mono HB.out.size)) A8.2.1 (fun g hg => (HO.out.block hg).1) (le_allocG HB.out.size))
      clear A8
      go_roundw
      case rel => exact ⟨k + 1, by have := HLT.out; omega, by go_num, O8, R8⟩
      case measure => simp [intOf]; have := HLT.out; omega
    · have HT := Lib.hid (show bs.take k = bs from List.take_of_length_le (by rw [← HN.out]; omega))
      go_wp2_with fail
      go_ret
      exact ⟨_, rfl, by have := HO.out; rw [HT.out] at this; exact this, HB.out⟩
theorem IOwn.args {T : TypeId} {w : World} {base : Nat} {v : Value} {l : List It} (h : IOwn T w base v l) : ∃ A c, v = .slice A l.length c ∧ IRow w A l ∧ (A = none → l.length = 0 ∧ c = 0) := by
  obtain ⟨A, c, e, hr, _⟩ := h.full
  refine ⟨A, c, e, hr, fun hA => ?_⟩
  rcases h.2 with ⟨e2, _⟩ | ⟨g, cap, cur, e2, _⟩
  · rw [e] at e2
    injection e2 with _ e3 e4
    exact ⟨e3, e4⟩
  · rw [e, hA] at e2
    injection e2 with e3
    cases e3
abbrev nB : ByteArray := { data := #[98] }
abbrev wagC : Array Value := #[.string { data := #[51, 49, 56, 48, 50, 55, 55, 51, 49, 50, 51, 55] }, .int .i64 100, .int .i64 2, .int .i64 100, .int .i64 0, .int .i64 0, .bool false, .string { data := #[97] }]
theorem lit17 (w : World) : let W := ((w.alloc (.cells #[.string nB] 9)).alloc (.cells #[.slice (some ⟨w.heap.size, 0, none⟩) 1 1] 29)).alloc (.cells wagC 33)
    ORw W (some ⟨w.heap.size + 1, 0, none⟩) [[nB]] ∧ RRow WR W (some ⟨w.heap.size + 2, 0, none⟩) [wag17] ∧ Below w.heap.size w W := by
  intro W
  have e1 : (w.alloc (.cells #[.string nB] 9)).heap.size = w.heap.size + 1 := by simp
  have e2 : ((w.alloc (.cells #[.string nB] 9)).alloc (.cells #[.slice (some ⟨w.heap.size, 0, none⟩) 1 1] 29)).heap.size = w.heap.size + 2 := by simp
  have b1 := box1W w (.cells #[.string nB] 9)
  have b2 := box1W (w.alloc (.cells #[.string nB] 9)) (.cells #[.slice (some ⟨w.heap.size, 0, none⟩) 1 1] 29)
  have b3 := box1W ((w.alloc (.cells #[.string nB] 9)).alloc (.cells #[.slice (some ⟨w.heap.size, 0, none⟩) 1 1] 29)) (.cells wagC 33)
  have c1 : (w.alloc (.cells #[.string nB] 9)).cell? ⟨w.heap.size, 0, none⟩ = some (.string nB) := by rw [cell_new]; rfl
  have c2 : ((w.alloc (.cells #[.string nB] 9)).alloc (.cells #[.slice (some ⟨w.heap.size, 0, none⟩) 1 1] 29)).cell? ⟨w.heap.size + 1, 0, none⟩ = some (.slice (some ⟨w.heap.size, 0, none⟩) 1 1) := by rw [← e1, cell_new]; rfl
  have d1 : W.cell? ⟨w.heap.size, 0, none⟩ = some (.string nB) := (b3.cell (p := ⟨w.heap.size, 0, none⟩) (by rw [e2]; show w.heap.size < _; omega)).trans ((b2.cell (p := ⟨w.heap.size, 0, none⟩) (by rw [e1]; show w.heap.size < _; omega)).trans c1)
  have d2 : W.cell? ⟨w.heap.size + 1, 0, none⟩ = some (.slice (some ⟨w.heap.size, 0, none⟩) 1 1) := (b3.cell (p := ⟨w.heap.size + 1, 0, none⟩) (by rw [e2]; show w.heap.size + 1 < _; omega)).trans c2
  have e3 : W.heap.size = w.heap.size + 3 := by simp [W]
  refine ⟨fun k bs hk => ?_, ⟨fun j u hj => ⟨⟨w.heap.size + 2, 0, none⟩, rfl, by rw [e3]; show w.heap.size + 2 < _; omega, ?_⟩, by decide⟩, b1.trans ((b2.trans (b3.mono b2.size)).mono b1.size)⟩
  · cases k with
    | zero =>
      simp only [List.getElem?_cons_zero, Option.some.injEq] at hk
      subst hk
      refine ⟨⟨w.heap.size + 1, 0, none⟩, some ⟨w.heap.size, 0, none⟩, 1, rfl, by rw [e3]; show w.heap.size + 1 < _; omega, d2, fun j u hj => ?_, by decide⟩
      cases j with
      | zero =>
        simp only [List.map_cons, List.getElem?_cons_zero, Option.some.injEq] at hj
        subst hj
        exact ⟨_, rfl, by rw [e3]; show w.heap.size < _; omega, d1⟩
      | succ j => simp at hj
    | succ k => simp at hk
  · have h := newR (R := WR) (W := (w.alloc (.cells #[.string nB] 9)).alloc (.cells #[.slice (some ⟨w.heap.size, 0, none⟩) 1 1] 29)) (T := 33) (l := [wag17]) j u hj
    rw [e2] at h
    exact h
set_option maxRecDepth 100000 in
set_option maxHeartbeats 6400000 in
theorem sane17_any (w : World) : Calls Tryz.prog 16 #[] w fun e w' => e = .returned (.bool true) ∧ Below w.heap.size w w' := by
  have HI3 := Lib.hid (litems_any [0, 0, 1] (some ⟨w.heap.size, 0, none⟩) 3 3 rfl (by decide) (w.alloc (.cells #[.int .i64 0, .int .i64 0, .int .i64 1] 3)) (row_new (k := .i64) (W := w) (T := 3) [0, 0, 1]))
  have B0 := Lib.hid (box1W w (.cells #[.int .i64 0, .int .i64 0, .int .i64 1] 3))
  go_enter Tryz.func16, Tryz.ntmps16
  go_wp2_with fail
  refine HI3.out.mono ?_
  rintro e w1 ⟨v1, rfl, O1, B1⟩
  obtain ⟨A1, c1, rfl, R1, hA1⟩ := O1.args
  have HSC := Lib.hid (schemes_any its3 A1 c1 3 rfl w1 R1)
  have HB1 := Lib.hid (B0.out.trans (B1.mono B0.out.size))
  clear O1 B1 R1 hA1 HI3 B0
  go_wp2_with fail
  refine HSC.out.mono ?_
  rintro e w2 (⟨hq, rfl, B2⟩ | ⟨hq, v2, q, rfl, hs, O2, B2⟩)
  · exact absurd sane3E hq
  · obtain ⟨hl, s, hs0, e1, e2, e3, e4⟩ := sane3 hs
    obtain ⟨A2, c2, rfl, RR2⟩ := O2.slice
    rw [hl]
    have HS0 := Lib.hid hs0
    have HB2 := Lib.hid (HB1.out.trans (B2.mono HB1.out.size))
    have HR2 := Lib.hid RR2
    have HV := Lib.hid (And.intro e1 (And.intro e2 (And.intro e3 e4)))
    clear hq hs O2 RR2 hl hs0 e1 e2 e3 e4 B2 HSC HB1
    have HI4 := Lib.hid (litems_any [1, 3, 0, 2] (some ⟨w2.heap.size, 0, none⟩) 4 4 rfl (by decide) (w2.alloc (.cells #[.int .i64 1, .int .i64 3, .int .i64 0, .int .i64 2] 3)) (row_new (k := .i64) (W := w2) (T := 3) [1, 3, 0, 2]))
    have B3 := Lib.hid (box1W w2 (.cells #[.int .i64 1, .int .i64 3, .int .i64 0, .int .i64 2] 3))
    go_wp2_with fail
    refine HI4.out.mono ?_
    rintro e w4 ⟨v4, rfl, O4, B4⟩
    obtain ⟨A4, c4, rfl, R4, hA4⟩ := O4.args
    have B24 := Lib.hid (B3.out.trans (B4.mono B3.out.size))
    have HT := Lib.hid (box1W w4 (.cells #[.int .i64 500, .int .i64 500, .int .i64 500] 3))
    have HPC := Lib.hid (pplan_any its4 A4 c4 4 [500, 500, 500] (some ⟨w4.heap.size, 0, none⟩) 3 3 rfl hA4 rfl (by decide) (w4.alloc (.cells #[.int .i64 500, .int .i64 500, .int .i64 500] 3)) (R4.below HT.out) (row_new (k := .i64) (W := w4) (T := 3) [500, 500, 500]))
    clear O4 B4 R4 hA4 HI4 B3
    go_wp2_with fail
    refine HPC.out.mono ?_
    rintro e w5 ⟨res, rf, er, sh, vr, rfl, hp, hsh, -, B5⟩
    rcases hp with ⟨h0, _⟩ | ⟨_, q4, hq4, hpr⟩
    · exact absurd sane4E h0
    · obtain ⟨rfl, sc, tk, rfl, g1, g2⟩ := sane4 hq4 hpr
      have HSH := Lib.hid (show sh.wt = 1 ∧ sh.st = 2 from ⟨by rw [hsh.wt, g1], by rw [hsh.st, g2]⟩)
      have B25 := B24.out.trans ((HT.out.trans (B5.mono HT.out.size)).mono B24.out.size)
      have HB25 := Lib.hid B25
      clear hsh hq4 hpr g1 g2 B5 HPC HT B24 B25
      obtain ⟨iA, il, ic, wt, st, vA, vn, vc, uA, un, uc, tA, tn, tc⟩ := sh
      obtain ⟨rfl, rfl⟩ := HSH.out
      clear HSH
      go_upto_region 3 with fail
      have BS := box1W w5 (.cells #[.slice iA il ic, .int .i64 1, .int .i64 2, .slice vA vn vc, .slice uA un uc, .slice tA tn tc] 43)
      have HB26 := Lib.hid (HB2.out.trans ((HB25.out.trans (BS.mono HB25.out.size)).mono HB2.out.size))
      have HR6 := Lib.hid (HR2.out.below (HB25.out.trans (BS.mono HB25.out.size)))
      have Y6 := Lib.hid (show AB 43 (w5.alloc (.cells #[.slice iA il ic, .int .i64 1, .int .i64 2, .slice vA vn vc, .slice uA un uc, .slice tA tn tc] 43)) w5.heap.size [.slice iA il ic, .int .i64 1, .int .i64 2, .slice vA vn vc, .slice uA un uc, .slice tA tn tc] from AB.new w5 [.slice iA il ic, .int .i64 1, .int .i64 2, .slice vA vn vc, .slice uA un uc, .slice tA tn tc] 43 w5.heap.size rfl)
      obtain ⟨y, hy⟩ : ∃ y, y = w5.heap.size := ⟨_, rfl⟩
      rw [← hy] at Y6 ⊢
      generalize w5.alloc (.cells #[.slice iA il ic, .int .i64 1, .int .i64 2, .slice vA vn vc, .slice uA un uc, .slice tA tn tc] 43) = w6 at *
      clear hy BS HB25 HR2 HB2
      have HLT := Lib.hid (lit17 w6)
      have HIT := Lib.hid (items_any [[nB]] [wag17] (some ⟨w6.heap.size + 1, 0, none⟩) (some ⟨w6.heap.size + 2, 0, none⟩) 1 1 1 1 rfl (by decide) rfl _ HLT.out.1 HLT.out.2.1)
      go_wp2_with fail
      refine HIT.out.mono ?_
      rintro e w7 ⟨v7, rfl, -, B7⟩
      rw [items17]
      have B67 := HLT.out.2.2.trans (B7.mono HLT.out.2.2.size)
      have HB7 := Lib.hid (HB26.out.trans (B67.mono HB26.out.size))
      have HR7 := Lib.hid (HR6.out.below B67)
      have Y7 := Lib.hid (Y6.out.below B67 Y6.out.lt)
      clear B7 B67 HLT HIT HB26 HR6 Y6
      obtain ⟨ad, rfl, CX⟩ := HR7.out.at_ HS0.out
      have c0 : w7.cell? (ad.add (0 * 4)) = some (.int .i64 s.wt) := CX.first rfl
      have c1 : w7.cell? ⟨(ad.add (0 * 4)).block, (ad.add (0 * 4)).off + 1, none⟩ = some (.int .i64 s.st) := CX.next 1 (by decide) rfl
      have c2 : w7.cell? ⟨(ad.add (0 * 4)).block, (ad.add (0 * 4)).off + 2, none⟩ = some (.int .i64 s.mv) := CX.next 2 (by decide) rfl
      have c3 : w7.cell? ⟨(ad.add (0 * 4)).block, (ad.add (0 * 4)).off + 3, none⟩ = some (.int .i64 s.pu) := CX.next 3 (by decide) rfl
      obtain ⟨e1, e2, e3, e4⟩ := HV.out
      rw [e1] at c0; rw [e2] at c1; rw [e3] at c2; rw [e4] at c3
      have ea : ad.add (0 * 4) = ad := by unfold Addr.add; simp
      rw [ea] at c0 c1 c2 c3
      have y1 := Y7.out.cell 1 (u := .int .i64 1) rfl
      have y2 := Y7.out.cell 2 (u := .int .i64 2) rfl
      clear e1 e2 e3 e4 ea CX HS0 HV HR7
      go_wp2_with fail
      go_ret
      exact ⟨rfl, HB7.out⟩
end Go.Proofs.YtimkmieohkefiaaGreat

namespace Go.Proofs.YtimkmieohkefiaaGreat
open Go.RowKit

end Go.Proofs.YtimkmieohkefiaaGreat

namespace Go.Proofs.YtimkmieohkefiaaGreat
open Go.RowKit Go.Lib

end Go.Proofs.YtimkmieohkefiaaGreat

namespace Go.Proofs.YtimkmieohkefiaaGreat
open Go.RowKit Go.Lib

theorem prvS_succ (p : List Int) (n : Nat) : prvS p (n + 1) = some (p.getD n 0) := rfl
/-- What is known while a list is read. -/
structure Inn (l : List It) (t : Int) (s0 s : List Bool) (p : List Int) (n : Nat) : Prop where
  eq : goL l t none s0 p = goL l t (prvS p n) s (p.drop n)
  len : s.length = l.length
  prev : ∀ y, prvS p n = some y → btw y 0 ((l.length : Int) - 1) = true
theorem Inn.ok {l : List It} {t : Int} {s0 s : List Bool} {p : List Int} {n : Nat} (h : Inn l t s0 s p n) (hn : n < p.length) (hx : btw (p.getD n 0) 0 ((l.length : Int) - 1) = true) (hs : stepOk l t (prvS p n) s (p.getD n 0) = true) : Inn l t s0 (s.set (p.getD n 0).toNat true) p (n + 1) := by
  refine ⟨?_, by rw [List.length_set]; exact h.len, fun y hy => ?_⟩
  · rw [h.eq, drop_any 0 hn, goL_ok hs]; rfl
  · rw [prvS_succ] at hy; injection hy with hy; rw [← hy]; exact hx
theorem Inn.no {l : List It} {t : Int} {s0 s : List Bool} {p : List Int} {n : Nat} (h : Inn l t s0 s p n) (hn : n < p.length) (hs : stepOk l t (prvS p n) s (p.getD n 0) = false) : goL l t none s0 p = none := by
  rw [h.eq, drop_any 0 hn, goL_no hs]
end Go.Proofs.YtimkmieohkefiaaGreat

namespace Go.Proofs.YtimkmieohkefiaaGreat
open Go.RowKit Go.Lib

/-- What is seen behind a list. -/
def mark (s : List Bool) : List Nat → List Bool
  | [] => s
  | x :: p => mark (s.set x true) p
end Go.Proofs.YtimkmieohkefiaaGreat

namespace Go.Proofs.YtimkmieohkefiaaGreat
open Go.RowKit Go.Lib

theorem Pl.set {l : List It} {wt : Int} {S : Nat} {v : List Int} (h : Pl l wt S v) {i z : Nat} (hi : i < l.length) (hz : isC (rdN l i) wt.toNat z = true) (hl : z < 2 ^ S) : Pl l wt S (v.set i (z : Int)) := by
  have hf := formOk_of h.val
  refine ⟨h.val, fitB_iff.2 ⟨by have := h.s12; omega, by rw [List.length_set]; exact h.len, fun x hx => ?_⟩⟩
  by_cases e : i = x
  · subst e
    unfold okC
    have hat : (v.set i (z : Int)).getD i 0 = z := by
      rw [List.getD_eq_getElem?_getD, List.getElem?_set, if_pos rfl, if_pos (by rw [h.len]; exact hi)]; rfl
    have e2 : (2 : Int) ^ ((S : Int)).toNat = ((2 ^ S : Nat) : Int) := by simp
    obtain ⟨V, hV⟩ := Int.eq_ofNat_of_zero_le hf.wb.1
    rw [hat, (h.rd hi).1, e2, decide_eq_true (show (z : Int) < ((2 ^ S : Nat) : Int) by omega)]
    rw [hV] at hz ⊢
    rw [isZ_nat (h.rd hi).2 (by have := hf.wb.2; omega)]
    exact hz
  · have := (fitB_iff.1 h.fit).2.2 x hx
    unfold okC at this ⊢
    rw [List.getD_eq_getElem?_getD, List.getElem?_set, if_neg e, ← List.getD_eq_getElem?_getD]
    exact this
/-- A plan in the block g whose list may be any other of the call's own. -/
structure PQ (wr : World) (m g : Nat) (st : Int) (A : Option Addr) (n c : Nat) (v : List Int) : Prop where
  box : PBox wr g st A n c
  own : Own .i64 3 wr (m + 1) (.slice A n c) v
  ne : ∀ q, (Value.slice A n c).ownBlock = some q → q ≠ g
  len : n = v.length
  lt : m < g
section
variable {w w' : World} {m g n c : Nat} {st : Int} {A : Option Addr} {v : List Int}
theorem PQ.of (h : PSt w m g st A n c v) : PQ w m g st A n c v := ⟨h.box, h.own, fun q hq => by have := h.lo q hq; omega, h.len, h.lt⟩
theorem PQ.below (h : PQ w m g st A n c v) (k : Below w.heap.size w w') : PQ w' m g st A n c v := ⟨h.box.below k h.box.lt, h.own.below k, h.ne, h.len, h.lt⟩
theorem PQ.step (h : PQ w m g st A n c v) (k : Moves m w w') : PQ w' m g st A n c v := ⟨h.box.moves k (by have := h.lt; omega), h.own.moves k (Nat.lt_succ_self _), h.ne, h.len, h.lt⟩
theorem PQ.row (h : PQ w m g st A n c v) : Row .i64 w w.heap.size A v ∧ v.length ≤ maxLen := by
  obtain ⟨A', c', ev, LR, -, hm, -⟩ := h.own.slice
  have e1 : A = A' := by injection ev
  subst e1
  exact ⟨LR, hm⟩
theorem PBox.setN {b : Nat} (h : PBox w b st A n c) {p : Addr} (hp : p.block ≠ b) (u : Value) : PBox (w.setCell p u) b st A n c := by
  have nb : ∀ j, p ≠ ⟨b, j, none⟩ := fun j e => hp (congrArg Addr.block e)
  exact ⟨(World.cell?_setCell_other _ _ _ _ (nb 0)).trans h.c0, (World.cell?_setCell_other _ _ _ _ (nb 1)).trans h.c1, fun j => by rw [World.frozen?_setCell]; exact h.f j, by rw [World.size_setCell]; exact h.lt⟩
/-- The box g1 takes the plan of the box g. -/
theorem PQ.put {g1 n1 c1 : Nat} {st1 : Int} {A1 : Option Addr} (h : PQ w m g st A n c v) (p : PBox w g1 st1 A1 n1 c1) (hm : m < g1) (hne : g1 ≠ g) (ho : ∀ q, (Value.slice A n c).ownBlock = some q → q ≠ g1) :
    PQ ((w.setCell ⟨g1, 0, none⟩ (.int .i64 st)).setCell ⟨g1, 1, none⟩ (.slice A n c)) m g1 st A n c v ∧ PQ ((w.setCell ⟨g1, 0, none⟩ (.int .i64 st)).setCell ⟨g1, 1, none⟩ (.slice A n c)) m g st A n c v :=
  have O := (h.own.setN (p := ⟨g1, 0, none⟩) ho (.int .i64 st)).setN (p := ⟨g1, 1, none⟩) ho (.slice A n c)
  ⟨⟨p.put, O, ho, h.len, hm⟩, ⟨(h.box.setN (p := ⟨g1, 0, none⟩) hne _).setN (p := ⟨g1, 1, none⟩) hne _, O, h.ne, h.len, h.lt⟩⟩
/-- A code is stored. -/
theorem PQ.code {gq : Nat} (h : PQ w m g st (some ⟨gq, 0, none⟩) n c v) (j : Nat) (x : Int) : PQ (w.setCell ⟨gq, j, none⟩ (.int .i64 x)) m g st (some ⟨gq, 0, none⟩) n c (v.set j x) :=
  ⟨h.box.setN (p := ⟨gq, j, none⟩) (h.ne gq rfl) _, h.own.store h.len j x, h.ne, by rw [List.length_set]; exact h.len, h.lt⟩
theorem JM.setC {w0 wr : World} {b cj N : Nat} {jA : Option Addr} {l : List It} {wt : Int} (h : JM w0 wr b jA cj l wt N) {p : Addr} (hp : b < p.block) (u : Value) : JM w0 (wr.setCell p u) b jA cj l wt N :=
  h.under (B := b + 1) ((Below.refl (b + 1) wr).setCell (p := p) hp u) (Nat.lt_succ_self b)
end
end Go.Proofs.YtimkmieohkefiaaGreat

namespace Go.Proofs.YtimkmieohkefiaaGreat
open Go.RowKit Go.Lib

end Go.Proofs.YtimkmieohkefiaaGreat

namespace Go.Proofs.YtimkmieohkefiaaGreat
open Go.RowKit Go.Lib

theorem ord_plan {l : List It} {wt : Int} {v : List Int} (h : Plan l wt v) : ordB l v = true := ordB_iff.2 fun x hx y hy => by
  unfold ordA
  by_cases hr : rel l x y = 0
  · rw [decide_eq_true hr]; rfl
  · have := h.sort x y hx hy
    rw [via_str hr] at this
    rw [decide_eq_true this, Bool.or_true]
theorem bound_witP {l : List It} {wt er : Int} {zs : List Int} {bs v : List Int} (hv : validR l wt = 0) (h : Sol l wt bs v) (hw : WitR l wt zs er) : er = 0 ∧ boundE l wt zs = (mx0 v v.length, 0) := by
  have hf := formOk_of hv
  rcases hw.valid hv with ⟨_, _, hno⟩ | ⟨rfl, bs', v', h', hz⟩
  · exact absurd h (hno _ _)
  · obtain ⟨rfl, rfl⟩ := h'.uniq hf.blk h
    refine ⟨rfl, ?_⟩
    unfold boundE
    rw [if_neg (fun g => g hv)]
    rcases hz with ⟨h0, rfl⟩ | ⟨y, ch, hy, hb, rfl⟩
    · have e : v'.length = 0 := by rw [h.vlen, h0]
      rw [e]; rfl
    · obtain ⟨b1, b2⟩ := hb.bound hf h (by rw [← h.vlen]; exact hy.lt)
      rw [if_pos (chB_iff.2 ⟨ch, rfl, b1⟩), map_toZ, b2, mx0_top hy (fun y => (h.bound hf y).1.1)]
theorem chk_make {l : List It} {wt st : Int} {v ch : List Int} (hv : validR l wt = 0) (h : MakeR l wt st v ch 0) : chkE l wt st v ch = 0 := by
  rcases h.1.valid hv with ⟨h5, _⟩ | ⟨_, bs, h5, h6⟩
  · cases h5
  · have hf := formOk_of hv
    obtain ⟨S, hS, hpl⟩ := sol_pl hv h5 h6
    obtain ⟨_, hb⟩ := bound_witP hv h5 h.2
    have h0 := h5.bound hf
    have h3 := steps_mx0 h6 (fun y => (h0 y).1.1)
    have hval : val14 l wt st v = 0 := by rw [hS]; exact hpl.val14
    have hm := mx0_le v v.length
    have hbd := bound_bd (ch := ch) hv (by rw [hb])
    rw [hb] at hbd
    unfold chkE
    rw [if_neg (fun g => g hval), if_neg (by rw [ord_plan (h5.plan hf)]; exact Bool.noConfusion), hb, if_neg (fun g => g rfl), if_pos]
    simp only at hbd
    obtain ⟨K, hK⟩ := Int.eq_ofNat_of_zero_le hm.1
    show (stepsZ (mx0 v v.length)).1 = st
    rw [hK] at h3 hbd ⊢
    rw [stepsZ_nat (by omega), h3]
    rfl
end Go.Proofs.YtimkmieohkefiaaGreat

namespace Go.Proofs.YtimkmieohkefiaaGreat
open Go.RowKit Go.Lib

theorem srt_scr {l : List It} {q : List Sc} (h : Srt17 (scL l) q) {i : Nat} {s : Sc} (hi : q[i]? = some s) : ScR l s := (scL_mem.1 (h.perm.mem_iff.1 (List.mem_of_getElem? hi))).1
theorem plan_cases {l : List It} {b : List Int} {q : List Sc} {res : Option (Sc × List Int)} {rf : List Int} {er : Int} (hs : Srt17 (scL l) q) (hb : trkE b = 0) (h : PlanR l b q res rf er) :
    (∃ i s tk, q[i]? = some s ∧ NoRoom l b q i ∧ ScR l s ∧ res = some (s, tk) ∧ rf = [] ∧ er = 0 ∧ Asg (ldS l s) b tk ∧ fitR (ldS l s) b tk = true ∧ Hall (ldS l s) b) ∨
    (er = 14 ∧ res = none ∧ NoRoom l b q q.length ∧ ∃ s, q[0]? = some s ∧ ScR l s ∧ refR (ldS l s) b rf = true) := by
  rcases h with ⟨h0, _⟩ | ⟨_, i, s, tk, hi, hn, ⟨os, h1, h2⟩, rfl, rfl, rfl⟩ | ⟨_, hn, ⟨s, hs0, os, h1, h2⟩, rfl, rfl⟩
  · exact absurd hb h0
  · have hr := srt_scr hs hi
    have V := vd_of ((scr_loads hr b).2.trans hb)
    rcases mout_cases V h1 h2 with ⟨_, _, G, H⟩ | ⟨e, _⟩
    · exact Or.inl ⟨i, s, tk, hi, hn, hr, rfl, rfl, rfl, G, fit_asg V G, H⟩
    · cases e
  · have hr := srt_scr hs hs0
    have V := vd_of ((scr_loads hr b).2.trans hb)
    rcases mout_cases V h1 h2 with ⟨e, _⟩ | ⟨_, _, R, _⟩
    · cases e
    · exact Or.inr ⟨rfl, rfl, hn, s, hs0, hr, R⟩
theorem ck_ok {l : List It} {s : Sc} {b tk : List Int} (h : ScR l s) (hf : fitR (ldS l s) b tk = true) : ckE l s.wt s.st s.v s.ch b tk = 0 := by
  unfold ckE
  have := chk_make (make_pl h.1).1 h.1
  rw [if_neg (fun g => g this), if_pos hf]
/-- The lengths of tracks, some of them made longer. -/
def MoreR (b ds : List Int) (k : Nat) : Prop := ds.length = b.length ∧ ∀ j, j < b.length → ld b j ≤ ld ds j ∧ ld ds j ≤ ld b j + 1000 ∧ (k ≤ j → ld ds j = ld b j)
theorem MoreR.set {b ds : List Int} {k : Nat} (h : MoreR b ds k) (hk : k < b.length) {p : Int} (h0 : 0 ≤ p) (h1 : p ≤ 1000) : MoreR b (ds.set k (ld ds k + p)) (k + 1) := by
  refine ⟨by rw [List.length_set]; exact h.1, fun j hj => ?_⟩
  have e : ld (ds.set k (ld ds k + p)) j = if j = k then ld ds k + p else ld ds j := by
    unfold ld
    exact getD_set ds k j _ (by rw [h.1]; exact hk)
  rw [e]
  by_cases g : j = k
  · subst g
    have := h.2 j hk
    have := this.2.2 (Nat.le_refl _)
    rw [if_pos rfl]
    refine ⟨by omega, by omega, fun h => by omega⟩
  · rw [if_neg g]
    have := h.2 j hj
    exact ⟨this.1, this.2.1, fun g2 => this.2.2 (by omega)⟩
end Go.Proofs.YtimkmieohkefiaaGreat

namespace Go.Proofs.YtimkmieohkefiaaGreat
open Go.RowKit Go.Lib

end Go.Proofs.YtimkmieohkefiaaGreat

namespace Go.Proofs.YtimkmieohkefiaaGreat
open Go.RowKit Go.Lib

end Go.Proofs.YtimkmieohkefiaaGreat

namespace Go.Proofs.YtimkmieohkefiaaGreat
open Go.RowKit Go.Lib

end Go.Proofs.YtimkmieohkefiaaGreat

namespace Go.Proofs.YtimkmieohkefiaaGreat
open Go.RowKit Go.Lib

end Go.Proofs.YtimkmieohkefiaaGreat

namespace Go.Proofs.YtimkmieohkefiaaGreat
open Go.RowKit Go.Lib

end Go.Proofs.YtimkmieohkefiaaGreat

namespace Go.Proofs.YtimkmieohkefiaaGreat
open Go.RowKit

/-- Numbers of a byte. -/
def BB (bs : List Int) : Prop := ∀ x ∈ bs, 0 ≤ x ∧ x ≤ 255
theorem BB.app {a b : List Int} (h : BB a) (g : BB b) : BB (a ++ b) := fun x hx => (List.mem_append.1 hx).elim (h x) (g x)
theorem BB.take {a : List Int} (h : BB a) (n : Nat) : BB (a.take n) := fun x hx => h x (List.mem_of_mem_take hx)
theorem BB.drop {a : List Int} (h : BB a) (n : Nat) : BB (a.drop n) := fun x hx => h x (List.mem_of_mem_drop hx)
theorem BB.nil : BB [] := fun x hx => by cases hx
theorem BB.at_ {a : List Int} (h : BB a) (k : Nat) : 0 ≤ a.getD k 0 ∧ a.getD k 0 ≤ 255 := by
  by_cases hk : k < a.length
  · exact h _ (getD_mem hk)
  · rw [List.getD_eq_getElem?_getD, List.getElem?_eq_none (by omega)]; exact ⟨by decide, by decide⟩
/-- The slice from A on reads as the bytes bs. -/
structure BRow (w : World) (A : Option Addr) (bs : List Int) : Prop where
  row : Row .u8 w w.heap.size A bs
  len : bs.length ≤ 140737488355328
  bd : BB bs
theorem BRow.below {w w' : World} {A : Option Addr} {bs : List Int} (h : BRow w A bs) (b : Below w.heap.size w w') : BRow w' A bs := ⟨h.row.below b, h.len, h.bd⟩
theorem BRow.drewN {w : World} {A : Option Addr} {bs : List Int} (h : BRow w A bs) (n : Nat) : BRow (w.drewN n) A bs := ⟨h.row.drewN n, h.len, h.bd⟩
theorem BRow.alloc {w : World} {A : Option Addr} {bs : List Int} (h : BRow w A bs) (o : Obj) : BRow (w.alloc o) A bs := h.below ((Below.refl _ _).alloc (Nat.le_refl _) _)
theorem BRow.take {w : World} {A : Option Addr} {bs : List Int} (h : BRow w A bs) (n : Nat) : BRow w A (bs.take n) := ⟨h.row.take n, by rw [List.length_take]; have := h.len; omega, h.bd.take n⟩
theorem BRow.drop {w : World} {ad : Addr} {bs : List Int} (h : BRow w (some ad) bs) (n : Nat) : BRow w (some (ad.add n)) (bs.drop n) :=
  ⟨fun j hj => by
    rw [List.length_drop] at hj
    obtain ⟨ad', e, hb, hv⟩ := h.row (n + j) (by omega)
    injection e with e
    subst e
    refine ⟨_, rfl, by rw [add_block]; exact hb, ?_⟩
    rw [add_add, hv]
    congr 2
    rw [List.getD_eq_getElem?_getD, List.getD_eq_getElem?_getD, List.getElem?_drop], by rw [List.length_drop]; have := h.len; omega, h.bd.drop n⟩
theorem BRow.nil {w : World} {A : Option Addr} : BRow w A [] := ⟨Row.nil, Nat.zero_le _, BB.nil⟩
end Go.Proofs.YtimkmieohkefiaaGreat

namespace Go.Proofs.YtimkmieohkefiaaGreat
open Go.RowKit

/-- Block p is a reader of the bytes bs (a slice from A with capacity c), at place n; what it has noted. -/
structure Rd (w : World) (p : Nat) (A : Option Addr) (c : Nat) (bs : List Int) (n : Nat) (s g : Bool) : Prop where
  c0 : w.cell? ⟨p, 0, none⟩ = some (.slice A bs.length c)
  c1 : w.cell? ⟨p, 1, none⟩ = some (.int .i64 n)
  c2 : w.cell? ⟨p, 2, none⟩ = some (.bool s)
  c3 : w.cell? ⟨p, 3, none⟩ = some (.bool g)
  f1 : w.frozen? ⟨p, 1, none⟩ = false
  f2 : w.frozen? ⟨p, 2, none⟩ = false
  f3 : w.frozen? ⟨p, 3, none⟩ = false
  lt : p < w.heap.size
  row : Row .u8 w p A bs
  bd : BB bs
  len : bs.length ≤ 140737488355328
  cap : bs.length ≤ c ∧ c ≤ maxLen
  le : n ≤ bs.length
theorem Rd.below {w w' : World} {p : Nat} {A : Option Addr} {c n : Nat} {bs : List Int} {s g : Bool} (h : Rd w p A c bs n s g) (k : Below w.heap.size w w') : Rd w' p A c bs n s g :=
  ⟨(k.cell (p := ⟨p, 0, none⟩) h.lt).trans h.c0, (k.cell (p := ⟨p, 1, none⟩) h.lt).trans h.c1, (k.cell (p := ⟨p, 2, none⟩) h.lt).trans h.c2, (k.cell (p := ⟨p, 3, none⟩) h.lt).trans h.c3,
   (k.frozen (p := ⟨p, 1, none⟩) h.lt).trans h.f1, (k.frozen (p := ⟨p, 2, none⟩) h.lt).trans h.f2, (k.frozen (p := ⟨p, 3, none⟩) h.lt).trans h.f3, Nat.lt_of_lt_of_le h.lt k.size,
   h.row.keep (fun q hq => k.cell (Nat.lt_trans hq h.lt)) (Nat.le_refl _), h.bd, h.len, h.cap, h.le⟩
theorem Rd.alloc {w : World} {p : Nat} {A : Option Addr} {c n : Nat} {bs : List Int} {s g : Bool} (h : Rd w p A c bs n s g) (o : Obj) : Rd (w.alloc o) p A c bs n s g := h.below ((Below.refl _ _).alloc (Nat.le_refl _) _)
theorem Rd.drewN {w : World} {p : Nat} {A : Option Addr} {c n : Nat} {bs : List Int} {s g : Bool} (h : Rd w p A c bs n s g) (k : Nat) : Rd (w.drewN k) p A c bs n s g := h.below ⟨rfl, rfl, rfl, Nat.le_refl _, fun _ _ => rfl⟩
theorem ne_off {p i j : Nat} (h : i ≠ j) : (⟨p, i, none⟩ : Addr) ≠ ⟨p, j, none⟩ := fun e => h (congrArg Addr.off e)
theorem Rd.setN {w : World} {p : Nat} {A : Option Addr} {c n : Nat} {bs : List Int} {s g : Bool} (h : Rd w p A c bs n s g) (m : Nat) (hm : m ≤ bs.length) : Rd (w.setCell ⟨p, 1, none⟩ (.int .i64 m)) p A c bs m s g :=
  ⟨by rw [World.cell?_setCell_other _ _ _ _ (ne_off (by decide))]; exact h.c0, World.cell?_setCell_same _ _ _ h.c1, by rw [World.cell?_setCell_other _ _ _ _ (ne_off (by decide))]; exact h.c2, by rw [World.cell?_setCell_other _ _ _ _ (ne_off (by decide))]; exact h.c3,
   by rw [World.frozen?_setCell]; exact h.f1, by rw [World.frozen?_setCell]; exact h.f2, by rw [World.frozen?_setCell]; exact h.f3, by rw [World.size_setCell]; exact h.lt,
   h.row.keep (fun q hq => World.cell?_setCell_other _ _ _ _ (fun e => by have := congrArg Addr.block e; simp at this; omega)) (Nat.le_refl _), h.bd, h.len, h.cap, hm⟩
/-- A list that reads in a block other than p, below B. -/
def RowNe (w : World) (p B : Nat) (A : Option Addr) (zs : List Int) : Prop := ∀ j, j < zs.length → ∃ ad : Addr, A = some ad ∧ ad.block ≠ p ∧ ad.block < B ∧ w.cell? (ad.add j) = some (.int .u8 (zs.getD j 0))
theorem RowNe.moves {w w' : World} {p B : Nat} {A : Option Addr} {zs : List Int} (h : RowNe w p B A zs) (k : Moves p w w') (hB : B ≤ w.heap.size) : RowNe w' p B A zs := fun j hj => by
  obtain ⟨ad, e, h1, h2, h3⟩ := h j hj
  exact ⟨ad, e, h1, h2, (k.cell (by rw [add_block]; omega) (by rw [add_block]; exact h1)).trans h3⟩
theorem RowNe.more {w : World} {p B B' : Nat} {A : Option Addr} {zs : List Int} (h : RowNe w p B A zs) (hB : B ≤ B') : RowNe w p B' A zs := fun j hj => by
  obtain ⟨ad, e, h1, h2, h3⟩ := h j hj
  exact ⟨ad, e, h1, by omega, h3⟩
theorem RowNe.grown {w w' : World} {p B : Nat} {A : Option Addr} {zs : List Int} {row : Option Nat} (h : RowNe w p B A zs) (k : w.grownBy w' row) (hr : ∀ g, row = some g → B ≤ g) : RowNe w' p B A zs := fun j hj => by
  obtain ⟨ad, e, h1, h2, h3⟩ := h j hj
  exact ⟨ad, e, h1, h2, k.cell h3 (by rw [add_block]; intro e; have := hr _ e.symm; omega)⟩
theorem RowNe.nil {w : World} {p B : Nat} {A : Option Addr} : RowNe w p B A [] := fun j hj => absurd hj (by simp)
theorem Rd.stays {w w' : World} {p : Nat} {A : Option Addr} {c n : Nat} {bs : List Int} {s g : Bool} (h : Rd w p A c bs n s g) (k : Below (p + 1) w w') : Rd w' p A c bs n s g :=
  ⟨(k.cell (p := ⟨p, 0, none⟩) (Nat.lt_succ_self p)).trans h.c0, (k.cell (p := ⟨p, 1, none⟩) (Nat.lt_succ_self p)).trans h.c1, (k.cell (p := ⟨p, 2, none⟩) (Nat.lt_succ_self p)).trans h.c2, (k.cell (p := ⟨p, 3, none⟩) (Nat.lt_succ_self p)).trans h.c3,
   (k.frozen (p := ⟨p, 1, none⟩) (Nat.lt_succ_self p)).trans h.f1, (k.frozen (p := ⟨p, 2, none⟩) (Nat.lt_succ_self p)).trans h.f2, (k.frozen (p := ⟨p, 3, none⟩) (Nat.lt_succ_self p)).trans h.f3, Nat.lt_of_lt_of_le h.lt k.size,
   h.row.keep (fun q hq => k.cell (Nat.lt_trans hq (Nat.lt_succ_self p))) (Nat.le_refl _), h.bd, h.len, h.cap, h.le⟩
theorem Rd.grown {w w' : World} {p : Nat} {A : Option Addr} {c n : Nat} {bs : List Int} {s g : Bool} {row : Option Nat} (h : Rd w p A c bs n s g) (k : w.grownBy w' row) (hr : ∀ g, row = some g → p < g) : Rd w' p A c bs n s g :=
  h.stays ((Below.refl (p + 1) w).grown k h.lt (fun g e => hr g e))
/-- What take hands back, and where it leaves the reader. -/
def tkV (bs : List Int) (n k : Nat) : List Int := if bs.length < n + k then List.replicate k 0 else (bs.drop n).take k
def tkN (bs : List Int) (n k : Nat) : Nat := if bs.length < n + k then bs.length else n + k
theorem Row.cut {w : World} {p : Nat} {ad : Addr} {bs : List Int} (h : Row .u8 w p (some ad) bs) (hp : p < w.heap.size) (n k : Nat) (hk : n + k ≤ bs.length) : RowNe w p w.heap.size (some (ad.add n)) ((bs.drop n).take k) := fun j hj => by
  rw [List.length_take, List.length_drop] at hj
  obtain ⟨ad', e, hb, hv⟩ := h (n + j) (by omega)
  injection e with e
  subst e
  refine ⟨_, rfl, by rw [add_block]; omega, by rw [add_block]; omega, ?_⟩
  rw [add_add, hv, getD_take _ _ _ (by omega), List.getD_eq_getElem?_getD, List.getD_eq_getElem?_getD, List.getElem?_drop]
end Go.Proofs.YtimkmieohkefiaaGreat

namespace Go.Proofs.YtimkmieohkefiaaGreat
open Go.RowKit

/-- From w to w' something was appended to v: nothing else has turned; what it lies in now was v's block, or is new. -/
structure App (w : World) (v : Value) (w' : World) (v' : Value) : Prop where
  g : w.grownBy w' v.ownBlock
  o : ∀ b, v'.ownBlock = some b → v.ownBlock = some b ∨ w.heap.size ≤ b
theorem App.refl (w : World) (v : Value) : App w v w v := ⟨⟨rfl, rfl, rfl, Nat.le_refl _, fun _ _ _ => rfl⟩, fun b h => Or.inl h⟩
theorem App.trans {a b c : World} {u v x : Value} (h : App a u b v) (k : App b v c x) : App a u c x := by
  refine ⟨⟨k.g.os.trans h.g.os, k.g.tape.trans h.g.tape, k.g.output.trans h.g.output, Nat.le_trans h.g.size k.g.size, fun i hi hne => ?_⟩, fun i hi => ?_⟩
  · refine (k.g.block i (Nat.lt_of_lt_of_le hi h.g.size) (fun e => ?_)).trans (h.g.block i hi hne)
    rcases h.o i e.symm with g | g
    · exact hne g.symm
    · omega
  · rcases k.o i hi with g | g
    · exact h.o i g
    · exact Or.inr (Nat.le_trans h.g.size g)
theorem App.alloc {w w' : World} {v v' : Value} (h : App w v w' v') (o : Obj) : App w v (w'.alloc o) v' := by
  refine h.trans ⟨World.grownBy_alloc w' o _, fun b h => Or.inl h⟩
theorem App.drewN {w w' : World} {v v' : Value} (h : App w v w' v') (n : Nat) : App w v (w'.drewN n) v' := ⟨⟨h.g.os, h.g.tape, h.g.output, h.g.size, h.g.block⟩, h.o⟩
theorem App.below {w w' : World} {v v' : Value} {base : Nat} (h : App w v w' v') (hb : ∀ b, v.ownBlock = some b → base ≤ b) (hs : base ≤ w.heap.size) : Below base w w' :=
  ⟨h.g.os, h.g.tape, h.g.output, h.g.size, fun i hi => h.g.block i (by omega) (fun e => by have := hb i e.symm; omega)⟩
theorem App.blk {α : Type} {R : Rec α} {w w' : World} {v v' : Value} {b : Nat} {x : α} (h : App w v w' v') (hx : RBlk R w b x) (hne : v.ownBlock ≠ some b) : RBlk R w' b x := hx.grown h.g hne

theorem le_alloc {base : Nat} {w : World} {o : Obj} (h : base ≤ w.heap.size) : base ≤ (w.alloc o).heap.size := by rw [World.size_alloc]; omega
/-- While bytes are appended: what is owned, what has turned, and the struct of the call's own in block b. -/
structure AS (base : Nat) (v : Value) (w0 : World) (b : Nat) (x : Wag) (zs : List Int) (w' : World) (v' : Value) : Prop where
  own : Own .u8 5 w' base v' zs
  app : App w0 v w' v'
  blk : RBlk WR w' b x
  ne : v.ownBlock ≠ some b
  lt : b < w0.heap.size
theorem AS.far {base b : Nat} {v v' : Value} {w0 w' : World} {x : Wag} {zs : List Int} (h : AS base v w0 b x zs w' v') : v'.ownBlock ≠ some b := fun e => by
  rcases h.app.o _ e with g | g
  · exact h.ne g
  · have := h.lt; omega
theorem AS.step {base b : Nat} {v v' v'' : Value} {w0 w' w'' : World} {x : Wag} {zs zs' : List Int} (h : AS base v w0 b x zs w' v') (k : App w' v' w'' v'') (o : Own .u8 5 w'' base v'' zs') : AS base v w0 b x zs' w'' v'' :=
  ⟨o, h.app.trans k, k.blk h.blk h.far, h.ne, h.lt⟩
theorem AS.alloc {base b : Nat} {v v' : Value} {w0 w' : World} {x : Wag} {zs : List Int} (h : AS base v w0 b x zs w' v') (o : Obj) : AS base v w0 b x zs (w'.alloc o) v' := ⟨h.own.alloc o, h.app.alloc o, h.blk.alloc o, h.ne, h.lt⟩
theorem AS.drewN {base b : Nat} {v v' : Value} {w0 w' : World} {x : Wag} {zs : List Int} (h : AS base v w0 b x zs w' v') (n : Nat) : AS base v w0 b x zs (w'.drewN n) v' := ⟨h.own.drewN n, h.app.drewN n, h.blk.drewN n, h.ne, h.lt⟩
theorem AS.size {base b : Nat} {v v' : Value} {w0 w' : World} {x : Wag} {zs : List Int} (h : AS base v w0 b x zs w' v') (hb : base ≤ w0.heap.size) : base ≤ w'.heap.size := Nat.le_trans hb h.app.g.size
end Go.Proofs.YtimkmieohkefiaaGreat

namespace Go.Proofs.YtimkmieohkefiaaGreat
open Go.RowKit

/-- A byte, two bytes as a number. -/
def sgV (bs : List Int) (n : Nat) : Int := (tkV bs n 1).getD 0 0
def prV (bs : List Int) (n : Nat) : Int := (tkV bs n 2).getD 0 0 * 256 + (tkV bs n 2).getD 1 0
/-- Goods, and the mark. -/
def gdV (v : Int) : Int := if 16 ≤ v then v - 16 else v
def GdPost (p : Nat) (A : Option Addr) (c : Nat) (bs : List Int) (v : Int) (n' : Nat) (s' g : Bool) (w : World) (e : Ending) (w' : World) : Prop :=
  e = .returned (.tuple #[.int .i64 (gdV v), .bool (decide (16 ≤ v))]) ∧ Rd w' p A c bs n' s' (g || decide (9 < gdV v)) ∧ Moves p w w'
theorem GdPost.mk' {p : Nat} {A : Option Addr} {c : Nat} {bs : List Int} {v u : Int} {n' : Nat} {s' g b t : Bool} {w w' : World} (h1 : gdV v = u) (h2 : decide (16 ≤ v) = b) (h3 : t = (g || decide (9 < u))) (R : Rd w' p A c bs n' s' t) (M : Moves p w w') :
    GdPost p A c bs v n' s' g w (.returned (.tuple #[.int .i64 u, .bool b])) w' := by
  unfold GdPost
  rw [h1, h2, ← h3]
  exact ⟨rfl, R, M⟩
end Go.Proofs.YtimkmieohkefiaaGreat

namespace Go.Proofs.YtimkmieohkefiaaGreat
open Go.RowKit

/-- The digits of bytes, and whether one is none. -/
def numB : List Int → List Int
  | [] => []
  | x :: l => (48 + x / 16) :: (48 + x % 16) :: numB l
def nmV (bs : List Int) (n : Nat) : ByteArray := strOfNums (numB (tkV bs n 6))
end Go.Proofs.YtimkmieohkefiaaGreat

namespace Go.Proofs.YtimkmieohkefiaaGreat
open Go.RowKit

theorem infoW : (Tryz.prog.info? 33).map (·.size) = some WR.m := by kernel_rfl

/-- Block b holds a wagon, and may be written. -/
structure WLoc (w : World) (b : Nat) (x : Wag) : Prop where
  blk : RBlk WR w b x
  fz : ∀ j, w.frozen? ⟨b, j, none⟩ = false
theorem WLoc.moves {m : Nat} {w w' : World} {b : Nat} {x : Wag} (h : WLoc w b x) (k : Moves m w w') (hm : b ≠ m) : WLoc w' b x := ⟨h.blk.moves k hm, fun j => (k.frozen (p := ⟨b, j, none⟩) h.blk.lt hm).trans (h.fz j)⟩
theorem WLoc.below {w w' : World} {b : Nat} {x : Wag} (h : WLoc w b x) (k : Below w.heap.size w w') : WLoc w' b x := ⟨h.blk.below k, fun j => (k.frozen (p := ⟨b, j, none⟩) h.blk.lt).trans (h.fz j)⟩
theorem WLoc.alloc {w : World} {b : Nat} {x : Wag} (h : WLoc w b x) (o : Obj) : WLoc (w.alloc o) b x := h.below ((Below.refl _ _).alloc (Nat.le_refl _) _)
theorem WLoc.drewN {w : World} {b : Nat} {x : Wag} (h : WLoc w b x) (n : Nat) : WLoc (w.drewN n) b x := h.below ⟨rfl, rfl, rfl, Nat.le_refl _, fun _ _ => rfl⟩
theorem WLoc.new (w : World) (x : Wag) (T : TypeId) (b : Nat) (hb : b = w.heap.size) : WLoc (w.alloc (.cells #[.string x.num, .int .i64 x.len, .int .i64 x.axl, .int .i64 x.mas, .int .i64 x.brk, .int .i64 x.gds, .bool x.gen, .string x.dst] T)) b x := by
  refine ⟨newW w x T b hb, fun j => ?_⟩
  subst hb
  have e : (w.alloc (.cells #[.string x.num, .int .i64 x.len, .int .i64 x.axl, .int .i64 x.mas, .int .i64 x.brk, .int .i64 x.gds, .bool x.gen, .string x.dst] T)).heap[w.heap.size]? = some (.cells #[.string x.num, .int .i64 x.len, .int .i64 x.axl, .int .i64 x.mas, .int .i64 x.brk, .int .i64 x.gds, .bool x.gen, .string x.dst] T) := heap_alloc_new w _
  unfold World.frozen?
  rw [e]
  rfl
theorem WLoc.store {w : World} {b : Nat} {x y : Wag} {j : Nat} {u : Value} (h : WLoc w b x) (hy : cellsW y = (cellsW x).set j u) (hj : j < 8) : WLoc (w.setCell ⟨b, j, none⟩ u) b y := by
  refine ⟨⟨fun i v hi => ?_, by rw [World.size_setCell]; exact h.blk.lt⟩, fun i => by rw [World.frozen?_setCell]; exact h.fz i⟩
  have hi' : (cellsW y)[i]? = some v := hi
  rw [hy, List.getElem?_set] at hi'
  by_cases e : j = i
  · subst e
    rw [if_pos rfl] at hi'
    have hl : j < (cellsW x).length := hj
    rw [if_pos hl] at hi'
    injection hi' with hi'
    subst hi'
    exact World.cell?_setCell_same _ _ _ (h.blk.cs j _ (List.getElem?_eq_getElem hl))
  · rw [if_neg e] at hi'
    rw [World.cell?_setCell_other _ _ _ _ (ne_off e)]
    exact h.blk.cs i v hi'
theorem WLoc.other {w : World} {b : Nat} {x : Wag} (h : WLoc w b x) {p : Addr} (hp : p.block ≠ b) (u : Value) : WLoc (w.setCell p u) b x :=
  ⟨⟨fun i v hi => by rw [World.cell?_setCell_other _ _ _ _ (fun e => hp (congrArg Addr.block e))]; exact h.blk.cs i v hi, by rw [World.size_setCell]; exact h.blk.lt⟩, fun j => by rw [World.frozen?_setCell]; exact h.fz j⟩
/-- All of a wagon is written. -/
theorem WLoc.put {w : World} {b : Nat} {y : Wag} (h : WLoc w b y) (x : Wag) :
    WLoc ((((((((w.setCell ⟨b, 0, none⟩ (.string x.num)).setCell ⟨b, 1, none⟩ (.int .i64 x.len)).setCell ⟨b, 2, none⟩ (.int .i64 x.axl)).setCell ⟨b, 3, none⟩ (.int .i64 x.mas)).setCell ⟨b, 4, none⟩ (.int .i64 x.brk)).setCell ⟨b, 5, none⟩ (.int .i64 x.gds)).setCell ⟨b, 6, none⟩ (.bool x.gen)).setCell ⟨b, 7, none⟩ (.string x.dst)) b x :=
  ((((((((h.store (y := { y with num := x.num }) (j := 0) rfl (by decide)).store (y := { y with num := x.num, len := x.len }) (j := 1) rfl (by decide)).store (y := { y with num := x.num, len := x.len, axl := x.axl }) (j := 2) rfl (by decide)).store (y := { y with num := x.num, len := x.len, axl := x.axl, mas := x.mas }) (j := 3) rfl (by decide)).store (y := { x with gds := y.gds, gen := y.gen, dst := y.dst }) (j := 4) rfl (by decide)).store (y := { x with gen := y.gen, dst := y.dst }) (j := 5) rfl (by decide)).store (y := { x with dst := y.dst }) (j := 6) rfl (by decide)).store (y := x) (j := 7) rfl (by decide))
theorem Moves.put {m b : Nat} {w w' : World} {x : Wag} (h : Moves m w w') (hb : w.heap.size ≤ b) :
    Moves m w ((((((((w'.setCell ⟨b, 0, none⟩ (.string x.num)).setCell ⟨b, 1, none⟩ (.int .i64 x.len)).setCell ⟨b, 2, none⟩ (.int .i64 x.axl)).setCell ⟨b, 3, none⟩ (.int .i64 x.mas)).setCell ⟨b, 4, none⟩ (.int .i64 x.brk)).setCell ⟨b, 5, none⟩ (.int .i64 x.gds)).setCell ⟨b, 6, none⟩ (.bool x.gen)).setCell ⟨b, 7, none⟩ (.string x.dst)) :=
  (((((((h.setCell (p := ⟨b, 0, none⟩) (Or.inr hb) _).setCell (p := ⟨b, 1, none⟩) (Or.inr hb) _).setCell (p := ⟨b, 2, none⟩) (Or.inr hb) _).setCell (p := ⟨b, 3, none⟩) (Or.inr hb) _).setCell (p := ⟨b, 4, none⟩) (Or.inr hb) _).setCell (p := ⟨b, 5, none⟩) (Or.inr hb) _).setCell (p := ⟨b, 6, none⟩) (Or.inr hb) _).setCell (p := ⟨b, 7, none⟩) (Or.inr hb) _
theorem Rd.other {w : World} {p : Nat} {A : Option Addr} {c n : Nat} {bs : List Int} {s g : Bool} (h : Rd w p A c bs n s g) {q : Addr} (hq : p < q.block) (u : Value) : Rd (w.setCell q u) p A c bs n s g :=
  h.stays ((Below.refl _ _).setCell hq u)
theorem Rd.put {w : World} {p b : Nat} {A : Option Addr} {c n : Nat} {bs : List Int} {s g : Bool} (h : Rd w p A c bs n s g) (hb : p < b) (x : Wag) :
    Rd ((((((((w.setCell ⟨b, 0, none⟩ (.string x.num)).setCell ⟨b, 1, none⟩ (.int .i64 x.len)).setCell ⟨b, 2, none⟩ (.int .i64 x.axl)).setCell ⟨b, 3, none⟩ (.int .i64 x.mas)).setCell ⟨b, 4, none⟩ (.int .i64 x.brk)).setCell ⟨b, 5, none⟩ (.int .i64 x.gds)).setCell ⟨b, 6, none⟩ (.bool x.gen)).setCell ⟨b, 7, none⟩ (.string x.dst)) p A c bs n s g :=
  (((((((h.other (q := ⟨b, 0, none⟩) hb _).other (q := ⟨b, 1, none⟩) hb _).other (q := ⟨b, 2, none⟩) hb _).other (q := ⟨b, 3, none⟩) hb _).other (q := ⟨b, 4, none⟩) hb _).other (q := ⟨b, 5, none⟩) hb _).other (q := ⟨b, 6, none⟩) hb _).other (q := ⟨b, 7, none⟩) hb _

def wag0 : Wag := ⟨⟨#[]⟩, 0, 0, 0, 0, 0, false, ⟨#[]⟩⟩
/-- The places behind the parts of a wagon at n. -/
def rd1 (bs : List Int) (n : Nat) : Nat := tkN bs n 6
def rd2 (bs : List Int) (n : Nat) : Nat := tkN bs (rd1 bs n) 2
def rd3 (bs : List Int) (n : Nat) : Nat := tkN bs (rd2 bs n) 1
def rd4 (bs : List Int) (n : Nat) : Nat := tkN bs (rd3 bs n) 2
def rd5 (bs : List Int) (n : Nat) : Nat := tkN bs (rd4 bs n) 2
def rd6 (bs : List Int) (n : Nat) : Nat := tkN bs (rd5 bs n) 1
def rd7 (bs : List Int) (n : Nat) : Nat := tkN bs (rd6 bs n) 1
def crdN (bs : List Int) (n : Nat) : Nat := tkN bs (rd7 bs n) (sgV bs (rd6 bs n)).toNat
def rdX (bs : List Int) (n : Nat) : Wag :=
  ⟨nmV bs n, prV bs (rd1 bs n), sgV bs (rd2 bs n), prV bs (rd3 bs n), prV bs (rd4 bs n), gdV (sgV bs (rd5 bs n)), decide (16 ≤ sgV bs (rd5 bs n)), strOfNums (tkV bs (rd7 bs n) (sgV bs (rd6 bs n)).toNat)⟩
end Go.Proofs.YtimkmieohkefiaaGreat

namespace Go.Proofs.YtimkmieohkefiaaGreat
open Go.RowKit

def namesL : List ByteArray := [⟨#[97]⟩, ⟨#[98]⟩, ⟨#[99]⟩, ⟨#[100]⟩, ⟨#[101]⟩, ⟨#[110, 111, 114, 116, 104]⟩, ⟨#[115, 111, 117, 116, 104]⟩, ⟨#[112, 111, 114, 116, 49]⟩, ⟨#[120, 57]⟩, ⟨#[97, 98, 99, 100, 101, 102, 103, 104, 105, 106, 107, 108]⟩]
/-- A cell of a block of strings that has just been laid. -/
theorem new_str (W : World) (T : TypeId) (l : List ByteArray) (i : Nat) (hi : i < l.length) : (W.alloc (.cells (l.map Value.string).toArray T)).cell? ⟨W.heap.size, i, none⟩ = some (.string (l.getD i ⟨#[]⟩)) := by
  rw [cell_new]
  simp [hi]
end Go.Proofs.YtimkmieohkefiaaGreat

namespace Go.Proofs.YtimkmieohkefiaaGreat
open Go.RowKit

/-- A valid wagon whose number bears i. -/
def OkW (i : Int) (x : Wag) : Prop := validW x = 0 ∧ IsNum i x.num
theorem okW_of {i : Int} {x : Wag} (hn : IsNum i x.num) (k : Int) (hk : knd (x.num.data.toList.getD 4 48) = k) (h1 : x.axl = axlK k) (h2 : leastK k ≤ x.len ∧ x.len ≤ 400) (h3 : 50 ≤ x.mas ∧ x.mas ≤ 2000) (h4 : 0 ≤ x.brk ∧ x.brk ≤ x.mas) (h5 : 0 ≤ x.gds ∧ x.gds ≤ 9) (h6 : nameS x.dst = true) : OkW i x :=
  ⟨validW_of hn.2.1 (by rw [hk]; exact h1) ⟨by rw [hk]; exact h2.1, h2.2, h3.1, h3.2, h4.1, h4.2, h5.1, h5.2⟩ h6, hn⟩
theorem brk_in {a u : Int} (h0 : 50 ≤ a) (h1 : a ≤ 2000) (u0 : 0 ≤ u) (u1 : u ≤ 4) : 0 ≤ a * u ∧ a * u ≤ 4 * a := by
  obtain rfl | rfl | rfl | rfl | rfl : u = 0 ∨ u = 1 ∨ u = 2 ∨ u = 3 ∨ u = 4 := by omega
  all_goals omega
end Go.Proofs.YtimkmieohkefiaaGreat

namespace Go.Proofs.YtimkmieohkefiaaGreat
open Go.RowKit

theorem infoWag : (Tryz.prog.info? 33).map (fun i => (i.zero, i.size, i.bytes)) = some (some (aggW wag0), 8, 80) := by kernel_rfl
theorem flat_made (n : Nat) : WR.flat (List.replicate n wag0) = (madeCells (cellsW wag0).toArray (n * 8)).toList := by
  refine List.ext_getElem? fun j => ?_
  by_cases hj : j < n * 8
  · have h8 : j % 8 < (cellsW wag0).length := Nat.mod_lt _ (by decide)
    have e := flatR_at WR (l := List.replicate n wag0) (k := j / 8) (x := wag0) (by rw [List.getElem?_replicate, if_pos (by omega)]) (j := j % 8) (u := (cellsW wag0)[j % 8]) (List.getElem?_eq_getElem h8)
    have ej : j / 8 * WR.m + j % 8 = j := by show j / 8 * 8 + j % 8 = j; omega
    rw [ej] at e
    rw [e]
    have h8' : j % 8 < 8 := h8
    have hz : (cellsW wag0).toArray.size = 8 := rfl
    simp only [madeCells, Array.toList_map, Array.toList_range, List.getElem?_map, List.getElem?_range hj, Option.map_some, hz]
    congr 1
    rw [getElem!_pos (cellsW wag0).toArray (j % 8) h8']
    rfl
  · rw [List.getElem?_eq_none (by rw [flatR_len, List.length_replicate]; show n * 8 ≤ j; omega), List.getElem?_eq_none (by rw [Array.length_toList, size_madeCells]; omega)]
theorem ROwn.made {w : World} {base n : Nat} (hb : base ≤ w.heap.size) (hn : n ≤ 1000000) : ROwn WR 33 (w.alloc (.cells (madeCells (cellsW wag0).toArray (n * 8)) 33)) base (.slice (some ⟨w.heap.size, 0, none⟩) n n) (List.replicate n wag0) := by
  refine ⟨by rw [flatR_len], Or.inr ⟨w.heap.size, n, _, by rw [List.length_replicate], hb, heap_alloc_new w _, by rw [List.length_replicate]; exact Nat.le_refl _, by unfold maxLen; omega, by rw [size_madeCells]; rfl, ?_⟩⟩
  rw [flat_made, List.length_replicate]
  exact List.take_of_length_le (by rw [Array.length_toList, size_madeCells]; exact Nat.le_refl _)

/-- Behind k wagons from place n on. -/
def lsN (bs : List Int) (n : Nat) : Nat → Nat
  | 0 => n
  | k + 1 => crdN bs (lsN bs n k)
def lsX (bs : List Int) (n : Nat) : Nat → List Wag
  | 0 => []
  | k + 1 => lsX bs n k ++ [rdX bs (lsN bs n k)]
/-- The list while it is read. -/
def part (bs : List Int) (n k K : Nat) : List Wag := lsX bs n k ++ List.replicate (K - k) wag0
theorem ROwn.other {T : TypeId} {w : World} {base : Nat} {v : Value} {l : List Wag} (h : ROwn WR T w base v l) {p : Addr} (hp : p.block < base) (u : Value) : ROwn WR T (w.setCell p u) base v l := by
  refine ⟨h.1, ?_⟩
  rcases h.2 with g | ⟨g, cap, cur, e1, e2, e3, e4⟩
  · exact Or.inl g
  · exact Or.inr ⟨g, cap, cur, e1, e2, (Below.heap_setCell _ _ _ _ (by omega)).trans e3, e4⟩
end Go.Proofs.YtimkmieohkefiaaGreat

namespace Go.Proofs.YtimkmieohkefiaaGreat
open Go.RowKit

/-- What an append to wagons of the call's own leaves. -/
def AppW (base : Nat) (v : Value) (l ys : List Wag) (W : World) (v' : Value) (w' : World) : Prop :=
  ROwn WR 33 w' base v' (l ++ ys) ∧ W.grownBy w' v.ownBlock ∧ ∃ g c, v' = .slice (some ⟨g, 0, none⟩) (l.length + ys.length) c ∧ g < w'.heap.size
/-- append(v, ys..) onto wagons of the call's own, ys just laid. -/
theorem wpList_appW (W : World) {ops : Array Oper} {rest : List Oper} {o : Oper} {a : Act} {Q : Exit → Act → World → Prop} (hgd : o.guard = none) (s x : Operand)
    (ho : o.op = .call { callee := .builtin .append, args := #[s, x], argTypes := #[25, 25] }) (base : Nat) (v : Value) (l : List Wag) (hs : a.eval s = v) (O : ROwn WR 33 W base v l)
    (ys : List Wag) (w0 : World) (hW : W = w0.alloc (.cells (WR.flat ys).toArray 33)) (z : Nat) (hz : w0.heap.size = z) (m c : Nat) (hm : ys.length = m) (h0 : 0 < m) (hx : a.eval x = .slice (some ⟨z, 0, none⟩) m c)
    (hl : l.length + m ≤ 1000000000) (hb : base ≤ W.heap.size)
    (h : ∀ v' w', AppW base v l ys W v' w' → wpList Tryz.prog ops Q rest (a.put o.dst v') w') : wpList Tryz.prog ops Q (o :: rest) a W := by
  obtain ⟨i0, hi, hz0, hz1, hz2⟩ := info_parts infoWag
  subst hm
  subst hz
  refine wpList_append_lies W hgd s x 25 ho base 33 i0 (aggW wag0) 8 80 Tryz.underlying25 hi hz0 hz1 hz2 rfl (by decide) v l.length (WR.flat l) hs O ⟨w0.heap.size, 0, none⟩ ys.length c (WR.flat ys) hx (flatR_len WR ys) (by rw [hW]; exact newR (R := WR)) (flatR_one WR ys) h0 (by unfold maxLen; omega) (by omega) hb W.heap.size rfl ?_
  intro g cap w1 hown hg hat hlt
  exact h _ w1 ⟨ROwn.app (R := WR) hown rfl rfl, hg, g, cap, rfl, hlt⟩
/-- Wagons, each of which bears its place. -/
def Made (l : List Wag) : Prop := ∀ (k : Nat) (x : Wag), l[k]? = some x → OkW (k : Int) x
theorem Made.nil : Made [] := fun k x hk => by simp at hk
theorem Made.snoc {l : List Wag} {x : Wag} (h : Made l) (hx : OkW (l.length : Int) x) : Made (l ++ [x]) := fun k y hy => by
  by_cases hk : k < l.length
  · rw [List.getElem?_append_left hk] at hy; exact h k y hy
  · rw [List.getElem?_append_right (by omega)] at hy
    have h0 : k - l.length = 0 := by
      have := (List.getElem?_eq_some_iff.1 hy).1
      simp at this; omega
    rw [h0] at hy
    simp at hy
    subst hy
    have : k = l.length := by omega
    rw [this]; exact hx
theorem dgt_inj {i j : Nat} (hi : i < 1000) (hj : j < 1000) (h1 : UInt8.ofNat (48 + (i : Int) / 100 % 10).toNat = UInt8.ofNat (48 + (j : Int) / 100 % 10).toNat) (h2 : UInt8.ofNat (48 + (i : Int) / 10 % 10).toNat = UInt8.ofNat (48 + (j : Int) / 10 % 10).toNat) (h3 : UInt8.ofNat (48 + (i : Int) % 10).toNat = UInt8.ofNat (48 + (j : Int) % 10).toNat) : i = j := by
  have e1 := congrArg UInt8.toNat h1
  have e2 := congrArg UInt8.toNat h2
  have e3 := congrArg UInt8.toNat h3
  rw [UInt8.toNat_ofNat', UInt8.toNat_ofNat'] at e1 e2 e3
  omega
theorem isNum_inj {i j : Nat} {t : ByteArray} (hi : i < 1000) (hj : j < 1000) (h : IsNum i t) (k : IsNum j t) : i = j := by
  obtain ⟨_, _, a1, a2, a3⟩ := h
  obtain ⟨_, _, b1, b2, b3⟩ := k
  exact dgt_inj hi hj (a1.symm.trans b1) (a2.symm.trans b2) (a3.symm.trans b3)
theorem Made.nodup {l : List Wag} (h : Made l) (hl : l.length ≤ 1000) : (l.map Wag.num).Nodup := by
  rw [List.nodup_iff_pairwise_ne, List.pairwise_iff_getElem]
  intro i j hi hj hij e
  rw [List.length_map] at hi hj
  rw [List.getElem_map, List.getElem_map] at e
  have h1 := (h i l[i] (List.getElem?_eq_getElem hi)).2
  have h2 := (h j l[j] (List.getElem?_eq_getElem hj)).2
  rw [e] at h1
  have := isNum_inj (by omega) (by omega) h1 h2
  omega
theorem Made.valid {l : List Wag} (h : Made l) (hl : l.length ≤ 96) : validL l = 0 := by
  refine validL_zero.2 ⟨hl, fun x hx => ?_, h.nodup (by omega)⟩
  obtain ⟨k, hk⟩ := List.mem_iff_getElem?.1 hx
  exact (h k x hk).1
end Go.Proofs.YtimkmieohkefiaaGreat

namespace Go.Proofs.YtimkmieohkefiaaGreat
open Go.RowKit

theorem namesL_ok {s : ByteArray} (h : s ∈ namesL) : nameS s = true := by
  have : ∀ s ∈ namesL, nameS s = true := by decide
  exact this s h
set_option maxHeartbeats 800000 in
theorem mname17_any (m N : Nat) (w : World) (h : IsMk w m N) (hN : N ≤ 100000000000) :
    Calls Tryz.prog 42 #[.pointer (some ⟨m, 0, none⟩)] w (StrPost m (N + 1) (fun s => s ∈ namesL) w) := by
  have hm := h.lt
  go_enter Tryz.func42, Tryz.ntmps42
  go_wp2_with fail
  refine (next_any m N _ _ (h.alloc _) (by omega) (by omega) (by omega)).mono ?_
  rintro e w1 ⟨v, rfl, v1, v2, k1, k2⟩
  obtain ⟨i, rfl⟩ := Int.eq_ofNat_of_zero_le v1
  have hi : i < namesL.length := by show i < 10; omega
  have hc := (k2.cell (p := ⟨w.heap.size, i, none⟩) (by simp) (by simp; omega)).trans (new_str w 9 namesL i hi)
  have ho : namesL.getD i ⟨#[]⟩ ∈ namesL := by rw [List.getD_eq_getElem?_getD, List.getElem?_eq_getElem hi]; exact List.getElem_mem hi
  generalize namesL.getD i ⟨#[]⟩ = s at *
  have K1 := Lib.hid k1
  have K2 := Lib.hid (((Moves.refl m w).alloc _).trans k2)
  have HO := Lib.hid ho
  have v3 : (i : Int) < 10 := by omega
  clear k1 k2 ho v2
  go_wp2_with fail
  go_ret
  exact ⟨s, rfl, HO.out, K1.out, K2.out⟩

/-- A valid wagon whose number bears i. -/
def OkW17 (i : Int) (x : Wag) : Prop := OkW i x ∧ x.dst ∈ namesL
def MWagPost17 (m N : Nat) (i : Int) (w : World) (e : Ending) (w' : World) : Prop := ∃ x, e = .returned (aggW x) ∧ OkW17 i x ∧ IsMk w' m (N + 17) ∧ Moves m w w'
set_option maxHeartbeats 3200000 in
theorem mwagon17_any (m N : Nat) (i : Int) (w : World) (h : IsMk w m N) (hN : N ≤ 1000000000) (i1 : 0 ≤ i) (i2 : i ≤ 1000000) :
    Calls Tryz.prog 12 #[.pointer (some ⟨m, 0, none⟩), .int .i64 i] w (MWagPost17 m N i w) := by
  have hm := h.lt
  obtain ⟨r, hr⟩ : ∃ r, r = w.heap.size := ⟨_, rfl⟩
  have HR := Lib.hid hr
  have hmr : m < r := by omega
  have L0 := Lib.hid (WLoc.new w wag0 33 r hr)
  have K0 := Lib.hid (h.alloc (.cells #[.string wag0.num, .int .i64 wag0.len, .int .i64 wag0.axl, .int .i64 wag0.mas, .int .i64 wag0.brk, .int .i64 wag0.gds, .bool wag0.gen, .string wag0.dst] 33))
  have V0 := Lib.hid ((Moves.refl m w).alloc (.cells #[.string wag0.num, .int .i64 wag0.len, .int .i64 wag0.axl, .int .i64 wag0.mas, .int .i64 wag0.brk, .int .i64 wag0.gds, .bool wag0.gen, .string wag0.dst] 33))
  have nr : r ≠ m := by omega
  clear h
  go_enter Tryz.func12, Tryz.ntmps12
  go_wp2_with fail
  refine (mnumber_any m N i _ K0.out (by omega) i1 i2).mono ?_
  rintro e w1 ⟨t, rfl, ht, k1, k2⟩
  rw [← hr]
  have HT := Lib.hid ht
  have K := Lib.hid k1
  have V := Lib.hid (V0.out.trans k2)
  have L := Lib.hid (L0.out.moves k2 nr)
  clear ht k1 k2 K0 V0 L0 hr
  go_wp2_with fail
  refine (pick_any m (N + 11) (fun v => 80 ≤ v ∧ v ≤ 400) _ 6 6 _ (K.out.alloc _) (by omega) (by omega) (by omega) (by have := K.out.lt; omega) (by simp) (by exact new_pick _ _ _ [80, 120, 142, 199, 262, 400] (by decide) _ rfl)).mono ?_
  rintro e w2 ⟨len, rfl, ⟨len1, len2⟩, k1, k2⟩
  have V := Lib.hid ((V.out.alloc (.cells #[.int .i64 80, .int .i64 120, .int .i64 142, .int .i64 199, .int .i64 262, .int .i64 400] 3)).trans k2)
  have L := Lib.hid ((L.out.alloc (.cells #[.int .i64 80, .int .i64 120, .int .i64 142, .int .i64 199, .int .i64 262, .int .i64 400] 3)).moves k2 nr)
  have K := Lib.hid k1
  clear k1 k2
  go_wp2_with fail
  refine (pick_any m (N + 11 + 1) (fun v => 50 ≤ v ∧ v ≤ 2000) _ 5 5 _ (K.out.alloc _) (by omega) (by omega) (by omega) (by have := K.out.lt; omega) (by simp) (by exact new_pick _ _ _ [50, 120, 400, 800, 2000] (by decide) _ rfl)).mono ?_
  rintro e w3 ⟨mas, rfl, ⟨mas1, mas2⟩, k1, k2⟩
  have V := Lib.hid ((V.out.alloc (.cells #[.int .i64 50, .int .i64 120, .int .i64 400, .int .i64 800, .int .i64 2000] 3)).trans k2)
  have L := Lib.hid ((L.out.alloc (.cells #[.int .i64 50, .int .i64 120, .int .i64 400, .int .i64 800, .int .i64 2000] 3)).moves k2 nr)
  have K := Lib.hid k1
  clear k1 k2
  go_wp2_with fail
  refine (pick_any m (N + 11 + 1 + 1) (fun v => 0 ≤ v ∧ v ≤ 9) _ 6 6 _ (K.out.alloc _) (by omega) (by omega) (by omega) (by have := K.out.lt; omega) (by simp) (by exact new_pick _ _ _ [0, 0, 0, 1, 3, 9] (by decide) _ rfl)).mono ?_
  rintro e w4 ⟨gds, rfl, ⟨gds1, gds2⟩, k1, k2⟩
  have V := Lib.hid ((V.out.alloc (.cells #[.int .i64 0, .int .i64 0, .int .i64 0, .int .i64 1, .int .i64 3, .int .i64 9] 3)).trans k2)
  have L := Lib.hid ((L.out.alloc (.cells #[.int .i64 0, .int .i64 0, .int .i64 0, .int .i64 1, .int .i64 3, .int .i64 9] 3)).moves k2 nr)
  have K := Lib.hid k1
  clear k1 k2
  go_wp2_with fail
  refine (next_any m (N + 11 + 1 + 1 + 1) _ _ K.out (by omega) (by omega) (by omega)).mono ?_
  rintro e w5 ⟨gn, rfl, gn1, gn2, k1, k2⟩
  have V := Lib.hid (V.out.trans k2)
  have L := Lib.hid (L.out.moves k2 nr)
  have K := Lib.hid k1
  obtain ⟨gen, hgen⟩ : ∃ gen, gen = (gn == 0) := ⟨_, rfl⟩
  have HGEN := Lib.hid hgen
  clear k1 k2 hgen
  go_wp2_with fail
  refine (mname17_any m (N + 11 + 1 + 1 + 1 + 1) _ K.out (by omega)).mono ?_
  rintro e w6 ⟨dst, rfl, hd, k1, k2⟩
  rw [← HGEN.out]
  have HD := Lib.hid hd
  have V := Lib.hid (V.out.trans k2)
  have L := Lib.hid (L.out.moves k2 nr)
  have K := Lib.hid k1
  clear k1 k2 hd gn1 gn2 HGEN
  obtain ⟨b, hb⟩ : ∃ b, b = w6.heap.size := ⟨_, rfl⟩
  have HB := Lib.hid hb
  have nb : b ≠ m := by have := K.out.lt; omega
  have nbr : b ≠ r := by have := L.out.blk.lt; omega
  have hwb : w.heap.size ≤ b := by have := V.out.size; omega
  have hmb : m < b := by have := K.out.lt; omega
  have LB := Lib.hid (WLoc.new w6 ⟨t, len, 4, mas, 0, gds, gen, dst⟩ 33 b hb)
  have V := Lib.hid (V.out.alloc (.cells #[.string t, .int .i64 len, .int .i64 4, .int .i64 mas, .int .i64 0, .int .i64 gds, .bool gen, .string dst] 33))
  have L := Lib.hid (L.out.alloc (.cells #[.string t, .int .i64 len, .int .i64 4, .int .i64 mas, .int .i64 0, .int .i64 gds, .bool gen, .string dst] 33))
  have K := Lib.hid (K.out.alloc (.cells #[.string t, .int .i64 len, .int .i64 4, .int .i64 mas, .int .i64 0, .int .i64 gds, .bool gen, .string dst] 33))
  obtain ⟨hz, hdg, _⟩ := validR_size HT.out.2.1
  have h4 : 4 < t.size := by omega
  have h4' : (4 : Int) < (t.size : Int) := by omega
  have HKN := Lib.hid (show knd (t.data.toList.getD 4 48) = knd t[4] by rw [getD_byte t 4 h4])
  have HZ := Lib.hid hz
  have hbr : ∀ u : Int, 0 ≤ u → u ≤ 4 → 0 ≤ mas * u ∧ mas * u ≤ 4 * mas := fun u u0 u1 => brk_in mas1 mas2 u0 u1
  have HBR := Lib.hid hbr
  clear hz hdg hbr
  go_upto_region 2 with fail
  rw [← hb]
  generalize (w6.alloc (.cells #[.string t, .int .i64 len, .int .i64 4, .int .i64 mas, .int .i64 0, .int .i64 gds, .bool gen, .string dst] 33)) = wq at *
  clear hb
  obtain ⟨c0, c1, c2, c3, c4, c5, c6, c7, _⟩ := WBlk.of LB.out.blk
  have fb := LB.out.fz

  by_cases h50 : t[4].toNat = 50
  · go_upto_region 9 with fail
    have LB2 := Lib.hid (LB.out.store (y := ⟨t, len, 2, mas, 0, gds, gen, dst⟩) (j := 2) (u := .int .i64 2) rfl (by decide))
    have K2 := Lib.hid (K.out.setCell (p := ⟨b, 2, none⟩) hmb (.int .i64 2))
    have V2 := Lib.hid (V.out.setCell (p := ⟨b, 2, none⟩) (Or.inr hwb) (.int .i64 2))
    have L2 := Lib.hid (L.out.other (p := ⟨b, 2, none⟩) nbr (.int .i64 2))
    have HK := Lib.hid (show knd t[4] = 2 by unfold knd; rw [h50]; rfl)
    clear c0 c1 c2 c3 c4 c5 c6 c7 fb
    obtain ⟨c0, c1, c2, c3, c4, c5, c6, c7, _⟩ := WBlk.of LB2.out.blk
    have hbr := HBR.out
    have M5 : N + 11 + 1 + 1 + 1 + 1 + 1 ≤ 1000000000000 := by omega
    go_region_with (first | (go_at_call 19; refine (next_any m (N + 11 + 1 + 1 + 1 + 1 + 1) _ _ K2.out.drew M5 (by decide) (by decide)).mono ?_; rintro e w7 ⟨u, rfl, u1, u2, k1, k2⟩; have m1 := (hbr u u1 (by omega)).1; have m2 := (hbr u u1 (by omega)).2; have hw : IntKind.i64.wrap (mas * u) = mas * u := IntWalk.i64_in _ (by omega); have hw2 : wrap64 (mas * u) = mas * u := IntWalk.wrap64_in _ (by omega); have hq : IntKind.i64.wrap ((mas * u).tdiv 4) = mas * u / 4 := (by rw [Int.tdiv_eq_ediv_of_nonneg m1]; exact IntWalk.i64_in _ (by omega)); have LB3 := Lib.hid ((LB2.out.drewN 1).moves k2 nb); have L3 := Lib.hid ((L2.out.drewN 1).moves k2 nr); have V3 := Lib.hid ((V2.out.drewN (n := 1)).trans k2); have K3 := Lib.hid k1; obtain ⟨d0, d1, d2, d3, d4, d5, d6, d7, _⟩ := WBlk.of LB3.out.blk; have fd := LB3.out.fz; clear k1 k2))
    all_goals
      have LB4 := Lib.hid (LB3.out.store (y := ⟨t, len, 2, mas, mas * u / 4, gds, gen, dst⟩) (j := 4) (u := .int .i64 (mas * u / 4)) rfl (by decide))
      have K4 := Lib.hid (K3.out.setCell (p := ⟨b, 4, none⟩) hmb (.int .i64 (mas * u / 4)))
      have V4 := Lib.hid (V3.out.setCell (p := ⟨b, 4, none⟩) (Or.inr hwb) (.int .i64 (mas * u / 4)))
      have L4 := Lib.hid (L3.out.other (p := ⟨b, 4, none⟩) nbr (.int .i64 (mas * u / 4)))
      clear c0 c1 c2 c3 c4 c5 c6 c7 d0 d1 d2 d3 d4 d5 d6 d7 fd
      obtain ⟨d0, d1, d2, d3, d4, d5, d6, d7, _⟩ := WBlk.of LB4.out.blk
      obtain ⟨e0, e1, e2, e3, e4, e5, e6, e7, _⟩ := WBlk.of L4.out.blk
      have fe := L4.out.fz
      have b0 : 0 ≤ mas * u / 4 := by omega
      have b1 : mas * u / 4 ≤ mas := by omega
      go_wp2_with fail
      have X := Lib.hid (show OkW17 i ⟨t, len, 2, mas, mas * u / 4, gds, gen, dst⟩ from ⟨okW_of HT.out 2 (HKN.out.trans HK.out) (by first | rfl | decide | exact HK2.out.1.symm) ⟨by first | (rw [HK2.out.2]; omega) | (show (80 : Int) ≤ _; omega) | (show (120 : Int) ≤ _; omega), by omega⟩ ⟨mas1, mas2⟩ ⟨b0, b1⟩ ⟨gds1, gds2⟩ (namesL_ok HD.out), HD.out⟩)
      have LF := Lib.hid (L4.out.put ⟨t, len, 2, mas, mas * u / 4, gds, gen, dst⟩)
      have VF := Lib.hid (V4.out.put (x := ⟨t, len, 2, mas, mas * u / 4, gds, gen, dst⟩) (b := r) (by rw [HR.out]; exact Nat.le_refl _))
      have KF := Lib.hid ((((((((K4.out.setCell (p := ⟨r, 0, none⟩) hmr (.string t)).setCell (p := ⟨r, 1, none⟩) hmr (.int .i64 (len))).setCell (p := ⟨r, 2, none⟩) hmr (.int .i64 2)).setCell (p := ⟨r, 3, none⟩) hmr (.int .i64 mas)).setCell (p := ⟨r, 4, none⟩) hmr (.int .i64 (mas * u / 4))).setCell (p := ⟨r, 5, none⟩) hmr (.int .i64 gds)).setCell (p := ⟨r, 6, none⟩) hmr (.bool gen)).setCell (p := ⟨r, 7, none⟩) hmr (.string dst))
      clear d0 d1 d2 d3 d4 d5 d6 d7 e0 e1 e2 e3 e4 e5 e6 e7 fe
      refine bodyPost_ret (results_rec (R := WR) rfl Tryz.underlying33 rfl infoW _ _ r ⟨t, len, 2, mas, mas * u / 4, gds, gen, dst⟩ rfl LF.out.blk) rfl ?_
      exact ⟨⟨t, len, 2, mas, mas * u / 4, gds, gen, dst⟩, rfl, X.out, KF.out, VF.out⟩
  by_cases h52 : t[4].toNat = 52
  · go_upto_region 9 with fail
    have LB2 := Lib.hid (LB.out.store (y := ⟨t, len, 2, mas, 0, gds, gen, dst⟩) (j := 2) (u := .int .i64 2) rfl (by decide))
    have K2 := Lib.hid (K.out.setCell (p := ⟨b, 2, none⟩) hmb (.int .i64 2))
    have V2 := Lib.hid (V.out.setCell (p := ⟨b, 2, none⟩) (Or.inr hwb) (.int .i64 2))
    have L2 := Lib.hid (L.out.other (p := ⟨b, 2, none⟩) nbr (.int .i64 2))
    have HK := Lib.hid (show knd t[4] = 2 by unfold knd; rw [h52]; rfl)
    clear c0 c1 c2 c3 c4 c5 c6 c7 fb
    obtain ⟨c0, c1, c2, c3, c4, c5, c6, c7, _⟩ := WBlk.of LB2.out.blk
    have hbr := HBR.out
    have M5 : N + 11 + 1 + 1 + 1 + 1 + 1 ≤ 1000000000000 := by omega
    go_region_with (first | (go_at_call 19; refine (next_any m (N + 11 + 1 + 1 + 1 + 1 + 1) _ _ K2.out.drew M5 (by decide) (by decide)).mono ?_; rintro e w7 ⟨u, rfl, u1, u2, k1, k2⟩; have m1 := (hbr u u1 (by omega)).1; have m2 := (hbr u u1 (by omega)).2; have hw : IntKind.i64.wrap (mas * u) = mas * u := IntWalk.i64_in _ (by omega); have hw2 : wrap64 (mas * u) = mas * u := IntWalk.wrap64_in _ (by omega); have hq : IntKind.i64.wrap ((mas * u).tdiv 4) = mas * u / 4 := (by rw [Int.tdiv_eq_ediv_of_nonneg m1]; exact IntWalk.i64_in _ (by omega)); have LB3 := Lib.hid ((LB2.out.drewN 1).moves k2 nb); have L3 := Lib.hid ((L2.out.drewN 1).moves k2 nr); have V3 := Lib.hid ((V2.out.drewN (n := 1)).trans k2); have K3 := Lib.hid k1; obtain ⟨d0, d1, d2, d3, d4, d5, d6, d7, _⟩ := WBlk.of LB3.out.blk; have fd := LB3.out.fz; clear k1 k2))
    all_goals
      have LB4 := Lib.hid (LB3.out.store (y := ⟨t, len, 2, mas, mas * u / 4, gds, gen, dst⟩) (j := 4) (u := .int .i64 (mas * u / 4)) rfl (by decide))
      have K4 := Lib.hid (K3.out.setCell (p := ⟨b, 4, none⟩) hmb (.int .i64 (mas * u / 4)))
      have V4 := Lib.hid (V3.out.setCell (p := ⟨b, 4, none⟩) (Or.inr hwb) (.int .i64 (mas * u / 4)))
      have L4 := Lib.hid (L3.out.other (p := ⟨b, 4, none⟩) nbr (.int .i64 (mas * u / 4)))
      clear c0 c1 c2 c3 c4 c5 c6 c7 d0 d1 d2 d3 d4 d5 d6 d7 fd
      obtain ⟨d0, d1, d2, d3, d4, d5, d6, d7, _⟩ := WBlk.of LB4.out.blk
      obtain ⟨e0, e1, e2, e3, e4, e5, e6, e7, _⟩ := WBlk.of L4.out.blk
      have fe := L4.out.fz
      have b0 : 0 ≤ mas * u / 4 := by omega
      have b1 : mas * u / 4 ≤ mas := by omega
      go_wp2_with fail
      have X := Lib.hid (show OkW17 i ⟨t, len, 2, mas, mas * u / 4, gds, gen, dst⟩ from ⟨okW_of HT.out 2 (HKN.out.trans HK.out) (by first | rfl | decide | exact HK2.out.1.symm) ⟨by first | (rw [HK2.out.2]; omega) | (show (80 : Int) ≤ _; omega) | (show (120 : Int) ≤ _; omega), by omega⟩ ⟨mas1, mas2⟩ ⟨b0, b1⟩ ⟨gds1, gds2⟩ (namesL_ok HD.out), HD.out⟩)
      have LF := Lib.hid (L4.out.put ⟨t, len, 2, mas, mas * u / 4, gds, gen, dst⟩)
      have VF := Lib.hid (V4.out.put (x := ⟨t, len, 2, mas, mas * u / 4, gds, gen, dst⟩) (b := r) (by rw [HR.out]; exact Nat.le_refl _))
      have KF := Lib.hid ((((((((K4.out.setCell (p := ⟨r, 0, none⟩) hmr (.string t)).setCell (p := ⟨r, 1, none⟩) hmr (.int .i64 (len))).setCell (p := ⟨r, 2, none⟩) hmr (.int .i64 2)).setCell (p := ⟨r, 3, none⟩) hmr (.int .i64 mas)).setCell (p := ⟨r, 4, none⟩) hmr (.int .i64 (mas * u / 4))).setCell (p := ⟨r, 5, none⟩) hmr (.int .i64 gds)).setCell (p := ⟨r, 6, none⟩) hmr (.bool gen)).setCell (p := ⟨r, 7, none⟩) hmr (.string dst))
      clear d0 d1 d2 d3 d4 d5 d6 d7 e0 e1 e2 e3 e4 e5 e6 e7 fe
      refine bodyPost_ret (results_rec (R := WR) rfl Tryz.underlying33 rfl infoW _ _ r ⟨t, len, 2, mas, mas * u / 4, gds, gen, dst⟩ rfl LF.out.blk) rfl ?_
      exact ⟨⟨t, len, 2, mas, mas * u / 4, gds, gen, dst⟩, rfl, X.out, KF.out, VF.out⟩
  by_cases h57 : t[4].toNat = 57
  · obtain ⟨ln, hln⟩ : ∃ ln, ln = max2 len 120 := ⟨_, rfl⟩
    have l1 : 120 ≤ ln := by rw [hln]; unfold max2; split <;> omega
    have l2 : ln ≤ 400 := by rw [hln]; unfold max2; split <;> omega
    have hmx : ∀ w ts t, (Builtin.max_ ts t #[.int .i64 len, .int .i64 120]).run Tryz.prog w = .ok (.int .i64 ln) w := fun w ts t => by rw [run_max2, hln]
    clear hln
    go_upto_region 9 with fail
    have LB2 := Lib.hid ((LB.out.store (y := ⟨t, len, 6, mas, 0, gds, gen, dst⟩) (j := 2) (u := .int .i64 6) rfl (by decide)).store (y := ⟨t, ln, 6, mas, 0, gds, gen, dst⟩) (j := 1) (u := .int .i64 ln) rfl (by decide))
    have K2 := Lib.hid ((K.out.setCell (p := ⟨b, 2, none⟩) hmb (.int .i64 6)).setCell (p := ⟨b, 1, none⟩) hmb (.int .i64 ln))
    have V2 := Lib.hid ((V.out.setCell (p := ⟨b, 2, none⟩) (Or.inr hwb) (.int .i64 6)).setCell (p := ⟨b, 1, none⟩) (Or.inr hwb) (.int .i64 ln))
    have L2 := Lib.hid ((L.out.other (p := ⟨b, 2, none⟩) nbr (.int .i64 6)).other (p := ⟨b, 1, none⟩) nbr (.int .i64 ln))
    have HK := Lib.hid (show knd t[4] = 3 by unfold knd; rw [h57]; rfl)
    clear c0 c1 c2 c3 c4 c5 c6 c7 fb
    obtain ⟨c0, c1, c2, c3, c4, c5, c6, c7, _⟩ := WBlk.of LB2.out.blk
    have hbr := HBR.out
    have M5 : N + 11 + 1 + 1 + 1 + 1 + 1 ≤ 1000000000000 := by omega
    go_region_with (first | (go_at_call 19; refine (next_any m (N + 11 + 1 + 1 + 1 + 1 + 1) _ _ K2.out.drew M5 (by decide) (by decide)).mono ?_; rintro e w7 ⟨u, rfl, u1, u2, k1, k2⟩; have m1 := (hbr u u1 (by omega)).1; have m2 := (hbr u u1 (by omega)).2; have hw : IntKind.i64.wrap (mas * u) = mas * u := IntWalk.i64_in _ (by omega); have hw2 : wrap64 (mas * u) = mas * u := IntWalk.wrap64_in _ (by omega); have hq : IntKind.i64.wrap ((mas * u).tdiv 4) = mas * u / 4 := (by rw [Int.tdiv_eq_ediv_of_nonneg m1]; exact IntWalk.i64_in _ (by omega)); have LB3 := Lib.hid ((LB2.out.drewN 1).moves k2 nb); have L3 := Lib.hid ((L2.out.drewN 1).moves k2 nr); have V3 := Lib.hid ((V2.out.drewN (n := 1)).trans k2); have K3 := Lib.hid k1; obtain ⟨d0, d1, d2, d3, d4, d5, d6, d7, _⟩ := WBlk.of LB3.out.blk; have fd := LB3.out.fz; clear k1 k2))
    all_goals
      have LB4 := Lib.hid (LB3.out.store (y := ⟨t, ln, 6, mas, mas * u / 4, gds, gen, dst⟩) (j := 4) (u := .int .i64 (mas * u / 4)) rfl (by decide))
      have K4 := Lib.hid (K3.out.setCell (p := ⟨b, 4, none⟩) hmb (.int .i64 (mas * u / 4)))
      have V4 := Lib.hid (V3.out.setCell (p := ⟨b, 4, none⟩) (Or.inr hwb) (.int .i64 (mas * u / 4)))
      have L4 := Lib.hid (L3.out.other (p := ⟨b, 4, none⟩) nbr (.int .i64 (mas * u / 4)))
      clear c0 c1 c2 c3 c4 c5 c6 c7 d0 d1 d2 d3 d4 d5 d6 d7 fd
      obtain ⟨d0, d1, d2, d3, d4, d5, d6, d7, _⟩ := WBlk.of LB4.out.blk
      obtain ⟨e0, e1, e2, e3, e4, e5, e6, e7, _⟩ := WBlk.of L4.out.blk
      have fe := L4.out.fz
      have b0 : 0 ≤ mas * u / 4 := by omega
      have b1 : mas * u / 4 ≤ mas := by omega
      go_wp2_with fail
      have X := Lib.hid (show OkW17 i ⟨t, ln, 6, mas, mas * u / 4, gds, gen, dst⟩ from ⟨okW_of HT.out 3 (HKN.out.trans HK.out) (by first | rfl | decide | exact HK2.out.1.symm) ⟨by first | (rw [HK2.out.2]; omega) | (show (80 : Int) ≤ _; omega) | (show (120 : Int) ≤ _; omega), by omega⟩ ⟨mas1, mas2⟩ ⟨b0, b1⟩ ⟨gds1, gds2⟩ (namesL_ok HD.out), HD.out⟩)
      have LF := Lib.hid (L4.out.put ⟨t, ln, 6, mas, mas * u / 4, gds, gen, dst⟩)
      have VF := Lib.hid (V4.out.put (x := ⟨t, ln, 6, mas, mas * u / 4, gds, gen, dst⟩) (b := r) (by rw [HR.out]; exact Nat.le_refl _))
      have KF := Lib.hid ((((((((K4.out.setCell (p := ⟨r, 0, none⟩) hmr (.string t)).setCell (p := ⟨r, 1, none⟩) hmr (.int .i64 (ln))).setCell (p := ⟨r, 2, none⟩) hmr (.int .i64 6)).setCell (p := ⟨r, 3, none⟩) hmr (.int .i64 mas)).setCell (p := ⟨r, 4, none⟩) hmr (.int .i64 (mas * u / 4))).setCell (p := ⟨r, 5, none⟩) hmr (.int .i64 gds)).setCell (p := ⟨r, 6, none⟩) hmr (.bool gen)).setCell (p := ⟨r, 7, none⟩) hmr (.string dst))
      clear d0 d1 d2 d3 d4 d5 d6 d7 e0 e1 e2 e3 e4 e5 e6 e7 fe
      refine bodyPost_ret (results_rec (R := WR) rfl Tryz.underlying33 rfl infoW _ _ r ⟨t, ln, 6, mas, mas * u / 4, gds, gen, dst⟩ rfl LF.out.blk) rfl ?_
      exact ⟨⟨t, ln, 6, mas, mas * u / 4, gds, gen, dst⟩, rfl, X.out, KF.out, VF.out⟩
  obtain ⟨k, hk, hk2⟩ : ∃ k, knd t[4] = k ∧ (k = 0 ∨ k = 1) := by
    refine ⟨knd t[4], rfl, ?_⟩
    unfold knd
    split
    · exact Or.inr rfl
    · rw [if_neg (by omega)]; exact Or.inl (by first | rfl | (rw [if_neg h57]))
  have HKK := Lib.hid hk
  have HK2 := Lib.hid (show axlK k = 4 ∧ leastK k = 80 by rcases hk2 with rfl | rfl <;> decide)
  clear hk hk2
  go_upto_region 9 with fail
  have LB2 := LB
  have K2 := K
  have V2 := V
  have L2 := L
  have HK := Lib.hid HKK.out
  clear c0 c1 c2 c3 c4 c5 c6 c7 fb
  obtain ⟨c0, c1, c2, c3, c4, c5, c6, c7, _⟩ := WBlk.of LB2.out.blk
  have hbr := HBR.out
  have M5 : N + 11 + 1 + 1 + 1 + 1 + 1 ≤ 1000000000000 := by omega
  go_region_with (first | (go_at_call 19; refine (next_any m (N + 11 + 1 + 1 + 1 + 1 + 1) _ _ K2.out.drew M5 (by decide) (by decide)).mono ?_; rintro e w7 ⟨u, rfl, u1, u2, k1, k2⟩; have m1 := (hbr u u1 (by omega)).1; have m2 := (hbr u u1 (by omega)).2; have hw : IntKind.i64.wrap (mas * u) = mas * u := IntWalk.i64_in _ (by omega); have hw2 : wrap64 (mas * u) = mas * u := IntWalk.wrap64_in _ (by omega); have hq : IntKind.i64.wrap ((mas * u).tdiv 4) = mas * u / 4 := (by rw [Int.tdiv_eq_ediv_of_nonneg m1]; exact IntWalk.i64_in _ (by omega)); have LB3 := Lib.hid ((LB2.out.drewN 1).moves k2 nb); have L3 := Lib.hid ((L2.out.drewN 1).moves k2 nr); have V3 := Lib.hid ((V2.out.drewN (n := 1)).trans k2); have K3 := Lib.hid k1; obtain ⟨d0, d1, d2, d3, d4, d5, d6, d7, _⟩ := WBlk.of LB3.out.blk; have fd := LB3.out.fz; clear k1 k2))
  all_goals
    have LB4 := Lib.hid (LB3.out.store (y := ⟨t, len, 4, mas, mas * u / 4, gds, gen, dst⟩) (j := 4) (u := .int .i64 (mas * u / 4)) rfl (by decide))
    have K4 := Lib.hid (K3.out.setCell (p := ⟨b, 4, none⟩) hmb (.int .i64 (mas * u / 4)))
    have V4 := Lib.hid (V3.out.setCell (p := ⟨b, 4, none⟩) (Or.inr hwb) (.int .i64 (mas * u / 4)))
    have L4 := Lib.hid (L3.out.other (p := ⟨b, 4, none⟩) nbr (.int .i64 (mas * u / 4)))
    clear c0 c1 c2 c3 c4 c5 c6 c7 d0 d1 d2 d3 d4 d5 d6 d7 fd
    obtain ⟨d0, d1, d2, d3, d4, d5, d6, d7, _⟩ := WBlk.of LB4.out.blk
    obtain ⟨e0, e1, e2, e3, e4, e5, e6, e7, _⟩ := WBlk.of L4.out.blk
    have fe := L4.out.fz
    have b0 : 0 ≤ mas * u / 4 := by omega
    have b1 : mas * u / 4 ≤ mas := by omega
    go_wp2_with fail
    have X := Lib.hid (show OkW17 i ⟨t, len, 4, mas, mas * u / 4, gds, gen, dst⟩ from ⟨okW_of HT.out k (HKN.out.trans HK.out) (by first | rfl | decide | exact HK2.out.1.symm) ⟨by first | (rw [HK2.out.2]; omega) | (show (80 : Int) ≤ _; omega) | (show (120 : Int) ≤ _; omega), by omega⟩ ⟨mas1, mas2⟩ ⟨b0, b1⟩ ⟨gds1, gds2⟩ (namesL_ok HD.out), HD.out⟩)
    have LF := Lib.hid (L4.out.put ⟨t, len, 4, mas, mas * u / 4, gds, gen, dst⟩)
    have VF := Lib.hid (V4.out.put (x := ⟨t, len, 4, mas, mas * u / 4, gds, gen, dst⟩) (b := r) (by rw [HR.out]; exact Nat.le_refl _))
    have KF := Lib.hid ((((((((K4.out.setCell (p := ⟨r, 0, none⟩) hmr (.string t)).setCell (p := ⟨r, 1, none⟩) hmr (.int .i64 (len))).setCell (p := ⟨r, 2, none⟩) hmr (.int .i64 4)).setCell (p := ⟨r, 3, none⟩) hmr (.int .i64 mas)).setCell (p := ⟨r, 4, none⟩) hmr (.int .i64 (mas * u / 4))).setCell (p := ⟨r, 5, none⟩) hmr (.int .i64 gds)).setCell (p := ⟨r, 6, none⟩) hmr (.bool gen)).setCell (p := ⟨r, 7, none⟩) hmr (.string dst))
    clear d0 d1 d2 d3 d4 d5 d6 d7 e0 e1 e2 e3 e4 e5 e6 e7 fe
    refine bodyPost_ret (results_rec (R := WR) rfl Tryz.underlying33 rfl infoW _ _ r ⟨t, len, 4, mas, mas * u / 4, gds, gen, dst⟩ rfl LF.out.blk) rfl ?_
    exact ⟨⟨t, len, 4, mas, mas * u / 4, gds, gen, dst⟩, rfl, X.out, KF.out, VF.out⟩
end Go.Proofs.YtimkmieohkefiaaGreat

namespace Go.Proofs.YtimkmieohkefiaaGreat
open Go.RowKit

/-- Wagons, each of which bears its place. -/
def Made17 (l : List Wag) : Prop := ∀ (k : Nat) (x : Wag), l[k]? = some x → OkW17 (k : Int) x
theorem Made17.nil : Made17 [] := fun k x hk => by simp at hk
theorem Made17.snoc {l : List Wag} {x : Wag} (h : Made17 l) (hx : OkW17 (l.length : Int) x) : Made17 (l ++ [x]) := fun k y hy => by
  by_cases hk : k < l.length
  · rw [List.getElem?_append_left hk] at hy; exact h k y hy
  · rw [List.getElem?_append_right (by omega)] at hy
    have h0 : k - l.length = 0 := by
      have := (List.getElem?_eq_some_iff.1 hy).1
      simp at this; omega
    rw [h0] at hy
    simp at hy
    subst hy
    have : k = l.length := by omega
    rw [this]; exact hx
def WagsPost17 (m M n : Nat) (w : World) (e : Ending) (w' : World) : Prop := ∃ v l, e = .returned v ∧ ROwn WR 33 w' w.heap.size v l ∧ l.length ≤ n ∧ Made17 l ∧ IsMk w' m M ∧ Moves m w w'
set_option maxHeartbeats 1600000 in
theorem mwagons17_any (m N n : Nat) (w : World) (h : IsMk w m N) (hN : N ≤ 1000000) (hn : n ≤ 1000) :
    Calls Tryz.prog 11 #[.pointer (some ⟨m, 0, none⟩), .int .i64 (n : Int)] w (WagsPost17 m (N + 1 + 17 * n) n w) := by
  have hm := h.lt
  go_enter Tryz.func11, Tryz.ntmps11
  go_wp2_with fail
  refine (next_any m N _ _ h (by omega) (by omega) (by omega)).mono ?_
  rintro e w2 ⟨v, rfl, v1, v2, k1, k2⟩
  obtain ⟨k0, rfl⟩ := Int.eq_ofNat_of_zero_le v1
  have HK := Lib.hid k1
  have HM := Lib.hid k2
  clear k1 k2
  go_wp2_with fail
  go_loopw [5, 6] (fun ov iv wr => ∃ (l : List Wag) (k M : Nat), iv = .int .i64 (k : Int) ∧ l.length + k ≤ n ∧ M + 17 * k ≤ N + 1 + 17 * n ∧ Hid (ROwn WR 33 wr w.heap.size ov l) ∧ Hid (Made17 l) ∧ Hid (IsMk wr m M) ∧ Hid (Moves m w wr)) (fun _ iv _ => (intOf iv).toNat)
  case atStart => exact ⟨[], k0, N + 1, rfl, by simp; omega, by omega, Lib.hid ROwn.nil, Lib.hid Made17.nil, HK, HM⟩
  case round =>
    clear HK HM
    obtain ⟨l, k, M, rfl, hk, hM, O, G, K, V⟩ := hrel
    by_cases hk0 : k = 0
    · subst hk0
      have K' := Lib.hid (K.out.more (show M ≤ N + 1 + 17 * n by omega))
      have HLN := Lib.hid (show l.length ≤ n by omega)
      go_wp2_with fail
      go_ret
      exact ⟨_, l, rfl, O.out, HLN.out, G.out, K'.out, V.out⟩
    · have hkp : (0 : Int) < (k : Int) := by omega
      obtain ⟨A, c, hv, _⟩ := O.out.slice
      subst hv
      go_wp2_with fail
      refine (mwagon17_any m M (l.length : Int) _ K.out (by omega) (by omega) (by omega)).mono ?_
      rintro e w3 ⟨x, rfl, hx, k5, k6⟩
      have M3 := Lib.hid (V.out.trans k6)
      have O3 := Lib.hid (O.out.moves k6 hm)
      have K3 := Lib.hid k5
      have HX := Lib.hid hx
      have HLN := Lib.hid (show l.length ≤ 1000 by omega)
      clear k5 k6 K V O hx
      go_wp2_with (first | (at_builtin; refine wpList_appW _ rfl (.tmp 15) (.tmp 20) rfl w.heap.size _ l rfl (O3.out.alloc _) [x] w3 rfl _ rfl 1 1 rfl (by decide) rfl (by have := HLN.out; omega) (le_alloc M3.out.size) ?_; rintro v4 w4 ⟨O4, G4, g4, c4, rfl, _⟩))
      have HO4 := Lib.hid O4
      have M4 := Lib.hid ((M3.out.alloc (.cells (WR.flat [x]).toArray 33)).grown G4 (fun j hj => (O3.out.block hj).1))
      have K4 := Lib.hid ((K3.out.alloc (.cells (WR.flat [x]).toArray 33)).grown G4 (fun j hj => by have := (O3.out.block hj).1; omega))
      clear O4 G4
      go_roundw
      case rel =>
        refine ⟨l ++ [x], k - 1, M + 17, by congr 1; omega, by rw [List.length_append]; simp; omega, by omega, HO4, Lib.hid (G.out.snoc HX.out), K4, M4⟩
      case measure => simp [intOf]; omega
end Go.Proofs.YtimkmieohkefiaaGreat
