/-
  Stage 3: Pack, the program's and the reference's.
-/
import Derived.Test.YtbpgbdnfoofnaaaDoorNum
import Derived.Test.YtbpgbdnfoofnaaaDoorHRenc
import Derived.Test.YtbpgbdnfoofnaaaDoorHAt
set_option linter.unusedSimpArgs false
set_option linter.unusedVariables false
namespace Go.Proofs.YtbpgbdnfoofnaaaDoor
open Go.RowKit

/-- The two bytes of a value's code word. -/
def two (v : Int) : List Int := [((encN v.toNat / 256 : Nat) : Int), ((encN v.toNat % 256 : Nat) : Int)]
def okV (v : Int) : Prop := 0 ≤ v ∧ v ≤ 2047
instance (v : Int) : Decidable (okV v) := by unfold okV; infer_instance
/-- What Pack answers: bytes and an error. -/
def packR (zs : List Int) : List Int × Int :=
  if 65536 < zs.length then ([], 3) else if ∀ v ∈ zs, okV v then (zs.flatMap two, 0) else ([], 2)
def PackPost (base : Nat) (zs : List Int) (w : World) (e : Ending) (w' : World) : Prop :=
  ∃ v, e = .returned (.tuple #[v, .int .i64 (packR zs).2]) ∧ Own .u8 5 w' base v (packR zs).1 ∧ Below w.heap.size w w'
theorem PackPost.mk' {base : Nat} {zs : List Int} {w w' : World} {e : Ending} {v : Value} {b : List Int} {er : Int} (h : packR zs = (b, er)) (h1 : e = .returned (.tuple #[v, .int .i64 er])) (h2 : Own .u8 5 w' base v b) (h3 : Below w.heap.size w w') : PackPost base zs w e w' := by
  refine ⟨v, ?_, ?_, h3⟩
  · rw [h]; exact h1
  · rw [h]; exact h2

theorem packR_big {zs : List Int} (h : 65536 < zs.length) : packR zs = ([], 3) := by unfold packR; rw [if_pos h]
theorem packR_bad {zs : List Int} {v : Int} (h : ¬ 65536 < zs.length) (hv : v ∈ zs) (hn : ¬ okV v) : packR zs = ([], 2) := by
  unfold packR; rw [if_neg h, if_neg (fun g => hn (g v hv))]
theorem packR_ok {zs : List Int} (h : ¬ 65536 < zs.length) (hv : ∀ v ∈ zs, okV v) : packR zs = (zs.flatMap two, 0) := by
  unfold packR; rw [if_neg h, if_pos hv]
theorem two_len (zs : List Int) : (zs.flatMap two).length = 2 * zs.length := by
  induction zs with
  | nil => rfl
  | cons a l ih => rw [List.flatMap_cons, List.length_append, ih, List.length_cons]; simp [two]; omega
theorem two_succ (zs : List Int) (k : Nat) (h : k < zs.length) : (zs.take (k + 1)).flatMap two = (zs.take k).flatMap two ++ two (zs.getD k 0) := by
  rw [List.take_succ_eq_append_getElem h, List.flatMap_append, List.getD_eq_getElem?_getD, List.getElem?_eq_getElem h]
  simp
theorem all_succ {zs : List Int} {k : Nat} (h : ∀ v ∈ zs.take k, okV v) (hk : k < zs.length) (hv : okV (zs.getD k 0)) : ∀ v ∈ zs.take (k + 1), okV v := by
  intro v hm
  rw [List.take_succ_eq_append_getElem hk, List.mem_append] at hm
  rcases hm with hm | hm
  · exact h v hm
  · rw [List.mem_singleton] at hm
    subst hm
    rwa [List.getD_eq_getElem?_getD, List.getElem?_eq_getElem hk] at hv
theorem getD_mem {zs : List Int} {k : Nat} (hk : k < zs.length) : zs.getD k 0 ∈ zs := by
  rw [List.getD_eq_getElem?_getD, List.getElem?_eq_getElem hk]; exact List.getElem_mem hk
theorem infoU8 : (Tryd.prog.info? 5).map (fun i => (i.zero, i.size, i.bytes)) = some (some (.int .u8 0), 1, 1) := by kernel_rfl
theorem infoInt : (Tryd.prog.info? 3).map (fun i => (i.zero, i.size, i.bytes)) = some (some (.int .i64 0), 1, 8) := by kernel_rfl
theorem hi_run (x : Nat) (h : x < 65536) : IntKind.u8.wrap ((x : Int) / 256) = ((x / 256 : Nat) : Int) := by
  rw [IntKind.wrap_u8]; omega
theorem lo_run (x : Nat) (h : x < 65536) : IntKind.u8.wrap (x : Int) = ((x % 256 : Nat) : Int) := by
  rw [IntKind.wrap_u8]; omega

set_option maxHeartbeats 1600000 in
theorem pack_any (zs : List Int) (A : Option Addr) (c : Nat) (w : World) (h : Row .i64 w w.heap.size A zs) (hl : zs.length ≤ maxLen) (D : Dat w) :
    Calls Tryd.prog 28 #[.slice A zs.length c] w (PackPost w.heap.size zs w) := by
  unfold maxLen at hl
  obtain ⟨i0, hi, hz0, hz1, hz2⟩ := info_parts infoU8
  by_cases hbig : 65536 < zs.length
  · have HP := Lib.hid (packR_big hbig)
    have hb : (65536 : Int) < (zs.length : Int) := by omega
    go_enter Tryd.func28, Tryd.ntmps28
    go_wp2_with fail
    go_ret2
    exact PackPost.mk' HP.out rfl Own.nil (Below.refl _ _)
  · have H := Lib.hid h
    have HD := Lib.hid D
    obtain ⟨L, hL⟩ : ∃ n, n = zs.length := ⟨_, rfl⟩
    have HL := Lib.hid hL
    have HNB := Lib.hid hbig
    rw [← hL] at hl hbig ⊢
    clear h D hL
    go_enter Tryd.func28, Tryd.ntmps28
    go_wp2_with (first | (refine wpList_make_own _ rfl _ _ 29 rfl w.heap.size 5 i0 (.int .u8 0) 1 Tryd.underlying29 hi hz0 hz1 .i64 .i64 _ (2 * L) rfl rfl (by simp) (by rw [hz2]; omega) (by unfold maxLen; omega) (Nat.le_refl _) ?_; intro w1 O1 g1))
    have B0 : Below w.heap.size w w1 := (Below.refl _ _).grown g1 (Nat.le_refl _) (fun _ h => by cases h)
    clear g1
    go_loopw [4, 18] (fun v i wr => ∃ k : Nat, k ≤ L ∧ i = .int .i64 k ∧ Hid (Own .u8 5 wr w.heap.size v ((zs.take k).flatMap two)) ∧ Hid (Below w.heap.size w wr) ∧ Hid (∀ x ∈ zs.take k, okV x)) (fun _ i _ => L - (intOf i).toNat)
    case atStart => exact ⟨0, by omega, rfl, Lib.hid O1, Lib.hid B0, Lib.hid (fun x hx => by simp at hx)⟩
    case round =>
      clear O1 B0
      obtain ⟨k, hk, rfl, O, B, G⟩ := hrel
      by_cases hlt : k < L
      · have hk' : k < zs.length := by rw [← HL.out]; exact hlt
        obtain ⟨ad, rfl, _, hc⟩ := (H.out.under B.out) k hk'
        have hm := getD_mem hk'
        have hsn := two_succ zs k hk'
        have hal := all_succ (k := k) G.out hk'
        have hlen : ((zs.take k).flatMap two).length ≤ 2 * k := by rw [two_len, List.length_take]; omega
        obtain ⟨z, hz⟩ : ∃ z, z = zs.getD k 0 := ⟨_, rfl⟩
        rw [← hz] at hm hsn hal hc
        have M := Lib.hid hm
        have AL := Lib.hid hal
        obtain ⟨ys, hys⟩ : ∃ ys, ys = (zs.take k).flatMap two := ⟨_, rfl⟩
        have O' := O.out
        rw [← hys] at O' hsn hlen
        have OY := Lib.hid O'
        have YS := Lib.hid hys
        clear O' hys
        have LN := Lib.hid hlen
        have SN := Lib.hid hsn
        have D1 := Lib.hid (HD.out.below B.out HD.out.lt)
        clear hm hsn hal hz hlen
        by_cases hok : okV z
        · have he : encR z = ((encN z.toNat : Int), 0) := by unfold encR; rw [if_pos (show 0 ≤ z ∧ z ≤ 2047 from hok)]
          have lx : encN z.toNat < 65536 := (enc_ok (by unfold okV at hok; omega)).1
          have et : two z = [((encN z.toNat / 256 : Nat) : Int), ((encN z.toNat % 256 : Nat) : Int)] := rfl
          obtain ⟨x, hx⟩ : ∃ x, x = encN z.toNat := ⟨_, rfl⟩
          rw [← hx] at he lx et
          obtain ⟨p, hp⟩ : ∃ p : Int, p = ((x / 256 : Nat) : Int) := ⟨_, rfl⟩
          obtain ⟨q, hq⟩ : ∃ p : Int, p = ((x % 256 : Nat) : Int) := ⟨_, rfl⟩
          have rp := hi_run x lx
          have rq := lo_run x lx
          rw [← hp] at rp et
          rw [← hq] at rq et
          have HE := Lib.hid he
          have ET := Lib.hid et
          have HOK := Lib.hid hok
          have RP := Lib.hid rp
          have RQ := Lib.hid rq
          clear he et hok hp hq hx rp rq
          go_wp2_with fail
          refine (encode_at HE.out _ D1.out).mono ?_
          rintro e w' ⟨rfl, n, rfl⟩
          clear hc
          have rp := RP.out
          have rq := RQ.out
          go_wp2_with (first | (at_builtin; refine wpList_append_own _ rfl (.tmp 30) (.tmp 36) 29 rfl w.heap.size 5 i0 (.int .u8 0) 1 1 Tryd.underlying29 hi hz0 hz1 hz2 rfl (by decide) _ ys.length (ys.map (Value.int .u8)) rfl ((OY.out.drewN n).alloc _) ⟨wr.heap.size, 0, none⟩ 2 2 ([p, q].map (Value.int .u8)) rfl rfl (news_int (W := wr.drewN n) (ys := [p, q])) (one_cells (ys := [p, q])) (by unfold maxLen; have := LN.out; omega) (by have := LN.out; omega) (by have := B.out.size; simp only [World.size_alloc]; exact Nat.le_trans this (Nat.le_succ _)) ?_; intro v' w2 hown hg _))
          go_roundw
          case rel =>
            refine ⟨k + 1, by omega, by go_num, ?_, ?_, AL.out HOK.out⟩
            · rw [SN.out, ET.out]; exact Own.app (ys := [p, q]) hown rfl rfl
            · exact ((bdn B.out).alloc B.out.size _).grown hg (by have := B.out.size; simp only [World.size_alloc]; exact Nat.le_trans this (Nat.le_succ _)) (fun g hg => (own_block OY.out hg).1)
          case measure => simp [intOf]; omega
        · have he : encR z = (0, 2) := encR_no hok
          have HP := Lib.hid (packR_bad HNB.out M.out hok)
          have HE := Lib.hid he
          clear he hok
          go_wp2_with fail
          refine (encode_at HE.out _ D1.out).mono ?_
          rintro e w' ⟨rfl, n, rfl⟩
          clear hc
          go_wp2_with fail
          go_ret2
          exact PackPost.mk' HP.out rfl Own.nil (bdn B.out)
      · obtain rfl : k = L := by omega
        have e : zs.take k = zs := by rw [HL.out, List.take_length]
        rw [e] at O G
        have HP := Lib.hid (packR_ok HNB.out G.out)
        clear e hlt hk
        go_wp2_with fail
        go_ret2
        exact PackPost.mk' HP.out rfl O.out B.out
end Go.Proofs.YtbpgbdnfoofnaaaDoor
