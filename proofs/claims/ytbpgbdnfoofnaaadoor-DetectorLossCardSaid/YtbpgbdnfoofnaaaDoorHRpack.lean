/-
  Stage 3: the reference's Pack.
-/
import Derived.Test.YtbpgbdnfoofnaaaDoorHPack
set_option linter.unusedSimpArgs false
set_option linter.unusedVariables false
namespace Go.Proofs.YtbpgbdnfoofnaaaDoor
open Go.RowKit

theorem rencode_at {v : Int} {t : Int × Int} (h : encR v = t) (w : World) :
    Calls Tryd.prog 42 #[.int .i64 v] w fun e w' => e = .returned (R2 t) ∧ Below w.heap.size w w' := by rw [← h]; exact rencode_any v w
theorem lo_run' (x : Nat) (h : x < 65536) : IntKind.u8.wrap ((x : Int) % 256) = ((x % 256 : Nat) : Int) := by
  rw [IntKind.wrap_u8]; omega
set_option maxHeartbeats 1600000 in
theorem rpack_any (zs : List Int) (A : Option Addr) (c : Nat) (w : World) (h : Row .i64 w w.heap.size A zs) (hl : zs.length ≤ maxLen) :
    Calls Tryd.prog 33 #[.slice A zs.length c] w (PackPost w.heap.size zs w) := by
  unfold maxLen at hl
  obtain ⟨i0, hi, hz0, hz1, hz2⟩ := info_parts infoU8
  by_cases hbig : 65536 < zs.length
  · have HP := Lib.hid (packR_big hbig)
    have hb : (65536 : Int) < (zs.length : Int) := by omega
    go_enter Tryd.func33, Tryd.ntmps33
    go_wp2_with fail
    go_ret2
    exact PackPost.mk' HP.out rfl Own.nil (Below.refl _ _)
  · have H := Lib.hid h
    obtain ⟨L, hL⟩ : ∃ n, n = zs.length := ⟨_, rfl⟩
    have HL := Lib.hid hL
    have HNB := Lib.hid hbig
    rw [← hL] at hl hbig ⊢
    clear h hL
    go_enter Tryd.func33, Tryd.ntmps33
    go_wp2_with fail
    go_loopw [4, 5] (fun v i wr => ∃ k : Nat, k ≤ L ∧ i = .int .i64 k ∧ Hid (Own .u8 5 wr w.heap.size v ((zs.take k).flatMap two)) ∧ Hid (Below w.heap.size w wr) ∧ Hid (∀ x ∈ zs.take k, okV x)) (fun _ i _ => L - (intOf i).toNat)
    case atStart => exact ⟨0, by omega, rfl, Lib.hid Own.nil, Lib.hid (Below.refl _ _), Lib.hid (fun x hx => by simp at hx)⟩
    case round =>
      obtain ⟨k, hk, rfl, O, B, G⟩ := hrel
      by_cases hlt : k < L
      · have hk' : k < zs.length := by rw [← HL.out]; exact hlt
        obtain ⟨ad, rfl, _, hc⟩ := (H.out.under B.out) k hk'
        have hm := getD_mem hk'
        have hsn := two_succ zs k hk'
        have hal := all_succ (k := k) G.out hk'
        have hlen : ((zs.take k).flatMap two).length ≤ 2 * k := by rw [two_len, List.length_take]; omega
        obtain ⟨z, hz⟩ : ∃ z, z = zs.getD k 0 := ⟨_, rfl⟩
        rw [← hz] at hm hsn hal hc
        have M := Lib.hid hm
        have AL := Lib.hid hal
        obtain ⟨ys, hys⟩ : ∃ ys, ys = (zs.take k).flatMap two := ⟨_, rfl⟩
        have O' := O.out
        rw [← hys] at O' hsn hlen
        have OY := Lib.hid O'
        have YS := Lib.hid hys
        clear O' hys
        have LN := Lib.hid hlen
        have SN := Lib.hid hsn
        clear hm hsn hal hz hlen
        by_cases hok : okV z
        · have he : encR z = ((encN z.toNat : Int), 0) := by unfold encR; rw [if_pos (show 0 ≤ z ∧ z ≤ 2047 from hok)]
          have lx : encN z.toNat < 65536 := (enc_ok (by unfold okV at hok; omega)).1
          have et : two z = [((encN z.toNat / 256 : Nat) : Int), ((encN z.toNat % 256 : Nat) : Int)] := rfl
          obtain ⟨x, hx⟩ : ∃ x, x = encN z.toNat := ⟨_, rfl⟩
          rw [← hx] at he lx et
          obtain ⟨p, hp⟩ : ∃ p : Int, p = ((x / 256 : Nat) : Int) := ⟨_, rfl⟩
          obtain ⟨q, hq⟩ : ∃ p : Int, p = ((x % 256 : Nat) : Int) := ⟨_, rfl⟩
          have rp := hi_run x lx
          have rq := lo_run' x lx
          rw [← hp] at rp et
          rw [← hq] at rq et
          have HE := Lib.hid he
          have ET := Lib.hid et
          have HOK := Lib.hid hok
          have RP := Lib.hid rp
          have RQ := Lib.hid rq
          clear he et hok hp hq hx rp rq
          go_wp2_with fail
          refine (rencode_at HE.out _).mono ?_
          rintro e wx ⟨rfl, BX⟩
          clear hc
          have rp := RP.out
          have rq := RQ.out
          go_wp2_with (first | (at_builtin; refine wpList_append_own _ rfl (.tmp 28) (.tmp 35) 29 rfl w.heap.size 5 i0 (.int .u8 0) 1 1 Tryd.underlying29 hi hz0 hz1 hz2 rfl (by decide) _ ys.length (ys.map (Value.int .u8)) rfl ((OY.out.below BX).alloc _) ⟨wx.heap.size, 0, none⟩ 2 2 ([p, q].map (Value.int .u8)) rfl rfl (news_int (W := wx) (ys := [p, q])) (one_cells (ys := [p, q])) (by unfold maxLen; have := LN.out; omega) (by have := LN.out; omega) (by have := B.out.size; have := BX.size; simp only [World.size_alloc]; omega) ?_; intro v' w2 hown hg _))
          go_roundw
          case rel =>
            refine ⟨k + 1, by omega, by go_num, ?_, ?_, AL.out HOK.out⟩
            · rw [SN.out, ET.out]; exact Own.app (ys := [p, q]) hown rfl rfl
            · exact ((B.out.trans (BX.mono B.out.size)).alloc (by have := B.out.size; have := BX.size; omega) _).grown hg (by have := B.out.size; have := BX.size; simp only [World.size_alloc]; omega) (fun g hg => (own_block OY.out hg).1)
          case measure => simp [intOf]; omega
        · have he : encR z = (0, 2) := encR_no hok
          have HP := Lib.hid (packR_bad HNB.out M.out hok)
          have HE := Lib.hid he
          clear he hok
          go_wp2_with fail
          refine (rencode_at HE.out _).mono ?_
          rintro e wx ⟨rfl, BX⟩
          clear hc
          go_wp2_with fail
          go_ret2
          exact PackPost.mk' HP.out rfl Own.nil (B.out.trans (BX.mono B.out.size))
      · obtain rfl : k = L := by omega
        have e : zs.take k = zs := by rw [HL.out, List.take_length]
        rw [e] at O G
        have HP := Lib.hid (packR_ok HNB.out G.out)
        clear e hlt hk
        go_wp2_with fail
        go_ret2
        exact PackPost.mk' HP.out rfl O.out B.out
end Go.Proofs.YtbpgbdnfoofnaaaDoor
