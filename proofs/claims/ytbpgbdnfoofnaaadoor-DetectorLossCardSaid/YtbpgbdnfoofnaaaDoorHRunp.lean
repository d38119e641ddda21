/-
  Stage 3: the reference's Unpack.
-/
import Derived.Test.YtbpgbdnfoofnaaaDoorHUnp
import Derived.Test.YtbpgbdnfoofnaaaDoorHRpack
set_option linter.unusedSimpArgs false
set_option linter.unusedVariables false
namespace Go.Proofs.YtbpgbdnfoofnaaaDoor
open Go.RowKit

theorem rdecode_at {v : Int} {t : Int × Int × Int} (h : decR v = t) (w : World) :
    Calls Tryd.prog 55 #[.int .i64 v] w fun e w' => e = .returned (R3 t) ∧ Below w.heap.size w w' := by rw [← h]; exact rdecode_any v w
/-- Two slices lie in blocks of their own. -/
def Apart (v u : Value) : Prop := ∀ g, v.ownBlock = some g → u.ownBlock ≠ some g
theorem Apart.ne {v u : Value} (h : Apart v u) : v.ownBlock = none ∨ v.ownBlock ≠ u.ownBlock := by
  cases e : v.ownBlock with
  | none => exact Or.inl rfl
  | some g => exact Or.inr (fun h' => h g e h'.symm)
theorem Apart.symm {v u : Value} (h : Apart v u) : Apart u v := fun g hu hv => h g hv hu
theorem Apart.grew {v u : Value} {g n cap H : Nat} (h : Apart v u) (hg : u.ownBlock = some g ∨ g = H) (hv : ∀ j, v.ownBlock = some j → j < H) : Apart v (.slice (some ⟨g, 0, none⟩) n cap) := fun j hj e => by
  have e' : g = j := by injection e
  subst e'
  rcases hg with hg | rfl
  · exact h g hj hg
  · exact absurd (hv g hj) (Nat.lt_irrefl _)
theorem Apart.none_ {u : Value} : Apart (.slice none 0 0) u := fun g h => by cases h

/-- The two bytes that a round loads. -/
structure TwoB (w : World) (ad : Addr) (i : Nat) (x y : Nat) : Prop where
  c0 : w.cell? (ad.add i) = some (.int .u8 (x : Int))
  c1 : w.cell? ⟨ad.block, ad.off + (i + 1), none⟩ = some (.int .u8 (y : Int))
  lt : ad.block < w.heap.size
theorem TwoB.keep {w w' : World} {ad : Addr} {i x y : Nat} (h : TwoB w ad i x y) (b : Below w.heap.size w w') : w'.cell? (ad.add i) = some (.int .u8 (x : Int)) ∧ w'.cell? ⟨ad.block, ad.off + (i + 1), none⟩ = some (.int .u8 (y : Int)) :=
  ⟨(b.cell (by rw [add_block]; exact h.lt)).trans h.c0, (b.cell (p := ⟨ad.block, ad.off + (i + 1), none⟩) h.lt).trans h.c1⟩
theorem TwoB.dr {w : World} {ad : Addr} {i x y : Nat} (h : TwoB w ad i x y) : TwoB w.drew ad i x y := ⟨h.c0, h.c1, h.lt⟩
theorem TwoB.drN {w : World} {ad : Addr} {i x y : Nat} (h : TwoB w ad i x y) (n : Nat) : TwoB (w.drewN n) ad i x y := ⟨h.c0, h.c1, h.lt⟩
theorem below_dr {B : Nat} {w w' : World} (h : Below B w.drew w') : Below B w w' := ⟨h.os, h.tape, h.output, h.size, h.block⟩
theorem below_drN {B : Nat} {w w' : World} {n : Nat} (h : Below B (w.drewN n) w') : Below B w w' := ⟨h.os, h.tape, h.output, h.size, h.block⟩
set_option maxHeartbeats 1600000 in
theorem runpack_any (zs : List Int) (A : Option Addr) (c : Nat) (w : World) (h : Row .u8 w w.heap.size A zs) (hl : zs.length ≤ maxLen) (hb : ∀ z ∈ zs, 0 ≤ z ∧ z ≤ 255) :
    Calls Tryd.prog 43 #[.slice A zs.length c] w (UnpackPost w.heap.size zs w) := by
  unfold maxLen at hl
  obtain ⟨i0, hi, hz0, hz1, hz2⟩ := info_parts infoInt
  by_cases hbig : 131072 < zs.length
  · have HP := Lib.hid (unpackR_big hbig)
    have hb' : (131072 : Int) < (zs.length : Int) := by omega
    clear hb h
    go_enter Tryd.func43, Tryd.ntmps43
    go_wp2_with fail
    exact bodyPost_ret (v := .tuple #[.slice none 0 0, .slice none 0 0, .int .i64 3]) (by simp [results, Tryd.results43, go_sem]) rfl (UnpackPost.mk' HP.out rfl Own.nil Own.nil (Below.refl _ _))
  · have H := Lib.hid h
    have HBD := Lib.hid hb
    obtain ⟨L, hL⟩ : ∃ n, n = zs.length := ⟨_, rfl⟩
    have HL := Lib.hid hL
    have HNB := Lib.hid hbig
    rw [← hL] at hl hbig ⊢
    clear h hb hL
    rcases Nat.mod_two_eq_zero_or_one L with hpar | hpar
    · obtain ⟨n, hn⟩ : ∃ n, L = 2 * n := ⟨L / 2, by omega⟩
      have HP := Lib.hid (unpackR_ok (zs := zs) (n := n) HNB.out (by rw [← HL.out]; exact hn))
      have hm : ((L : Int) % 2 == 1) = false := by rw [beq_eq_false_iff_ne]; omega
      have le1 : L ≤ 2 * n := by omega
      have le2 : 2 * n ≤ L := by omega
      clear hpar hn
      go_enter Tryd.func43, Tryd.ntmps43
      go_wp2_with fail
      go_loopw [5, 6, 7] (fun o v i wr => ∃ k : Nat, k ≤ n ∧ i = .int .i64 (2 * (k : Int)) ∧ Hid (Own .i64 3 wr w.heap.size o (unvs zs k)) ∧ Hid (Own .i64 3 wr w.heap.size v (gaps zs k)) ∧ Hid (Apart o v) ∧ Hid (Below w.heap.size w wr)) (fun _ _ i _ => L - (intOf i).toNat)
      case atStart => exact ⟨0, by omega, rfl, Own.nil, Own.nil, Apart.none_, Below.refl _ _⟩
      case round =>
        obtain ⟨k, hk, rfl, O, G, P, B⟩ := hrel
        by_cases hlt : k < n
        · have hk0 : 2 * k < zs.length := by rw [← HL.out]; omega
          have hk1 : 2 * k + 1 < zs.length := by rw [← HL.out]; omega
          have hr := H.out.under B.out
          obtain ⟨ad, rfl, hab, hc0⟩ := hr (2 * k) hk0
          obtain ⟨ad', e', _, hc1⟩ := hr (2 * k + 1) hk1
          obtain rfl : ad = ad' := by injection e'
          have b0 := HBD.out _ (getD_mem hk0)
          have b1 := HBD.out _ (getD_mem hk1)
          have hw : word zs k = zs.getD (2 * k) 0 * 256 + zs.getD (2 * k + 1) 0 := rfl
          obtain ⟨x, hx⟩ : ∃ x : Nat, zs.getD (2 * k) 0 = x := ⟨(zs.getD (2 * k) 0).toNat, by omega⟩
          obtain ⟨y, hy⟩ : ∃ x : Nat, zs.getD (2 * k + 1) 0 = x := ⟨(zs.getD (2 * k + 1) 0).toNat, by omega⟩
          rw [hx, hy] at hw
          rw [hx] at hc0 b0
          rw [hy] at hc1 b1
          have ho : IntKind.i64.wrap ((x : Int) * 256 + (y : Int)) = (x : Int) * 256 + (y : Int) := IntWalk.i64_in _ (by omega)
          obtain ⟨W, eW⟩ : ∃ W, W = (x : Int) * 256 + (y : Int) := ⟨_, rfl⟩
          have ho' : (x : Int) * 256 + (y : Int) = W := eW.symm
          rw [← eW] at hw ho
          obtain ⟨⟨a, bt, er⟩, ht⟩ : ∃ t, decR W = t := ⟨_, rfl⟩
          have HW := Lib.hid hw
          have HT := Lib.hid ht
          clear hw eW ht hx hy hr e' hk0 hk1
          have wx0 : IntKind.i64.wrap (x : Int) = (x : Int) := IntWalk.i64_in _ (by omega)
          have wy0 : IntKind.i64.wrap (y : Int) = (y : Int) := IntWalk.i64_in _ (by omega)
          have wx : IntKind.i64.wrap ((x : Int) * 256) = (x : Int) * 256 := IntWalk.i64_in _ (by omega)
          have hc2 : wr.cell? ⟨ad.block, ad.off + (2 * k + 1), none⟩ = some (.int .u8 (y : Int)) := by
            have := hc1
            unfold Addr.add at this
            rw [if_neg (by omega)] at this
            exact this
          have i0' : 0 ≤ 2 * (k : Int) ∧ 2 * (k : Int) < (L : Int) := by omega
          have i1' : 0 ≤ 2 * (k : Int) + 1 ∧ 2 * (k : Int) + 1 < (L : Int) := by omega
          have w1' : IntKind.i64.wrap (2 * (k : Int) + 1) = 2 * (k : Int) + 1 := IntWalk.i64_in _ (by omega)
          have t0 : (2 * (k : Int)).toNat = 2 * k := by omega
          have t1 : (2 * (k : Int) + 1).toNat = 2 * k + 1 := by omega
          have z0 : 0 ≤ 2 * (k : Int) := by omega
          have z1 : 0 ≤ 2 * (k : Int) + 1 := by omega
          go_upto_region 9 with fail
          have TT : TwoB wr ad (2 * k) x y := ⟨hc0, hc2, Nat.lt_of_lt_of_le hab B.out.size⟩
          go_cut [8, 9, 10] (fun s8 s9 s10 wx => s8 = .int .i64 a ∧ s9 = .int .i64 bt ∧ s10 = .int .i64 er ∧ Hid (Below wr.heap.size wr wx))
          case first =>
            go_region_held3 (fun w' => w'.cell? (ad.add (2 * k)) = some (.int .u8 (x : Int)) ∧ w'.cell? ⟨ad.block, ad.off + (2 * k + 1), none⟩ = some (.int .u8 (y : Int)))
              (first | exact TT.dr.keep kb | exact (TT.drN _).keep kb | exact TT.keep kb | go_keep)
              (first | (go_at_call 55; refine (rdecode_at HT.out _).mono ?_; rintro e wh ⟨rfl, kb⟩))
            go_wp2_with fail
            go_meet
            case rel => exact ⟨rfl, rfl, rfl, by first | exact below_dr kb | exact below_drN kb | exact kb⟩
          case rest =>
            obtain ⟨rfl, rfl, rfl, KB⟩ := hcut
            clear TT hc0 hc1 hc2 ho ho' wx wx0 wy0 i0' i1' w1' t0 t1 z0 z1 b0 b1
            have hq : 2 * (k : Int) / 2 = (k : Int) := by omega
            have GL := Lib.hid (gaps_len zs k)
            have UL := Lib.hid (unvs_len zs k)
            have BX := Lib.hid (B.out.trans (KB.out.mono B.out.size))
            have OX := Lib.hid (O.out.below KB.out)
            have GX := Lib.hid (G.out.below KB.out)
            have QX := Lib.hid (fun j (h : Value.ownBlock u5 = some j) => (own_block OX.out h).2)
            by_cases he : er = 0
            · have HE := Lib.hid he
              subst he
              obtain ⟨E1, E2⟩ := word_ok (k := k) HW.out HT.out HE.out
              have E1' := Lib.hid E1
              have E2' := Lib.hid E2
              clear E1 E2
              go_wp2_with (first | (at_builtin; refine wpList_append_lies _ rfl (.tmp 49) (.tmp 51) 22 rfl w.heap.size 3 i0 (.int .i64 0) 1 8 Tryd.underlying22 hi hz0 hz1 hz2 rfl (by decide) _ (unvs zs k).length ((unvs zs k).map (Value.int .i64)) rfl (OX.out.alloc _) ⟨wc.heap.size, 0, none⟩ 1 1 ([a].map (Value.int .i64)) rfl rfl (news_int (W := wc) (ys := [a])) (one_cells (ys := [a])) (by decide) (by unfold maxLen; have := UL.out; omega) (by have := UL.out; omega) (by have := BX.out.size; simp only [World.size_alloc]; omega) _ rfl ?_; intro g cap w2 hown hgr hgb hlt2))
              have AP := Own.app (ys := [a]) hown rfl rfl
              go_roundw
              case rel =>
                refine ⟨k + 1, by omega, by rw [show 2 * (k : Int) + 2 = 2 * ((k + 1 : Nat) : Int) by omega], ?_, ?_, ?_, ?_⟩
                · rw [E1'.out]; exact AP
                · rw [E2'.out]; exact (GX.out.alloc _).kept hgr P.out.symm.ne
                · exact (P.out.symm.grew hgb (fun j hj => by have := (own_block GX.out hj).2; simp only [World.size_alloc]; omega)).symm
                · exact (BX.out.alloc BX.out.size _).grown hgr (by have := BX.out.size; simp only [World.size_alloc]; omega) (fun j hj => (own_block OX.out hj).1)
              case measure => simp [intOf]; omega
            · have hne : (er != 0) = true := by rw [bne_iff_ne]; exact he
              obtain ⟨E1, E2⟩ := word_lost (k := k) HW.out HT.out he
              have E1' := Lib.hid E1
              have E2' := Lib.hid E2
              clear E1 E2 he
              go_wp2_with (first
                | (at_builtin; refine wpList_append_lies _ rfl (.tmp 44) (.tmp 47) 22 rfl w.heap.size 3 i0 (.int .i64 0) 1 8 Tryd.underlying22 hi hz0 hz1 hz2 rfl (by decide) _ (gaps zs k).length ((gaps zs k).map (Value.int .i64)) rfl (GX.out.alloc _) ⟨wc.heap.size, 0, none⟩ 1 1 ([(k : Int)].map (Value.int .i64)) rfl rfl (news_int (W := wc) (ys := [(k : Int)])) (one_cells (ys := [(k : Int)])) (by decide) (by unfold maxLen; have := GL.out; omega) (by have := GL.out; omega) (by have := BX.out.size; simp only [World.size_alloc]; omega) _ rfl ?_; intro g1 cap1 w1 hown1 hgr1 hgb1 hlt1; have A1 := Lib.hid (Own.app (ys := [(k : Int)]) hown1 rfl rfl); have O1 := Lib.hid ((OX.out.alloc (.cells #[.int .i64 (k : Int)] 3)).kept hgr1 P.out.ne); have P1 := Lib.hid (P.out.grew (n := (gaps zs k).length + 1) (cap := cap1) hgb1 (fun j hj => by have := (own_block OX.out hj).2; simp only [World.size_alloc]; omega)); have B1 := Lib.hid ((BX.out.alloc BX.out.size (.cells #[.int .i64 (k : Int)] 3)).grown hgr1 (by have := BX.out.size; simp only [World.size_alloc]; omega) (fun j hj => (own_block GX.out hj).1)); clear hown1 hgr1 hgb1 hlt1)
                | (at_builtin; refine wpList_append_lies _ rfl (.tmp 49) (.tmp 51) 22 rfl w.heap.size 3 i0 (.int .i64 0) 1 8 Tryd.underlying22 hi hz0 hz1 hz2 rfl (by decide) _ (unvs zs k).length ((unvs zs k).map (Value.int .i64)) rfl (O1.out.alloc _) ⟨w1.heap.size, 0, none⟩ 1 1 ([(-1 : Int)].map (Value.int .i64)) rfl rfl (news_int (W := w1) (ys := [(-1 : Int)])) (one_cells (ys := [(-1 : Int)])) (by decide) (by unfold maxLen; have := UL.out; omega) (by have := UL.out; omega) (by have := B1.out.size; simp only [World.size_alloc]; omega) _ rfl ?_; intro g cap w2 hown hgr hgb hlt2))
              have AP := Own.app (ys := [(-1 : Int)]) hown rfl rfl
              go_roundw
              case rel =>
                refine ⟨k + 1, by omega, by rw [show 2 * (k : Int) + 2 = 2 * ((k + 1 : Nat) : Int) by omega], ?_, ?_, ?_, ?_⟩
                · rw [E1'.out]; exact AP
                · rw [E2'.out]; exact (A1.out.alloc _).kept hgr P1.out.symm.ne
                · exact (P1.out.symm.grew hgb (fun j hj => by have := (own_block A1.out hj).2; simp only [World.size_alloc]; omega)).symm
                · exact (B1.out.alloc B1.out.size _).grown hgr (by have := B1.out.size; simp only [World.size_alloc]; omega) (fun j hj => (own_block O1.out hj).1)
              case measure => simp [intOf]; omega
        · obtain rfl : k = n := by omega
          have hz0' : (L : Int) ≤ 2 * (k : Int) := by omega
          clear hlt hk
          go_wp2_with fail
          exact bodyPost_ret (by simp [results, Tryd.results43, go_sem]) rfl (UnpackPost.mk' HP.out rfl O.out G.out B.out)
    · have HP := Lib.hid (unpackR_odd (zs := zs) HNB.out (by rw [← HL.out]; exact hpar))
      have hm : ((L : Int) % 2 == 1) = true := by rw [beq_iff_eq]; omega
      clear hpar
      go_enter Tryd.func43, Tryd.ntmps43
      go_wp2_with fail
      exact bodyPost_ret (v := .tuple #[.slice none 0 0, .slice none 0 0, .int .i64 10]) (by simp [results, Tryd.results43, go_sem]) rfl (UnpackPost.mk' HP.out rfl Own.nil Own.nil (Below.refl _ _))
end Go.Proofs.YtbpgbdnfoofnaaaDoor
