/-
  Stage 3: the program's Unpack.
-/
import Derived.Test.YtbpgbdnfoofnaaaDoorHPack
import Derived.IntWalk
set_option linter.unusedSimpArgs false
set_option linter.unusedVariables false
namespace Go.Proofs.YtbpgbdnfoofnaaaDoor
open Go.RowKit

/-- The word of two bytes, what becomes of it, and whether it is lost. -/
def word (zs : List Int) (i : Nat) : Int := zs.getD (2 * i) 0 * 256 + zs.getD (2 * i + 1) 0
def unv (zs : List Int) (i : Nat) : Int := if (decR (word zs i)).2.2 = 0 then (decR (word zs i)).1 else -1
def lostB (zs : List Int) (i : Nat) : Bool := (decR (word zs i)).2.2 != 0
def unvs (zs : List Int) (k : Nat) : List Int := (List.range k).map (unv zs)
def gaps (zs : List Int) (k : Nat) : List Int := ((List.range k).filter (lostB zs)).map fun i : Nat => (i : Int)
def unpackR (zs : List Int) : List Int × List Int × Int :=
  if 131072 < zs.length then ([], [], 3) else if zs.length % 2 = 1 then ([], [], 10) else (unvs zs (zs.length / 2), gaps zs (zs.length / 2), 0)
def UnpackPost (base : Nat) (zs : List Int) (w : World) (e : Ending) (w' : World) : Prop :=
  ∃ v1 v2, e = .returned (.tuple #[v1, v2, .int .i64 (unpackR zs).2.2]) ∧ Own .i64 3 w' base v1 (unpackR zs).1 ∧ Own .i64 3 w' base v2 (unpackR zs).2.1 ∧ Below w.heap.size w w'
theorem UnpackPost.mk' {base : Nat} {zs : List Int} {w w' : World} {e : Ending} {v1 v2 : Value} {a b : List Int} {er : Int} (h : unpackR zs = (a, b, er)) (h1 : e = .returned (.tuple #[v1, v2, .int .i64 er]))
    (h2 : Own .i64 3 w' base v1 a) (h3 : Own .i64 3 w' base v2 b) (h4 : Below w.heap.size w w') : UnpackPost base zs w e w' := by
  refine ⟨v1, v2, ?_, ?_, ?_, h4⟩
  · rw [h]; exact h1
  · rw [h]; exact h2
  · rw [h]; exact h3
theorem unpackR_big {zs : List Int} (h : 131072 < zs.length) : unpackR zs = ([], [], 3) := by unfold unpackR; rw [if_pos h]
theorem unpackR_odd {zs : List Int} (h : ¬ 131072 < zs.length) (h2 : zs.length % 2 = 1) : unpackR zs = ([], [], 10) := by unfold unpackR; rw [if_neg h, if_pos h2]
theorem unpackR_ok {zs : List Int} {n : Nat} (h : ¬ 131072 < zs.length) (h2 : zs.length = 2 * n) : unpackR zs = (unvs zs n, gaps zs n, 0) := by
  unfold unpackR; rw [if_neg h, if_neg (by omega), show zs.length / 2 = n by omega]
theorem unvs_len (zs : List Int) (k : Nat) : (unvs zs k).length = k := by unfold unvs; simp
theorem unvs_succ (zs : List Int) (k : Nat) : unvs zs (k + 1) = unvs zs k ++ [unv zs k] := by unfold unvs; rw [List.range_succ, List.map_append]; rfl
theorem gaps_len (zs : List Int) (k : Nat) : (gaps zs k).length ≤ k := by
  unfold gaps; rw [List.length_map]; exact Nat.le_trans (List.length_filter_le _ _) (by simp)
theorem gaps_yes {zs : List Int} {k : Nat} (h : lostB zs k = true) : gaps zs (k + 1) = gaps zs k ++ [(k : Int)] := by
  unfold gaps; rw [List.range_succ, List.filter_append, List.map_append]; simp [h]
theorem gaps_no {zs : List Int} {k : Nat} (h : lostB zs k = false) : gaps zs (k + 1) = gaps zs k := by
  unfold gaps; rw [List.range_succ, List.filter_append, List.map_append]; simp [h]
/-- The round's cases. -/
theorem word_lost {zs : List Int} {k : Nat} {W a b er : Int} (hW : word zs k = W) (ht : decR W = (a, b, er)) (he : er ≠ 0) : unvs zs (k + 1) = unvs zs k ++ [-1] ∧ gaps zs (k + 1) = gaps zs k ++ [(k : Int)] := by
  have h1 : lostB zs k = true := by unfold lostB; rw [hW, ht]; simpa using he
  exact ⟨by rw [unvs_succ]; unfold unv; rw [hW, ht, if_neg he], gaps_yes h1⟩
theorem word_ok {zs : List Int} {k : Nat} {W a b er : Int} (hW : word zs k = W) (ht : decR W = (a, b, er)) (he : er = 0) : unvs zs (k + 1) = unvs zs k ++ [a] ∧ gaps zs (k + 1) = gaps zs k := by
  have h1 : lostB zs k = false := by unfold lostB; rw [hW, ht]; simpa using he
  exact ⟨by rw [unvs_succ]; unfold unv; rw [hW, ht, if_pos he], gaps_no h1⟩
theorem set_next (xs : List Int) (k n : Nat) (v : Int) (hl : xs.length = k) (h : k < n) : (xs ++ List.replicate (n - k) 0).set k v = (xs ++ [v]) ++ List.replicate (n - (k + 1)) 0 := by
  subst hl
  rw [show n - xs.length = (n - (xs.length + 1)) + 1 by omega, List.replicate_succ]
  simp
theorem or_bytes (x y : Nat) (hx : x < 256) (hy : y < 256) : bits .or .i64 ((x : Int) * 256) (y : Int) = (x : Int) * 256 + (y : Int) := by
  have e := orI (x * 256) y (by omega) (by omega)
  rw [nat_join 8 (x * 256) y (by omega) (by omega)] at e
  rw [show ((x : Int) * 256) = ((x * 256 : Nat) : Int) by omega, e]; omega
theorem made_int (n : Nat) : (madeCells #[.int .i64 0] n).toList = (List.replicate n (0 : Int)).map (Value.int .i64) := by
  refine List.ext_getElem? fun j => ?_
  rw [Array.getElem?_toList]
  unfold madeCells
  by_cases h : j < n
  · simp [h, Nat.mod_one]
  · simp [h]

theorem own_ex {k : IntKind} {e : TypeId} {w : World} {base g n cap : Nat} {zs : List Int} (h : Own k e w base (.slice (some ⟨g, 0, none⟩) n cap) zs) (hn : zs.length = n) (j : Nat) (hj : j < n) :
    ∃ u, w.cell? ⟨g, j, none⟩ = some u ∧ w.frozen? ⟨g, j, none⟩ = false := ⟨_, h.cell hn.symm j (by omega), h.frozen hn.symm j⟩
theorem own_apart {k : IntKind} {e : TypeId} {w : World} {g n cap : Nat} {v : Value} {zs : List Int} (h : Own k e w (g + 1) v zs) : (Value.slice (some ⟨g, 0, none⟩) n cap).ownBlock ≠ v.ownBlock := fun e => by
  have := own_block h (g := g) (e.symm.trans rfl)
  omega
/-- A store into one's own list leaves another as it is. -/
theorem own_far {k k' : IntKind} {e e' : TypeId} {w : World} {base base' g n cap : Nat} {v : Value} {zs ys : List Int} (h : Own k e w base (.slice (some ⟨g, 0, none⟩) n cap) zs) (hn : zs.length = n) (h' : Own k' e' w base' v ys) (hv : v.ownBlock ≠ some g) (j : Nat) (u : Int) :
    Own k' e' (w.setCell ⟨g, j, none⟩ (.int k u)) base' v ys := by
  subst hn
  exact h'.kept (World.ownsRow.stored h j (.int k u)).2 (Or.inr hv)
theorem full_len (zs : List Int) (k n : Nat) (h : k ≤ n) : (unvs zs k ++ List.replicate (n - k) 0).length = n := by
  rw [List.length_append, unvs_len, List.length_replicate]; omega
set_option maxHeartbeats 1600000 in
theorem unpack_any (zs : List Int) (A : Option Addr) (c : Nat) (w : World) (h : Row .u8 w w.heap.size A zs) (hl : zs.length ≤ maxLen) (hb : ∀ z ∈ zs, 0 ≤ z ∧ z ≤ 255) (D : Dat w) :
    Calls Tryd.prog 30 #[.slice A zs.length c] w (UnpackPost w.heap.size zs w) := by
  unfold maxLen at hl
  obtain ⟨i0, hi, hz0, hz1, hz2⟩ := info_parts infoInt
  by_cases hbig : 131072 < zs.length
  · have HP := Lib.hid (unpackR_big hbig)
    have hb' : (131072 : Int) < (zs.length : Int) := by omega
    clear hb h D
    go_enter Tryd.func30, Tryd.ntmps30
    go_wp2_with fail
    exact bodyPost_ret (v := .tuple #[.slice none 0 0, .slice none 0 0, .int .i64 3]) (by simp [results, Tryd.results30, go_sem]) rfl (UnpackPost.mk' HP.out rfl Own.nil Own.nil (Below.refl _ _))
  · have H := Lib.hid h
    have HD := Lib.hid D
    have HBD := Lib.hid hb
    obtain ⟨L, hL⟩ : ∃ n, n = zs.length := ⟨_, rfl⟩
    have HL := Lib.hid hL
    have HNB := Lib.hid hbig
    rw [← hL] at hl hbig ⊢
    clear h D hb hL
    rcases Nat.mod_two_eq_zero_or_one L with hpar | hpar
    · obtain ⟨n, hn⟩ : ∃ n, L = 2 * n := ⟨L / 2, by omega⟩
      have HP := Lib.hid (unpackR_ok (zs := zs) (n := n) HNB.out (by rw [← HL.out]; exact hn))
      have hm : ((L : Int) % 2 != 0) = false := by rw [bne_eq_false_iff_eq]; omega
      have le1 : L ≤ 2 * n := by omega
      have le2 : 2 * n ≤ L := by omega
      clear hpar hn
      go_enter Tryd.func30, Tryd.ntmps30
      go_wp2_with (first | (refine wpList_make_full _ rfl _ _ 22 rfl w.heap.size 3 i0 (.int .i64 0) 1 Tryd.underlying22 hi hz0 hz1 .i64 .i64 _ _ n rfl rfl (by omega) (by omega) (by rw [hz2]; omega) (by unfold maxLen; omega) (Nat.le_refl _) ?_; intro w1 O1 g1))
      have B0 : Below w.heap.size w w1 := (Below.refl _ _).grown g1 (Nat.le_refl _) (fun _ h => by cases h)
      have l1 : w.heap.size + 1 ≤ w1.heap.size := by
        have := (World.ownsRow.form O1)
        rcases O1.2 with ⟨e, _⟩ | ⟨g, cap, cur, e, _, hg, _⟩
        · cases e
        · have hlt := (Array.getElem?_eq_some_iff.1 hg).1
          injection e with e
          injection e with e
          injection e with e
          omega
      have O1' : Own .i64 3 w1 w.heap.size (.slice (some ⟨w.heap.size, 0, none⟩) n n) (List.replicate n 0) := by
        unfold Own
        rw [List.length_replicate, ← made_int]
        rw [Nat.mul_one] at O1
        exact O1
      obtain ⟨g, eg⟩ : ∃ g, g = w.heap.size := ⟨_, rfl⟩
      have EG := Lib.hid eg
      rw [← eg] at B0 O1' l1 ⊢
      have HO := Lib.hid O1'
      have HB := Lib.hid B0
      have HS := Lib.hid l1
      clear g1 O1 O1' B0 l1 eg
      go_loopw [6, 26] (fun v i wr => ∃ k : Nat, k ≤ n ∧ i = .int .i64 k ∧ Hid (Own .i64 3 wr g (.slice (some ⟨g, 0, none⟩) n n) (unvs zs k ++ List.replicate (n - k) 0)) ∧ Hid (Own .i64 3 wr (g + 1) v (gaps zs k)) ∧ Hid (Below g w wr ∧ g + 1 ≤ wr.heap.size)) (fun _ i _ => n - (intOf i).toNat)
      case atStart => exact ⟨0, by omega, rfl, HO, Own.nil, ⟨HB.out, HS.out⟩⟩
      case round =>
        clear HO HB HS
        obtain ⟨k, hk, rfl, O, G, B⟩ := hrel
        by_cases hlt : k < n
        · have hk0 : 2 * k < zs.length := by rw [← HL.out]; omega
          have hk1 : 2 * k + 1 < zs.length := by rw [← HL.out]; omega
          have hr : Row .u8 wr g A zs := by
            have := H.out.under (by rw [← EG.out]; exact B.out.1)
            rw [← EG.out] at this
            exact this
          obtain ⟨ad, rfl, hab, hc0⟩ := hr (2 * k) hk0
          obtain ⟨ad', e', _, hc1⟩ := hr (2 * k + 1) hk1
          obtain rfl : ad = ad' := by injection e'
          have b0 := HBD.out _ (getD_mem hk0)
          have b1 := HBD.out _ (getD_mem hk1)
          have hw : word zs k = zs.getD (2 * k) 0 * 256 + zs.getD (2 * k + 1) 0 := rfl
          obtain ⟨x, hx⟩ : ∃ x : Nat, zs.getD (2 * k) 0 = x := ⟨(zs.getD (2 * k) 0).toNat, by omega⟩
          obtain ⟨y, hy⟩ : ∃ x : Nat, zs.getD (2 * k + 1) 0 = x := ⟨(zs.getD (2 * k + 1) 0).toNat, by omega⟩
          rw [hx, hy] at hw
          rw [hx] at hc0 b0
          rw [hy] at hc1 b1
          have ho := or_bytes x y (by omega) (by omega)
          obtain ⟨W, eW⟩ : ∃ W, W = (x : Int) * 256 + (y : Int) := ⟨_, rfl⟩
          rw [← eW] at hw ho
          obtain ⟨⟨a, bt, er⟩, ht⟩ : ∃ t, decR W = t := ⟨_, rfl⟩
          have HW := Lib.hid hw
          have HT := Lib.hid ht
          have D1 := Lib.hid (HD.out.below B.out.1 (by rw [EG.out]; exact HD.out.lt))
          clear hw eW ht hx hy hr e' hk0 hk1
          have wx0 : IntKind.i64.wrap (x : Int) = (x : Int) := IntWalk.i64_in _ (by omega)
          have wy0 : IntKind.i64.wrap (y : Int) = (y : Int) := IntWalk.i64_in _ (by omega)
          have wx : IntKind.i64.wrap ((x : Int) * 256) = (x : Int) * 256 := IntWalk.i64_in _ (by omega)
          have hc2 : wr.cell? ⟨ad.block, ad.off + (2 * k + 1), none⟩ = some (.int .u8 (y : Int)) := by
            have := hc1
            unfold Addr.add at this
            rw [if_neg (by omega)] at this
            exact this
          have i0' : 0 ≤ 2 * (k : Int) ∧ 2 * (k : Int) < (L : Int) := by omega
          have i1' : 0 ≤ 2 * (k : Int) + 1 ∧ 2 * (k : Int) + 1 < (L : Int) := by omega
          have w0 : IntKind.i64.wrap (2 * (k : Int)) = 2 * (k : Int) := IntWalk.i64_in _ (by omega)
          have w1' : IntKind.i64.wrap (2 * (k : Int) + 1) = 2 * (k : Int) + 1 := IntWalk.i64_in _ (by omega)
          have t0 : (2 * (k : Int)).toNat = 2 * k := by omega
          have t1 : (2 * (k : Int) + 1).toNat = 2 * k + 1 := by omega
          have z0 : 0 ≤ 2 * (k : Int) := by omega
          have z1 : 0 ≤ 2 * (k : Int) + 1 := by omega
          by_cases he : er = 0
          · have HE := Lib.hid he
            subst he
            go_upto_region 10 with fail
            go_quiet ((go_at_call 38; exact quiet_mine (decode_at HT.out _ (D1.out.drewN _))))
            clear hc0 hc1 hc2 ho wx wx0 wy0 i0' i1' w0 w1' t0 t1 z0 z1 b0 b1
            have hlen := full_len zs k n hk
            obtain ⟨u, hu, hf⟩ := own_ex (O.out.drewN nq) hlen k hlt
            obtain ⟨E1, E2⟩ := word_ok (k := k) HW.out HT.out HE.out
            have E1' := Lib.hid E1
            have E2' := Lib.hid E2
            have HLEN := Lib.hid hlen
            clear E1 E2 hlen
            go_wp2_with fail
            clear hu hf
            go_roundw
            case rel =>
              refine ⟨k + 1, by omega, by go_num, ?_, ?_, (bdn B.out.1).setCell (Nat.le_refl _) _, by rw [World.size_setCell]; exact B.out.2⟩
              · have := (O.out.drewN nq).store HLEN.out.symm k a
                rw [set_next _ _ _ _ (unvs_len zs k) hlt, ← E1'.out] at this
                exact this
              · rw [E2'.out]
                exact own_far (O.out.drewN nq) HLEN.out (G.out.drewN nq) (fun e => own_apart (n := n) (cap := n) G.out e.symm) k a
            case measure => simp [intOf]; omega
          · have hne : (er != 0) = true := by rw [bne_iff_ne]; exact he
            go_upto_region 10 with fail
            go_quiet ((go_at_call 38; exact quiet_mine (decode_at HT.out _ (D1.out.drewN _))))
            clear hc0 hc1 hc2 ho wx wx0 wy0 i0' i1' w0 w1' t0 t1 z0 z1 b0 b1
            have HLEN := Lib.hid (full_len zs k n hk)
            obtain ⟨E1, E2⟩ := word_lost (k := k) HW.out HT.out he
            have E1' := Lib.hid E1
            have E2' := Lib.hid E2
            clear E1 E2 he
            have GL := Lib.hid (gaps_len zs k)
            go_wp2_with (first | (at_builtin; refine wpList_append_own _ rfl (.tmp 51) (.tmp 53) 22 rfl (g + 1) 3 i0 (.int .i64 0) 1 8 Tryd.underlying22 hi hz0 hz1 hz2 rfl (by decide) _ (gaps zs k).length ((gaps zs k).map (Value.int .i64)) rfl ((G.out.drewN nq).alloc _) ⟨wr.heap.size, 0, none⟩ 1 1 ([(k : Int)].map (Value.int .i64)) rfl rfl (news_int (W := wr.drewN nq) (ys := [(k : Int)])) (one_cells (ys := [(k : Int)])) (by unfold maxLen; have := GL.out; omega) (by have := GL.out; omega) (by have := B.out.2; simp only [World.size_alloc]; exact Nat.le_trans this (Nat.le_succ _)) ?_; intro v' w2 hown hg _; have OL := Lib.hid (((O.out.drewN nq).alloc (.cells #[.int .i64 (k : Int)] 3)).kept hg (Or.inr (own_apart G.out))); obtain ⟨u, hu, hf⟩ := own_ex OL.out HLEN.out k hlt))
            clear hu hf
            have AP := Own.app (ys := [(k : Int)]) hown rfl rfl
            go_roundw
            case rel =>
              refine ⟨k + 1, by omega, by go_num, ?_, ?_, ?_, ?_⟩
              · have := OL.out.store HLEN.out.symm k (-1)
                rw [set_next _ _ _ _ (unvs_len zs k) hlt, ← E1'.out] at this
                exact this
              · rw [E2'.out]
                exact own_far OL.out HLEN.out AP (fun e => own_apart (n := n) (cap := n) AP e.symm) k (-1)
              · refine (((bdn B.out.1).alloc ?_ _).grown hg ?_ ?_).setCell (Nat.le_refl _) _
                · have := B.out.2; show g ≤ wr.heap.size; omega
                · have := B.out.2; simp only [World.size_alloc]; show g ≤ wr.heap.size + 1; omega
                · intro j hj; have := (own_block G.out hj).1; omega
              · rw [World.size_setCell]
                have h1 := hg.size
                have h2 := B.out.2
                simp only [World.size_alloc] at h1
                have h3 : (wr.drewN nq).heap.size = wr.heap.size := rfl
                omega
            case measure => simp [intOf]; omega
        · obtain rfl : k = n := by omega
          have hz : unvs zs k ++ List.replicate (k - k) 0 = unvs zs k := by rw [Nat.sub_self]; simp
          rw [hz] at O
          have HB2 : Below w.heap.size w wr := by rw [← EG.out]; exact B.out.1
          have HO2 : Own .i64 3 wr w.heap.size (.slice (some ⟨g, 0, none⟩) k k) (unvs zs k) := O.out.base (by rw [EG.out]; exact Nat.le_refl _)
          have HG2 := Lib.hid (G.out.base (base' := w.heap.size) (by rw [EG.out]; omega))
          have HB3 := Lib.hid HB2
          have HO3 := Lib.hid HO2
          clear hz hlt hk HB2 HO2
          go_wp2_with fail
          exact bodyPost_ret (by simp [results, Tryd.results30, go_sem]) rfl (UnpackPost.mk' HP.out rfl HO3.out HG2.out HB3.out)
    · have HP := Lib.hid (unpackR_odd (zs := zs) HNB.out (by rw [← HL.out]; exact hpar))
      have hm : ((L : Int) % 2 != 0) = true := by rw [bne_iff_ne]; omega
      clear hpar
      go_enter Tryd.func30, Tryd.ntmps30
      go_wp2_with fail
      exact bodyPost_ret (v := .tuple #[.slice none 0 0, .slice none 0 0, .int .i64 10]) (by simp [results, Tryd.results30, go_sem]) rfl (UnpackPost.mk' HP.out rfl Own.nil Own.nil (Below.refl _ _))
end Go.Proofs.YtbpgbdnfoofnaaaDoor
