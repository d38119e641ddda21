/-
  Stage 11: the program's Relation and Deepest.
-/
import Derived.Test.YtpimdcljecipeaaJLev
import Derived.Test.YtpimdcljecipeaaJRelF
import Derived.Test.YtpimdcljecipeaaJTop
set_option linter.unusedSimpArgs false
set_option linter.unusedVariables false
namespace Go.Proofs.Ytpimdcljecipeaa
open Go.RowKit Go.Lib

/-- What a chain leaves: a list of the call's own. -/
def ChPost (l : List It) (v : List Int) (y : Nat) (w : World) (e : Ending) (w' : World) : Prop :=
  ∃ u c, e = .returned u ∧ IsBack l v y c ∧ Own .i64 3 w' w.heap.size u (toZ c) ∧ Below w.heap.size w w'
set_option maxRecDepth 100000 in
set_option maxHeartbeats 3200000 in
theorem chainTo_any (l : List It) (A V : Option Addr) (c cv L : Nat) (v : List Int) (hL : L = l.length) (hvl : v.length = L) (hL2 : L ≤ 96) (hbk : BlkOk l) (hlv : Lev l v) :
    ∀ (n y : Nat), y < L → blk l y < n → ∀ w : World, IRow w A l → Row .i64 w w.heap.size V v →
    Calls Try.prog 36 #[.slice A L c, .slice V L cv, .int .i64 (y : Int)] w (ChPost l v y w) := by
  intro n
  induction n with
  | zero => intro y hy hb w; have := (hbk y (by rw [← hL]; exact hy)).1; omega
  | succ n ih =>
    intro y hy hb w hi hv
    have HBD := Lib.hid (hlv.bound hbk)
    have HLV := Lib.hid hlv
    have HI := Lib.hid hi
    have HV := Lib.hid hv
    have HL := Lib.hid hL
    have HVL := Lib.hid hvl
    have HIH := Lib.hid ih
    have HBK := Lib.hid hbk
    have HBN := Lib.hid hb
    obtain ⟨ad, rfl, _, cy⟩ := hv y (by rw [hvl]; exact hy)
    have hzb := HBD.out y (by rw [← hL]; exact hy)
    obtain ⟨z, hz⟩ : ∃ z, z = v.getD y 0 := ⟨_, rfl⟩
    have HZ := Lib.hid hz
    rw [← hz] at cy hzb
    have hyi : (y : Int) < (L : Int) := by omega
    clear hbk hlv hi hv hz ih hL hvl hb
    by_cases hz0 : 0 < z
    · go_enter Try.func36, Try.ntmps36
      go_wp2_with fail
      clear cy
      go_loopw [15] (fun iv wr => ∃ k : Nat, k ≤ L ∧ iv = .int .i64 (k : Int) ∧ Hid (∀ x, x < k → via l v x y ≠ z) ∧ Hid (∃ q, wr = w.drewN q)) (fun iv _ => L - (intOf iv).toNat)
      case atStart => exact ⟨0, by omega, rfl, Lib.hid (fun x hx => absurd hx (Nat.not_lt_zero _)), Lib.hid ⟨0, rfl⟩⟩
      case round =>
        obtain ⟨k, hk, rfl, F, HW⟩ := hrel
        obtain ⟨q, hq⟩ := HW.out
        by_cases hlt : k < L
        · have HVI := Lib.hid (fun q' : Nat => levelVia_any l A (some ad) c cv L v k y (by rw [← HL.out]; exact hlt) (by rw [← HL.out]; exact hy) (wr.drewN q') (by rw [hq]; exact (HI.out.drewN q).drewN q') (by rw [hq]; exact (HV.out.drewN q).drewN q') HVL.out.symm (by rw [HVL.out, HL.out]) (fun z hz => by
            have h1 := HBD.out z hz
            have h2 := (HBK.out z hz).2
            omega))
          rw [← HL.out] at HVI
          obtain ⟨_, e', _, cy⟩ := HV.out y (by rw [HVL.out]; exact hy)
          obtain rfl : ad = _ := by injection e'
          rw [← HZ.out] at cy
          obtain ⟨vv, hvv⟩ : ∃ vv, vv = via l v k y := ⟨_, rfl⟩
          rw [← hvv] at HVI
          have HVV := Lib.hid hvv
          replace cy : wr.cell? (ad.add y) = some (.int .i64 z) := by rw [hq]; exact cy
          have HQ := Lib.hid hq
          clear hvv e' hq HW
          go_wp2_with fail
          go_quiet ((go_at_call 30; exact Calls.quiet_of (HVI.out _)))
          clear HVI cy
          by_cases e : vv = z
          · subst e
            have hb : (vv == vv) = true := by simp
            have hbx : blk l k < n := by
              have gr : rel l k y ≠ 0 := fun gr => by have := HVV.out; rw [via_zero gr] at this; omega
              have h1 := (rel_pos gr).2
              have h2 := HBN.out
              omega
            have HST := Lib.hid (fun c hc => IsBack.step (l := l) (v := v) y k c (by rw [← HZ.out]; exact hz0) (by rw [← HL.out]; exact hlt) (by rw [← HZ.out]; exact HVV.out.symm) (fun x hx => by rw [← HZ.out]; exact F.out x hx) hc)
            have HC := Lib.hid (fun q' : Nat => HIH.out k hlt hbx (wr.drewN q') (by rw [HQ.out]; exact (HI.out.drewN q).drewN q') (by rw [HQ.out]; exact (HV.out.drewN q).drewN q'))
            go_wp2_with fail
            refine (HC.out _).mono ?_
            rintro e w3 ⟨u, ch, rfl, hch, O, B3⟩
            have HCH := Lib.hid (HST.out ch hch)
            have hcl := hch.len HBK.out (by rw [← HL.out]; exact hlt)
            have h31 := (HBK.out k (by rw [← HL.out]; exact hlt)).2
            have HLN := Lib.hid (show (toZ ch).length + 1 ≤ 1000000000 by rw [toZ_len]; omega)
            have BW := Lib.hid (show Below w.heap.size w (wr.drewN nq) by rw [HQ.out]; exact bdn (bdn (Below.refl _ _)))
            have O3 := Lib.hid (O.base BW.out.size)
            have B4 := Lib.hid (BW.out.trans (B3.mono BW.out.size))
            clear hcl h31 O B3 HC HST hch BW
            go_wp2_with (first | (at_builtin; refine wpList_appI _ rfl (.tmp 31) (.tmp 33) rfl w.heap.size _ (toZ ch) rfl (O3.out.alloc _) (y : Int) w3 rfl _ rfl 1 rfl HLN.out (le_allocW (w := w3) B4.out.size) ?_; intro v5 w5 A5))
            go_ret
            exact ⟨v5, ch ++ [y], rfl, HCH.out, by rw [toZ_app]; exact A5.1, A5.below B4.out B4.out.size O3.out⟩
          · have hb : (vv == z) = false := by simpa using e
            have HE := Lib.hid e
            clear e
            go_wp2_with fail
            go_roundw
            case rel => exact ⟨k + 1, by omega, by go_num, Lib.hid (fun x hx => by
              rcases Nat.lt_or_ge x k with g | g
              · exact F.out x g
              · have : x = k := by omega
                subst this; rw [← HVV.out]; exact HE.out), Lib.hid ⟨q + nq, by rw [HQ.out, World.drewN_drewN]⟩⟩
            case measure => simp [intOf]; omega
        · obtain rfl : k = L := by omega
          exfalso
          rcases (HLV.out.max y (by rw [← HL.out]; exact hy)).hit with e | ⟨x, hx, e⟩
          · have := HZ.out; omega
          · exact F.out x (by rw [HL.out]; exact hx) (by rw [HZ.out]; exact e)
    · have hz1 : ¬ (0 : Int) < z := by omega
      have OO := Lib.hid (Own.laid (k := .i64) (T := 3) w w.heap.size (Nat.le_refl _) (toZ [y]) 1 rfl (by omega))
      have B4 := Lib.hid ((Below.refl w.heap.size w).alloc (Nat.le_refl _) (.cells #[.int .i64 (y : Int)] 3))
      go_enter Try.func36, Try.ntmps36
      go_wp2_with fail
      go_ret
      exact ⟨_, [y], rfl, .one y (by rw [← HZ.out]; omega), OO.out, B4.out⟩
/-- The deepest chain. -/
structure Deep (l : List It) (zs : List Int) : Prop where
  nil : l.length = 0 → zs = []
  chain : 0 < l.length → ∃ v y c, Lev l v ∧ IsTop v y ∧ IsBack l v y c ∧ zs = toZ c
theorem Deep.uniq {l : List It} (hb : BlkOk l) {a b : List Int} (h : Deep l a) (k : Deep l b) : a = b := by
  rcases Nat.eq_zero_or_pos l.length with e | e
  · rw [h.nil e, k.nil e]
  · obtain ⟨v, y, c, h1, h2, h3, rfl⟩ := h.chain e
    obtain ⟨v', y', c', k1, k2, k3, rfl⟩ := k.chain e
    obtain rfl := lev_uniq hb h1 k1
    obtain rfl := h2.uniq k2
    rw [h3.uniq k3]
def DeepPost (l : List It) (wt : Int) (w : World) (e : Ending) (w' : World) : Prop :=
  ∃ v zs, e = .returned (.tuple #[v, .int .i64 (validR l wt)]) ∧ Own .i64 3 w' w.heap.size v zs ∧ (validR l wt = 0 → Deep l zs) ∧ (validR l wt ≠ 0 → zs = []) ∧ Below w.heap.size w w'
set_option maxRecDepth 100000 in
set_option maxHeartbeats 1600000 in
theorem deepest_any (l : List It) (A : Option Addr) (c : Nat) (wt : Int) (w : World) (h : IRow w A l) :
    Calls Try.prog 22 #[jv A l.length c wt] w (DeepPost l wt w) := by
  have H := Lib.hid h
  have HVL := Lib.hid (fun (W : World) (k : IRow W A l) => levels_any l A c wt W k)
  obtain ⟨L, hL⟩ : ∃ n, n = l.length := ⟨_, rfl⟩
  have HL := Lib.hid hL
  rw [← hL] at HVL ⊢
  have B0 := Lib.hid ((Below.refl w.heap.size w).alloc (Nat.le_refl _) (.cells #[.slice A L c, .int .i64 wt] 25))
  have J0 := Lib.hid (JBox.new (w := w) (A := A) (n := L) (c := c) (wt := wt) w.heap.size rfl)
  obtain ⟨b, hb⟩ : ∃ b, b = w.heap.size := ⟨_, rfl⟩
  clear h hL
  go_enter Try.func22, Try.ntmps22
  go_upto_region 1 with fail
  rw [← hb] at J0 ⊢
  generalize w.alloc (.cells #[.slice A L c, .int .i64 wt] 25) = w1 at *
  obtain ⟨j0, j1, jl⟩ := J0.out
  clear hb
  go_wp2_with fail
  refine (HVL.out w1 (H.out.below B0.out)).mono ?_
  rintro e w2 ⟨v, zs, rfl, O, hlev, hnil, hB2⟩
  have J2 := Lib.hid (J0.out.below hB2 jl)
  have B2 := Lib.hid (B0.out.trans (hB2.mono B0.out.size))
  have O2 := Lib.hid (O.base B0.out.size)
  clear j0 j1 jl J0 hB2 HVL O B0
  obtain ⟨j0, j1, jl⟩ := J2.out
  obtain ⟨vA, vc, rfl, hR, _, hm, _⟩ := O2.out.slice
  have HR := Lib.hid hR
  have HM := Lib.hid hm
  clear hR hm
  by_cases he : validR l wt = 0
  · have HLV := Lib.hid (hlev he)
    obtain ⟨p1, p2, p3⟩ := valid_ok he
    have HE := Lib.hid he
    have HOK := Lib.hid p3
    rw [he]
    have hzl : zs.length = L := by rw [HLV.out.len, HL.out]
    rw [hzl]
    rw [← HL.out] at p1
    clear he hlev hnil p2 p3
    have HZL := Lib.hid hzl
    clear hzl
    cases L with
    | zero =>
      go_wp2_with fail
      go_ret2
      exact ⟨_, [], by rw [HE.out]; rfl, Own.nil, fun _ => ⟨fun _ => rfl, fun hp => by rw [← HL.out] at hp; exact absurd hp (Nat.lt_irrefl _)⟩, fun _ => rfl, B2.out⟩
    | succ n =>
      have hn0 : ((n : Int) + 1 == 0) = false := by simp; omega
      have hmx := max_any zs vA vc w2 HR.out HM.out (by rw [HZL.out]; omega)
      have hix := fun M ht => indexOf_any zs vA vc M w2 HR.out HM.out ht
      have HZ2 := HZL.out
      rw [HZ2] at hmx hix
      have HMX := Lib.hid hmx
      have HIX := Lib.hid hix
      clear hmx hix HZ2
      go_wp2_with fail
      refine HMX.out.mono ?_
      rintro e w3 ⟨M, rfl, hT, hw3⟩
      rw [hw3]
      have HT := Lib.hid hT
      clear hT hw3
      go_wp2_with fail
      refine (HIX.out M HT.out).mono ?_
      rintro e w3 ⟨y, rfl, hy, _, hw3⟩
      rw [hw3]
      have hyl : y < n + 1 := by rw [← HZL.out]; exact hy.lt
      have HY := Lib.hid hy
      have HC := Lib.hid (chainTo_any l A vA c vc (n + 1) zs HL.out HZL.out p1 HOK.out HLV.out 32 y hyl (by have := (HOK.out y (by rw [← HL.out]; exact hyl)).2; omega) w2 (H.out.below B2.out) HR.out)
      clear hw3 hy
      go_wp2_with fail
      refine HC.out.mono ?_
      rintro e w4 ⟨u, ch, rfl, hch, O4, B4⟩
      have HCH := Lib.hid hch
      have O5 := Lib.hid (O4.base B2.out.size)
      have B5 := Lib.hid (B2.out.trans (B4.mono B2.out.size))
      clear hch O4 B4 HC
      go_wp2_with fail
      go_ret2
      exact ⟨_, toZ ch, by rw [HE.out]; rfl, O5.out, fun _ => ⟨fun h0 => absurd (HL.out.trans h0) (by omega), fun _ => ⟨zs, y, ch, HLV.out, HY.out, HCH.out, rfl⟩⟩, fun hne => absurd HE.out hne, B5.out⟩
  · have HE := Lib.hid he
    have hne : (validR l wt != 0) = true := bne_iff_ne.2 he
    clear he
    go_wp2_with fail
    go_ret2
    exact ⟨_, [], rfl, Own.nil, fun h => absurd h HE.out, fun _ => rfl, B2.out⟩
end Go.Proofs.Ytpimdcljecipeaa
