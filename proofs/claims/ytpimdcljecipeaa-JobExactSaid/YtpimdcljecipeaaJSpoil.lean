/-
  Stage 11: the maker's SpoilJob (tools/gen_jback.py, from stage 13's).
-/
import Derived.Test.YtpimdcljecipeaaJBack
import Derived.Test.YtpimdcljecipeaaJSaneA
import Derived.Test.YtpimdcljecipeaaJJob
import Derived.Test.YtpimdcljecipeaaSrc
set_option linter.unusedSimpArgs false
set_option linter.unusedVariables false
namespace Go.Proofs.Ytpimdcljecipeaa
open Go.RowKit Go.Lib



theorem JBox.stO {w : World} {b n c : Nat} {A : Option Addr} {wt : Int} (h : JBox w b A n c wt) {p : Addr} (hp : p.block ≠ b) (u : Value) : JBox (w.setCell p u) b A n c wt :=
  ⟨(World.cell?_setCell_other w p ⟨b, 0, none⟩ u (fun e => hp (by first | exact congrArg Addr.block e | exact (congrArg Addr.block e).symm))).trans h.c0, (World.cell?_setCell_other w p ⟨b, 1, none⟩ u (fun e => hp (by first | exact congrArg Addr.block e | exact (congrArg Addr.block e).symm))).trans h.c1, by rw [World.size_setCell]; exact h.lt⟩
theorem flatI_any : ∀ (l : List It) (k f : Nat) (z : Int), f < 4 → ∃ l' : List It, l'.length = l.length ∧ flatI l' = (flatI l).set (k * 4 + f) z := by
  intro l
  induction l with
  | nil => intro k f z _; exact ⟨[], rfl, by simp [flatI]⟩
  | cons q l ih =>
    intro k f z hf
    cases k with
    | zero =>
      rcases f with _ | _ | _ | _ | f
      · exact ⟨(z, q.2.1, q.2.2.1, q.2.2.2) :: l, rfl, rfl⟩
      · exact ⟨(q.1, z, q.2.2.1, q.2.2.2) :: l, rfl, rfl⟩
      · exact ⟨(q.1, q.2.1, z, q.2.2.2) :: l, rfl, rfl⟩
      · exact ⟨(q.1, q.2.1, q.2.2.1, z) :: l, rfl, rfl⟩
      · omega
    | succ k =>
      obtain ⟨l', h1, h2⟩ := ih k f z hf
      refine ⟨q :: l', by simp [h1], ?_⟩
      rw [show (k + 1) * 4 + f = (k * 4 + f) + 1 + 1 + 1 + 1 by omega]
      show q.1 :: q.2.1 :: q.2.2.1 :: q.2.2.2 :: flatI l' = _
      rw [h2]; rfl
/-- What holds while a job is spoiled: its box, the box of the result, the list of its own. -/
structure SpJ (m N b : Nat) (w wr : World) (A : Option Addr) (n c : Nat) (l : List It) (wt : Int) : Prop where
  jb : JBox wr b A n c wt
  rb : JBox wr (b + 1) none 0 0 0
  fz : ∀ j, wr.frozen? ⟨b, j, none⟩ = false
  fr : ∀ j, wr.frozen? ⟨b + 1, j, none⟩ = false
  own : IOwn 44 wr w.heap.size (.slice A n c) l
  len : n = l.length
  lo : ∀ g, (Value.slice A n c).ownBlock = some g → b + 1 < g
  mkr : IsMk wr m N
  mv : Moves m w wr
  hb : b = w.heap.size
  hm : m < b
theorem SpJ.step {m N M b n c : Nat} {w wr w' : World} {A : Option Addr} {l : List It} {wt : Int} (h : SpJ m N b w wr A n c l wt) (k : Moves m wr w') (q : IsMk w' m M) : SpJ m M b w w' A n c l wt :=
  have hm := h.hm
  have hb := h.hb
  ⟨h.jb.moves k (by omega), h.rb.moves k (by omega), fun j => (k.frozen (p := ⟨b, j, none⟩) h.jb.lt (by show b ≠ m; omega)).trans (h.fz j), fun j => (k.frozen (p := ⟨b + 1, j, none⟩) h.rb.lt (by show b + 1 ≠ m; omega)).trans (h.fr j), h.own.moves k (by omega), h.len, h.lo, q, h.mv.trans k, hb, hm⟩
theorem SpJ.below {m N b n c : Nat} {w wr w' : World} {A : Option Addr} {l : List It} {wt : Int} (h : SpJ m N b w wr A n c l wt) (k : Below wr.heap.size wr w') : SpJ m N b w w' A n c l wt :=
  h.step (Moves.of_below k) (h.mkr.stays' k)
/-- The weight is written. -/
theorem SpJ.setW {m N b n c : Nat} {w wr : World} {A : Option Addr} {l : List It} {wt : Int} (h : SpJ m N b w wr A n c l wt) (z : Int) : SpJ m N b w (wr.setCell ⟨b, 1, none⟩ (.int .i64 z)) A n c l z := by
  have hm := h.hm
  have hb := h.hb
  refine ⟨⟨?_, World.cell?_setCell_same _ _ _ h.jb.c1, by rw [World.size_setCell]; exact h.jb.lt⟩, h.rb.stO (p := ⟨b, 1, none⟩) (by show b ≠ b + 1; omega) _, fun j => by rw [World.frozen?_setCell]; exact h.fz j, fun j => by rw [World.frozen?_setCell]; exact h.fr j,
    h.own.setOther (p := ⟨b, 1, none⟩) (fun e => by have := h.lo _ e; have : b + 1 < b := this; omega) _, h.len, h.lo, h.mkr.setCell (p := ⟨b, 1, none⟩) hm _, h.mv.setCell (p := ⟨b, 1, none⟩) (Or.inr (by show w.heap.size ≤ b; omega)) _, hb, hm⟩
  rw [World.cell?_setCell_other _ _ _ _ (by simp)]; exact h.jb.c0
/-- A field of an item is written. -/
theorem SpJ.setF {m N b g n c : Nat} {w wr : World} {l : List It} {wt : Int} (h : SpJ m N b w wr (some ⟨g, 0, none⟩) n c l wt) (k f : Nat) (hf : f < 4) (z : Int) : ∃ l', l'.length = l.length ∧ SpJ m N b w (wr.setCell ⟨g, k * 4 + f, none⟩ (.int .i64 z)) (some ⟨g, 0, none⟩) n c l' wt := by
  have hm := h.hm
  have hb := h.hb
  have hlo := h.lo g rfl
  obtain ⟨l', h1, h2⟩ := flatI_any l k f z hf
  refine ⟨l', h1, h.jb.stO (p := ⟨g, k * 4 + f, none⟩) (by show g ≠ b; omega) _, h.rb.stO (p := ⟨g, k * 4 + f, none⟩) (by show g ≠ b + 1; omega) _, fun j => by rw [World.frozen?_setCell]; exact h.fz j, fun j => by rw [World.frozen?_setCell]; exact h.fr j,
    ?_, by rw [h1]; exact h.len, h.lo, h.mkr.setCell (p := ⟨g, k * 4 + f, none⟩) (by show m < g; omega) _, h.mv.setCell (p := ⟨g, k * 4 + f, none⟩) (Or.inr (by show w.heap.size ≤ g; omega)) _, hb, hm⟩
  unfold IOwn
  rw [h2, h1]
  have hl := h.len
  have ho := h.own
  subst hl
  exact Flat.store ho _ _
def SpPost (m N n : Nat) (w : World) (e : Ending) (w' : World) : Prop :=
  ∃ A c l wt, e = .returned (jv A n c wt) ∧ IOwn 44 w' w.heap.size (.slice A n c) l ∧ n = l.length ∧ IsMk w' m N ∧ Moves m w w'
theorem SpJ.post {m N M b n c : Nat} {w wr : World} {A : Option Addr} {l : List It} {wt : Int} (h : SpJ m N b w wr A n c l wt) (hM : N ≤ M) :
    SpPost m M n w (.returned (jv A n c wt)) ((wr.setCell ⟨b + 1, 0, none⟩ (.slice A n c)).setCell ⟨b + 1, 1, none⟩ (.int .i64 wt)) := by
  have hm := h.hm
  have hb := h.hb
  exact ⟨_, c, l, wt, rfl, (h.own.setOther (p := ⟨b + 1, 0, none⟩) (fun e => by have := h.lo _ e; have : b + 1 < b + 1 := this; omega) _).setOther (p := ⟨b + 1, 1, none⟩) (fun e => by have := h.lo _ e; have : b + 1 < b + 1 := this; omega) _, h.len,
    ((h.mkr.setCell (p := ⟨b + 1, 0, none⟩) (by show m < b + 1; omega) _).setCell (p := ⟨b + 1, 1, none⟩) (by show m < b + 1; omega) _).more hM,
    (h.mv.setCell (p := ⟨b + 1, 0, none⟩) (Or.inr (by show w.heap.size ≤ b + 1; omega)) _).setCell (p := ⟨b + 1, 1, none⟩) (Or.inr (by show w.heap.size ≤ b + 1; omega)) _⟩
/-- The start. -/
theorem SpJ.begin {m N b c0 c n : Nat} {w w1 w2 : World} {A0 A : Option Addr} {l : List It} {wt : Int} (jb : JBox w1 b A0 n c0 wt) (rb : JBox w1 (b + 1) none 0 0 0) (fz : ∀ j, w1.frozen? ⟨b, j, none⟩ = false) (fr : ∀ j, w1.frozen? ⟨b + 1, j, none⟩ = false)
    (own : IOwn 44 w2 (b + 2) (.slice A n c) l) (len : n = l.length) (mkr : IsMk w2 m N) (mv0 : Moves m w w1) (mv : Moves m w1 w2) (hb : b = w.heap.size) (hm : m < b) : SpJ m N b w (w2.setCell ⟨b, 0, none⟩ (.slice A n c)) A n c l wt := by
  have jb2 := jb.moves mv (by omega)
  have hlo : ∀ g, (Value.slice A n c).ownBlock = some g → b + 1 < g := fun g e => by have := (own.block e).1; omega
  refine ⟨⟨World.cell?_setCell_same _ _ _ jb2.c0, ?_, by rw [World.size_setCell]; exact jb2.lt⟩, (rb.moves mv (by omega)).stO (p := ⟨b, 0, none⟩) (by show b ≠ b + 1; omega) _, fun j => ?_, fun j => ?_,
    (own.base (by omega)).setOther (p := ⟨b, 0, none⟩) (fun e => by have := hlo _ e; have : b + 1 < b := this; omega) _, len, hlo, mkr.setCell (p := ⟨b, 0, none⟩) hm _, (mv0.trans mv).setCell (p := ⟨b, 0, none⟩) (Or.inr (by show w.heap.size ≤ b; omega)) _, hb, hm⟩
  · rw [World.cell?_setCell_other _ _ _ _ (by simp)]; exact jb2.c1
  · rw [World.frozen?_setCell]; exact (mv.frozen (p := ⟨b, j, none⟩) jb.lt (by show b ≠ m; omega)).trans (fz j)
  · rw [World.frozen?_setCell]; exact (mv.frozen (p := ⟨b + 1, j, none⟩) rb.lt (by show b + 1 ≠ m; omega)).trans (fr j)
set_option maxRecDepth 100000 in
set_option maxHeartbeats 3200000 in
theorem spoil_any (m N : Nat) (l : List It) (A : Option Addr) (c L : Nat) (wt : Int) (hL : L = l.length) (hl : L ≤ 1000) (w : World) (K : IsMk w m N) (hN : N ≤ 900000) (hi : IRow w A l) (hA : A = none → L = 0 ∧ c = 0) :
    Calls Try.prog 6 #[.pointer (some ⟨m, 0, none⟩), jv A L c wt] w (SpPost m (N + 4) L w) := by
  obtain ⟨i0, hi0, hz0, hz1, hz2⟩ := info_parts infoIt
  have HL := Lib.hid hL
  have HAA := Lib.hid hA
  have s1 : (w.alloc (.cells #[.slice A L c, .int .i64 wt] 25)).heap.size = w.heap.size + 1 := by simp
  have J0 := JBox.new (w := w) (A := A) (n := L) (c := c) (wt := wt) w.heap.size rfl
  have B0 := (Below.refl w.heap.size w).alloc (Nat.le_refl _) (.cells #[.slice A L c, .int .i64 wt] 25)
  have X0 := JBox.new (w := w.alloc (.cells #[.slice A L c, .int .i64 wt] 25)) (A := none) (n := 0) (c := 0) (wt := 0) _ rfl
  have G0 := fun j => frozen_new w #[.slice A L c, .int .i64 wt] 25 w.heap.size j rfl
  have Y0 := fun j => frozen_new (w.alloc (.cells #[.slice A L c, .int .i64 wt] 25)) #[.slice none 0 0, .int .i64 0] 25 _ j rfl
  have b1 := (Below.refl _ (w.alloc (.cells #[.slice A L c, .int .i64 wt] 25))).alloc (Nat.le_refl _) (.cells #[.slice none 0 0, .int .i64 0] 25)
  have HJ := Lib.hid (J0.below b1 J0.lt)
  have HG := Lib.hid (fun j => (b1.frozen (p := ⟨w.heap.size, j, none⟩) J0.lt).trans (G0 j))
  have HBW := Lib.hid (B0.trans (b1.mono B0.size))
  have HS1 := Lib.hid (show ((w.alloc (.cells #[.slice A L c, .int .i64 wt] 25)).alloc (.cells #[.slice none 0 0, .int .i64 0] 25)).heap.size = w.heap.size + 2 by simp)
  rw [s1] at X0 Y0
  have HX := Lib.hid X0
  have HY := Lib.hid Y0
  have HK := Lib.hid K
  have HI := Lib.hid (hi.below HBW.out)
  have hml := K.lt
  obtain ⟨b, hbq⟩ : ∃ b, b = w.heap.size := ⟨_, rfl⟩
  have HB := Lib.hid hbq
  have hmb : m < b := by omega
  clear hL hA s1 J0 B0 X0 b1 G0 Y0 K hi hml
  go_enter Try.func6, Try.ntmps6
  go_upto_region 1 with fail
  rw [← hbq] at HJ HX HG HY HS1 ⊢
  generalize (w.alloc (.cells #[.slice A L c, .int .i64 wt] 25)).alloc (.cells #[.slice none 0 0, .int .i64 0] 25) = w1 at *
  have K1 := Lib.hid (HK.out.stays' HBW.out)
  have HSZ := Lib.hid (show w1.heap.size = b + 2 from HS1.out)
  have HMV := Lib.hid (show Moves m w w1 from Moves.of_below HBW.out)
  clear hbq HS1
  obtain ⟨j0, j1, jl⟩ := HJ.out
  have f0 := HG.out 0
  have f1 := HG.out 1
  go_upto_region 2 with (first | (at_builtin; refine wpList_app_src rfl (.tmp 6) (.tmp 8) 23 rfl w1.heap.size 44 i0 (.agg #[.int .i64 0, .int .i64 0, .int .i64 0, .int .i64 0]) 4 32 Try.underlying23 hi0 hz0 hz1 hz2 rfl (by decide) (.slice (some ⟨w1.heap.size, 0, none⟩) 0 0) 0 [] rfl (own_empty (Nat.le_refl _)) A L c ((flatI l).map (Value.int .i64)) rfl (fun e => HAA.out e) (by rw [List.length_map, flatI_len, HL.out]) (Row.newsO (HI.out.below ((Below.refl _ _).alloc (Nat.le_refl _) _)).row) one_cells (by unfold maxLen; omega) (by omega) (by simp) ?_; intro v1 w2 hown hgr; have O1 := (show IOwn 44 w2 w1.heap.size v1 l from (by have := IOwn.app (l := []) (m := l) (n := 0) (k := L) hown rfl HL.out; simpa using this)); have V1 := ((Moves.refl m w1).alloc (.cells #[] 44)).grown hgr (fun k e => (by simp [Value.ownBlock] at e; omega)); have K2 := (K1.out.alloc (.cells #[] 44)).grown hgr (fun k e => (by have := K1.out.lt; simp [Value.ownBlock] at e; omega)); obtain ⟨A1, c1, e1, HR1, hc1, hc2, hA1⟩ := O1.full; rw [← HL.out] at e1; subst e1; have HA1 := Lib.hid hA1; have SB := Lib.hid (SpJ.begin HJ.out HX.out HG.out HY.out (O1.base (by rw [HSZ.out]; exact Nat.le_refl _)) HL.out K2 HMV.out V1 HB.out hmb); obtain ⟨i0', i1', il'⟩ := HJ.out.moves V1 (by omega); have h0' := (V1.frozen (p := ⟨b, 0, none⟩) HJ.out.lt (by show b ≠ m; omega)).trans (HG.out 0); clear hown hgr O1 V1 K2 HR1 hc1 hc2 hA1))
  generalize w2.setCell ⟨b, 0, none⟩ (.slice A1 L c1) = w3 at *
  clear i0' i1' il' h0' j0 j1 jl f0 f1 HJ HX HG HY HK K1 HI HAA HMV hi0 hz0 hz1 hz2
  obtain ⟨j0, j1, jl⟩ := SB.out.jb
  by_cases hL0 : L = 0
  · subst hL0
    have SX := Lib.hid SB.out
    clear HA1 SB j0 j1 jl
    obtain ⟨j0, j1, jl⟩ := SX.out.jb
    go_wp2_with fail
    refine (pick_any m N (fun _ => True) _ 4 4 _ (SX.out.mkr.alloc _) (by omega) (by omega) (by omega) (by have := SX.out.mkr.lt; omega) (by simp) (by exact new_pick _ _ (fun _ => True) [-1, 13, 12, 0] (fun _ _ => trivial) _ rfl)).mono ?_
    rintro e wp ⟨z, rfl, -, kp, mp⟩
    have SP := Lib.hid ((SX.out.below ((Below.refl _ _).alloc (Nat.le_refl _) _)).step mp kp)
    have S9 := Lib.hid (SP.out.setW z)
    clear j0 j1 jl kp mp SX
    obtain ⟨j0, j1, jl⟩ := SP.out.jb
    have f0 := SP.out.fz 0
    have f1 := SP.out.fz 1
    go_upto_region 4 with fail
    generalize wp.setCell ⟨b, 1, none⟩ (.int .i64 z) = w9 at *
    clear j0 j1 jl f0 f1 SP
    obtain ⟨j0, j1, jl⟩ := S9.out.jb
    obtain ⟨r0, r1, rl⟩ := S9.out.rb
    have f0 := S9.out.fr 0
    have f1 := S9.out.fr 1
    have RB := Lib.hid (S9.out.rb.put (A' := A1) (n' := 0) (c' := c1) (wt' := z))
    go_wp2_with fail
    refine bodyPost_ret (results_job rfl _ _ (b + 1) 0 c1 (A1) z rfl RB.out) rfl ?_
    exact S9.out.post (by omega)
  · obtain ⟨g, hg, -⟩ := HA1.out (by rw [← HL.out]; omega)
    subst hg
    have hLz : ((L : Int) == 0) = false := by simp; omega
    go_wp2_with fail
    refine (next_any m N 8 w3 SB.out.mkr (by omega) (by omega) (by omega)).mono ?_
    rintro e w4 ⟨v, rfl, v1, v2, k1, k2⟩
    have SX := Lib.hid (SB.out.step k2 k1)
    clear j0 j1 jl k1 k2 SB HA1
    by_cases hv : v = 0
    · subst hv
      obtain ⟨j0, j1, jl⟩ := SX.out.jb
      go_wp2_with fail
      refine (pick_any m (N + 1) (fun _ => True) _ 4 4 _ (SX.out.mkr.alloc _) (by omega) (by omega) (by omega) (by have := SX.out.mkr.lt; omega) (by simp) (by exact new_pick _ _ (fun _ => True) [-1, 13, 12, 0] (fun _ _ => trivial) _ rfl)).mono ?_
      rintro e wp ⟨z, rfl, -, kp, mp⟩
      have SP := Lib.hid ((SX.out.below ((Below.refl _ _).alloc (Nat.le_refl _) _)).step mp kp)
      have S9 := Lib.hid (SP.out.setW z)
      clear j0 j1 jl kp mp SX
      obtain ⟨j0, j1, jl⟩ := SP.out.jb
      have f0 := SP.out.fz 0
      have f1 := SP.out.fz 1
      go_upto_region 4 with fail
      generalize wp.setCell ⟨b, 1, none⟩ (.int .i64 z) = w9 at *
      clear j0 j1 jl f0 f1 SP
      obtain ⟨j0, j1, jl⟩ := S9.out.jb
      obtain ⟨r0, r1, rl⟩ := S9.out.rb
      have f0 := S9.out.fr 0
      have f1 := S9.out.fr 1
      have RB := Lib.hid (S9.out.rb.put (A' := (some ⟨g, 0, none⟩)) (n' := L) (c' := c1) (wt' := z))
      go_wp2_with fail
      refine bodyPost_ret (results_job rfl _ _ (b + 1) L c1 ((some ⟨g, 0, none⟩)) z rfl RB.out) rfl ?_
      exact S9.out.post (by omega)
    · have hvz : (v == 0) = false := by simpa using hv
      obtain ⟨j0, j1, jl⟩ := SX.out.jb
      have HPS := Lib.hid (fun (X : World) (M : Nat) (h : SpJ m M b w X (some ⟨g, 0, none⟩) L c1 l wt) => (show X.cell? ⟨b, 0, none⟩ = some (.slice (some ⟨g, 0, none⟩) L c1) from h.jb.c0))
      clear hv
      go_upto_region 5 with fail
      clear j0 j1 jl hvz
      obtain ⟨q0, e0⟩ : ∃ x, x = w4.drew := ⟨_, rfl⟩
      have S0 := Lib.hid (show SpJ m (N + 1) b w q0 (some ⟨g, 0, none⟩) L c1 l wt from by rw [e0]; exact SX.out.below ((Below.refl _ _).drew))
      have F0 := HPS.out q0 _ S0.out
      have HE0 := Lib.hid e0
      clear e0 SX
      refine AnyT.begin_at tlZ (fun X => X.cell? ⟨b, 0, none⟩ = some (.slice (some ⟨g, 0, none⟩) L c1)) (by kernel_rfl) HE0.out F0 ?_
      clear F0 HE0
      intro F0
-- TAKES J1
      refine AnyT.takeD (i := 0) (d := some 25) (v := .pointer (some ⟨b, 0, none⟩)) rfl rfl (by kernel_rfl) (by kernel_rfl) (by kernel_rfl) (by kernel_rfl) (fun _ _ _ h => h) (Or.inl ⟨by rfl, fun wz _ => by go_simp⟩) F0 ?_
      simp only [Act.put, List.setIfInBounds_toArray, List.set_cons_zero, List.set_cons_succ]
      refine AnyT.takeD (i := 1) (d := some 26) (v := .slice (some ⟨g, 0, none⟩) L c1) rfl rfl (by kernel_rfl) (by kernel_rfl) (by kernel_rfl) (by kernel_rfl) (fun _ _ _ h => h) (Or.inl ⟨by rfl, fun wz hz => by have z0 := hz; go_simp⟩) F0 ?_
      simp only [Act.put, List.setIfInBounds_toArray, List.set_cons_zero, List.set_cons_succ]
      refine AnyT.takeD (i := 2) (d := some 27) (v := .pointer (some ⟨m, 0, none⟩)) rfl rfl (by kernel_rfl) (by kernel_rfl) (by kernel_rfl) (by kernel_rfl) (fun _ _ _ h => h) (Or.inl ⟨by rfl, fun wz _ => by go_simp⟩) F0 ?_
      simp only [Act.put, List.setIfInBounds_toArray, List.set_cons_zero, List.set_cons_succ]
      refine AnyT.takeD (i := 3) (d := some 28) (v := .pointer (some ⟨b, 0, none⟩)) rfl rfl (by kernel_rfl) (by kernel_rfl) (by kernel_rfl) (by kernel_rfl) (fun _ _ _ h => h) (Or.inl ⟨by rfl, fun wz _ => by go_simp⟩) F0 ?_
      simp only [Act.put, List.setIfInBounds_toArray, List.set_cons_zero, List.set_cons_succ]
      refine AnyT.takeD (i := 4) (d := some 29) (v := .slice (some ⟨g, 0, none⟩) L c1) rfl rfl (by kernel_rfl) (by kernel_rfl) (by kernel_rfl) (by kernel_rfl) (fun _ _ _ h => h) (Or.inl ⟨by rfl, fun wz hz => by have z0 := hz; go_simp⟩) F0 ?_
      simp only [Act.put, List.setIfInBounds_toArray, List.set_cons_zero, List.set_cons_succ]
      refine AnyT.takeD (i := 5) (d := some 30) (v := .int .i64 (L : Int)) rfl rfl (by kernel_rfl) (by kernel_rfl) (by kernel_rfl) (by kernel_rfl) (fun _ _ _ h => h) (Or.inl ⟨by rfl, fun wz _ => by go_simp⟩) F0 ?_
      simp only [Act.put, List.setIfInBounds_toArray, List.set_cons_zero, List.set_cons_succ]
      -- TAKEN J1
      refine AnyT.branch (rs := [6]) (by kernel_rfl) (by simp) ?_
      refine all_cons (?_) all_nil
      refine AnyT.enter (i := 6) (d := some 31) (f := 14) (args := #[.pointer (some ⟨m, 0, none⟩), .int .i64 (L : Int)]) rfl rfl rfl (by go_simp) (next_any m (N + 1) (L : Int) q0 S0.out.mkr (by omega) (by omega) (by omega)) ?_
      rintro e q1 ⟨iv, rfl, iv1, iv2, k1, k2⟩
      have S1 := Lib.hid (S0.out.step k2 k1)
      have F1 := HPS.out q1 _ S1.out
      refine ⟨_, rfl, fun _ => F1, ?_⟩
      clear F0 k1 k2 S0
      simp only [Act.put, List.setIfInBounds_toArray, List.set_cons_zero, List.set_cons_succ]
      obtain ⟨i, rfl⟩ := Int.eq_ofNat_of_zero_le iv1
      have hiL : i < L := by omega
      have hiI : (i : Int) < (L : Int) := by omega
-- TAKES J2
      refine AnyT.takeD (i := 7) (d := some 32) (v := .pointer (some ((⟨g, 0, none⟩ : Addr).add (i * 4)))) rfl rfl (by kernel_rfl) (by kernel_rfl) (by kernel_rfl) (by kernel_rfl) (fun _ _ _ h => h) (Or.inl ⟨by rfl, fun wz _ => by go_simp⟩) F1 ?_
      simp only [Act.put, List.setIfInBounds_toArray, List.set_cons_zero, List.set_cons_succ]
      refine AnyT.takeD (i := 8) (d := some 5) (v := .pointer (some ((⟨g, 0, none⟩ : Addr).add (i * 4)))) rfl rfl (by kernel_rfl) (by kernel_rfl) (by kernel_rfl) (by kernel_rfl) (fun _ _ _ h => h) (Or.inl ⟨by rfl, fun wz _ => by go_simp⟩) F1 ?_
      simp only [Act.put, List.setIfInBounds_toArray, List.set_cons_zero, List.set_cons_succ]
      -- TAKEN J2
      refine AnyT.done_ (by kernel_rfl) ?_ _
      clear F1 HPS
      go_wp2_with fail
      refine (next_any m (N + 1 + 1) 4 q1 S1.out.mkr (by omega) (by omega) (by omega)).mono ?_
      rintro e w6 ⟨s, rfl, s1, s2, k1, k2⟩
      have S7 := Lib.hid (S1.out.step k2 k1)
      clear k1 k2 S1
      have hs : s = 0 ∨ s = 1 ∨ s = 2 ∨ s = 3 := by omega
      rcases hs with rfl | rfl | rfl | rfl
      · obtain ⟨j0, j1, jl⟩ := S7.out.jb
        go_wp2_with fail
        refine (pick_any m (N + 3) (fun _ => True) _ 3 3 _ (S7.out.mkr.alloc _) (by omega) (by omega) (by omega) (by have := S7.out.mkr.lt; omega) (by simp) (by exact new_pick _ _ (fun _ => True) [-1, 15, 16] (fun _ _ => trivial) _ rfl)).mono ?_
        rintro e wp ⟨z, rfl, -, kp, mp⟩
        have SP := Lib.hid ((S7.out.below ((Below.refl _ _).alloc (Nat.le_refl _) _)).step mp kp)
        obtain ⟨l9, h9, s9⟩ := SP.out.setF i 0 (by omega) z
        have S9 := Lib.hid s9
        obtain ⟨⟨c0, c1, c2, c3⟩, fz⟩ := SP.out.own.at4 SP.out.len (k := i) (by rw [← SP.out.len]; exact hiL)
        have fzi := fz (i * 4)
        clear j0 j1 jl kp mp S7 s9 h9 fz
        go_upto_region 14 with fail
        generalize wp.setCell ⟨g, i * 4, none⟩ (.int .i64 z) = w9 at *
        clear c0 c1 c2 c3 fzi SP
        obtain ⟨j0, j1, jl⟩ := S9.out.jb
        obtain ⟨r0, r1, rl⟩ := S9.out.rb
        have f0 := S9.out.fr 0
        have f1 := S9.out.fr 1
        have RB := Lib.hid (S9.out.rb.put (A' := (some ⟨g, 0, none⟩)) (n' := L) (c' := c1) (wt' := wt))
        go_wp2_with fail
        refine bodyPost_ret (results_job rfl _ _ (b + 1) L c1 ((some ⟨g, 0, none⟩)) wt rfl RB.out) rfl ?_
        exact S9.out.post (by omega)
      · obtain ⟨j0, j1, jl⟩ := S7.out.jb
        go_wp2_with fail
        refine (pick_any m (N + 3) (fun _ => True) _ 3 3 _ (S7.out.mkr.alloc _) (by omega) (by omega) (by omega) (by have := S7.out.mkr.lt; omega) (by simp) (by exact new_pick _ _ (fun _ => True) [-1, 31, 32] (fun _ _ => trivial) _ rfl)).mono ?_
        rintro e wp ⟨z, rfl, -, kp, mp⟩
        have SP := Lib.hid ((S7.out.below ((Below.refl _ _).alloc (Nat.le_refl _) _)).step mp kp)
        obtain ⟨l9, h9, s9⟩ := SP.out.setF i 1 (by omega) z
        have S9 := Lib.hid s9
        obtain ⟨⟨c0, c1, c2, c3⟩, fz⟩ := SP.out.own.at4 SP.out.len (k := i) (by rw [← SP.out.len]; exact hiL)
        have fzi := fz (i * 4 + 1)
        clear j0 j1 jl kp mp S7 s9 h9 fz
        go_upto_region 14 with fail
        generalize wp.setCell ⟨g, i * 4 + 1, none⟩ (.int .i64 z) = w9 at *
        clear c0 c1 c2 c3 fzi SP
        obtain ⟨j0, j1, jl⟩ := S9.out.jb
        obtain ⟨r0, r1, rl⟩ := S9.out.rb
        have f0 := S9.out.fr 0
        have f1 := S9.out.fr 1
        have RB := Lib.hid (S9.out.rb.put (A' := (some ⟨g, 0, none⟩)) (n' := L) (c' := c1) (wt' := wt))
        go_wp2_with fail
        refine bodyPost_ret (results_job rfl _ _ (b + 1) L c1 ((some ⟨g, 0, none⟩)) wt rfl RB.out) rfl ?_
        exact S9.out.post (by omega)
      · obtain ⟨j0, j1, jl⟩ := S7.out.jb
        go_wp2_with fail
        refine (pick_any m (N + 3) (fun _ => True) _ 5 5 _ (S7.out.mkr.alloc _) (by omega) (by omega) (by omega) (by have := S7.out.mkr.lt; omega) (by simp) (by exact new_pick _ _ (fun _ => True) [-1, 0, 5, 12, 13] (fun _ _ => trivial) _ rfl)).mono ?_
        rintro e wp ⟨z, rfl, -, kp, mp⟩
        have SP := Lib.hid ((S7.out.below ((Below.refl _ _).alloc (Nat.le_refl _) _)).step mp kp)
        obtain ⟨l9, h9, s9⟩ := SP.out.setF i 2 (by omega) z
        have S9 := Lib.hid s9
        obtain ⟨⟨c0, c1, c2, c3⟩, fz⟩ := SP.out.own.at4 SP.out.len (k := i) (by rw [← SP.out.len]; exact hiL)
        have fzi := fz (i * 4 + 2)
        clear j0 j1 jl kp mp S7 s9 h9 fz
        go_upto_region 14 with fail
        generalize wp.setCell ⟨g, i * 4 + 2, none⟩ (.int .i64 z) = w9 at *
        clear c0 c1 c2 c3 fzi SP
        obtain ⟨j0, j1, jl⟩ := S9.out.jb
        obtain ⟨r0, r1, rl⟩ := S9.out.rb
        have f0 := S9.out.fr 0
        have f1 := S9.out.fr 1
        have RB := Lib.hid (S9.out.rb.put (A' := (some ⟨g, 0, none⟩)) (n' := L) (c' := c1) (wt' := wt))
        go_wp2_with fail
        refine bodyPost_ret (results_job rfl _ _ (b + 1) L c1 ((some ⟨g, 0, none⟩)) wt rfl RB.out) rfl ?_
        exact S9.out.post (by omega)
      · obtain ⟨j0, j1, jl⟩ := S7.out.jb
        go_wp2_with fail
        refine (pick_any m (N + 3) (fun _ => True) _ 4 4 _ (S7.out.mkr.alloc _) (by omega) (by omega) (by omega) (by have := S7.out.mkr.lt; omega) (by simp) (by exact new_pick _ _ (fun _ => True) [0, 1, 400, 401] (fun _ _ => trivial) _ rfl)).mono ?_
        rintro e wp ⟨z, rfl, -, kp, mp⟩
        have SP := Lib.hid ((S7.out.below ((Below.refl _ _).alloc (Nat.le_refl _) _)).step mp kp)
        obtain ⟨l9, h9, s9⟩ := SP.out.setF i 3 (by omega) z
        have S9 := Lib.hid s9
        obtain ⟨⟨c0, c1, c2, c3⟩, fz⟩ := SP.out.own.at4 SP.out.len (k := i) (by rw [← SP.out.len]; exact hiL)
        have fzi := fz (i * 4 + 3)
        clear j0 j1 jl kp mp S7 s9 h9 fz
        go_upto_region 14 with fail
        generalize wp.setCell ⟨g, i * 4 + 3, none⟩ (.int .i64 z) = w9 at *
        clear c0 c1 c2 c3 fzi SP
        obtain ⟨j0, j1, jl⟩ := S9.out.jb
        obtain ⟨r0, r1, rl⟩ := S9.out.rb
        have f0 := S9.out.fr 0
        have f1 := S9.out.fr 1
        have RB := Lib.hid (S9.out.rb.put (A' := (some ⟨g, 0, none⟩)) (n' := L) (c' := c1) (wt' := wt))
        go_wp2_with fail
        refine bodyPost_ret (results_job rfl _ _ (b + 1) L c1 ((some ⟨g, 0, none⟩)) wt rfl RB.out) rfl ?_
        exact S9.out.post (by omega)
end Go.Proofs.Ytpimdcljecipeaa
