/-
  Stage 5: the program's Balance.
-/
import Derived.Test.YtbnlaopmmgoalaaSThr
set_option linter.unusedSimpArgs false
set_option linter.unusedVariables false
namespace Go.Proofs.Ytbnlaopmmgoalaa
open Go.RowKit

/-- A new variable of an array's type. -/
theorem wpList_alloc_arr {P : Program} {ops : Array Oper} {rest : List Oper} {o : Oper} {a : Act} {w : World} {Q : Exit → Act → World → Prop} (hgd : o.guard = none) (ty : TypeId) (ho : o.op = .alloc ty) (zs : Array Value)
    (hz : ∀ w, (zeroValue ty).run P w = .ok (.agg zs) w) (h : wpList P ops Q rest (a.put o.dst (.pointer (some ⟨w.heap.size, 0, none⟩))) (w.alloc (.cells zs ty))) : wpList P ops Q (o :: rest) a w := by
  refine wpList_plain hgd fun K hK => ?_
  unfold Oper.wp execOp
  simp only [ho, Instr.alloc, Sem.run_bind, hz, Result.andThen_ok, newVar, newRow, Value.cells, run_newObj_alloc, Sem.run_pure]
  exact hK _ _ h
theorem chk0 (l p : List Pul) : chkR l p 0 = if bordR l = 0 then validR p else bordR l := by
  unfold chkR
  by_cases h1 : bordR l = 0
  · rw [if_pos h1, if_pos h1]
    by_cases h2 : validR p = 0
    · rw [if_pos h2, if_neg (by omega), h2]
    · rw [if_neg h2]
  · rw [if_neg h1, if_neg h1]
theorem balx_bd {l : List Pul} (hb : ∀ b ∈ l, okB b) (h64 : l.length ≤ 64) {x : Pul} (hx : okP x) : -64 ≤ balx l x ∧ balx l x ≤ 64 := by
  have := sb_bd l hb x.1 l.length
  rw [List.take_length] at this
  unfold balx
  rcases hx.2.2 with e | e <;> rw [e] <;> omega
theorem balx_sum {l : List Pul} (hb : ∀ b ∈ l, okB b) (h64 : l.length ≤ 64) {p : List Pul} (hx : ∀ x ∈ p, okP x) : -(64 * (p.length : Int)) ≤ sum (balx l) p ∧ sum (balx l) p ≤ 64 * p.length := by
  induction p with
  | nil => exact ⟨by show -(64 * ((0 : Nat) : Int)) ≤ 0; omega, by show 0 ≤ 64 * ((0 : Nat) : Int); omega⟩
  | cons x p ih =>
    have := ih fun y hy => hx y (List.mem_cons_of_mem _ hy)
    have := balx_bd hb h64 (hx x (List.mem_cons_self ..))
    show -(64 * ((p.length + 1 : Nat) : Int)) ≤ balx l x + sum (balx l) p ∧ balx l x + sum (balx l) p ≤ 64 * ((p.length + 1 : Nat) : Int)
    omega

set_option maxHeartbeats 1600000 in
theorem pbal_any (l p : List Pul) (A A2 : Option Addr) (c c2 : Nat) (w : World) (h : PRow w A l) (h2 : PRow w A2 p) :
    Calls Try.prog 22 #[.slice A l.length c, .slice A2 p.length c2] w fun e w' => e = .returned (R2 (balR l p)) ∧ Below w.heap.size w w' := by
  have hl : l.length ≤ 9223372036854775807 := h.len
  have hp : p.length ≤ 9223372036854775807 := h2.len
  have H := Lib.hid h
  have H2 := Lib.hid h2
  clear h h2
  go_enter Try.func22, Try.ntmps22
  go_wp2_with fail
  refine (bvalid_any l A c w H.out).mono ?_
  rintro e w1 ⟨rfl, B1⟩
  have HB1 := Lib.hid B1
  obtain ⟨eb, heb⟩ : ∃ eb, eb = bordR l := ⟨_, rfl⟩
  have HEB := Lib.hid heb
  rw [← heb]
  clear B1 heb
  by_cases hb0 : eb = 0
  · subst hb0
    go_wp2_with fail
    refine (valid_any p A2 c2 w1 (H2.out.below HB1.out)).mono ?_
    rintro e w2 ⟨rfl, B2⟩
    have HB2 := Lib.hid (HB1.out.trans (B2.mono HB1.out.size))
    obtain ⟨ev, hev⟩ : ∃ ev, ev = validR p := ⟨_, rfl⟩
    have HEV := Lib.hid hev
    rw [← hev]
    clear B2 hev
    by_cases hv0 : ev = 0
    · subst hv0
      have HC := Lib.hid (show chkR l p 0 = 0 by rw [chk0, if_pos HEB.out.symm, HEV.out])
      obtain ⟨hbor, h64⟩ := bord_zero HEB.out.symm
      obtain ⟨hrun, hp4⟩ := valid_zero HEV.out.symm
      have HR := Lib.hid (run_mem hrun)
      have HO := Lib.hid (bor_ok hbor)
      have H64 := Lib.hid h64
      go_wp2_with fail
      refine (tot_any l A c w2 (H.out.below HB2.out) HO.out H64.out).mono ?_
      rintro e w3 ⟨rfl, B3⟩
      have HB3 := Lib.hid (HB2.out.trans (B3.mono HB2.out.size))
      have HI := Lib.hid (show (Try.prog.info? 54).map (·.size) = some ((tl l).map (Value.int .i64)).toArray.size by
        rw [List.size_toArray, List.length_map, tl_len]; kernel_rfl)
      have hz := (zero_of_info (v := arr (List.replicate 64 0)) (n := 64) (t := 54) (P := Try.prog) (by kernel_rfl)).1
      clear B3
      rename_i hK
      refine hK _ _ ?_
      refine wpList_alloc_arr rfl _ rfl _ hz ?_
      refine wpList_store_row rfl _ _ _ rfl w3.heap.size ((tl l).map (Value.int .i64)).toArray _ _ rfl rfl (heap_alloc_new _ _) HI.out (by simp [tl_len]) (by simp; exact fun x _ => rfl) ?_
      refine wpList_nil ?_
      rw [World.setRow_alloc_new]
      have M := Blk.new w3 54 (tl l)
      have HB4 := Lib.hid (HB3.out.alloc HB3.out.size (.cells ((tl l).map (Value.int .i64)).toArray 54))
      have hlt := M.lt
      generalize w3.alloc (.cells ((tl l).map (Value.int .i64)).toArray 54) = w4 at M HB4 hlt ⊢
      have HM := Lib.hid M
      generalize w3.heap.size = mb at HM hlt ⊢
      show Exit.then _ _ .normal _ _
      generalize arr (tl l) = va
      clear M hz hK
      simp only [Exit.then]
      obtain ⟨L, hL⟩ : ∃ n, n = p.length := ⟨_, rfl⟩
      have HL := Lib.hid hL
      have HSB := Lib.hid (fun k => balx_sum HO.out H64.out (p := p.take k) (fun x hx => HR.out x (List.mem_of_mem_take hx)))
      rw [← hL] at hp hp4 ⊢
      have HLT := Lib.hid hlt
      clear hL h64 hrun hbor hlt
      go_frame
      go_wp2_with fail
      go_loopw [26, 9] (fun i nv wr => ∃ k : Nat, k ≤ L ∧ i = .int .i64 k ∧ ∃ n : Int, nv = .int .i64 n ∧ Hid (n = sum (balx l) (p.take k)) ∧ Hid (Blk wr mb 54 (tl l)) ∧ Hid (Below w.heap.size w wr)) (fun i _ _ => L - (intOf i).toNat)
      case atStart => exact ⟨0, by omega, rfl, 0, rfl, Lib.hid rfl, HM, HB4⟩
      case round =>
        clear HM HB4
        obtain ⟨k, hk, rfl, n, rfl, HN, M, B⟩ := hrel
        by_cases hlt : k < L
        · obtain ⟨ad, rfl, C⟩ := (H2.out.below B.out).at_ k (by rw [← HL.out]; exact hlt)
          obtain ⟨⟨d, t, z⟩, hpk⟩ : ∃ x, x = p.getD k (0, 0, 0) := ⟨_, rfl⟩
          have ht := take_at hpk (by rw [← HL.out]; exact hlt)
          have hx : okP (d, t, z) := by rw [hpk]; exact HR.out _ (getD_memP (by rw [← HL.out]; exact hlt))
          rw [← hpk] at C
          obtain ⟨c0, c1, c2⟩ := C.spelt
          obtain ⟨d1, d2⟩ := hx.1
          simp only at c0 c1 c2 d1 d2
          obtain ⟨dn, rfl⟩ := Int.eq_ofNat_of_zero_le d1
          have hbd := balx_bd HO.out H64.out hx
          have hnb : -262144 ≤ n ∧ n ≤ 262144 := by
            have := HSB.out k
            rw [List.length_take] at this
            rw [HN.out]; omega
          have M1 := Lib.hid (M.out.alloc (.cells #[.int .i64 (dn : Int), .int .i64 t, .int .i64 z] 40))
          have B1 := Lib.hid (B.out.alloc B.out.size (.cells #[.int .i64 (dn : Int), .int .i64 t, .int .i64 z] 40))
          have m0 := M1.out.cell (dn * 2 + 1) (by rw [tl_len]; omega)
          rw [tl_odd _ _ (by omega)] at m0
          have hbx : balx l ((dn : Int), t, z) = z * sum (sb dn) l := rfl
          obtain ⟨y, hy⟩ : ∃ y, y = sum (sb dn) l := ⟨_, rfl⟩
          obtain ⟨x, hxx⟩ : ∃ x, x = balx l ((dn : Int), t, z) := ⟨_, rfl⟩
          rw [← hxx] at hbd hbx
          rw [← hy] at m0 hbx
          have hxw : wrap64 (z * y) = x := by rw [← hbx]; exact IntWalk.wrap64_in _ (by omega)
          have HXX := Lib.hid hxx
          have HS := Lib.hid (sum_step (balx l) (p.take k) ((dn : Int), t, z))
          have HT1 := Lib.hid ht
          clear C hpk ht hx hxx hy M hbx
          go_wp2_with fail
          go_quiet (fail)
          clear c0 c1 c2 m0 hxw
          go_wp2_with fail
          go_roundw
          case rel => exact ⟨k + 1, by omega, by go_num, n + x, rfl, Lib.hid (by rw [HT1.out, HS.out, ← HXX.out, HN.out]), Lib.hid M1.out.drewN, Lib.hid (bdn B1.out)⟩
          case measure => simp [intOf]; omega
        · obtain rfl : k = L := by omega
          have hn := HN.out
          rw [HL.out, List.take_length] at hn
          have E := Lib.hid (show balR l p = (n, 0) by unfold balR; rw [if_pos HC.out, hn])
          clear hn hlt hk
          go_wp2_with fail
          go_ret2
          exact ⟨ret_r2 E.out, B.out⟩
    · have HC := Lib.hid (show chkR l p 0 = ev by rw [chk0, if_pos HEB.out.symm, HEV.out])
      have E := Lib.hid (show balR l p = (0, ev) by unfold balR; rw [if_neg (by rw [HC.out]; exact hv0), HC.out])
      have hv1 : (ev == 0) = false := beq_eq_false_iff_ne.2 hv0
      clear hv0
      go_wp2_with fail
      go_ret2
      exact ⟨ret_r2 E.out, HB2.out⟩
  · have HC := Lib.hid (show chkR l p 0 = eb by rw [chk0, if_neg (fun e => hb0 (HEB.out.trans e)), HEB.out])
    have E := Lib.hid (show balR l p = (0, eb) by unfold balR; rw [if_neg (by rw [HC.out]; exact hb0), HC.out])
    have hb1 : (eb == 0) = false := beq_eq_false_iff_ne.2 hb0
    clear hb0
    go_wp2_with fail
    go_ret2
    exact ⟨ret_r2 E.out, HB1.out⟩
end Go.Proofs.Ytbnlaopmmgoalaa
