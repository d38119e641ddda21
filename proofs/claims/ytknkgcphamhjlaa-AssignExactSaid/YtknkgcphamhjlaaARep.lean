/-
  Stage 16: a list of one number, repeated.
-/
import Derived.Test.YtknkgcphamhjlaaABl
import Derived.Test.YtknkgcphamhjlaaAShelf
import Derived.Test.YtknkgcphamhjlaaReg
import Derived.Laws.CopyOwn
import Derived.Deep.RegionLaw
set_option linter.unusedSimpArgs false
set_option linter.unusedVariables false
namespace Go.Proofs.Ytknkgcphamhjlaa
open Go.RowKit Go.Lib Go.Shelf

/-- n cells, of which the first k hold v. -/
def fil (n : Nat) (v : Int) (k : Nat) : List Value := (List.replicate k v ++ List.replicate (n - k) 0).map (Value.int .i64)
def rep (v : Int) (k : Nat) : List Value := (List.replicate k v).map (Value.int .i64)
theorem rep_len (v : Int) (k : Nat) : (rep v k).length = k := by unfold rep; simp
theorem fil_len {n : Nat} {v : Int} {k : Nat} (h : k ≤ n) : (fil n v k).length = n := by unfold fil; simp; omega
theorem fil_splice {n : Nat} {v : Int} {k j : Nat} (h : k + j ≤ n) : splice (fil n v k) k (rep v j) = fil n v (k + j) := by
  unfold splice fil rep
  rw [← List.map_take, ← List.map_drop, ← List.map_append, ← List.map_append]
  congr 1
  have e1 : (List.replicate k v ++ List.replicate (n - k) 0).take k = List.replicate k v := by rw [List.take_append_of_le_length (by simp)]; simp
  have e2 : (List.replicate k v ++ List.replicate (n - k) (0 : Int)).drop (k + ((List.replicate j v).map (Value.int .i64)).length) = List.replicate (n - (k + j)) 0 := by
    rw [List.drop_append]; simp; omega
  rw [e1, e2, ← List.append_assoc, List.replicate_append_replicate]
theorem rep_cell (v : Int) {k j : Nat} {u : Value} (h : (rep v k)[j]? = some u) : u = .int .i64 v ∧ j < k := by
  unfold rep at h
  rw [List.getElem?_map, List.getElem?_replicate] at h
  split at h
  · rename_i g
    simp at h
    exact ⟨h.symm, g⟩
  · cases h
theorem rep_one (v : Int) (k : Nat) : ∀ u ∈ rep v k, u.oneCell' = true := fun u hu => by
  unfold rep at hu
  obtain ⟨x, _, rfl⟩ := List.mem_map.1 hu; rfl
theorem fil_cell {w : World} {g n k : Nat} {v : Int} {T : TypeId} (h : w.heap[g]? = some (.cells (fil n v k).toArray T (0, 0))) {j : Nat} (hj : j < k) (hk : k ≤ n) : w.cell? ⟨g, j, none⟩ = some (.int .i64 v) := by
  unfold World.cell?
  rw [h]
  have : (fil n v k)[j]? = some (.int .i64 v) := by
    unfold fil
    rw [List.getElem?_map, List.getElem?_append_left (by simpa using hj), List.getElem?_replicate, if_pos hj]; rfl
  simpa using this
theorem own_fil {w : World} {g n base : Nat} {v : Int} {T : TypeId} (h : w.heap[g]? = some (.cells (fil n v n).toArray T (0, 0))) (hb : base ≤ g) (hn : n ≤ 1000000) : Own .i64 T w base (.slice (some ⟨g, 0, none⟩) n n) (List.replicate n v) := by
  refine ⟨by simp, Or.inr ⟨g, n, _, by simp, hb, h, by simp, by unfold maxLen; omega, by simp [fil_len], ?_⟩⟩
  simp [fil, List.take_of_length_le]
theorem elemInt : Try.prog.elem 22 = 3 := by kernel_rfl
theorem sizeOf_of {T : TypeId} {n : Nat} (hi : (Try.prog.info? T).map (·.size) = some n) (W : World) : (sizeOf T).run Try.prog W = .ok n W := by
  cases hq : Try.prog.info? T with
  | none => rw [hq] at hi; cases hi
  | some i =>
    rw [hq] at hi
    have hs : i.size = n := by simpa using hi
    simp [sizeOf, typeInfo, hq, hs]
theorem sizeInt : (Try.prog.info? 3).map (·.size) = some 1 := by kernel_rfl
theorem slice_from (h n k : Nat) (W : World) (hk : k < n) (hn : n ≤ 1000000) : (Instr.slice 22 (.slice (some ⟨h, 0, none⟩) n n) (some (.int .i64 (k : Int))) none none).run Try.prog W = .ok (.slice (some ⟨h, k, none⟩) (n - k) (n - k)) W := by
  rw [run_slice_l W 22 (some ⟨h, 0, none⟩) n n (by rw [elemInt]; exact Try.underlying22) .i64 (k : Int) (by omega) (by omega), elemInt, sizeOf_of sizeInt W]
  simp [Result.andThen, sliced, add_own]
  intro e; omega
theorem slice_to (A : Option Addr) (L c k : Nat) (W : World) (hm : k ≤ c) : (Instr.slice 22 (.slice A L c) none (some (.int .i64 (k : Int))) none).run Try.prog W = .ok (.slice A k c) W := by
  rw [run_slice_h (P := Try.prog) W 22 A L c (by rw [elemInt]; exact Try.underlying22) .i64 (k : Int) (by omega) (by omega), elemInt, sizeOf_of sizeInt W]
  simp [Result.andThen, sliced]
  intro _; cases A <;> simp [Addr.add]
theorem infoIntS : (Try.prog.info? 3).map (·.size) = some 1 := by kernel_rfl
theorem step_fil {ops : Array Oper} {o : Oper} {a : Act} {W : World} {K : Act → World → Prop} {Q : Exit → Act → World → Prop} {E : Prop} (hgd : o.guard = none) (d s : Operand)
    (ho : o.op = .call { callee := .builtin .copy, args := #[d, s], argTypes := #[22, 22] }) (h n k j : Nat) (v : Int) (hd : a.eval d = .slice (some ⟨h, k, none⟩) (n - k) (n - k)) (hs : a.eval s = .slice (some ⟨h, 0, none⟩) k n)
    (hj : Hid (j = min k (n - k))) (hk : k ≤ n) (HW : Hid (W.heap[h]? = some (.cells (fil n v k).toArray 3 (0, 0)))) (t : Option Tmp) (ht : o.dst = t) (B : Nat) (w0 : World) (hb : Hid (Below B w0 W)) (hB : Hid (B ≤ h))
    (H : ∀ w', Hid (w'.heap[h]? = some (.cells (fil n v (k + j)).toArray 3 (0, 0))) → Hid (Below B w0 w') → K (a.put t (.int .i64 (j : Int))) w') : if Region.wanted o (yielded ops a.tmps) = true then Oper.wp Try.prog o a W K Q else E := by
  have hj := hj.out
  subst ht
  refine step_copy_splice hgd d s 22 22 ho 3 Try.underlying22 infoIntS (some ⟨h, k, none⟩) (some ⟨h, 0, none⟩) (n - k) (n - k) k n hd hs h k (fil n v k) 3 HW.out (rep v j) ((rep_len v j).trans hj) (fun _ => ⟨rfl, _, rfl, fun i u hu => ?_⟩) (by rw [rep_len, fil_len hk]; omega) (rep_one v j) B w0 hb.out hB.out ?_
  · obtain ⟨rfl, hi⟩ := rep_cell v hu
    rw [add_own]
    exact fil_cell HW.out (by omega) hk
  · intro w' h1 h2
    rw [fil_splice (by omega)] at h1
    rw [rep_len]
    exact H w' h1 (Lib.hid h2)
def TrueA (_ : World) : Prop := True
def tlNo (_ : Nat) : Bool := false
theorem TrueA.i (w : World) : TrueA w := trivial
set_option maxRecDepth 100000 in
set_option maxHeartbeats 3200000 in
theorem repeat_any (v : Int) (n g0 : Nat) (hn : n ≤ 1000) (w : World) (hc : w.cell? ⟨g0, 0, none⟩ = some (.int .i64 v)) :
    Calls Try.prog 22 #[.slice (some ⟨g0, 0, none⟩) 1 1, .int .i64 (n : Int)] w fun e w' => ∃ g, e = .returned (.slice (some ⟨g, 0, none⟩) n n) ∧ Own .i64 3 w' w.heap.size (.slice (some ⟨g, 0, none⟩) n n) (List.replicate n v) ∧ Below w.heap.size w w' := by
  have hcm := fun W => Any.bits_Mul mulL 1 n (by omega) (by omega) W
  change ∀ W, Calls Try.prog 34 _ _ _ at hcm
  have e1 : 1 * n / 18446744073709551616 = 0 := by rw [Nat.one_mul]; exact Nat.div_eq_of_lt (by omega)
  have e2 : 1 * n % 18446744073709551616 = n := by rw [Nat.one_mul]; exact Nat.mod_eq_of_lt (by omega)
  rw [e1, e2] at hcm
  have HM := Lib.hid hcm
  have hsz := lt_of_cell hc
  clear e1 e2 hcm
  have mk := make_intsA w n hn
  have H0 : (w.alloc (.cells ((List.replicate n 0).map (Value.int .i64)).toArray 3)).heap[w.heap.size]? = some (.cells (fil n v 0).toArray 3 (0, 0)) := by
    have : fil n v 0 = (List.replicate n 0).map (Value.int .i64) := by unfold fil; simp
    rw [this]
    exact heap_alloc_new w _
  have B0 := (Below.refl w.heap.size w).alloc (Nat.le_refl _) (.cells ((List.replicate n 0).map (Value.int .i64)).toArray 3)
  have C0 := ((B0.cell (p := ⟨g0, 0, none⟩) hsz).trans hc)
  have HSZ := Lib.hid (Nat.le_refl w.heap.size)
  obtain ⟨CA, hCA⟩ : ∃ CA, CA = ((List.replicate n 0).map (Value.int .i64)).toArray := ⟨_, rfl⟩
  rw [← hCA] at mk B0 H0 C0
  have C0 := Lib.hid C0
  have HB0 := Lib.hid B0
  have HH0 := Lib.hid H0
  clear hCA B0 H0
  have hsi : (Try.prog.info? 3).map (·.size) = some 1 := by kernel_rfl
  clear hc
  have d1 : decide ((9223372036854775807 : Int) < (n : Int)) = false := decide_eq_false (by omega)
  have d2 : decide ((n : Int) < 0) = false := decide_eq_false (by omega)
  go_enter Try.func22, Try.ntmps22
  go_wp2_with fail
  refine (HM.out _).mono ?_
  rintro e w1 ⟨rfl, rfl⟩
  clear HM
  go_upto_region 7 with fail
  clear mk
  obtain ⟨h, hh⟩ : ∃ h, h = w1.heap.size := ⟨_, rfl⟩
  rw [← hh] at HH0 ⊢
  have HG := Lib.hid (show w1.heap.size ≤ h by rw [hh]; exact Nat.le_refl _)
  generalize w1.alloc (.cells CA 3) = w2 at *
  clear hh HSZ hsz
  obtain ⟨k0, hk0⟩ : ∃ k, k = min 1 n := ⟨_, rfl⟩
  have hk0n : k0 ≤ n := by omega
  have HK0 := Lib.hid hk0
  have HP0 := Lib.hid (show 0 < k0 ∨ n = 0 by omega)
  have HRL := Lib.hid (rep_len v k0)
  obtain ⟨C1, hC1⟩ : ∃ C, C = rep v k0 := ⟨_, rfl⟩
  have HC1 := Lib.hid hC1
  rw [← hC1] at HRL
  have HSP := Lib.hid (show splice (fil n v 0) 0 C1 = fil n v k0 by rw [hC1]; have := fil_splice (n := n) (v := v) (k := 0) (j := k0) (by omega); simpa using this)
  clear hk0 hC1
  go_wp2_with (first | (skip; (refine wpList_copy_splice rfl (.tmp 31) (.tmp 32) 22 22 rfl 3 Try.underlying22 hsi (some ⟨h, 0, none⟩) (some ⟨g0, 0, none⟩) n n 1 1 rfl rfl h 0 (fil n v 0) 3 HH0.out C1 (HRL.out.trans HK0.out) (fun _ => ⟨rfl, _, rfl, fun j u hu => by rw [HC1.out] at hu; obtain ⟨rfl, hj⟩ := rep_cell v hu; obtain rfl : j = 0 := (by have := HK0.out; omega); exact C0.out⟩) (by rw [HRL.out, fil_len (Nat.zero_le _)]; omega) (fun u hu => rep_one v k0 u (by rw [← HC1.out]; exact hu)) w1.heap.size w1 HB0.out HG.out ?_); intro w3 HW3 hB3; have HB3 := Lib.hid hB3; clear hB3))
  rw [HRL.out]
  rw [HSP.out] at HW3
  clear HSP HC1 HRL HK0 HH0 HB0 C0
  go_loopw [8] (fun iv wr => ∃ k : Nat, k ≤ n ∧ iv = .int .i64 (k : Int) ∧ Hid (0 < k ∨ n = 0) ∧ Hid (wr.heap[h]? = some (.cells (fil n v k).toArray 3 (0, 0))) ∧ Hid (Below w1.heap.size w1 wr)) (fun iv _ => n - (intOf iv).toNat)
  case atStart => exact ⟨k0, hk0n, rfl, HP0, HW3, HB3⟩
  case round =>
    clear HP0 HW3 HB3
    obtain ⟨k, hk, rfl, HP, HW, HB⟩ := hrel
    by_cases hlt : k < n
    · have hltz : (k : Int) < (n : Int) := by omega
      have hk1 : 0 < k := by have := HP.out; omega
      obtain ⟨j, hj⟩ : ∃ j, j = min k (n - k) := ⟨_, rfl⟩
      have HJE := Lib.hid hj
      have hj1 : 0 < j := by omega
      have hjk : j ≤ k ∧ k + j ≤ n := by omega
      obtain ⟨hjk1, hjk2⟩ := hjk
      have HWD := Lib.hid (show wr.drew.heap[h]? = some (.cells (fil n v k).toArray 3 (0, 0)) from HW.out)
      have HBD := Lib.hid HB.out.drew
      clear hj
      go_upto_region 9 with fail
      have hs1 := fun W => slice_from h n k W hlt (by omega)
      have hs2 := fun W => slice_to (some ⟨h, 0, none⟩) n n k W hk
      have hkj : IntKind.i64.wrap ((k : Int) + (j : Int)) = (k : Int) + (j : Int) := IntWalk.i64_in _ (by omega)
      obtain ⟨q0, e0⟩ : ∃ q, q = wr.drew := ⟨_, rfl⟩
      rw [← e0] at HWD HBD
      have HE0 := Lib.hid e0
      clear e0
      refine AnyT.begin_at tlNo TrueA (by kernel_rfl) HE0.out (TrueA.i _) ?_
      intro F0
-- TAKES A1
      refine AnyT.takeD (i := 0) (d := some 38) (v := .int .i64 (k : Int)) rfl rfl (by kernel_rfl) (by kernel_rfl) (by kernel_rfl) (by kernel_rfl) (fun _ _ _ h => h) (Or.inl ⟨by rfl, fun wz _ => by go_simp⟩) F0 ?_
      simp only [Act.put, List.setIfInBounds_toArray, List.set_cons_zero, List.set_cons_succ]
      refine AnyT.takeD (i := 1) (d := some 39) (v := .slice (some ⟨h, 0, none⟩) n n) rfl rfl (by kernel_rfl) (by kernel_rfl) (by kernel_rfl) (by kernel_rfl) (fun _ _ _ h => h) (Or.inl ⟨by rfl, fun wz _ => by go_simp⟩) F0 ?_
      simp only [Act.put, List.setIfInBounds_toArray, List.set_cons_zero, List.set_cons_succ]
      refine AnyT.takeD (i := 2) (d := some 40) (v := .int .i64 (k : Int)) rfl rfl (by kernel_rfl) (by kernel_rfl) (by kernel_rfl) (by kernel_rfl) (fun _ _ _ h => h) (Or.inl ⟨by rfl, fun wz _ => by go_simp⟩) F0 ?_
      simp only [Act.put, List.setIfInBounds_toArray, List.set_cons_zero, List.set_cons_succ]
      refine AnyT.takeD (i := 3) (d := some 41) (v := .slice (some ⟨h, k, none⟩) (n - k) (n - k)) rfl rfl (by kernel_rfl) (by kernel_rfl) (by kernel_rfl) (by kernel_rfl) (fun _ _ _ h => h) (Or.inl ⟨by rfl, fun wz _ => by go_simp⟩) F0 ?_
      simp only [Act.put, List.setIfInBounds_toArray, List.set_cons_zero, List.set_cons_succ]
      refine AnyT.takeD (i := 4) (d := some 42) (v := .slice (some ⟨h, 0, none⟩) n n) rfl rfl (by kernel_rfl) (by kernel_rfl) (by kernel_rfl) (by kernel_rfl) (fun _ _ _ h => h) (Or.inl ⟨by rfl, fun wz _ => by go_simp⟩) F0 ?_
      simp only [Act.put, List.setIfInBounds_toArray, List.set_cons_zero, List.set_cons_succ]
      refine AnyT.takeD (i := 5) (d := some 43) (v := .int .i64 (k : Int)) rfl rfl (by kernel_rfl) (by kernel_rfl) (by kernel_rfl) (by kernel_rfl) (fun _ _ _ h => h) (Or.inl ⟨by rfl, fun wz _ => by go_simp⟩) F0 ?_
      simp only [Act.put, List.setIfInBounds_toArray, List.set_cons_zero, List.set_cons_succ]
      refine AnyT.takeD (i := 6) (d := some 44) (v := .slice (some ⟨h, 0, none⟩) k n) rfl rfl (by kernel_rfl) (by kernel_rfl) (by kernel_rfl) (by kernel_rfl) (fun _ _ _ h => h) (Or.inl ⟨by rfl, fun wz _ => by go_simp⟩) F0 ?_
      simp only [Act.put, List.setIfInBounds_toArray, List.set_cons_zero, List.set_cons_succ]
-- TAKEN A1
      refine AnyT.branch (rs := [7]) (by kernel_rfl) (by simp) ?_
      refine all_cons ?_ all_nil
      refine AnyT.step (i := 7) rfl (fun KK hK => ?_)
      refine step_fil rfl (.tmp 41) (.tmp 44) rfl h n k j v rfl rfl HJE hk HWD (some 45) rfl w1.heap.size w1 HBD HG ?_
      intro w4 HW4 HB4
      have F1 := TrueA.i w4
      refine hK.out _ _ (fun _ => F1) ?_
      simp only [Act.put, List.setIfInBounds_toArray, List.set_cons_zero, List.set_cons_succ]
-- TAKES A2
      refine AnyT.takeD (i := 8) (d := some 46) (v := .int .i64 ((k : Int) + (j : Int))) rfl rfl (by kernel_rfl) (by kernel_rfl) (by kernel_rfl) (by kernel_rfl) (fun _ _ _ h => h) (Or.inl ⟨by rfl, fun wz _ => by go_simp⟩) F1 ?_
      simp only [Act.put, List.setIfInBounds_toArray, List.set_cons_zero, List.set_cons_succ]
      refine AnyT.takeD (i := 9) (d := some 8) (v := .int .i64 ((k : Int) + (j : Int))) rfl rfl (by kernel_rfl) (by kernel_rfl) (by kernel_rfl) (by kernel_rfl) (fun _ _ _ h => h) (Or.inl ⟨by rfl, fun wz _ => by go_simp⟩) F1 ?_
      simp only [Act.put, List.setIfInBounds_toArray, List.set_cons_zero, List.set_cons_succ]
-- TAKEN A2
      refine AnyT.done_ (by kernel_rfl) ?_ _
      go_wp2_with fail
      go_roundw
      case rel => exact ⟨k + j, hjk2, by go_num, Lib.hid (Or.inl (by omega)), HW4, HB4⟩
      case measure => simp [intOf]; omega
    · obtain rfl : k = n := by omega
      have HO := Lib.hid (own_fil HW.out HG.out (by omega))
      clear HW HP
      go_wp2_with fail
      go_ret
      exact ⟨h, rfl, HO.out, HB.out⟩
end Go.Proofs.Ytknkgcphamhjlaa
