/-
  Stage 9: the kind that a line is of (the program).
-/
import Derived.Test.YtdoifaifhikkjaaGreatDoorLNums
import Derived.BigQuiet
set_option linter.unusedSimpArgs false
set_option linter.unusedVariables false
namespace Go.Proofs.YtdoifaifhikkjaaGreatDoor
open Go.RowKit Go.Lib

def kwL : List (List UInt8) := [[99, 114, 101, 115, 116], [115, 101, 103, 109, 101, 110, 116], [114, 101, 116, 97, 114, 100, 101, 114], [115, 119, 105, 116, 99, 104], [116, 114, 97, 99, 107]]
def wlK (k : Nat) : Nat := if k = 0 then 2 else if k = 2 then 7 else 6
def nlK (k : Nat) : Nat := if k = 0 then 0 else if k = 2 then 4 else 3
/-- The kind of a keyword. -/
def kindI (l : List UInt8) : Option Nat := if l = kwL.getD 0 [] then some 0 else if l = kwL.getD 1 [] then some 1 else if l = kwL.getD 2 [] then some 2 else if l = kwL.getD 3 [] then some 3 else if l = kwL.getD 4 [] then some 4 else none
def kindV (l : List UInt8) (n : Nat) : Int × Bool := match kindI l with
  | some k => ((k : Int), decide (wlK k = n))
  | none => (0, false)
theorem kindI_hit {l : List UInt8} {k : Nat} (hk : k < 5) (h : l = kwL.getD k []) (hn : ∀ j, j < k → l ≠ kwL.getD j []) : kindI l = some k := by
  have h' : k = 0 ∨ k = 1 ∨ k = 2 ∨ k = 3 ∨ k = 4 := by omega
  unfold kindI
  rcases h' with rfl | rfl | rfl | rfl | rfl
  · rw [if_pos h]
  · rw [if_neg (hn 0 (by omega)), if_pos h]
  · rw [if_neg (hn 0 (by omega)), if_neg (hn 1 (by omega)), if_pos h]
  · rw [if_neg (hn 0 (by omega)), if_neg (hn 1 (by omega)), if_neg (hn 2 (by omega)), if_pos h]
  · rw [if_neg (hn 0 (by omega)), if_neg (hn 1 (by omega)), if_neg (hn 2 (by omega)), if_neg (hn 3 (by omega)), if_pos h]
theorem kindI_miss {l : List UInt8} (hn : ∀ j, j < 5 → l ≠ kwL.getD j []) : kindI l = none := by
  unfold kindI
  rw [if_neg (hn 0 (by omega)), if_neg (hn 1 (by omega)), if_neg (hn 2 (by omega)), if_neg (hn 3 (by omega)), if_neg (hn 4 (by omega))]
theorem infoK : (Tryz.prog.info? 70).map (·.size) = some kdV.toArray.size := by kernel_rfl
theorem var_heap {P : Program} {w : World} {n : String} {g : Nat} {cs : Array Value} (h : w.var? P n = some cs) (hg : P.globalNamed n = some g) : ∃ t fr, w.heap[g]? = some (.cells cs t fr) := by
  unfold World.var? at h
  rw [hg] at h
  simp only [Option.bind_some] at h
  split at h
  · rename_i cs' t fr e
    injection h with h
    subst h
    exact ⟨t, fr, e⟩
  · cases h
theorem ixK0 (w : World) : (Instr.index 70 (.agg #[.string ⟨#[99, 114, 101, 115, 116]⟩, .int .i64 2, .int .i64 0, .int .i64 1, .string ⟨#[115, 101, 103, 109, 101, 110, 116]⟩, .int .i64 6, .int .i64 3, .int .i64 1, .string ⟨#[114, 101, 116, 97, 114, 100, 101, 114]⟩, .int .i64 7, .int .i64 4, .int .i64 1, .string ⟨#[115, 119, 105, 116, 99, 104]⟩, .int .i64 6, .int .i64 3, .int .i64 2, .string ⟨#[116, 114, 97, 99, 107]⟩, .int .i64 6, .int .i64 3, .int .i64 0]) (.int .i64 0)).run Tryz.prog w = .ok (.agg #[.string ⟨#[99, 114, 101, 115, 116]⟩, .int .i64 2, .int .i64 0, .int .i64 1]) w := by kernel_rfl
theorem ixK1 (w : World) : (Instr.index 70 (.agg #[.string ⟨#[99, 114, 101, 115, 116]⟩, .int .i64 2, .int .i64 0, .int .i64 1, .string ⟨#[115, 101, 103, 109, 101, 110, 116]⟩, .int .i64 6, .int .i64 3, .int .i64 1, .string ⟨#[114, 101, 116, 97, 114, 100, 101, 114]⟩, .int .i64 7, .int .i64 4, .int .i64 1, .string ⟨#[115, 119, 105, 116, 99, 104]⟩, .int .i64 6, .int .i64 3, .int .i64 2, .string ⟨#[116, 114, 97, 99, 107]⟩, .int .i64 6, .int .i64 3, .int .i64 0]) (.int .i64 1)).run Tryz.prog w = .ok (.agg #[.string ⟨#[115, 101, 103, 109, 101, 110, 116]⟩, .int .i64 6, .int .i64 3, .int .i64 1]) w := by kernel_rfl
theorem ixK2 (w : World) : (Instr.index 70 (.agg #[.string ⟨#[99, 114, 101, 115, 116]⟩, .int .i64 2, .int .i64 0, .int .i64 1, .string ⟨#[115, 101, 103, 109, 101, 110, 116]⟩, .int .i64 6, .int .i64 3, .int .i64 1, .string ⟨#[114, 101, 116, 97, 114, 100, 101, 114]⟩, .int .i64 7, .int .i64 4, .int .i64 1, .string ⟨#[115, 119, 105, 116, 99, 104]⟩, .int .i64 6, .int .i64 3, .int .i64 2, .string ⟨#[116, 114, 97, 99, 107]⟩, .int .i64 6, .int .i64 3, .int .i64 0]) (.int .i64 2)).run Tryz.prog w = .ok (.agg #[.string ⟨#[114, 101, 116, 97, 114, 100, 101, 114]⟩, .int .i64 7, .int .i64 4, .int .i64 1]) w := by kernel_rfl
theorem ixK3 (w : World) : (Instr.index 70 (.agg #[.string ⟨#[99, 114, 101, 115, 116]⟩, .int .i64 2, .int .i64 0, .int .i64 1, .string ⟨#[115, 101, 103, 109, 101, 110, 116]⟩, .int .i64 6, .int .i64 3, .int .i64 1, .string ⟨#[114, 101, 116, 97, 114, 100, 101, 114]⟩, .int .i64 7, .int .i64 4, .int .i64 1, .string ⟨#[115, 119, 105, 116, 99, 104]⟩, .int .i64 6, .int .i64 3, .int .i64 2, .string ⟨#[116, 114, 97, 99, 107]⟩, .int .i64 6, .int .i64 3, .int .i64 0]) (.int .i64 3)).run Tryz.prog w = .ok (.agg #[.string ⟨#[115, 119, 105, 116, 99, 104]⟩, .int .i64 6, .int .i64 3, .int .i64 2]) w := by kernel_rfl
theorem ixK4 (w : World) : (Instr.index 70 (.agg #[.string ⟨#[99, 114, 101, 115, 116]⟩, .int .i64 2, .int .i64 0, .int .i64 1, .string ⟨#[115, 101, 103, 109, 101, 110, 116]⟩, .int .i64 6, .int .i64 3, .int .i64 1, .string ⟨#[114, 101, 116, 97, 114, 100, 101, 114]⟩, .int .i64 7, .int .i64 4, .int .i64 1, .string ⟨#[115, 119, 105, 116, 99, 104]⟩, .int .i64 6, .int .i64 3, .int .i64 2, .string ⟨#[116, 114, 97, 99, 107]⟩, .int .i64 6, .int .i64 3, .int .i64 0]) (.int .i64 4)).run Tryz.prog w = .ok (.agg #[.string ⟨#[116, 114, 97, 99, 107]⟩, .int .i64 6, .int .i64 3, .int .i64 0]) w := by kernel_rfl
def chK (k : Nat) : Nat := if k = 3 then 2 else if k = 4 then 0 else 1
theorem ixAll {k : Nat} (hk : k < 5) (w : World) : (Instr.index 70 (.agg #[.string ⟨#[99, 114, 101, 115, 116]⟩, .int .i64 2, .int .i64 0, .int .i64 1, .string ⟨#[115, 101, 103, 109, 101, 110, 116]⟩, .int .i64 6, .int .i64 3, .int .i64 1, .string ⟨#[114, 101, 116, 97, 114, 100, 101, 114]⟩, .int .i64 7, .int .i64 4, .int .i64 1, .string ⟨#[115, 119, 105, 116, 99, 104]⟩, .int .i64 6, .int .i64 3, .int .i64 2, .string ⟨#[116, 114, 97, 99, 107]⟩, .int .i64 6, .int .i64 3, .int .i64 0]) (.int .i64 (k : Int))).run Tryz.prog w = .ok (.agg #[.string (bs (kwL.getD k [])), .int .i64 (wlK k : Int), .int .i64 (nlK k : Int), .int .i64 (chK k : Int)]) w := by
  have h' : k = 0 ∨ k = 1 ∨ k = 2 ∨ k = 3 ∨ k = 4 := by omega
  rcases h' with rfl | rfl | rfl | rfl | rfl
  · exact ixK0 w
  · exact ixK1 w
  · exact ixK2 w
  · exact ixK3 w
  · exact ixK4 w
theorem eqN (a b : Nat) : (((a : Int) == (b : Int)) : Bool) = decide (a = b) := by
  by_cases h : a = b
  · subst h; simp
  · rw [decide_eq_false h, beq_eq_false_iff_ne]; omega
set_option maxRecDepth 100000 in
set_option maxHeartbeats 3200000 in
theorem kind_any (ws : List ByteArray) (s : ByteArray) (A : Option Addr) (c : Nat) (w : World) (h : SRow w A ws) (hs : ws[0]? = some s) (D : Dor w) :
    Calls Tryz.prog 32 #[.slice A ws.length c] w fun e w' => e = .returned (.tuple #[.int .i64 (kindV s.data.toList ws.length).1, .bool (kindV s.data.toList ws.length).2]) ∧ Below w.heap.size w w' := by
  have H := Lib.hid h
  have HS := Lib.hid hs
  have hlen := h.len
  obtain ⟨L, hL⟩ : ∃ n, n = ws.length := ⟨_, rfl⟩
  have hl0 : 0 < L := by rw [hL]; exact (List.getElem?_eq_some_iff.1 hs).1
  unfold maxLen at hlen
  rw [← hL] at hlen ⊢
  obtain ⟨t, fr, hkh⟩ := var_heap D.vk gKd
  clear h hs hL
  go_enter Tryz.func32, Tryz.ntmps32
  go_upto_region 1 with fail
  refine wp_region_lit ?_
  refine wpList_load_row rfl _ _ rfl 0 rfl _ _ fr _ hkh Tryz.underlying70 rfl infoK ?_
  clear hkh
  have HIX := Lib.hid (fun k hk w => ixAll (k := k) hk w)
  change Hid (∀ (k : Nat), k < 5 → ∀ w, (Instr.index 70 (.agg kdV.toArray) (.int .i64 (k : Int))).run Tryz.prog w = _) at HIX
  generalize Value.agg kdV.toArray = ka at HIX ⊢
  go_wp2_with fail
  go_loopw [7] (fun i wr => ∃ k : Nat, k ≤ 5 ∧ i = .int .i64 k ∧ Hid (∀ j, j < k → s.data.toList ≠ kwL.getD j []) ∧ Hid (Below w.heap.size w wr)) (fun i _ => 5 - (intOf i).toNat)
  case atStart => exact ⟨0, by omega, rfl, Lib.hid (fun j hj => absurd hj (by omega)), Lib.hid (Below.refl _ _)⟩
  case round =>
    obtain ⟨k, hk, rfl, N, B⟩ := hrel
    by_cases hlt : k < 5
    · obtain ⟨ad, rfl, _, hc⟩ := (H.out.below B.out).at_ HS.out
      have hc2 : ∀ o, (wr.alloc o).cell? ad = some (.string s) := fun o => by
        have e : ad.add 0 = ad := by simp [Addr.add]
        rw [e] at hc
        exact (((Below.refl wr.heap.size wr).alloc (Nat.le_refl _) o).cell (lt_of_cell hc)).trans hc
      have i0 := HIX.out k hlt wr
      obtain ⟨kw, hkw⟩ : ∃ kw, kw = bs (kwL.getD k []) := ⟨_, rfl⟩
      obtain ⟨wl, hwl⟩ : ∃ wl, wl = wlK k := ⟨_, rfl⟩
      obtain ⟨nl, hnl⟩ : ∃ nl : Int, nl = nlK k := ⟨_, rfl⟩
      obtain ⟨ch, hch⟩ : ∃ ch : Int, ch = chK k := ⟨_, rfl⟩
      rw [← hkw, ← hwl, ← hnl, ← hch] at i0
      have HKW := Lib.hid hkw
      have HWL := Lib.hid hwl
      have HW1 := Lib.hid ((Below.refl wr.heap.size wr).alloc (Nat.le_refl _) (.cells #[.string kw, .int .i64 (wl : Int), .int .i64 nl, .int .i64 ch] 69))
      clear hkw hwl hnl hch
      go_upto_region 4 with fail
      go_quiet (fail)
      have HW2 := Lib.hid (B.out.trans ((bdn (n := nq) HW1.out).mono B.out.size))
      by_cases he : kwL.getD k [] = s.data.toList
      · have hb : (kw.toList == s.toList) = true := by rw [ByteArray.toList_eq, ByteArray.toList_eq, HKW.out]; exact beq_iff_eq.2 he
        have HV := Lib.hid (show kindV s.data.toList L = ((k : Int), decide (wl = L)) by unfold kindV; rw [kindI_hit hlt he.symm N.out, HWL.out])
        rw [hb]
        clear he i0 hc hc2 hb
        go_upto_region 5 with fail
        go_quiet (fail)
        go_wp2_with fail
        go_ret2
        exact ⟨by rw [HV.out, ← eqN wl L]; rfl, bdn (n := nq) HW2.out⟩
      · have hb : (kw.toList == s.toList) = false := by rw [ByteArray.toList_eq, ByteArray.toList_eq, HKW.out]; exact beq_eq_false_iff_ne.2 he
        have HN := Lib.hid (show ∀ j, j < k + 1 → s.data.toList ≠ kwL.getD j [] from fun j hj => by
          by_cases e : j = k
          · subst e; exact fun g => he g.symm
          · exact N.out j (by omega))
        rw [hb]
        clear he i0 hc hc2 hb
        go_wp2_with fail
        go_roundw
        case rel => exact ⟨k + 1, by omega, by go_num, HN, HW2⟩
        case measure => simp [intOf]; omega
    · obtain rfl : k = 5 := by omega
      have HV := Lib.hid (show kindV s.data.toList L = (0, false) by unfold kindV; rw [kindI_miss N.out])
      clear hk hlt
      go_wp2_with fail
      go_ret2
      exact ⟨by rw [HV.out]; rfl, B.out⟩
end Go.Proofs.YtdoifaifhikkjaaGreatDoor
