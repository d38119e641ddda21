/-
  Stage 9: the numbers of a line, all of them (the program).
-/
import Derived.Test.YtdoifaifhikkjaaGreatDoorLNum
import Derived.Test.YtdoifaifhikkjaaGreatDoorLArr
set_option linter.unusedSimpArgs false
set_option linter.unusedVariables false
namespace Go.Proofs.YtdoifaifhikkjaaGreatDoor
open Go.RowKit Go.Lib

/-- A slice of strings, to be read. -/
structure SRow (w : World) (A : Option Addr) (ws : List ByteArray) : Prop where
  row : VRow w w.heap.size A (ws.map Value.string)
  len : ws.length ≤ maxLen
theorem SRow.below {w w' : World} {A : Option Addr} {ws : List ByteArray} (h : SRow w A ws) (b : Below w.heap.size w w') : SRow w' A ws := ⟨h.row.below b, h.len⟩
theorem SRow.drewN {w : World} {A : Option Addr} {ws : List ByteArray} (h : SRow w A ws) (n : Nat) : SRow (w.drewN n) A ws := ⟨h.row.drewN n, h.len⟩
theorem SRow.at_ {w : World} {A : Option Addr} {ws : List ByteArray} (h : SRow w A ws) {k : Nat} {s : ByteArray} (hk : ws[k]? = some s) : ∃ ad : Addr, A = some ad ∧ ad.block < w.heap.size ∧ w.cell? (ad.add k) = some (.string s) :=
  h.row k (.string s) (by rw [List.getElem?_map, hk]; rfl)
/-- The first error of the numbers. -/
def numsE (ws : List ByteArray) : Int := if ws.all (fun s => isNumL s.data.toList) = false then 6 else if ws.all (fun s => (goodNum s.data.toList).isSome) = false then 2 else 0
def numV (ws : List ByteArray) (j : Nat) : Int := ((ws[j]?).bind fun s => goodNum s.data.toList).getD 0
def numsR (ws : List ByteArray) (j : Nat) : Int := if numsE ws = 0 then numV ws j else 0
def SzS (ws : List ByteArray) : Prop := ∀ s ∈ ws, s.size ≤ 140737488355328
theorem results_cell_tmp {P : Program} {fn : Func} {p q : Tmp} {ty : TypeId} (h : fn.results = #[.cell p ty, .tmp q]) (tmps : Array Value) (w : World) (g : Nat) (t : TypeId) (cs : Array Value) (fr : Nat × Nat) (d : TypeDesc)
    (hp : tmps.getD p undef = .pointer (some ⟨g, 0, none⟩)) (hg : w.heap[g]? = some (.cells cs t fr))
    (hu : P.underlying ty = some d) (hd : (match d with | .struct _ | .array _ _ => true | _ => false) = true) (hi : (P.info? ty).map (·.size) = some cs.size) :
    (results fn tmps).run P w = .ok (.tuple #[.agg cs, tmps.getD q undef]) w := by
  have hp' : tmps[p]?.getD undef = .pointer (some ⟨g, 0, none⟩) := by simpa using hp
  simp [results, h, hp', asAddr, run_loadVar_row w g t ty cs fr d hg hu hd hi]
theorem infoA4 (zs : List Int) (h : zs.length = 4) : (Tryz.prog.info? 72).map (·.size) = some (zs.map (Value.int .i64)).toArray.size := by
  rw [List.size_toArray, List.length_map, h]; kernel_rfl
theorem oneA (zs : List Int) : (zs.map (Value.int .i64)).toArray.all (·.oneCell') = true := by simp; exact fun x _ => rfl
/-- The numbers, as an array. -/
def numL (ws : List ByteArray) (k : Nat) : List Int := (List.range 4).map fun j => if j < k then numV ws j else 0
theorem numL_len (ws : List ByteArray) (k : Nat) : (numL ws k).length = 4 := by unfold numL; simp
theorem numL_zero (ws : List ByteArray) : numL ws 0 = [0, 0, 0, 0] := rfl
theorem numL_set {ws : List ByteArray} {k : Nat} (hk : k < 4) : (numL ws k).set k (numV ws k) = numL ws (k + 1) := by
  have h : k = 0 ∨ k = 1 ∨ k = 2 ∨ k = 3 := by omega
  rcases h with rfl | rfl | rfl | rfl <;> rfl
theorem numV_far {ws : List ByteArray} {j : Nat} (h : ws.length ≤ j) : numV ws j = 0 := by
  unfold numV; rw [List.getElem?_eq_none h]; rfl
theorem numL_all {ws : List ByteArray} : numL ws ws.length = [numV ws 0, numV ws 1, numV ws 2, numV ws 3] := by
  have e : ∀ j, (if j < ws.length then numV ws j else 0) = numV ws j := fun j => by
    by_cases h : j < ws.length
    · rw [if_pos h]
    · rw [if_neg h, numV_far (by omega)]
  have e2 : numL ws ws.length = [(if 0 < ws.length then numV ws 0 else 0), (if 1 < ws.length then numV ws 1 else 0), (if 2 < ws.length then numV ws 2 else 0), (if 3 < ws.length then numV ws 3 else 0)] := rfl
  rw [e2, e, e, e, e]
def retN (ws : List ByteArray) : Value := .tuple #[.agg #[.int .i64 (numsR ws 0), .int .i64 (numsR ws 1), .int .i64 (numsR ws 2), .int .i64 (numsR ws 3)], .int .i64 (numsE ws)]
theorem retN_bad {ws : List ByteArray} {e : Int} (h : numsE ws = e) (he : e ≠ 0) : Value.tuple #[.agg (([0, 0, 0, 0] : List Int).map (Value.int .i64)).toArray, .int .i64 e] = retN ws := by
  unfold retN numsR
  rw [h, if_neg he, if_neg he, if_neg he, if_neg he]; rfl
theorem retN_ok {ws : List ByteArray} (h : numsE ws = 0) : Value.tuple #[.agg ((numL ws ws.length).map (Value.int .i64)).toArray, .int .i64 0] = retN ws := by
  unfold retN numsR
  rw [h, if_pos rfl, if_pos rfl, if_pos rfl, if_pos rfl, numL_all]; rfl
theorem all_bad {ws : List ByteArray} {p : ByteArray → Bool} {k : Nat} {s : ByteArray} (hs : ws[k]? = some s) (h : p s = false) : ws.all p = false := by
  rw [List.all_eq_false]
  exact ⟨s, List.mem_of_getElem? hs, by rw [h]; exact fun g => by cases g⟩
theorem all_snoc {ws : List ByteArray} {p : ByteArray → Bool} {k : Nat} {s : ByteArray} (hs : ws[k]? = some s) (h : p s = true) (ha : (ws.take k).all p = true) : (ws.take (k + 1)).all p = true := by
  obtain ⟨hk, e⟩ := List.getElem?_eq_some_iff.1 hs
  rw [List.take_succ_eq_append_getElem hk, e, List.all_append, ha]; simp [h]
theorem goodNum_ok {l : List UInt8} {v : Int} (h : Lib.atoiAll l = .ok v) : goodNum l = if -1000000000 ≤ v ∧ v ≤ 1000000000 then some v else none := by unfold goodNum; rw [h]
theorem goodNum_rng {l : List UInt8} (h : Lib.atoiAll l = .range) : goodNum l = none := by unfold goodNum; rw [h]
theorem parse10_syn : ∀ (l : List UInt8) (acc : Nat), l.all dgc = true → Lib.parseUint10 acc l ≠ .syntax
  | [], acc, _ => by simp [Lib.parseUint10]
  | c :: r, acc, h => by
    rw [List.all_cons, Bool.and_eq_true] at h
    have hc : 48 ≤ c.toNat ∧ c.toNat ≤ 57 := of_decide_eq_true h.1
    unfold Lib.parseUint10
    rw [if_pos hc]
    split
    · exact fun g => by cases g
    · split
      · exact fun g => by cases g
      · exact parse10_syn r _ h.2
/-- A word in the form of a number is a numeral. -/
theorem isNum_ok {l : List UInt8} (h : isNumL l = true) : Lib.atoiAll l ≠ .syntax := by
  have hm : ∃ m : List UInt8, m ≠ [] ∧ m.all dgc = true ∧ (l = m ∨ l = 45 :: m) := by
    unfold isNumL at h
    rw [Bool.or_eq_true] at h
    rcases h with h | h
    · exact ⟨[48], by simp, by decide, Or.inl (of_decide_eq_true h)⟩
    · rw [Bool.and_eq_true] at h
      have h1 := h.1
      unfold consB at h1
      rw [Bool.and_eq_true] at h1
      refine ⟨magL l, fun g => ?_, ?_, ?_⟩
      · rw [g] at h1; exact absurd h1.1 (by decide)
      · have := h1.2
        rw [show (bs (magL l)).data.toList = magL l from rfl] at this
        rw [← this]; congr 1; funext c; exact (dg_has c).symm
      · unfold magL Lib.trimPrefix Lib.hasPrefix
        cases l with
        | nil => exact Or.inl rfl
        | cons c t =>
          by_cases hc : c = 45
          · subst hc; right; simp [List.isPrefixOf]
          · left
            have : ([45] : List UInt8).isPrefixOf (c :: t) = false := by
              simp [List.isPrefixOf]; exact fun g => hc g.symm
            rw [this]; rfl
  obtain ⟨m, hne, hd, hl⟩ := hm
  have hmag : Lib.parseMag m ≠ .syntax := by
    unfold Lib.parseMag
    rw [if_neg hne]
    exact parse10_syn m 0 hd
  obtain ⟨c, t, hct⟩ : ∃ c t, l = c :: t := by
    rcases hl with e | e
    · cases l with
      | nil => exact absurd e.symm hne
      | cons c t => exact ⟨c, t, rfl⟩
    · exact ⟨_, _, e⟩
  have hsel : (if c.toNat = 43 ∨ c.toNat = 45 then t else l) = m := by
    rcases hl with e | e
    · have hc : 48 ≤ c.toNat := by
        rw [← e, hct, List.all_cons, Bool.and_eq_true] at hd
        exact (of_decide_eq_true hd.1).1
      rw [if_neg (by omega)]; exact e
    · rw [hct] at e
      injection e with e1 e2
      subst e1
      rw [if_pos (show UInt8.toNat 45 = 43 ∨ UInt8.toNat 45 = 45 from Or.inr rfl)]; exact e2
  unfold Lib.atoiAll
  rw [hct]
  simp only
  rw [← hct, hsel]
  cases hp : Lib.parseMag m with
  | «syntax» => exact absurd hp hmag
  | range => exact fun g => by cases g
  | ok u =>
    simp only
    split
    · exact fun g => by cases g
    · split
      · exact fun g => by cases g
      · exact fun g => by cases g
/-- strconv.Atoi at such a word. -/
theorem atoi_any (s : ByteArray) (w : World) (hz : s.size ≤ 140737488355328) (h : isNumL s.data.toList = true) (D : Dor w) :
    Calls Tryz.prog 48 #[.string s] w fun e w' => (∃ (v : Int) (ev : Value), e = .returned (.tuple #[.int .i64 v, ev]) ∧ ((ev = .nilIface ∧ goodNum s.data.toList = if -1000000000 ≤ v ∧ v ≤ 1000000000 then some v else none) ∨ ((∃ T p, ev = .iface T p) ∧ goodNum s.data.toList = none))) ∧ Below w.heap.size w w' := by
  cases ha : Lib.atoiAll s.data.toList with
  | «syntax» => exact absurd ha (isNum_ok h)
  | ok v =>
    have hc := Any.strconv_Atoi_ok atoiS s (by omega) v ha w
    change Calls Tryz.prog 48 _ _ _ at hc
    refine hc.mono ?_
    rintro e w' ⟨rfl, hw⟩
    refine ⟨⟨v, _, rfl, Or.inl ⟨rfl, goodNum_ok ha⟩⟩, ?_⟩
    rcases hw with rfl | ⟨t, rfl⟩
    · exact Below.refl _ _
    · exact Lib.bytesWorld_below _ _ _
  | range =>
    obtain ⟨tp, p, hv⟩ := D.ve
    have hc := Any.strconv_Atoi_range_var atoiS s (by omega) ha tp p w hv
    change Calls Tryz.prog 48 _ _ _ at hc
    refine hc.mono ?_
    rintro e w' ⟨N, rfl, _, _, hb⟩
    exact ⟨⟨_, _, rfl, Or.inr ⟨⟨_, _, rfl⟩, goodNum_rng ha⟩⟩, hb⟩
set_option maxHeartbeats 3200000 in
theorem nums_any (ws : List ByteArray) (A : Option Addr) (c : Nat) (w : World) (h : SRow w A ws) (h4 : ws.length ≤ 4) (hz : SzS ws) (D : Dor w) :
    Calls Tryz.prog 33 #[.slice A ws.length c] w fun e w' => e = .returned (retN ws) ∧ Below w.heap.size w w' := by
  have H := Lib.hid h
  have HZ := Lib.hid hz
  have HD := Lib.hid D
  obtain ⟨L, hL⟩ : ∃ n, n = ws.length := ⟨_, rfl⟩
  have HL := Lib.hid hL
  have h4' : L ≤ 4 := by rw [hL]; exact h4
  rw [← hL]
  have hb0 := Blk.new w 72 [0, 0, 0, 0]
  have hb1 : Below w.heap.size w (w.alloc (.cells (([0, 0, 0, 0] : List Int).map (Value.int .i64)).toArray 72)) := (Below.refl _ _).alloc (Nat.le_refl _) _
  have HB0 := Lib.hid hb0
  have HB1 := Lib.hid hb1
  clear h hz D hL h4 hb0 hb1
  go_enter Tryz.func33, Tryz.ntmps33
  go_upto_region 2 with fail
  go_loopw [13] (fun i wr => ∃ k : Nat, k ≤ L ∧ i = .int .i64 k ∧ Hid ((ws.take k).all (fun s => isNumL s.data.toList) = true) ∧ Hid (Below w.heap.size w wr) ∧ Hid (Blk wr w.heap.size 72 [0, 0, 0, 0])) (fun i _ => L - (intOf i).toNat)
  case atStart => exact ⟨0, by omega, rfl, Lib.hid rfl, HB1, HB0⟩
  case round =>
    clear HB0 HB1
    obtain ⟨k, hk, rfl, N, B, Z⟩ := hrel
    by_cases hlt : k < L
    · obtain ⟨s, hs⟩ : ∃ s, ws[k]? = some s := ⟨_, List.getElem?_eq_getElem (by rw [← HL.out]; exact hlt)⟩
      obtain ⟨ad, rfl, _, hc⟩ := (H.out.below B.out).at_ hs
      have HS := Lib.hid hs
      have hsz := HZ.out s (List.mem_of_getElem? hs)
      have HC := Lib.hid (isnum_any s wr (by unfold maxLen; omega))
      obtain ⟨b, hb⟩ : ∃ b, b = isNumL s.data.toList := ⟨_, rfl⟩
      rw [← hb] at HC
      have HB := Lib.hid hb
      clear hs hsz hb
      go_wp2_with fail
      refine HC.out.mono ?_
      rintro e w1 ⟨rfl, B1⟩
      have Z1 := Lib.hid (Z.out.below B1)
      have BB := Lib.hid (B.out.trans (B1.mono B.out.size))
      clear HC B1 hc
      cases b with
      | true =>
        have HN := Lib.hid (all_snoc (p := fun s => isNumL s.data.toList) HS.out HB.out.symm N.out)
        go_wp2_with fail
        go_roundw
        case rel => exact ⟨k + 1, by omega, by go_num, HN, BB, Z1⟩
        case measure => simp [intOf]; omega
      | false =>
        have HV := Lib.hid (retN_bad (ws := ws) (e := 6) (by unfold numsE; rw [if_pos (all_bad HS.out HB.out.symm)]) (by decide))
        go_upto_region 5 with fail
        refine wp_region_lit ?_
        refine wpList_load_row rfl _ _ rfl w.heap.size rfl _ _ (0, 0) _ Z1.out Tryz.underlying72 rfl (infoA4 _ rfl) ?_
        refine wpList_store_row rfl _ _ _ rfl w.heap.size _ _ _ rfl rfl Z1.out (infoA4 _ rfl) rfl (oneA _) ?_
        have Z2 := Z1.out.row [0, 0, 0, 0]
        have HBF := Lib.hid (below_setRow BB.out (g := w.heap.size) (Nat.le_refl _) (([0, 0, 0, 0] : List Int).map (Value.int .i64)).toArray)
        generalize World.setRow _ _ _ = wz at Z2 HBF ⊢
        go_wp2_with fail
        refine bodyPost_ret (results_cell_tmp rfl _ wz w.heap.size _ _ (0, 0) _ rfl Z2 Tryz.underlying72 rfl (infoA4 _ rfl)) rfl ?_
        exact ⟨congrArg Ending.returned HV.out, HBF.out⟩
    · obtain rfl : k = L := by omega
      have hall := N.out
      rw [HL.out, List.take_length] at hall
      have HALL := Lib.hid hall
      have HE0 := Lib.hid (show numsE ws = (if ws.all (fun s => (goodNum s.data.toList).isSome) = false then 2 else 0) by unfold numsE; rw [if_neg (by rw [hall]; exact fun g => by cases g)])
      obtain ⟨g, hg⟩ : ∃ g, g = wr.heap.size := ⟨_, rfl⟩
      have HG := Lib.hid hg
      have hglt : w.heap.size < g := by rw [hg]; exact Z.out.lt
      have Z1 := Lib.hid (Z.out.alloc (.cells #[.int .i64 0, .int .i64 0, .int .i64 0, .int .i64 0] 72))
      have M1 : Hid (Blk (wr.alloc (.cells #[.int .i64 0, .int .i64 0, .int .i64 0, .int .i64 0] 72)) wr.heap.size 72 [0, 0, 0, 0]) := Lib.hid (Blk.new wr 72 [0, 0, 0, 0])
      rw [← hg] at M1
      have BB := Lib.hid (B.out.alloc B.out.size (.cells #[.int .i64 0, .int .i64 0, .int .i64 0, .int .i64 0] 72))
      clear hall hlt N B Z hk hg
      go_upto_region 9 with fail
      rw [← HG.out]
      generalize wr.alloc (.cells #[.int .i64 0, .int .i64 0, .int .i64 0, .int .i64 0] 72) = wo at Z1 M1 BB ⊢
      clear HG
      go_loopw [24] (fun i wr => ∃ j : Nat, j ≤ k ∧ i = .int .i64 j ∧ Hid ((ws.take j).all (fun s => (goodNum s.data.toList).isSome) = true) ∧ Hid (Below w.heap.size w wr) ∧ Hid (Blk wr w.heap.size 72 [0, 0, 0, 0]) ∧ Hid (Blk wr g 72 (numL ws j))) (fun i _ => k - (intOf i).toNat)
      case atStart => exact ⟨0, by omega, rfl, Lib.hid rfl, BB, Z1, Lib.hid (by rw [numL_zero]; exact M1.out)⟩
      case round =>
        clear Z1 M1 BB
        obtain ⟨j, hj, rfl, N, B, Z, M⟩ := hrel
        by_cases hlt : j < k
        · obtain ⟨s, hs⟩ : ∃ s, ws[j]? = some s := ⟨_, List.getElem?_eq_getElem (by rw [← HL.out]; exact hlt)⟩
          obtain ⟨ad, rfl, _, hc⟩ := (H.out.below B.out).at_ hs
          have HS := Lib.hid hs
          have hsz := HZ.out s (List.mem_of_getElem? hs)
          have hisn := List.all_eq_true.1 HALL.out s (List.mem_of_getElem? hs)
          have HC := Lib.hid (atoi_any s wr hsz hisn (HD.out.below B.out))
          have HNV := Lib.hid (show numV ws j = (goodNum s.data.toList).getD 0 by unfold numV; rw [hs]; rfl)
          clear hs hsz hisn
          go_wp2_with fail
          refine HC.out.mono ?_
          rintro e w1 ⟨⟨v, ev, rfl, hev⟩, B1⟩
          have HEV := Lib.hid hev
          have Z1 := Lib.hid (Z.out.below B1)
          have M1 := Lib.hid (M.out.below B1)
          have BB := Lib.hid (B.out.trans (B1.mono B.out.size))
          clear HC B1 hc hev Z M B
          have BADV := Lib.hid (fun (hgn : goodNum s.data.toList = none) => retN_bad (ws := ws) (e := 2) (by rw [HE0.out, if_pos (all_bad (p := fun s => (goodNum s.data.toList).isSome) HS.out (by rw [hgn]; rfl))]) (by decide))
          have bad : ∀ (a : Act), True := fun _ => trivial
          clear bad
          rcases HEV.out with ⟨rfl, hgn⟩ | ⟨⟨T, p, rfl⟩, hgn⟩
          · by_cases hr : -1000000000 ≤ v ∧ v ≤ 1000000000
            · rw [if_pos hr] at hgn
              have HN := Lib.hid (all_snoc (p := fun s => (goodNum s.data.toList).isSome) HS.out (by rw [hgn]; rfl) N.out)
              have HNV2 := Lib.hid (show numV ws j = v by rw [HNV.out, hgn]; rfl)
              have r1 : ¬ v < -1000000000 := by omega
              have r2 : ¬ (1000000000 : Int) < v := by omega
              have hcl := M1.out.cell j (by rw [numL_len]; omega)
              have hfz := M1.out.frozen j
              have M2 := Lib.hid (M1.out.set j v)
              have Z2 := Lib.hid (Z1.out.setOther (c := g) (by omega) j (.int .i64 v))
              have B2 := Lib.hid (BB.out.setCell (p := ⟨g, j, none⟩) (by show w.heap.size ≤ g; omega) (.int .i64 v))
              rw [← HNV2.out, numL_set (by omega), HNV2.out] at M2
              clear hr hgn
              go_wp2_with fail
              go_roundw
              case rel => exact ⟨j + 1, by omega, by go_num, HN, B2, Z2, M2⟩
              case measure => simp [intOf]; omega
            · rw [if_neg hr] at hgn
              have HV := Lib.hid (BADV.out hgn)
              have hr2 : v < -1000000000 ∨ (¬ v < -1000000000 ∧ (1000000000 : Int) < v) := by omega
              clear hr hgn
              rcases hr2 with r1 | ⟨r1, r2⟩
              all_goals
                go_upto_region 13 with fail
                refine wp_region_lit ?_
                refine wpList_load_row rfl _ _ rfl w.heap.size rfl _ _ (0, 0) _ Z1.out Tryz.underlying72 rfl (infoA4 _ rfl) ?_
                refine wpList_store_row rfl _ _ _ rfl w.heap.size _ _ _ rfl rfl Z1.out (infoA4 _ rfl) rfl (oneA _) ?_
                have Z2 := Z1.out.row [0, 0, 0, 0]
                have HBF := Lib.hid (below_setRow BB.out (g := w.heap.size) (Nat.le_refl _) (([0, 0, 0, 0] : List Int).map (Value.int .i64)).toArray)
                generalize World.setRow _ _ _ = wz at Z2 HBF ⊢
                go_wp2_with fail
                refine bodyPost_ret (results_cell_tmp rfl _ wz w.heap.size _ _ (0, 0) _ rfl Z2 Tryz.underlying72 rfl (infoA4 _ rfl)) rfl ?_
                exact ⟨congrArg Ending.returned HV.out, HBF.out⟩
          · have HV := Lib.hid (BADV.out hgn)
            clear hgn
            go_upto_region 13 with fail
            refine wp_region_lit ?_
            refine wpList_load_row rfl _ _ rfl w.heap.size rfl _ _ (0, 0) _ Z1.out Tryz.underlying72 rfl (infoA4 _ rfl) ?_
            refine wpList_store_row rfl _ _ _ rfl w.heap.size _ _ _ rfl rfl Z1.out (infoA4 _ rfl) rfl (oneA _) ?_
            have Z2 := Z1.out.row [0, 0, 0, 0]
            have HBF := Lib.hid (below_setRow BB.out (g := w.heap.size) (Nat.le_refl _) (([0, 0, 0, 0] : List Int).map (Value.int .i64)).toArray)
            generalize World.setRow _ _ _ = wz at Z2 HBF ⊢
            go_wp2_with fail
            refine bodyPost_ret (results_cell_tmp rfl _ wz w.heap.size _ _ (0, 0) _ rfl Z2 Tryz.underlying72 rfl (infoA4 _ rfl)) rfl ?_
            exact ⟨congrArg Ending.returned HV.out, HBF.out⟩
        · obtain rfl : j = k := by omega
          have hall2 := N.out
          rw [HL.out, List.take_length] at hall2
          have HV := Lib.hid (retN_ok (ws := ws) (by rw [HE0.out, if_neg (by rw [hall2]; exact fun g => by cases g)]))
          have M1 := M.out
          rw [HL.out] at M1
          clear hall2 hlt
          go_upto_region 16 with fail
          refine wp_region_lit ?_
          refine wpList_load_row rfl _ _ rfl g rfl _ _ (0, 0) _ M1 Tryz.underlying72 rfl (infoA4 _ (numL_len _ _)) ?_
          refine wpList_store_row rfl _ _ _ rfl w.heap.size _ _ _ rfl rfl Z.out (infoA4 _ (numL_len _ _)) (by simp [numL_len]) (oneA _) ?_
          have Z2 := Z.out.row (numL ws ws.length)
          have HBF := Lib.hid (below_setRow B.out (g := w.heap.size) (Nat.le_refl _) ((numL ws ws.length).map (Value.int .i64)).toArray)
          generalize World.setRow _ _ _ = wz at Z2 HBF ⊢
          go_wp2_with fail
          refine bodyPost_ret (results_cell_tmp rfl _ wz w.heap.size _ _ (0, 0) _ rfl Z2 Tryz.underlying72 rfl (infoA4 _ (numL_len _ _))) rfl ?_
          exact ⟨congrArg Ending.returned HV.out, HBF.out⟩
end Go.Proofs.YtdoifaifhikkjaaGreatDoor
