/-
  Stage 9: the line of an element that is not the crest, as the reference puts it together.
-/
import Derived.Test.YtgohocbkkhnmnaaGreatDoorLFmt
import Derived.Test.YtgohocbkkhnmnaaGreatDoorLDec
set_option linter.unusedSimpArgs false
set_option linter.unusedVariables false
namespace Go.Proofs.YtgohocbkkhnmnaaGreatDoor
open Go.RowKit Go.Lib

/-- What stands behind the name. -/
def midE (x : El) (l : List El) : ByteArray :=
  (((((((⟨#[32]⟩ ++ (l.getD x.par.toNat zeroE).name) ++ bs (sxL.getD x.side.toNat [])) ++ ⟨#[32]⟩) ++ itoB x.len) ++ ⟨#[32]⟩) ++ itoB x.gra) ++ ⟨#[32]⟩) ++ itoB x.cur
theorem bs_own (a : ByteArray) : a = bs a.data.toList := rfl
theorem bs_sp : (⟨#[32]⟩ : ByteArray) = bs [32] := rfl
theorem bs_nl : (⟨#[10]⟩ : ByteArray) = bs [10] := rfl
theorem parW_list (x : El) (l : List El) : (parW x l).data.toList = (l.getD x.par.toNat zeroE).name.data.toList ++ sxL.getD x.side.toNat [] := by
  unfold parW
  rw [ByteArray.data_append]
  simp [bs]
theorem line_list {x : El} {l : List El} {kd : Nat} (hk : x.kind = (kd : Int)) (h0 : kd ≠ 0) (h5 : kd < 5) :
    lineT x l = ((kwL.getD kd [] ++ [32]) ++ x.name.data.toList) ++ (((((((([32] ++ (l.getD x.par.toNat zeroE).name.data.toList) ++ sxL.getD x.side.toNat []) ++ [32]) ++ (itoB x.len).data.toList) ++ [32]) ++ (itoB x.gra).data.toList) ++ [32]) ++ (itoB x.cur).data.toList) ++
      (if kd = 2 then [32] ++ (itoB x.pow).data.toList else []) ++ [10] := by
  have hne : ¬ x.kind = 0 := by omega
  have hkt : x.kind.toNat = kd := by omega
  unfold lineT wofE
  rw [hkt, if_pos hne]
  rcases (by omega : kd = 1 ∨ kd = 2 ∨ kd = 3 ∨ kd = 4) with rfl | rfl | rfl | rfl
  all_goals
    simp [Lib.join, Lib.joinTail, nlK, numbersE, parW_list, bs]
theorem bs_line {x : El} {l : List El} {kd : Nat} (ot : List UInt8) (hk : x.kind = (kd : Int)) (h0 : kd ≠ 0) (h5 : kd < 5) :
    bs (ot ++ lineT x l) = (if kd = 2 then ((bs ot ++ ((bs (kwL.getD kd []) ++ ⟨#[32]⟩) ++ x.name)) ++ midE x l) ++ (⟨#[32]⟩ ++ itoB x.pow) else (bs ot ++ ((bs (kwL.getD kd []) ++ ⟨#[32]⟩) ++ x.name)) ++ midE x l) ++ ⟨#[10]⟩ := by
  rw [line_list hk h0 h5]
  unfold midE
  rw [bs_sp, bs_nl, bs_own x.name, bs_own (l.getD x.par.toNat zeroE).name, bs_own (itoB x.len), bs_own (itoB x.gra), bs_own (itoB x.cur), bs_own (itoB x.pow)]
  by_cases h2 : kd = 2
  · rw [if_pos h2, if_pos h2]
    simp only [← bs_app]
    congr 1
    simp [List.append_assoc]
  · rw [if_neg h2, if_neg h2]
    simp only [← bs_app]
    congr 1
    simp [List.append_assoc]
end Go.Proofs.YtgohocbkkhnmnaaGreatDoor
