/-
  NARROWER THAN 'FOR EVERY INPUT', by the rows' own cells (each row's printed sentence says how): TreeExact: laid · TreePaths: laid · TreeCommon: laid · TreeBeyond: laid · TreeLeads: laid.
  DERIVED. THE GIVEN ROWS OF THIS SEAT. 5 by the template 'for every input the law returns true; each argument reads behind the call as it read before'; 0 by the template 'total and deterministic' (their statements: YteeoecegpnmafaaDoorTotals.lean).
  GIVEN WITH THE SEED: the statements are not yours to turn. If you find one false, say at which input.
  Laid BY PROGRAM, IN A SANDBOX (cutbox-rows.mjs): the forced cells as the released guide's own fill.sh prints them over the translation 2f3ccd196071f2af… (all of the seat's roots in one cut). By AI agents, Wed Nov 11 2026. No macro, syntax, notation, axiom, sorry.
-/
import Derived.Test.YteeoecegpnmafaaDoorChecked
import GoSem.PinnedTables
import GoSem.Claim
import GoSem.ClaimJoined
import GoSem.ClaimMapViews
import Derived.JoinedTies
import Derived.KernelRfl
namespace Go.Proofs.YteeoecegpnmafaaDoor
/- THE CELL 'sum', in the pinned program and in every row, IS THE sha256 OF THE DUMP (.gsa) THAT YteeoecegpnmafaaDoorProg.lean LOADS. Nothing in Lean hashes anything: it is a label: what it is worth is what the hold of that sum in a sandbox is worth. -/
noncomputable def Tryd.pinned : Pinned := { name := "yteeoecegpnmafaadoor", sum := "2f3ccd196071f2af6e69a07388eb3e9717df5dd9ce576f4b80d957680c2e55a2", checked := Tryd.checked }
namespace Rows
def none {H : Type} : Left H := { results := [], args := [] }

/- WHAT THE LISTED PACKAGE-LEVEL VARIABLES READ AS WHEN THE CALL BEGINS. Each datum BY PROGRAM (the guide's laid-datum.mjs) off the statement by which the dump's own 'gosem.cut.vars' lays the variable. In a bare row this is a premise. The card (YteeoecegpnmafaaDoorCards.lean) ties it to the program's text. -/
def laid_unicode_utf8_acceptRanges {H : Type} : DataW H := .agg [.agg [.lit (.int .u8 128), .lit (.int .u8 191)], .agg [.lit (.int .u8 160), .lit (.int .u8 191)], .agg [.lit (.int .u8 128), .lit (.int .u8 159)], .agg [.lit (.int .u8 144), .lit (.int .u8 191)], .agg [.lit (.int .u8 128), .lit (.int .u8 143)], .agg [.lit (.int .u8 0), .lit (.int .u8 0)], .agg [.lit (.int .u8 0), .lit (.int .u8 0)], .agg [.lit (.int .u8 0), .lit (.int .u8 0)], .agg [.lit (.int .u8 0), .lit (.int .u8 0)], .agg [.lit (.int .u8 0), .lit (.int .u8 0)], .agg [.lit (.int .u8 0), .lit (.int .u8 0)], .agg [.lit (.int .u8 0), .lit (.int .u8 0)], .agg [.lit (.int .u8 0), .lit (.int .u8 0)], .agg [.lit (.int .u8 0), .lit (.int .u8 0)], .agg [.lit (.int .u8 0), .lit (.int .u8 0)], .agg [.lit (.int .u8 0), .lit (.int .u8 0)]]
def laid_humpyard_layout_kinds {H : Type} : DataW H := .agg [.agg [.lit (.string [99, 114, 101, 115, 116]), .lit (.int .i64 2), .lit (.int .i64 0), .lit (.int .i64 1)], .agg [.lit (.string [115, 101, 103, 109, 101, 110, 116]), .lit (.int .i64 6), .lit (.int .i64 3), .lit (.int .i64 1)], .agg [.lit (.string [114, 101, 116, 97, 114, 100, 101, 114]), .lit (.int .i64 7), .lit (.int .i64 4), .lit (.int .i64 1)], .agg [.lit (.string [115, 119, 105, 116, 99, 104]), .lit (.int .i64 6), .lit (.int .i64 3), .lit (.int .i64 2)], .agg [.lit (.string [116, 114, 97, 99, 107]), .lit (.int .i64 6), .lit (.int .i64 3), .lit (.int .i64 0)]]
/-- One of Go's own tables, pinned by name: the form's constant. -/
def laid_unicode_utf8_first : DataW Unit := Go.Pinned.utf8First

/-- 'humpyardlaw10.TreeExact': WHATEVER THE INPUT: true; the input reads as it did. -/
def treeExactSpec : ChangeSpec := { name := "treeExact", fn := fun _ => fun
  | [d1, d2, d3, d4] => { results := [.lit (.bool true)], args := [d1, d2, d3, d4] }
  | _ => none }
def treeExactRow : OpenClaim := { program := "yteeoecegpnmafaadoor", sum := "2f3ccd196071f2af6e69a07388eb3e9717df5dd9ce576f4b80d957680c2e55a2", func := "humpyard/humpyardlaw10.TreeExact", spec := "treeExact", inPlace := ["internal/bytealg.IndexByteString", "internal/bytealg.IndexString"], unfollowed := true, recurses := true, named := ["unicode/utf8.first", "unicode/utf8.acceptRanges", "humpyard/layout.kinds", "internal/bytealg.MaxLen"], apart := false, laid := [("unicode/utf8.acceptRanges", laid_unicode_utf8_acceptRanges), ("humpyard/layout.kinds", laid_humpyard_layout_kinds), ("unicode/utf8.first", laid_unicode_utf8_first)] }
def TreeExactSaid : Prop := treeExactRow.holds Tryd.pinned (OpenSpec.ofChange treeExactSpec)

/-- ITS FALSE NEIGHBOUR: 'it returns false'. Refute it at one input. -/
def treeExactWrong : ChangeSpec := { name := "treeExact", fn := fun _ => fun
  | [d1, d2, d3, d4] => { results := [.lit (.bool false)], args := [d1, d2, d3, d4] }
  | _ => none }
def TreeExactWrongFalsely : Prop := treeExactRow.holds Tryd.pinned (OpenSpec.ofChange treeExactWrong)

/-- 'humpyardlaw10.TreePaths': WHATEVER THE INPUT: true; the input reads as it did. -/
def treePathsSpec : ChangeSpec := { name := "treePaths", fn := fun _ => fun
  | [d] => { results := [.lit (.bool true)], args := [d] }
  | _ => none }
def treePathsRow : OpenClaim := { program := "yteeoecegpnmafaadoor", sum := "2f3ccd196071f2af6e69a07388eb3e9717df5dd9ce576f4b80d957680c2e55a2", func := "humpyard/humpyardlaw10.TreePaths", spec := "treePaths", inPlace := ["internal/bytealg.IndexByteString", "internal/bytealg.IndexString"], unfollowed := true, recurses := true, named := ["unicode/utf8.first", "unicode/utf8.acceptRanges", "humpyard/layout.kinds", "internal/bytealg.MaxLen"], apart := false, laid := [("unicode/utf8.acceptRanges", laid_unicode_utf8_acceptRanges), ("humpyard/layout.kinds", laid_humpyard_layout_kinds), ("unicode/utf8.first", laid_unicode_utf8_first)] }
def TreePathsSaid : Prop := treePathsRow.holds Tryd.pinned (OpenSpec.ofChange treePathsSpec)

/-- ITS FALSE NEIGHBOUR: 'it returns false'. Refute it at one input. -/
def treePathsWrong : ChangeSpec := { name := "treePaths", fn := fun _ => fun
  | [d] => { results := [.lit (.bool false)], args := [d] }
  | _ => none }
def TreePathsWrongFalsely : Prop := treePathsRow.holds Tryd.pinned (OpenSpec.ofChange treePathsWrong)

/-- 'humpyardlaw10.TreeCommon': WHATEVER THE INPUT: true; the input reads as it did. -/
def treeCommonSpec : ChangeSpec := { name := "treeCommon", fn := fun _ => fun
  | [d] => { results := [.lit (.bool true)], args := [d] }
  | _ => none }
def treeCommonRow : OpenClaim := { program := "yteeoecegpnmafaadoor", sum := "2f3ccd196071f2af6e69a07388eb3e9717df5dd9ce576f4b80d957680c2e55a2", func := "humpyard/humpyardlaw10.TreeCommon", spec := "treeCommon", inPlace := ["internal/bytealg.IndexByteString", "internal/bytealg.IndexString"], unfollowed := true, recurses := true, named := ["unicode/utf8.first", "unicode/utf8.acceptRanges", "humpyard/layout.kinds", "internal/bytealg.MaxLen"], apart := false, laid := [("unicode/utf8.acceptRanges", laid_unicode_utf8_acceptRanges), ("humpyard/layout.kinds", laid_humpyard_layout_kinds), ("unicode/utf8.first", laid_unicode_utf8_first)] }
def TreeCommonSaid : Prop := treeCommonRow.holds Tryd.pinned (OpenSpec.ofChange treeCommonSpec)

/-- ITS FALSE NEIGHBOUR: 'it returns false'. Refute it at one input. -/
def treeCommonWrong : ChangeSpec := { name := "treeCommon", fn := fun _ => fun
  | [d] => { results := [.lit (.bool false)], args := [d] }
  | _ => none }
def TreeCommonWrongFalsely : Prop := treeCommonRow.holds Tryd.pinned (OpenSpec.ofChange treeCommonWrong)

/-- 'humpyardlaw10.TreeBeyond': WHATEVER THE INPUT: true; the input reads as it did. -/
def treeBeyondSpec : ChangeSpec := { name := "treeBeyond", fn := fun _ => fun
  | [d] => { results := [.lit (.bool true)], args := [d] }
  | _ => none }
def treeBeyondRow : OpenClaim := { program := "yteeoecegpnmafaadoor", sum := "2f3ccd196071f2af6e69a07388eb3e9717df5dd9ce576f4b80d957680c2e55a2", func := "humpyard/humpyardlaw10.TreeBeyond", spec := "treeBeyond", inPlace := ["internal/bytealg.IndexByteString", "internal/bytealg.IndexString"], unfollowed := true, recurses := true, named := ["unicode/utf8.first", "unicode/utf8.acceptRanges", "humpyard/layout.kinds", "internal/bytealg.MaxLen"], apart := false, laid := [("unicode/utf8.acceptRanges", laid_unicode_utf8_acceptRanges), ("humpyard/layout.kinds", laid_humpyard_layout_kinds), ("unicode/utf8.first", laid_unicode_utf8_first)] }
def TreeBeyondSaid : Prop := treeBeyondRow.holds Tryd.pinned (OpenSpec.ofChange treeBeyondSpec)

/-- ITS FALSE NEIGHBOUR: 'it returns false'. Refute it at one input. -/
def treeBeyondWrong : ChangeSpec := { name := "treeBeyond", fn := fun _ => fun
  | [d] => { results := [.lit (.bool false)], args := [d] }
  | _ => none }
def TreeBeyondWrongFalsely : Prop := treeBeyondRow.holds Tryd.pinned (OpenSpec.ofChange treeBeyondWrong)

/-- 'humpyardlaw10.TreeLeads': WHATEVER THE INPUT: true; the input reads as it did. -/
def treeLeadsSpec : ChangeSpec := { name := "treeLeads", fn := fun _ => fun
  | [d] => { results := [.lit (.bool true)], args := [d] }
  | _ => none }
def treeLeadsRow : OpenClaim := { program := "yteeoecegpnmafaadoor", sum := "2f3ccd196071f2af6e69a07388eb3e9717df5dd9ce576f4b80d957680c2e55a2", func := "humpyard/humpyardlaw10.TreeLeads", spec := "treeLeads", inPlace := ["internal/bytealg.IndexByteString", "internal/bytealg.IndexString"], unfollowed := true, recurses := true, named := ["unicode/utf8.first", "unicode/utf8.acceptRanges", "humpyard/layout.kinds", "internal/bytealg.MaxLen"], apart := false, laid := [("unicode/utf8.acceptRanges", laid_unicode_utf8_acceptRanges), ("humpyard/layout.kinds", laid_humpyard_layout_kinds), ("unicode/utf8.first", laid_unicode_utf8_first)] }
def TreeLeadsSaid : Prop := treeLeadsRow.holds Tryd.pinned (OpenSpec.ofChange treeLeadsSpec)

/-- ITS FALSE NEIGHBOUR: 'it returns false'. Refute it at one input. -/
def treeLeadsWrong : ChangeSpec := { name := "treeLeads", fn := fun _ => fun
  | [d] => { results := [.lit (.bool false)], args := [d] }
  | _ => none }
def TreeLeadsWrongFalsely : Prop := treeLeadsRow.holds Tryd.pinned (OpenSpec.ofChange treeLeadsWrong)

/- THE SECOND FORM. 'bulk': how many values and letters a reading holds, each counted each time it is reached (what is shared counts as often as it is met; a slice's spare places count too). A statement '..UptoSaid' is the law's where the arguments, and the package variables that the reading takes, are together of bulk at most 1048576: NARROWER than '..Said'. Prove '..Said' where nothing that the law and all that it calls make is longer than what came in: it says more and counts as full. Else prove '..UptoSaid'. A law counts once. -/
mutual
def uptoBulk {H : Type} : DataW H → Nat
  | .lit (.string bytes) => bytes.length + 1
  | .lit _ => 1
  | .nil => 1
  | .ptr d => uptoBulk d + 1
  | .slice elems spare => uptoBulkAll elems + uptoBulkAll spare + 1
  | .agg parts => uptoBulkAll parts + 1
  | .iface _ d => uptoBulk d + 1
  | .map entries => uptoBulkEntries entries + 1
  | .held _ => 1
def uptoBulkAll {H : Type} : List (DataW H) → Nat
  | [] => 0
  | d :: r => uptoBulk d + uptoBulkAll r
def uptoBulkEntries {H : Type} : List (Lit × DataW H) → Nat
  | [] => 0
  | x :: r => uptoBulkEntry x + uptoBulkEntries r
def uptoBulkEntry {H : Type} : Lit × DataW H → Nat
  | (.string bytes, d) => bytes.length + uptoBulk d + 1
  | (_, d) => uptoBulk d + 1
 end
def uptoSmall : (H : Type) → List (DataW H) → Bool := fun _ ds => decide (uptoBulkAll ds ≤ 1048576)
def OpenSpec.upto (s : _root_.Go.ChangeSpec) : _root_.Go.OpenSpec := { _root_.Go.OpenSpec.ofChange s with cond := some uptoSmall }

/-- 'humpyardlaw10.TreeExact', WHERE WHAT IT READS IS OF BULK AT MOST 1048576: true; the input reads as it did. -/
def treeExactUptoRow : OpenClaim := { program := "yteeoecegpnmafaadoor", sum := "2f3ccd196071f2af6e69a07388eb3e9717df5dd9ce576f4b80d957680c2e55a2", func := "humpyard/humpyardlaw10.TreeExact", spec := "treeExact", inPlace := ["internal/bytealg.IndexByteString", "internal/bytealg.IndexString"], unfollowed := true, recurses := true, named := ["unicode/utf8.first", "unicode/utf8.acceptRanges", "humpyard/layout.kinds", "internal/bytealg.MaxLen"], apart := false, laid := [("unicode/utf8.acceptRanges", laid_unicode_utf8_acceptRanges), ("humpyard/layout.kinds", laid_humpyard_layout_kinds), ("unicode/utf8.first", laid_unicode_utf8_first)], narrowed := true }
def TreeExactUptoSaid : Prop := treeExactUptoRow.holds Tryd.pinned (OpenSpec.upto treeExactSpec)

/-- 'humpyardlaw10.TreePaths', WHERE WHAT IT READS IS OF BULK AT MOST 1048576: true; the input reads as it did. -/
def treePathsUptoRow : OpenClaim := { program := "yteeoecegpnmafaadoor", sum := "2f3ccd196071f2af6e69a07388eb3e9717df5dd9ce576f4b80d957680c2e55a2", func := "humpyard/humpyardlaw10.TreePaths", spec := "treePaths", inPlace := ["internal/bytealg.IndexByteString", "internal/bytealg.IndexString"], unfollowed := true, recurses := true, named := ["unicode/utf8.first", "unicode/utf8.acceptRanges", "humpyard/layout.kinds", "internal/bytealg.MaxLen"], apart := false, laid := [("unicode/utf8.acceptRanges", laid_unicode_utf8_acceptRanges), ("humpyard/layout.kinds", laid_humpyard_layout_kinds), ("unicode/utf8.first", laid_unicode_utf8_first)], narrowed := true }
def TreePathsUptoSaid : Prop := treePathsUptoRow.holds Tryd.pinned (OpenSpec.upto treePathsSpec)

/-- 'humpyardlaw10.TreeCommon', WHERE WHAT IT READS IS OF BULK AT MOST 1048576: true; the input reads as it did. -/
def treeCommonUptoRow : OpenClaim := { program := "yteeoecegpnmafaadoor", sum := "2f3ccd196071f2af6e69a07388eb3e9717df5dd9ce576f4b80d957680c2e55a2", func := "humpyard/humpyardlaw10.TreeCommon", spec := "treeCommon", inPlace := ["internal/bytealg.IndexByteString", "internal/bytealg.IndexString"], unfollowed := true, recurses := true, named := ["unicode/utf8.first", "unicode/utf8.acceptRanges", "humpyard/layout.kinds", "internal/bytealg.MaxLen"], apart := false, laid := [("unicode/utf8.acceptRanges", laid_unicode_utf8_acceptRanges), ("humpyard/layout.kinds", laid_humpyard_layout_kinds), ("unicode/utf8.first", laid_unicode_utf8_first)], narrowed := true }
def TreeCommonUptoSaid : Prop := treeCommonUptoRow.holds Tryd.pinned (OpenSpec.upto treeCommonSpec)

/-- 'humpyardlaw10.TreeBeyond', WHERE WHAT IT READS IS OF BULK AT MOST 1048576: true; the input reads as it did. -/
def treeBeyondUptoRow : OpenClaim := { program := "yteeoecegpnmafaadoor", sum := "2f3ccd196071f2af6e69a07388eb3e9717df5dd9ce576f4b80d957680c2e55a2", func := "humpyard/humpyardlaw10.TreeBeyond", spec := "treeBeyond", inPlace := ["internal/bytealg.IndexByteString", "internal/bytealg.IndexString"], unfollowed := true, recurses := true, named := ["unicode/utf8.first", "unicode/utf8.acceptRanges", "humpyard/layout.kinds", "internal/bytealg.MaxLen"], apart := false, laid := [("unicode/utf8.acceptRanges", laid_unicode_utf8_acceptRanges), ("humpyard/layout.kinds", laid_humpyard_layout_kinds), ("unicode/utf8.first", laid_unicode_utf8_first)], narrowed := true }
def TreeBeyondUptoSaid : Prop := treeBeyondUptoRow.holds Tryd.pinned (OpenSpec.upto treeBeyondSpec)

/-- 'humpyardlaw10.TreeLeads', WHERE WHAT IT READS IS OF BULK AT MOST 1048576: true; the input reads as it did. -/
def treeLeadsUptoRow : OpenClaim := { program := "yteeoecegpnmafaadoor", sum := "2f3ccd196071f2af6e69a07388eb3e9717df5dd9ce576f4b80d957680c2e55a2", func := "humpyard/humpyardlaw10.TreeLeads", spec := "treeLeads", inPlace := ["internal/bytealg.IndexByteString", "internal/bytealg.IndexString"], unfollowed := true, recurses := true, named := ["unicode/utf8.first", "unicode/utf8.acceptRanges", "humpyard/layout.kinds", "internal/bytealg.MaxLen"], apart := false, laid := [("unicode/utf8.acceptRanges", laid_unicode_utf8_acceptRanges), ("humpyard/layout.kinds", laid_humpyard_layout_kinds), ("unicode/utf8.first", laid_unicode_utf8_first)], narrowed := true }
def TreeLeadsUptoSaid : Prop := treeLeadsUptoRow.holds Tryd.pinned (OpenSpec.upto treeLeadsSpec)

end Rows
end Go.Proofs.YteeoecegpnmafaaDoor
