/-
  No cell of these rows narrows 'for every input' (looked for: loops, veiled, ifaces, maps, wideKeys, modest, calm, conditions, laid).
  DERIVED. THE GIVEN ROWS OF THIS SEAT. 5 by the template 'for every input the law returns true; each argument reads behind the call as it read before'; 0 by the template 'total and deterministic' (their statements: YtlagadbkencpbaaTotals.lean).
  GIVEN WITH THE SEED: the statements are not yours to turn. If you find one false, say at which input.
  Laid BY PROGRAM, IN A SANDBOX (cutbox-rows.mjs): the forced cells as the released guide's own fill.sh prints them over the translation b2862d1a89a141d5… (all of the seat's roots in one cut). By AI agents, Wed Nov 11 2026. No macro, syntax, notation, axiom, sorry.
-/
import Derived.Test.YtlagadbkencpbaaChecked
import GoSem.Claim
import GoSem.ClaimJoined
import GoSem.ClaimMapViews
import Derived.JoinedTies
import Derived.KernelRfl
namespace Go.Proofs.Ytlagadbkencpbaa
/- THE CELL 'sum', in the pinned program and in every row, IS THE sha256 OF THE DUMP (.gsa) THAT YtlagadbkencpbaaProg.lean LOADS. Nothing in Lean hashes anything: it is a label: what it is worth is what the hold of that sum in a sandbox is worth. -/
noncomputable def Try.pinned : Pinned := { name := "ytlagadbkencpbaa", sum := "b2862d1a89a141d5bd9d066e6e4d3cf25d0f7a1ec1fe0062b5319b5c13051ba6", checked := Try.checked }
namespace Rows
def none {H : Type} : Left H := { results := [], args := [] }

/-- 'humpyardlaw15.CertificateLimits': WHATEVER THE INPUT: true; the input reads as it did. -/
def certificateLimitsSpec : ChangeSpec := { name := "certificateLimits", fn := fun _ => fun
  | [d1, d2] => { results := [.lit (.bool true)], args := [d1, d2] }
  | _ => none }
def certificateLimitsRow : OpenClaim := { program := "ytlagadbkencpbaa", sum := "b2862d1a89a141d5bd9d066e6e4d3cf25d0f7a1ec1fe0062b5319b5c13051ba6", func := "humpyard/humpyardlaw15.CertificateLimits", spec := "certificateLimits", unfollowed := true, recurses := true, apart := false }
def CertificateLimitsSaid : Prop := certificateLimitsRow.holds Try.pinned (OpenSpec.ofChange certificateLimitsSpec)

/-- ITS FALSE NEIGHBOUR: 'it returns false'. Refute it at one input. -/
def certificateLimitsWrong : ChangeSpec := { name := "certificateLimits", fn := fun _ => fun
  | [d1, d2] => { results := [.lit (.bool false)], args := [d1, d2] }
  | _ => none }
def CertificateLimitsWrongFalsely : Prop := certificateLimitsRow.holds Try.pinned (OpenSpec.ofChange certificateLimitsWrong)

/-- 'humpyardlaw15.CertificateExact': WHATEVER THE INPUT: true; the input reads as it did. -/
def certificateExactSpec : ChangeSpec := { name := "certificateExact", fn := fun _ => fun
  | [d1, d2, d3] => { results := [.lit (.bool true)], args := [d1, d2, d3] }
  | _ => none }
def certificateExactRow : OpenClaim := { program := "ytlagadbkencpbaa", sum := "b2862d1a89a141d5bd9d066e6e4d3cf25d0f7a1ec1fe0062b5319b5c13051ba6", func := "humpyard/humpyardlaw15.CertificateExact", spec := "certificateExact", unfollowed := true, recurses := true, apart := false }
def CertificateExactSaid : Prop := certificateExactRow.holds Try.pinned (OpenSpec.ofChange certificateExactSpec)

/-- ITS FALSE NEIGHBOUR: 'it returns false'. Refute it at one input. -/
def certificateExactWrong : ChangeSpec := { name := "certificateExact", fn := fun _ => fun
  | [d1, d2, d3] => { results := [.lit (.bool false)], args := [d1, d2, d3] }
  | _ => none }
def CertificateExactWrongFalsely : Prop := certificateExactRow.holds Try.pinned (OpenSpec.ofChange certificateExactWrong)

/-- 'humpyardlaw15.CertificateBytes': WHATEVER THE INPUT: true; the input reads as it did. -/
def certificateBytesSpec : ChangeSpec := { name := "certificateBytes", fn := fun _ => fun
  | [d1, d2, d3] => { results := [.lit (.bool true)], args := [d1, d2, d3] }
  | _ => none }
def certificateBytesRow : OpenClaim := { program := "ytlagadbkencpbaa", sum := "b2862d1a89a141d5bd9d066e6e4d3cf25d0f7a1ec1fe0062b5319b5c13051ba6", func := "humpyard/humpyardlaw15.CertificateBytes", spec := "certificateBytes", unfollowed := true, recurses := true, apart := false }
def CertificateBytesSaid : Prop := certificateBytesRow.holds Try.pinned (OpenSpec.ofChange certificateBytesSpec)

/-- ITS FALSE NEIGHBOUR: 'it returns false'. Refute it at one input. -/
def certificateBytesWrong : ChangeSpec := { name := "certificateBytes", fn := fun _ => fun
  | [d1, d2, d3] => { results := [.lit (.bool false)], args := [d1, d2, d3] }
  | _ => none }
def CertificateBytesWrongFalsely : Prop := certificateBytesRow.holds Try.pinned (OpenSpec.ofChange certificateBytesWrong)

/-- 'humpyardlaw15.CertificateProves': WHATEVER THE INPUT: true; the input reads as it did. -/
def certificateProvesSpec : ChangeSpec := { name := "certificateProves", fn := fun _ => fun
  | [d] => { results := [.lit (.bool true)], args := [d] }
  | _ => none }
def certificateProvesRow : OpenClaim := { program := "ytlagadbkencpbaa", sum := "b2862d1a89a141d5bd9d066e6e4d3cf25d0f7a1ec1fe0062b5319b5c13051ba6", func := "humpyard/humpyardlaw15.CertificateProves", spec := "certificateProves", unfollowed := true, recurses := true, apart := false }
def CertificateProvesSaid : Prop := certificateProvesRow.holds Try.pinned (OpenSpec.ofChange certificateProvesSpec)

/-- ITS FALSE NEIGHBOUR: 'it returns false'. Refute it at one input. -/
def certificateProvesWrong : ChangeSpec := { name := "certificateProves", fn := fun _ => fun
  | [d] => { results := [.lit (.bool false)], args := [d] }
  | _ => none }
def CertificateProvesWrongFalsely : Prop := certificateProvesRow.holds Try.pinned (OpenSpec.ofChange certificateProvesWrong)

/-- 'humpyardlaw15.CertificateRefuses': WHATEVER THE INPUT: true; the input reads as it did. -/
def certificateRefusesSpec : ChangeSpec := { name := "certificateRefuses", fn := fun _ => fun
  | [d1, d2] => { results := [.lit (.bool true)], args := [d1, d2] }
  | _ => none }
def certificateRefusesRow : OpenClaim := { program := "ytlagadbkencpbaa", sum := "b2862d1a89a141d5bd9d066e6e4d3cf25d0f7a1ec1fe0062b5319b5c13051ba6", func := "humpyard/humpyardlaw15.CertificateRefuses", spec := "certificateRefuses", unfollowed := true, recurses := true, apart := false }
def CertificateRefusesSaid : Prop := certificateRefusesRow.holds Try.pinned (OpenSpec.ofChange certificateRefusesSpec)

/-- ITS FALSE NEIGHBOUR: 'it returns false'. Refute it at one input. -/
def certificateRefusesWrong : ChangeSpec := { name := "certificateRefuses", fn := fun _ => fun
  | [d1, d2] => { results := [.lit (.bool false)], args := [d1, d2] }
  | _ => none }
def CertificateRefusesWrongFalsely : Prop := certificateRefusesRow.holds Try.pinned (OpenSpec.ofChange certificateRefusesWrong)

/- THE SECOND FORM. 'bulk': how many values and letters a reading holds, each counted each time it is reached (what is shared counts as often as it is met; a slice's spare places count too). A statement '..UptoSaid' is the law's where the arguments, and the package variables that the reading takes, are together of bulk at most 1048576: NARROWER than '..Said'. Prove '..Said' where nothing that the law and all that it calls make is longer than what came in: it says more and counts as full. Else prove '..UptoSaid'. A law counts once. -/
mutual
def uptoBulk {H : Type} : DataW H → Nat
  | .lit (.string bytes) => bytes.length + 1
  | .lit _ => 1
  | .nil => 1
  | .ptr d => uptoBulk d + 1
  | .slice elems spare => uptoBulkAll elems + uptoBulkAll spare + 1
  | .agg parts => uptoBulkAll parts + 1
  | .iface _ d => uptoBulk d + 1
  | .map entries => uptoBulkEntries entries + 1
  | .held _ => 1
def uptoBulkAll {H : Type} : List (DataW H) → Nat
  | [] => 0
  | d :: r => uptoBulk d + uptoBulkAll r
def uptoBulkEntries {H : Type} : List (Lit × DataW H) → Nat
  | [] => 0
  | x :: r => uptoBulkEntry x + uptoBulkEntries r
def uptoBulkEntry {H : Type} : Lit × DataW H → Nat
  | (.string bytes, d) => bytes.length + uptoBulk d + 1
  | (_, d) => uptoBulk d + 1
 end
def uptoSmall : (H : Type) → List (DataW H) → Bool := fun _ ds => decide (uptoBulkAll ds ≤ 1048576)
def OpenSpec.upto (s : _root_.Go.ChangeSpec) : _root_.Go.OpenSpec := { _root_.Go.OpenSpec.ofChange s with cond := some uptoSmall }

/-- 'humpyardlaw15.CertificateLimits', WHERE WHAT IT READS IS OF BULK AT MOST 1048576: true; the input reads as it did. -/
def certificateLimitsUptoRow : OpenClaim := { program := "ytlagadbkencpbaa", sum := "b2862d1a89a141d5bd9d066e6e4d3cf25d0f7a1ec1fe0062b5319b5c13051ba6", func := "humpyard/humpyardlaw15.CertificateLimits", spec := "certificateLimits", unfollowed := true, recurses := true, apart := false, narrowed := true }
def CertificateLimitsUptoSaid : Prop := certificateLimitsUptoRow.holds Try.pinned (OpenSpec.upto certificateLimitsSpec)

/-- 'humpyardlaw15.CertificateExact', WHERE WHAT IT READS IS OF BULK AT MOST 1048576: true; the input reads as it did. -/
def certificateExactUptoRow : OpenClaim := { program := "ytlagadbkencpbaa", sum := "b2862d1a89a141d5bd9d066e6e4d3cf25d0f7a1ec1fe0062b5319b5c13051ba6", func := "humpyard/humpyardlaw15.CertificateExact", spec := "certificateExact", unfollowed := true, recurses := true, apart := false, narrowed := true }
def CertificateExactUptoSaid : Prop := certificateExactUptoRow.holds Try.pinned (OpenSpec.upto certificateExactSpec)

/-- 'humpyardlaw15.CertificateBytes', WHERE WHAT IT READS IS OF BULK AT MOST 1048576: true; the input reads as it did. -/
def certificateBytesUptoRow : OpenClaim := { program := "ytlagadbkencpbaa", sum := "b2862d1a89a141d5bd9d066e6e4d3cf25d0f7a1ec1fe0062b5319b5c13051ba6", func := "humpyard/humpyardlaw15.CertificateBytes", spec := "certificateBytes", unfollowed := true, recurses := true, apart := false, narrowed := true }
def CertificateBytesUptoSaid : Prop := certificateBytesUptoRow.holds Try.pinned (OpenSpec.upto certificateBytesSpec)

/-- 'humpyardlaw15.CertificateProves', WHERE WHAT IT READS IS OF BULK AT MOST 1048576: true; the input reads as it did. -/
def certificateProvesUptoRow : OpenClaim := { program := "ytlagadbkencpbaa", sum := "b2862d1a89a141d5bd9d066e6e4d3cf25d0f7a1ec1fe0062b5319b5c13051ba6", func := "humpyard/humpyardlaw15.CertificateProves", spec := "certificateProves", unfollowed := true, recurses := true, apart := false, narrowed := true }
def CertificateProvesUptoSaid : Prop := certificateProvesUptoRow.holds Try.pinned (OpenSpec.upto certificateProvesSpec)

/-- 'humpyardlaw15.CertificateRefuses', WHERE WHAT IT READS IS OF BULK AT MOST 1048576: true; the input reads as it did. -/
def certificateRefusesUptoRow : OpenClaim := { program := "ytlagadbkencpbaa", sum := "b2862d1a89a141d5bd9d066e6e4d3cf25d0f7a1ec1fe0062b5319b5c13051ba6", func := "humpyard/humpyardlaw15.CertificateRefuses", spec := "certificateRefuses", unfollowed := true, recurses := true, apart := false, narrowed := true }
def CertificateRefusesUptoSaid : Prop := certificateRefusesUptoRow.holds Try.pinned (OpenSpec.upto certificateRefusesSpec)

end Rows
end Go.Proofs.Ytlagadbkencpbaa
