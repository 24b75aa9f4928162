/-
  NARROWER THAN 'FOR EVERY INPUT', by the rows' own cells (each row's printed sentence says how): EnvHits: loops · EnvLeast: loops.
  DERIVED. THE GIVEN ROWS OF THIS SEAT. 2 by the template 'for every input the law returns true; each argument reads behind the call as it read before'; 0 by the template 'total and deterministic' (their statements: YtannfhbocfghkaaTotals.lean).
  GIVEN WITH THE SEED: the statements are not yours to turn. If you find one false, say at which input.
  Laid BY PROGRAM, IN A SANDBOX (cutbox-rows.mjs): the forced cells as the released guide's own fill.sh prints them over the translation 14c3c3278db22869… (all of the seat's roots in one cut). By AI agents, Wed Nov 11 2026. No macro, syntax, notation, axiom, sorry.
-/
import Derived.Test.YtannfhbocfghkaaChecked
import GoSem.Claim
import GoSem.ClaimJoined
import GoSem.ClaimMapViews
import Derived.JoinedTies
import Derived.KernelRfl
namespace Go.Proofs.Ytannfhbocfghkaa
/- THE CELL 'sum', in the pinned program and in every row, IS THE sha256 OF THE DUMP (.gsa) THAT YtannfhbocfghkaaProg.lean LOADS. Nothing in Lean hashes anything: it is a label: what it is worth is what the hold of that sum in a sandbox is worth. -/
noncomputable def Try.pinned : Pinned := { name := "ytannfhbocfghkaa", sum := "14c3c3278db22869dd0092c9334564989d8e8f5e1b794b489ed6d6179edba99c", checked := Try.checked }
namespace Rows
def none {H : Type} : Left H := { results := [], args := [] }

/-- 'lienbooklaw05.EnvHits': WHATEVER THE INPUT: true; the input reads as it did. -/
def envHitsSpec : ChangeSpec := { name := "envHits", fn := fun _ => fun
  | [d1, d2, d3, d4] => { results := [.lit (.bool true)], args := [d1, d2, d3, d4] }
  | _ => none }
def envHitsRow : OpenClaim := { program := "ytannfhbocfghkaa", sum := "14c3c3278db22869dd0092c9334564989d8e8f5e1b794b489ed6d6179edba99c", func := "lienbook/lienbooklaw05.EnvHits", spec := "envHits", inPlace := ["internal/bytealg.abigen_runtime_cmpstring"], unfollowed := true, recurses := true, loops := true, apart := false }
def EnvHitsSaid : Prop := envHitsRow.holds Try.pinned (OpenSpec.ofChange envHitsSpec)

/-- ITS FALSE NEIGHBOUR: 'it returns false'. Refute it at one input. -/
def envHitsWrong : ChangeSpec := { name := "envHits", fn := fun _ => fun
  | [d1, d2, d3, d4] => { results := [.lit (.bool false)], args := [d1, d2, d3, d4] }
  | _ => none }
def EnvHitsWrongFalsely : Prop := envHitsRow.holds Try.pinned (OpenSpec.ofChange envHitsWrong)

/-- 'lienbooklaw05.EnvLeast': WHATEVER THE INPUT: true; the input reads as it did. -/
def envLeastSpec : ChangeSpec := { name := "envLeast", fn := fun _ => fun
  | [d1, d2, d3, d4, d5] => { results := [.lit (.bool true)], args := [d1, d2, d3, d4, d5] }
  | _ => none }
def envLeastRow : OpenClaim := { program := "ytannfhbocfghkaa", sum := "14c3c3278db22869dd0092c9334564989d8e8f5e1b794b489ed6d6179edba99c", func := "lienbook/lienbooklaw05.EnvLeast", spec := "envLeast", inPlace := ["internal/bytealg.abigen_runtime_cmpstring"], unfollowed := true, recurses := true, loops := true, apart := false }
def EnvLeastSaid : Prop := envLeastRow.holds Try.pinned (OpenSpec.ofChange envLeastSpec)

/-- ITS FALSE NEIGHBOUR: 'it returns false'. Refute it at one input. -/
def envLeastWrong : ChangeSpec := { name := "envLeast", fn := fun _ => fun
  | [d1, d2, d3, d4, d5] => { results := [.lit (.bool false)], args := [d1, d2, d3, d4, d5] }
  | _ => none }
def EnvLeastWrongFalsely : Prop := envLeastRow.holds Try.pinned (OpenSpec.ofChange envLeastWrong)

/- THE SECOND FORM. 'bulk': how many values and letters a reading holds, each counted each time it is reached (what is shared counts as often as it is met; a slice's spare places count too). A statement '..UptoSaid' is the law's where the arguments, and the package variables that the reading takes, are together of bulk at most 1048576: NARROWER than '..Said'. Prove '..Said' where nothing that the law and all that it calls make is longer than what came in: it says more and counts as full. Else prove '..UptoSaid'. A law counts once. -/
mutual
def uptoBulk {H : Type} : DataW H → Nat
  | .lit (.string bytes) => bytes.length + 1
  | .lit _ => 1
  | .nil => 1
  | .ptr d => uptoBulk d + 1
  | .slice elems spare => uptoBulkAll elems + uptoBulkAll spare + 1
  | .agg parts => uptoBulkAll parts + 1
  | .iface _ d => uptoBulk d + 1
  | .map entries => uptoBulkEntries entries + 1
  | .held _ => 1
def uptoBulkAll {H : Type} : List (DataW H) → Nat
  | [] => 0
  | d :: r => uptoBulk d + uptoBulkAll r
def uptoBulkEntries {H : Type} : List (Lit × DataW H) → Nat
  | [] => 0
  | x :: r => uptoBulkEntry x + uptoBulkEntries r
def uptoBulkEntry {H : Type} : Lit × DataW H → Nat
  | (.string bytes, d) => bytes.length + uptoBulk d + 1
  | (_, d) => uptoBulk d + 1
 end
def uptoSmall : (H : Type) → List (DataW H) → Bool := fun _ ds => decide (uptoBulkAll ds ≤ 1048576)
def OpenSpec.upto (s : _root_.Go.ChangeSpec) : _root_.Go.OpenSpec := { _root_.Go.OpenSpec.ofChange s with cond := some uptoSmall }

/-- 'lienbooklaw05.EnvHits', WHERE WHAT IT READS IS OF BULK AT MOST 1048576: true; the input reads as it did. -/
def envHitsUptoRow : OpenClaim := { program := "ytannfhbocfghkaa", sum := "14c3c3278db22869dd0092c9334564989d8e8f5e1b794b489ed6d6179edba99c", func := "lienbook/lienbooklaw05.EnvHits", spec := "envHits", inPlace := ["internal/bytealg.abigen_runtime_cmpstring"], unfollowed := true, recurses := true, loops := true, apart := false, narrowed := true }
def EnvHitsUptoSaid : Prop := envHitsUptoRow.holds Try.pinned (OpenSpec.upto envHitsSpec)

/-- 'lienbooklaw05.EnvLeast', WHERE WHAT IT READS IS OF BULK AT MOST 1048576: true; the input reads as it did. -/
def envLeastUptoRow : OpenClaim := { program := "ytannfhbocfghkaa", sum := "14c3c3278db22869dd0092c9334564989d8e8f5e1b794b489ed6d6179edba99c", func := "lienbook/lienbooklaw05.EnvLeast", spec := "envLeast", inPlace := ["internal/bytealg.abigen_runtime_cmpstring"], unfollowed := true, recurses := true, loops := true, apart := false, narrowed := true }
def EnvLeastUptoSaid : Prop := envLeastUptoRow.holds Try.pinned (OpenSpec.upto envLeastSpec)

end Rows
end Go.Proofs.Ytannfhbocfghkaa
