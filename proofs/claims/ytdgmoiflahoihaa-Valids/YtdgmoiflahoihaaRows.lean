/-
  No cell of these rows narrows 'for every input' (looked for: loops, veiled, ifaces, maps, wideKeys, modest, calm, conditions, laid).
  DERIVED. THE GIVEN ROWS OF THIS SEAT. 6 by the template 'for every input the law returns true; each argument reads behind the call as it read before'; 0 by the template 'total and deterministic' (their statements: YtdgmoiflahoihaaTotals.lean).
  GIVEN WITH THE SEED: the statements are not yours to turn. If you find one false, say at which input.
  Laid BY PROGRAM, IN A SANDBOX (cutbox-rows.mjs): the forced cells as the released guide's own fill.sh prints them over the translation 8230a3b0876e38fc… (all of the seat's roots in one cut). By AI agents, Wed Nov 11 2026. No macro, syntax, notation, axiom, sorry.
-/
import Derived.Test.YtdgmoiflahoihaaChecked
import GoSem.Claim
import GoSem.ClaimJoined
import GoSem.ClaimMapViews
import Derived.JoinedTies
import Derived.KernelRfl
namespace Go.Proofs.Ytdgmoiflahoihaa
/- THE CELL 'sum', in the pinned program and in every row, IS THE sha256 OF THE DUMP (.gsa) THAT YtdgmoiflahoihaaProg.lean LOADS. Nothing in Lean hashes anything: it is a label: what it is worth is what the hold of that sum in a sandbox is worth. -/
noncomputable def Try.pinned : Pinned := { name := "ytdgmoiflahoihaa", sum := "8230a3b0876e38fc76098a9570ba079e51eae0736a043a5c7212d657652e040e", checked := Try.checked }
namespace Rows
def none {H : Type} : Left H := { results := [], args := [] }

/-- 'tarifflaw.Checks': WHATEVER THE INPUT: true; the input reads as it did. -/
def checksSpec : ChangeSpec := { name := "checks", fn := fun _ => fun
  | [d] => { results := [.lit (.bool true)], args := [d] }
  | _ => none }
def checksRow : OpenClaim := { program := "ytdgmoiflahoihaa", sum := "8230a3b0876e38fc76098a9570ba079e51eae0736a043a5c7212d657652e040e", func := "tariff/tarifflaw.Checks", spec := "checks", recurses := true, apart := false }
def ChecksSaid : Prop := checksRow.holds Try.pinned (OpenSpec.ofChange checksSpec)

/-- ITS FALSE NEIGHBOUR: 'it returns false'. Refute it at one input. -/
def checksWrong : ChangeSpec := { name := "checks", fn := fun _ => fun
  | [d] => { results := [.lit (.bool false)], args := [d] }
  | _ => none }
def ChecksWrongFalsely : Prop := checksRow.holds Try.pinned (OpenSpec.ofChange checksWrong)

/-- 'tarifflaw.Inferred': WHATEVER THE INPUT: true; the input reads as it did. -/
def inferredSpec : ChangeSpec := { name := "inferred", fn := fun _ => fun
  | [d] => { results := [.lit (.bool true)], args := [d] }
  | _ => none }
def inferredRow : OpenClaim := { program := "ytdgmoiflahoihaa", sum := "8230a3b0876e38fc76098a9570ba079e51eae0736a043a5c7212d657652e040e", func := "tariff/tarifflaw.Inferred", spec := "inferred", recurses := true, apart := false }
def InferredSaid : Prop := inferredRow.holds Try.pinned (OpenSpec.ofChange inferredSpec)

/-- ITS FALSE NEIGHBOUR: 'it returns false'. Refute it at one input. -/
def inferredWrong : ChangeSpec := { name := "inferred", fn := fun _ => fun
  | [d] => { results := [.lit (.bool false)], args := [d] }
  | _ => none }
def InferredWrongFalsely : Prop := inferredRow.holds Try.pinned (OpenSpec.ofChange inferredWrong)

/-- 'tarifflaw.Valids': WHATEVER THE INPUT: true; the input reads as it did. -/
def validsSpec : ChangeSpec := { name := "valids", fn := fun _ => fun
  | [d] => { results := [.lit (.bool true)], args := [d] }
  | _ => none }
def validsRow : OpenClaim := { program := "ytdgmoiflahoihaa", sum := "8230a3b0876e38fc76098a9570ba079e51eae0736a043a5c7212d657652e040e", func := "tariff/tarifflaw.Valids", spec := "valids", apart := false }
def ValidsSaid : Prop := validsRow.holds Try.pinned (OpenSpec.ofChange validsSpec)

/-- ITS FALSE NEIGHBOUR: 'it returns false'. Refute it at one input. -/
def validsWrong : ChangeSpec := { name := "valids", fn := fun _ => fun
  | [d] => { results := [.lit (.bool false)], args := [d] }
  | _ => none }
def ValidsWrongFalsely : Prop := validsRow.holds Try.pinned (OpenSpec.ofChange validsWrong)

/-- 'tarifflaw.Execs': WHATEVER THE INPUT: true; the input reads as it did. -/
def execsSpec : ChangeSpec := { name := "execs", fn := fun _ => fun
  | [d1, d2] => { results := [.lit (.bool true)], args := [d1, d2] }
  | _ => none }
def execsRow : OpenClaim := { program := "ytdgmoiflahoihaa", sum := "8230a3b0876e38fc76098a9570ba079e51eae0736a043a5c7212d657652e040e", func := "tariff/tarifflaw.Execs", spec := "execs", apart := false }
def ExecsSaid : Prop := execsRow.holds Try.pinned (OpenSpec.ofChange execsSpec)

/-- ITS FALSE NEIGHBOUR: 'it returns false'. Refute it at one input. -/
def execsWrong : ChangeSpec := { name := "execs", fn := fun _ => fun
  | [d1, d2] => { results := [.lit (.bool false)], args := [d1, d2] }
  | _ => none }
def ExecsWrongFalsely : Prop := execsRow.holds Try.pinned (OpenSpec.ofChange execsWrong)

/-- 'tarifflaw.Reads': WHATEVER THE INPUT: true; the input reads as it did. -/
def readsSpec : ChangeSpec := { name := "reads", fn := fun _ => fun
  | [d] => { results := [.lit (.bool true)], args := [d] }
  | _ => none }
def readsRow : OpenClaim := { program := "ytdgmoiflahoihaa", sum := "8230a3b0876e38fc76098a9570ba079e51eae0736a043a5c7212d657652e040e", func := "tariff/tarifflaw.Reads", spec := "reads", apart := false }
def ReadsSaid : Prop := readsRow.holds Try.pinned (OpenSpec.ofChange readsSpec)

/-- ITS FALSE NEIGHBOUR: 'it returns false'. Refute it at one input. -/
def readsWrong : ChangeSpec := { name := "reads", fn := fun _ => fun
  | [d] => { results := [.lit (.bool false)], args := [d] }
  | _ => none }
def ReadsWrongFalsely : Prop := readsRow.holds Try.pinned (OpenSpec.ofChange readsWrong)

/-- 'tariffkeep.Wide': WHATEVER THE INPUT: true; the input reads as it did. -/
def wideSpec : ChangeSpec := { name := "wide", fn := fun _ => fun
  | [d1, d2] => { results := [.lit (.bool true)], args := [d1, d2] }
  | _ => none }
def wideRow : OpenClaim := { program := "ytdgmoiflahoihaa", sum := "8230a3b0876e38fc76098a9570ba079e51eae0736a043a5c7212d657652e040e", func := "tariff/tariffkeep.Wide", spec := "wide", recurses := true, apart := false }
def WideSaid : Prop := wideRow.holds Try.pinned (OpenSpec.ofChange wideSpec)

/-- ITS FALSE NEIGHBOUR: 'it returns false'. Refute it at one input. -/
def wideWrong : ChangeSpec := { name := "wide", fn := fun _ => fun
  | [d1, d2] => { results := [.lit (.bool false)], args := [d1, d2] }
  | _ => none }
def WideWrongFalsely : Prop := wideRow.holds Try.pinned (OpenSpec.ofChange wideWrong)

/- THE SECOND FORM. 'bulk': how many values and letters a reading holds, each counted each time it is reached (what is shared counts as often as it is met; a slice's spare places count too). A statement '..UptoSaid' is the law's where the arguments, and the package variables that the reading takes, are together of bulk at most 1048576: NARROWER than '..Said'. Prove '..Said' where nothing that the law and all that it calls make is longer than what came in: it says more and counts as full. Else prove '..UptoSaid'. A law counts once. -/
mutual
def uptoBulk {H : Type} : DataW H → Nat
  | .lit (.string bytes) => bytes.length + 1
  | .lit _ => 1
  | .nil => 1
  | .ptr d => uptoBulk d + 1
  | .slice elems spare => uptoBulkAll elems + uptoBulkAll spare + 1
  | .agg parts => uptoBulkAll parts + 1
  | .iface _ d => uptoBulk d + 1
  | .map entries => uptoBulkEntries entries + 1
  | .held _ => 1
def uptoBulkAll {H : Type} : List (DataW H) → Nat
  | [] => 0
  | d :: r => uptoBulk d + uptoBulkAll r
def uptoBulkEntries {H : Type} : List (Lit × DataW H) → Nat
  | [] => 0
  | x :: r => uptoBulkEntry x + uptoBulkEntries r
def uptoBulkEntry {H : Type} : Lit × DataW H → Nat
  | (.string bytes, d) => bytes.length + uptoBulk d + 1
  | (_, d) => uptoBulk d + 1
 end
def uptoSmall : (H : Type) → List (DataW H) → Bool := fun _ ds => decide (uptoBulkAll ds ≤ 1048576)
def OpenSpec.upto (s : _root_.Go.ChangeSpec) : _root_.Go.OpenSpec := { _root_.Go.OpenSpec.ofChange s with cond := some uptoSmall }

/-- 'tarifflaw.Checks', WHERE WHAT IT READS IS OF BULK AT MOST 1048576: true; the input reads as it did. -/
def checksUptoRow : OpenClaim := { program := "ytdgmoiflahoihaa", sum := "8230a3b0876e38fc76098a9570ba079e51eae0736a043a5c7212d657652e040e", func := "tariff/tarifflaw.Checks", spec := "checks", recurses := true, apart := false, narrowed := true }
def ChecksUptoSaid : Prop := checksUptoRow.holds Try.pinned (OpenSpec.upto checksSpec)

/-- 'tarifflaw.Inferred', WHERE WHAT IT READS IS OF BULK AT MOST 1048576: true; the input reads as it did. -/
def inferredUptoRow : OpenClaim := { program := "ytdgmoiflahoihaa", sum := "8230a3b0876e38fc76098a9570ba079e51eae0736a043a5c7212d657652e040e", func := "tariff/tarifflaw.Inferred", spec := "inferred", recurses := true, apart := false, narrowed := true }
def InferredUptoSaid : Prop := inferredUptoRow.holds Try.pinned (OpenSpec.upto inferredSpec)

/-- 'tarifflaw.Valids', WHERE WHAT IT READS IS OF BULK AT MOST 1048576: true; the input reads as it did. -/
def validsUptoRow : OpenClaim := { program := "ytdgmoiflahoihaa", sum := "8230a3b0876e38fc76098a9570ba079e51eae0736a043a5c7212d657652e040e", func := "tariff/tarifflaw.Valids", spec := "valids", apart := false, narrowed := true }
def ValidsUptoSaid : Prop := validsUptoRow.holds Try.pinned (OpenSpec.upto validsSpec)

/-- 'tarifflaw.Execs', WHERE WHAT IT READS IS OF BULK AT MOST 1048576: true; the input reads as it did. -/
def execsUptoRow : OpenClaim := { program := "ytdgmoiflahoihaa", sum := "8230a3b0876e38fc76098a9570ba079e51eae0736a043a5c7212d657652e040e", func := "tariff/tarifflaw.Execs", spec := "execs", apart := false, narrowed := true }
def ExecsUptoSaid : Prop := execsUptoRow.holds Try.pinned (OpenSpec.upto execsSpec)

/-- 'tarifflaw.Reads', WHERE WHAT IT READS IS OF BULK AT MOST 1048576: true; the input reads as it did. -/
def readsUptoRow : OpenClaim := { program := "ytdgmoiflahoihaa", sum := "8230a3b0876e38fc76098a9570ba079e51eae0736a043a5c7212d657652e040e", func := "tariff/tarifflaw.Reads", spec := "reads", apart := false, narrowed := true }
def ReadsUptoSaid : Prop := readsUptoRow.holds Try.pinned (OpenSpec.upto readsSpec)

/-- 'tariffkeep.Wide', WHERE WHAT IT READS IS OF BULK AT MOST 1048576: true; the input reads as it did. -/
def wideUptoRow : OpenClaim := { program := "ytdgmoiflahoihaa", sum := "8230a3b0876e38fc76098a9570ba079e51eae0736a043a5c7212d657652e040e", func := "tariff/tariffkeep.Wide", spec := "wide", recurses := true, apart := false, narrowed := true }
def WideUptoSaid : Prop := wideUptoRow.holds Try.pinned (OpenSpec.upto wideSpec)

end Rows
end Go.Proofs.Ytdgmoiflahoihaa
