/-
  No cell of these rows narrows 'for every input' (looked for: loops, veiled, ifaces, maps, wideKeys, modest, calm, conditions, laid).
  DERIVED. THE GIVEN ROWS OF THIS SEAT. 3 by the template 'for every input the law returns true; each argument reads behind the call as it read before'; 0 by the template 'total and deterministic' (their statements: YtjeeghafachebaaGreatTotals.lean).
  GIVEN WITH THE SEED: the statements are not yours to turn. If you find one false, say at which input.
  Laid BY PROGRAM, IN A SANDBOX (cutbox-rows.mjs): the forced cells as the released guide's own fill.sh prints them over the translation 232ec9113af749d7… (all of the seat's roots in one cut). By AI agents, Wed Nov 11 2026. No macro, syntax, notation, axiom, sorry.
-/
import Derived.Test.YtjeeghafachebaaGreatChecked
import GoSem.Claim
import GoSem.ClaimJoined
import GoSem.ClaimMapViews
import Derived.JoinedTies
import Derived.KernelRfl
namespace Go.Proofs.YtjeeghafachebaaGreat
/- THE CELL 'sum', in the pinned program and in every row, IS THE sha256 OF THE DUMP (.gsa) THAT YtjeeghafachebaaGreatProg.lean LOADS. Nothing in Lean hashes anything: it is a label: what it is worth is what the hold of that sum in a sandbox is worth. -/
noncomputable def Tryz.pinned : Pinned := { name := "ytjeeghafachebaagreat", sum := "232ec9113af749d7f4d9f3ce4e52009265c9153e12e4eaddec46ca22fe676102", checked := Tryz.checked }
namespace Rows
def none {H : Type} : Left H := { results := [], args := [] }

/-- 'waterclocklaw10.OperRuns': WHATEVER THE INPUT: true; the input reads as it did. -/
def operRunsSpec : ChangeSpec := { name := "operRuns", fn := fun _ => fun
  | [d1, d2] => { results := [.lit (.bool true)], args := [d1, d2] }
  | _ => none }
def operRunsRow : OpenClaim := { program := "ytjeeghafachebaagreat", sum := "232ec9113af749d7f4d9f3ce4e52009265c9153e12e4eaddec46ca22fe676102", func := "waterclock/waterclocklaw10.OperRuns", spec := "operRuns", inPlace := ["math.archTrunc", "math.Float64bits", "math.Float64frombits", "slices.overlaps[waterclock/api.Window]", "slices.overlaps[waterclock/api.Pane]"], unfollowed := true, recurses := true, apart := false }
def OperRunsSaid : Prop := operRunsRow.holds Tryz.pinned (OpenSpec.ofChange operRunsSpec)

/-- ITS FALSE NEIGHBOUR: 'it returns false'. Refute it at one input. -/
def operRunsWrong : ChangeSpec := { name := "operRuns", fn := fun _ => fun
  | [d1, d2] => { results := [.lit (.bool false)], args := [d1, d2] }
  | _ => none }
def OperRunsWrongFalsely : Prop := operRunsRow.holds Tryz.pinned (OpenSpec.ofChange operRunsWrong)

/-- 'waterclocklaw10.OperHolds': WHATEVER THE INPUT: true; the input reads as it did. -/
def operHoldsSpec : ChangeSpec := { name := "operHolds", fn := fun _ => fun
  | [d1, d2] => { results := [.lit (.bool true)], args := [d1, d2] }
  | _ => none }
def operHoldsRow : OpenClaim := { program := "ytjeeghafachebaagreat", sum := "232ec9113af749d7f4d9f3ce4e52009265c9153e12e4eaddec46ca22fe676102", func := "waterclock/waterclocklaw10.OperHolds", spec := "operHolds", inPlace := ["math.archTrunc", "math.Float64bits", "math.Float64frombits", "slices.overlaps[waterclock/api.Window]", "slices.overlaps[waterclock/api.Pane]"], unfollowed := true, recurses := true, apart := false }
def OperHoldsSaid : Prop := operHoldsRow.holds Tryz.pinned (OpenSpec.ofChange operHoldsSpec)

/-- ITS FALSE NEIGHBOUR: 'it returns false'. Refute it at one input. -/
def operHoldsWrong : ChangeSpec := { name := "operHolds", fn := fun _ => fun
  | [d1, d2] => { results := [.lit (.bool false)], args := [d1, d2] }
  | _ => none }
def OperHoldsWrongFalsely : Prop := operHoldsRow.holds Tryz.pinned (OpenSpec.ofChange operHoldsWrong)

/-- 'waterclocklaw10.OperSplit': WHATEVER THE INPUT: true; the input reads as it did. -/
def operSplitSpec : ChangeSpec := { name := "operSplit", fn := fun _ => fun
  | [d1, d2, d3] => { results := [.lit (.bool true)], args := [d1, d2, d3] }
  | _ => none }
def operSplitRow : OpenClaim := { program := "ytjeeghafachebaagreat", sum := "232ec9113af749d7f4d9f3ce4e52009265c9153e12e4eaddec46ca22fe676102", func := "waterclock/waterclocklaw10.OperSplit", spec := "operSplit", inPlace := ["math.archTrunc", "math.Float64bits", "math.Float64frombits", "slices.overlaps[waterclock/api.Window]", "slices.overlaps[waterclock/api.Pane]"], unfollowed := true, recurses := true, apart := false }
def OperSplitSaid : Prop := operSplitRow.holds Tryz.pinned (OpenSpec.ofChange operSplitSpec)

/-- ITS FALSE NEIGHBOUR: 'it returns false'. Refute it at one input. -/
def operSplitWrong : ChangeSpec := { name := "operSplit", fn := fun _ => fun
  | [d1, d2, d3] => { results := [.lit (.bool false)], args := [d1, d2, d3] }
  | _ => none }
def OperSplitWrongFalsely : Prop := operSplitRow.holds Tryz.pinned (OpenSpec.ofChange operSplitWrong)

/- THE SECOND FORM. 'bulk': how many values and letters a reading holds, each counted each time it is reached (what is shared counts as often as it is met; a slice's spare places count too). A statement '..UptoSaid' is the law's where the arguments, and the package variables that the reading takes, are together of bulk at most 1048576: NARROWER than '..Said'. Prove '..Said' where nothing that the law and all that it calls make is longer than what came in: it says more and counts as full. Else prove '..UptoSaid'. A law counts once. -/
mutual
def uptoBulk {H : Type} : DataW H → Nat
  | .lit (.string bytes) => bytes.length + 1
  | .lit _ => 1
  | .nil => 1
  | .ptr d => uptoBulk d + 1
  | .slice elems spare => uptoBulkAll elems + uptoBulkAll spare + 1
  | .agg parts => uptoBulkAll parts + 1
  | .iface _ d => uptoBulk d + 1
  | .map entries => uptoBulkEntries entries + 1
  | .held _ => 1
def uptoBulkAll {H : Type} : List (DataW H) → Nat
  | [] => 0
  | d :: r => uptoBulk d + uptoBulkAll r
def uptoBulkEntries {H : Type} : List (Lit × DataW H) → Nat
  | [] => 0
  | x :: r => uptoBulkEntry x + uptoBulkEntries r
def uptoBulkEntry {H : Type} : Lit × DataW H → Nat
  | (.string bytes, d) => bytes.length + uptoBulk d + 1
  | (_, d) => uptoBulk d + 1
 end
def uptoSmall : (H : Type) → List (DataW H) → Bool := fun _ ds => decide (uptoBulkAll ds ≤ 1048576)
def OpenSpec.upto (s : _root_.Go.ChangeSpec) : _root_.Go.OpenSpec := { _root_.Go.OpenSpec.ofChange s with cond := some uptoSmall }

/-- 'waterclocklaw10.OperRuns', WHERE WHAT IT READS IS OF BULK AT MOST 1048576: true; the input reads as it did. -/
def operRunsUptoRow : OpenClaim := { program := "ytjeeghafachebaagreat", sum := "232ec9113af749d7f4d9f3ce4e52009265c9153e12e4eaddec46ca22fe676102", func := "waterclock/waterclocklaw10.OperRuns", spec := "operRuns", inPlace := ["math.archTrunc", "math.Float64bits", "math.Float64frombits", "slices.overlaps[waterclock/api.Window]", "slices.overlaps[waterclock/api.Pane]"], unfollowed := true, recurses := true, apart := false, narrowed := true }
def OperRunsUptoSaid : Prop := operRunsUptoRow.holds Tryz.pinned (OpenSpec.upto operRunsSpec)

/-- 'waterclocklaw10.OperHolds', WHERE WHAT IT READS IS OF BULK AT MOST 1048576: true; the input reads as it did. -/
def operHoldsUptoRow : OpenClaim := { program := "ytjeeghafachebaagreat", sum := "232ec9113af749d7f4d9f3ce4e52009265c9153e12e4eaddec46ca22fe676102", func := "waterclock/waterclocklaw10.OperHolds", spec := "operHolds", inPlace := ["math.archTrunc", "math.Float64bits", "math.Float64frombits", "slices.overlaps[waterclock/api.Window]", "slices.overlaps[waterclock/api.Pane]"], unfollowed := true, recurses := true, apart := false, narrowed := true }
def OperHoldsUptoSaid : Prop := operHoldsUptoRow.holds Tryz.pinned (OpenSpec.upto operHoldsSpec)

/-- 'waterclocklaw10.OperSplit', WHERE WHAT IT READS IS OF BULK AT MOST 1048576: true; the input reads as it did. -/
def operSplitUptoRow : OpenClaim := { program := "ytjeeghafachebaagreat", sum := "232ec9113af749d7f4d9f3ce4e52009265c9153e12e4eaddec46ca22fe676102", func := "waterclock/waterclocklaw10.OperSplit", spec := "operSplit", inPlace := ["math.archTrunc", "math.Float64bits", "math.Float64frombits", "slices.overlaps[waterclock/api.Window]", "slices.overlaps[waterclock/api.Pane]"], unfollowed := true, recurses := true, apart := false, narrowed := true }
def OperSplitUptoSaid : Prop := operSplitUptoRow.holds Tryz.pinned (OpenSpec.upto operSplitSpec)

end Rows
end Go.Proofs.YtjeeghafachebaaGreat
