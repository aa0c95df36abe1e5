/-
  No cell of these rows narrows 'for every input' (looked for: loops, veiled, ifaces, maps, wideKeys, modest, calm, conditions, laid).
  DERIVED. THE GIVEN ROWS OF THIS SEAT. 5 by the template 'for every input the law returns true; each argument reads behind the call as it read before'; 0 by the template 'total and deterministic' (their statements: YtjidbonhhpkljaaGreatTotals.lean).
  GIVEN WITH THE SEED: the statements are not yours to turn. If you find one false, say at which input.
  Laid BY PROGRAM, IN A SANDBOX (cutbox-rows.mjs): the forced cells as the released guide's own fill.sh prints them over the translation 1fd099b41f82dc09… (all of the seat's roots in one cut). By AI agents, Wed Nov 11 2026. No macro, syntax, notation, axiom, sorry.
-/
import Derived.Test.YtjidbonhhpkljaaGreatChecked
import GoSem.Claim
import GoSem.ClaimJoined
import GoSem.ClaimMapViews
import Derived.JoinedTies
import Derived.KernelRfl
namespace Go.Proofs.YtjidbonhhpkljaaGreat
/- THE CELL 'sum', in the pinned program and in every row, IS THE sha256 OF THE DUMP (.gsa) THAT YtjidbonhhpkljaaGreatProg.lean LOADS. Nothing in Lean hashes anything: it is a label: what it is worth is what the hold of that sum in a sandbox is worth. -/
noncomputable def Tryz.pinned : Pinned := { name := "ytjidbonhhpkljaagreat", sum := "1fd099b41f82dc09b3dd245cdb4e3fb32437152ee2b06ef23ba992d7cb1d7658", checked := Tryz.checked }
namespace Rows
def none {H : Type} : Left H := { results := [], args := [] }

/-- 'stratalaw.Scans': WHATEVER THE INPUT: true; the input reads as it did. -/
def scansSpec : ChangeSpec := { name := "scans", fn := fun _ => fun
  | [d1, d2, d3, d4] => { results := [.lit (.bool true)], args := [d1, d2, d3, d4] }
  | _ => none }
def scansRow : OpenClaim := { program := "ytjidbonhhpkljaagreat", sum := "1fd099b41f82dc09b3dd245cdb4e3fb32437152ee2b06ef23ba992d7cb1d7658", func := "strata/stratalaw.Scans", spec := "scans", inPlace := ["internal/bytealg.abigen_runtime_cmpstring"], unfollowed := true, recurses := true, plainKeys := false, leaving := true, apart := false }
def ScansSaid : Prop := scansRow.holds Tryz.pinned (OpenSpec.ofChange scansSpec)

/-- ITS FALSE NEIGHBOUR: 'it returns false'. Refute it at one input. -/
def scansWrong : ChangeSpec := { name := "scans", fn := fun _ => fun
  | [d1, d2, d3, d4] => { results := [.lit (.bool false)], args := [d1, d2, d3, d4] }
  | _ => none }
def ScansWrongFalsely : Prop := scansRow.holds Tryz.pinned (OpenSpec.ofChange scansWrong)

/-- 'stratalaw.Kept': WHATEVER THE INPUT: true; the input reads as it did. -/
def keptSpec : ChangeSpec := { name := "kept", fn := fun _ => fun
  | [d1, d2, d3, d4, d5, d6, d7] => { results := [.lit (.bool true)], args := [d1, d2, d3, d4, d5, d6, d7] }
  | _ => none }
def keptRow : OpenClaim := { program := "ytjidbonhhpkljaagreat", sum := "1fd099b41f82dc09b3dd245cdb4e3fb32437152ee2b06ef23ba992d7cb1d7658", func := "strata/stratalaw.Kept", spec := "kept", inPlace := ["internal/bytealg.abigen_runtime_cmpstring"], unfollowed := true, recurses := true, plainKeys := false, leaving := true, apart := false }
def KeptSaid : Prop := keptRow.holds Tryz.pinned (OpenSpec.ofChange keptSpec)

/-- ITS FALSE NEIGHBOUR: 'it returns false'. Refute it at one input. -/
def keptWrong : ChangeSpec := { name := "kept", fn := fun _ => fun
  | [d1, d2, d3, d4, d5, d6, d7] => { results := [.lit (.bool false)], args := [d1, d2, d3, d4, d5, d6, d7] }
  | _ => none }
def KeptWrongFalsely : Prop := keptRow.holds Tryz.pinned (OpenSpec.ofChange keptWrong)

/-- 'stratalaw.Typed': WHATEVER THE INPUT: true; the input reads as it did. -/
def typedSpec : ChangeSpec := { name := "typed", fn := fun _ => fun
  | [d1, d2, d3, d4] => { results := [.lit (.bool true)], args := [d1, d2, d3, d4] }
  | _ => none }
def typedRow : OpenClaim := { program := "ytjidbonhhpkljaagreat", sum := "1fd099b41f82dc09b3dd245cdb4e3fb32437152ee2b06ef23ba992d7cb1d7658", func := "strata/stratalaw.Typed", spec := "typed", inPlace := ["internal/bytealg.abigen_runtime_cmpstring"], unfollowed := true, recurses := true, plainKeys := false, leaving := true, apart := false }
def TypedSaid : Prop := typedRow.holds Tryz.pinned (OpenSpec.ofChange typedSpec)

/-- ITS FALSE NEIGHBOUR: 'it returns false'. Refute it at one input. -/
def typedWrong : ChangeSpec := { name := "typed", fn := fun _ => fun
  | [d1, d2, d3, d4] => { results := [.lit (.bool false)], args := [d1, d2, d3, d4] }
  | _ => none }
def TypedWrongFalsely : Prop := typedRow.holds Tryz.pinned (OpenSpec.ofChange typedWrong)

/-- 'stratalaw.Fewer': WHATEVER THE INPUT: true; the input reads as it did. -/
def fewerSpec : ChangeSpec := { name := "fewer", fn := fun _ => fun
  | [d1, d2, d3] => { results := [.lit (.bool true)], args := [d1, d2, d3] }
  | _ => none }
def fewerRow : OpenClaim := { program := "ytjidbonhhpkljaagreat", sum := "1fd099b41f82dc09b3dd245cdb4e3fb32437152ee2b06ef23ba992d7cb1d7658", func := "strata/stratalaw.Fewer", spec := "fewer", inPlace := ["internal/bytealg.abigen_runtime_cmpstring"], unfollowed := true, recurses := true, plainKeys := false, leaving := true, apart := false }
def FewerSaid : Prop := fewerRow.holds Tryz.pinned (OpenSpec.ofChange fewerSpec)

/-- ITS FALSE NEIGHBOUR: 'it returns false'. Refute it at one input. -/
def fewerWrong : ChangeSpec := { name := "fewer", fn := fun _ => fun
  | [d1, d2, d3] => { results := [.lit (.bool false)], args := [d1, d2, d3] }
  | _ => none }
def FewerWrongFalsely : Prop := fewerRow.holds Tryz.pinned (OpenSpec.ofChange fewerWrong)

/-- 'stratalaw.Cursors': WHATEVER THE INPUT: true; the input reads as it did. -/
def cursorsSpec : ChangeSpec := { name := "cursors", fn := fun _ => fun
  | [d1, d2, d3, d4, d5] => { results := [.lit (.bool true)], args := [d1, d2, d3, d4, d5] }
  | _ => none }
def cursorsRow : OpenClaim := { program := "ytjidbonhhpkljaagreat", sum := "1fd099b41f82dc09b3dd245cdb4e3fb32437152ee2b06ef23ba992d7cb1d7658", func := "strata/stratalaw.Cursors", spec := "cursors", inPlace := ["internal/bytealg.abigen_runtime_cmpstring"], unfollowed := true, recurses := true, plainKeys := false, leaving := true, apart := false }
def CursorsSaid : Prop := cursorsRow.holds Tryz.pinned (OpenSpec.ofChange cursorsSpec)

/-- ITS FALSE NEIGHBOUR: 'it returns false'. Refute it at one input. -/
def cursorsWrong : ChangeSpec := { name := "cursors", fn := fun _ => fun
  | [d1, d2, d3, d4, d5] => { results := [.lit (.bool false)], args := [d1, d2, d3, d4, d5] }
  | _ => none }
def CursorsWrongFalsely : Prop := cursorsRow.holds Tryz.pinned (OpenSpec.ofChange cursorsWrong)

/- THE SECOND FORM. 'bulk': how many values and letters a reading holds, each counted each time it is reached (what is shared counts as often as it is met; a slice's spare places count too). A statement '..UptoSaid' is the law's where the arguments, and the package variables that the reading takes, are together of bulk at most 1048576: NARROWER than '..Said'. Prove '..Said' where nothing that the law and all that it calls make is longer than what came in: it says more and counts as full. Else prove '..UptoSaid'. A law counts once. -/
mutual
def uptoBulk {H : Type} : DataW H → Nat
  | .lit (.string bytes) => bytes.length + 1
  | .lit _ => 1
  | .nil => 1
  | .ptr d => uptoBulk d + 1
  | .slice elems spare => uptoBulkAll elems + uptoBulkAll spare + 1
  | .agg parts => uptoBulkAll parts + 1
  | .iface _ d => uptoBulk d + 1
  | .map entries => uptoBulkEntries entries + 1
  | .held _ => 1
def uptoBulkAll {H : Type} : List (DataW H) → Nat
  | [] => 0
  | d :: r => uptoBulk d + uptoBulkAll r
def uptoBulkEntries {H : Type} : List (Lit × DataW H) → Nat
  | [] => 0
  | x :: r => uptoBulkEntry x + uptoBulkEntries r
def uptoBulkEntry {H : Type} : Lit × DataW H → Nat
  | (.string bytes, d) => bytes.length + uptoBulk d + 1
  | (_, d) => uptoBulk d + 1
 end
def uptoSmall : (H : Type) → List (DataW H) → Bool := fun _ ds => decide (uptoBulkAll ds ≤ 1048576)
def OpenSpec.upto (s : _root_.Go.ChangeSpec) : _root_.Go.OpenSpec := { _root_.Go.OpenSpec.ofChange s with cond := some uptoSmall }

/-- 'stratalaw.Scans', WHERE WHAT IT READS IS OF BULK AT MOST 1048576: true; the input reads as it did. -/
def scansUptoRow : OpenClaim := { program := "ytjidbonhhpkljaagreat", sum := "1fd099b41f82dc09b3dd245cdb4e3fb32437152ee2b06ef23ba992d7cb1d7658", func := "strata/stratalaw.Scans", spec := "scans", inPlace := ["internal/bytealg.abigen_runtime_cmpstring"], unfollowed := true, recurses := true, plainKeys := false, leaving := true, apart := false, narrowed := true }
def ScansUptoSaid : Prop := scansUptoRow.holds Tryz.pinned (OpenSpec.upto scansSpec)

/-- 'stratalaw.Kept', WHERE WHAT IT READS IS OF BULK AT MOST 1048576: true; the input reads as it did. -/
def keptUptoRow : OpenClaim := { program := "ytjidbonhhpkljaagreat", sum := "1fd099b41f82dc09b3dd245cdb4e3fb32437152ee2b06ef23ba992d7cb1d7658", func := "strata/stratalaw.Kept", spec := "kept", inPlace := ["internal/bytealg.abigen_runtime_cmpstring"], unfollowed := true, recurses := true, plainKeys := false, leaving := true, apart := false, narrowed := true }
def KeptUptoSaid : Prop := keptUptoRow.holds Tryz.pinned (OpenSpec.upto keptSpec)

/-- 'stratalaw.Typed', WHERE WHAT IT READS IS OF BULK AT MOST 1048576: true; the input reads as it did. -/
def typedUptoRow : OpenClaim := { program := "ytjidbonhhpkljaagreat", sum := "1fd099b41f82dc09b3dd245cdb4e3fb32437152ee2b06ef23ba992d7cb1d7658", func := "strata/stratalaw.Typed", spec := "typed", inPlace := ["internal/bytealg.abigen_runtime_cmpstring"], unfollowed := true, recurses := true, plainKeys := false, leaving := true, apart := false, narrowed := true }
def TypedUptoSaid : Prop := typedUptoRow.holds Tryz.pinned (OpenSpec.upto typedSpec)

/-- 'stratalaw.Fewer', WHERE WHAT IT READS IS OF BULK AT MOST 1048576: true; the input reads as it did. -/
def fewerUptoRow : OpenClaim := { program := "ytjidbonhhpkljaagreat", sum := "1fd099b41f82dc09b3dd245cdb4e3fb32437152ee2b06ef23ba992d7cb1d7658", func := "strata/stratalaw.Fewer", spec := "fewer", inPlace := ["internal/bytealg.abigen_runtime_cmpstring"], unfollowed := true, recurses := true, plainKeys := false, leaving := true, apart := false, narrowed := true }
def FewerUptoSaid : Prop := fewerUptoRow.holds Tryz.pinned (OpenSpec.upto fewerSpec)

/-- 'stratalaw.Cursors', WHERE WHAT IT READS IS OF BULK AT MOST 1048576: true; the input reads as it did. -/
def cursorsUptoRow : OpenClaim := { program := "ytjidbonhhpkljaagreat", sum := "1fd099b41f82dc09b3dd245cdb4e3fb32437152ee2b06ef23ba992d7cb1d7658", func := "strata/stratalaw.Cursors", spec := "cursors", inPlace := ["internal/bytealg.abigen_runtime_cmpstring"], unfollowed := true, recurses := true, plainKeys := false, leaving := true, apart := false, narrowed := true }
def CursorsUptoSaid : Prop := cursorsUptoRow.holds Tryz.pinned (OpenSpec.upto cursorsSpec)

end Rows
end Go.Proofs.YtjidbonhhpkljaaGreat
