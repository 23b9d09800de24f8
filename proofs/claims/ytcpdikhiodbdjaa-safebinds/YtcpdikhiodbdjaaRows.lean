/-
  No cell of these rows narrows 'for every input' (looked for: loops, veiled, ifaces, maps, wideKeys, modest, calm, conditions, laid).
  DERIVED. THE GIVEN ROWS OF THIS SEAT. 6 by the template 'for every input the law returns true; each argument reads behind the call as it read before'; 0 by the template 'total and deterministic' (their statements: YtcpdikhiodbdjaaTotals.lean).
  GIVEN WITH THE SEED: the statements are not yours to turn. If you find one false, say at which input.
  Laid BY PROGRAM, IN A SANDBOX (cutbox-rows.mjs): the forced cells as the released guide's own fill.sh prints them over the translation c36abe837740d3a0… (all of the seat's roots in one cut). By AI agents, Wed Nov 11 2026. No macro, syntax, notation, axiom, sorry.
-/
import Derived.Test.YtcpdikhiodbdjaaChecked
import GoSem.Claim
import GoSem.ClaimJoined
import GoSem.ClaimMapViews
import Derived.JoinedTies
import Derived.KernelRfl
namespace Go.Proofs.Ytcpdikhiodbdjaa
/- THE CELL 'sum', in the pinned program and in every row, IS THE sha256 OF THE DUMP (.gsa) THAT YtcpdikhiodbdjaaProg.lean LOADS. Nothing in Lean hashes anything: it is a label: what it is worth is what the hold of that sum in a sandbox is worth. -/
noncomputable def Try.pinned : Pinned := { name := "ytcpdikhiodbdjaa", sum := "c36abe837740d3a03da6c998ea71fdf25fc2a86e70631dea4bd1f895e1d797fb", checked := Try.checked }
namespace Rows
def none {H : Type} : Left H := { results := [], args := [] }

/-- 'lambrequinlaw09.SafeTells': WHATEVER THE INPUT: true; the input reads as it did. -/
def safeTellsSpec : ChangeSpec := { name := "safeTells", fn := fun _ => fun
  | [d1, d2] => { results := [.lit (.bool true)], args := [d1, d2] }
  | _ => none }
def safeTellsRow : OpenClaim := { program := "ytcpdikhiodbdjaa", sum := "c36abe837740d3a03da6c998ea71fdf25fc2a86e70631dea4bd1f895e1d797fb", func := "lambrequin/lambrequinlaw09.SafeTells", spec := "safeTells", recurses := true, apart := false }
def SafeTellsSaid : Prop := safeTellsRow.holds Try.pinned (OpenSpec.ofChange safeTellsSpec)

/-- ITS FALSE NEIGHBOUR: 'it returns false'. Refute it at one input. -/
def safeTellsWrong : ChangeSpec := { name := "safeTells", fn := fun _ => fun
  | [d1, d2] => { results := [.lit (.bool false)], args := [d1, d2] }
  | _ => none }
def SafeTellsWrongFalsely : Prop := safeTellsRow.holds Try.pinned (OpenSpec.ofChange safeTellsWrong)

/-- 'lambrequinlaw09.SafeJust': WHATEVER THE INPUT: true; the input reads as it did. -/
def safeJustSpec : ChangeSpec := { name := "safeJust", fn := fun _ => fun
  | [d] => { results := [.lit (.bool true)], args := [d] }
  | _ => none }
def safeJustRow : OpenClaim := { program := "ytcpdikhiodbdjaa", sum := "c36abe837740d3a03da6c998ea71fdf25fc2a86e70631dea4bd1f895e1d797fb", func := "lambrequin/lambrequinlaw09.SafeJust", spec := "safeJust", recurses := true, apart := false }
def SafeJustSaid : Prop := safeJustRow.holds Try.pinned (OpenSpec.ofChange safeJustSpec)

/-- ITS FALSE NEIGHBOUR: 'it returns false'. Refute it at one input. -/
def safeJustWrong : ChangeSpec := { name := "safeJust", fn := fun _ => fun
  | [d] => { results := [.lit (.bool false)], args := [d] }
  | _ => none }
def SafeJustWrongFalsely : Prop := safeJustRow.holds Try.pinned (OpenSpec.ofChange safeJustWrong)

/-- 'lambrequinlaw09.SafeOrder': WHATEVER THE INPUT: true; the input reads as it did. -/
def safeOrderSpec : ChangeSpec := { name := "safeOrder", fn := fun _ => fun
  | [d1, d2] => { results := [.lit (.bool true)], args := [d1, d2] }
  | _ => none }
def safeOrderRow : OpenClaim := { program := "ytcpdikhiodbdjaa", sum := "c36abe837740d3a03da6c998ea71fdf25fc2a86e70631dea4bd1f895e1d797fb", func := "lambrequin/lambrequinlaw09.SafeOrder", spec := "safeOrder", recurses := true, apart := false }
def SafeOrderSaid : Prop := safeOrderRow.holds Try.pinned (OpenSpec.ofChange safeOrderSpec)

/-- ITS FALSE NEIGHBOUR: 'it returns false'. Refute it at one input. -/
def safeOrderWrong : ChangeSpec := { name := "safeOrder", fn := fun _ => fun
  | [d1, d2] => { results := [.lit (.bool false)], args := [d1, d2] }
  | _ => none }
def SafeOrderWrongFalsely : Prop := safeOrderRow.holds Try.pinned (OpenSpec.ofChange safeOrderWrong)

/-- 'lambrequinlaw09.SafeBinds': WHATEVER THE INPUT: true; the input reads as it did. -/
def safeBindsSpec : ChangeSpec := { name := "safeBinds", fn := fun _ => fun
  | [d1, d2] => { results := [.lit (.bool true)], args := [d1, d2] }
  | _ => none }
def safeBindsRow : OpenClaim := { program := "ytcpdikhiodbdjaa", sum := "c36abe837740d3a03da6c998ea71fdf25fc2a86e70631dea4bd1f895e1d797fb", func := "lambrequin/lambrequinlaw09.SafeBinds", spec := "safeBinds", recurses := true, apart := false }
def SafeBindsSaid : Prop := safeBindsRow.holds Try.pinned (OpenSpec.ofChange safeBindsSpec)

/-- ITS FALSE NEIGHBOUR: 'it returns false'. Refute it at one input. -/
def safeBindsWrong : ChangeSpec := { name := "safeBinds", fn := fun _ => fun
  | [d1, d2] => { results := [.lit (.bool false)], args := [d1, d2] }
  | _ => none }
def SafeBindsWrongFalsely : Prop := safeBindsRow.holds Try.pinned (OpenSpec.ofChange safeBindsWrong)

/-- 'lambrequinlaw09.SafeVars': WHATEVER THE INPUT: true; the input reads as it did. -/
def safeVarsSpec : ChangeSpec := { name := "safeVars", fn := fun _ => fun
  | [d] => { results := [.lit (.bool true)], args := [d] }
  | _ => none }
def safeVarsRow : OpenClaim := { program := "ytcpdikhiodbdjaa", sum := "c36abe837740d3a03da6c998ea71fdf25fc2a86e70631dea4bd1f895e1d797fb", func := "lambrequin/lambrequinlaw09.SafeVars", spec := "safeVars", recurses := true, apart := false }
def SafeVarsSaid : Prop := safeVarsRow.holds Try.pinned (OpenSpec.ofChange safeVarsSpec)

/-- ITS FALSE NEIGHBOUR: 'it returns false'. Refute it at one input. -/
def safeVarsWrong : ChangeSpec := { name := "safeVars", fn := fun _ => fun
  | [d] => { results := [.lit (.bool false)], args := [d] }
  | _ => none }
def SafeVarsWrongFalsely : Prop := safeVarsRow.holds Try.pinned (OpenSpec.ofChange safeVarsWrong)

/-- 'lambrequinlaw09.SafeDrops': WHATEVER THE INPUT: true; the input reads as it did. -/
def safeDropsSpec : ChangeSpec := { name := "safeDrops", fn := fun _ => fun
  | [d1, d2] => { results := [.lit (.bool true)], args := [d1, d2] }
  | _ => none }
def safeDropsRow : OpenClaim := { program := "ytcpdikhiodbdjaa", sum := "c36abe837740d3a03da6c998ea71fdf25fc2a86e70631dea4bd1f895e1d797fb", func := "lambrequin/lambrequinlaw09.SafeDrops", spec := "safeDrops", recurses := true, apart := false }
def SafeDropsSaid : Prop := safeDropsRow.holds Try.pinned (OpenSpec.ofChange safeDropsSpec)

/-- ITS FALSE NEIGHBOUR: 'it returns false'. Refute it at one input. -/
def safeDropsWrong : ChangeSpec := { name := "safeDrops", fn := fun _ => fun
  | [d1, d2] => { results := [.lit (.bool false)], args := [d1, d2] }
  | _ => none }
def SafeDropsWrongFalsely : Prop := safeDropsRow.holds Try.pinned (OpenSpec.ofChange safeDropsWrong)

/- THE SECOND FORM. 'bulk': how many values and letters a reading holds, each counted each time it is reached (what is shared counts as often as it is met; a slice's spare places count too). A statement '..UptoSaid' is the law's where the arguments, and the package variables that the reading takes, are together of bulk at most 1048576: NARROWER than '..Said'. Prove '..Said' where nothing that the law and all that it calls make is longer than what came in: it says more and counts as full. Else prove '..UptoSaid'. A law counts once. -/
mutual
def uptoBulk {H : Type} : DataW H → Nat
  | .lit (.string bytes) => bytes.length + 1
  | .lit _ => 1
  | .nil => 1
  | .ptr d => uptoBulk d + 1
  | .slice elems spare => uptoBulkAll elems + uptoBulkAll spare + 1
  | .agg parts => uptoBulkAll parts + 1
  | .iface _ d => uptoBulk d + 1
  | .map entries => uptoBulkEntries entries + 1
  | .held _ => 1
def uptoBulkAll {H : Type} : List (DataW H) → Nat
  | [] => 0
  | d :: r => uptoBulk d + uptoBulkAll r
def uptoBulkEntries {H : Type} : List (Lit × DataW H) → Nat
  | [] => 0
  | x :: r => uptoBulkEntry x + uptoBulkEntries r
def uptoBulkEntry {H : Type} : Lit × DataW H → Nat
  | (.string bytes, d) => bytes.length + uptoBulk d + 1
  | (_, d) => uptoBulk d + 1
 end
def uptoSmall : (H : Type) → List (DataW H) → Bool := fun _ ds => decide (uptoBulkAll ds ≤ 1048576)
def OpenSpec.upto (s : _root_.Go.ChangeSpec) : _root_.Go.OpenSpec := { _root_.Go.OpenSpec.ofChange s with cond := some uptoSmall }

/-- 'lambrequinlaw09.SafeTells', WHERE WHAT IT READS IS OF BULK AT MOST 1048576: true; the input reads as it did. -/
def safeTellsUptoRow : OpenClaim := { program := "ytcpdikhiodbdjaa", sum := "c36abe837740d3a03da6c998ea71fdf25fc2a86e70631dea4bd1f895e1d797fb", func := "lambrequin/lambrequinlaw09.SafeTells", spec := "safeTells", recurses := true, apart := false, narrowed := true }
def SafeTellsUptoSaid : Prop := safeTellsUptoRow.holds Try.pinned (OpenSpec.upto safeTellsSpec)

/-- 'lambrequinlaw09.SafeJust', WHERE WHAT IT READS IS OF BULK AT MOST 1048576: true; the input reads as it did. -/
def safeJustUptoRow : OpenClaim := { program := "ytcpdikhiodbdjaa", sum := "c36abe837740d3a03da6c998ea71fdf25fc2a86e70631dea4bd1f895e1d797fb", func := "lambrequin/lambrequinlaw09.SafeJust", spec := "safeJust", recurses := true, apart := false, narrowed := true }
def SafeJustUptoSaid : Prop := safeJustUptoRow.holds Try.pinned (OpenSpec.upto safeJustSpec)

/-- 'lambrequinlaw09.SafeOrder', WHERE WHAT IT READS IS OF BULK AT MOST 1048576: true; the input reads as it did. -/
def safeOrderUptoRow : OpenClaim := { program := "ytcpdikhiodbdjaa", sum := "c36abe837740d3a03da6c998ea71fdf25fc2a86e70631dea4bd1f895e1d797fb", func := "lambrequin/lambrequinlaw09.SafeOrder", spec := "safeOrder", recurses := true, apart := false, narrowed := true }
def SafeOrderUptoSaid : Prop := safeOrderUptoRow.holds Try.pinned (OpenSpec.upto safeOrderSpec)

/-- 'lambrequinlaw09.SafeBinds', WHERE WHAT IT READS IS OF BULK AT MOST 1048576: true; the input reads as it did. -/
def safeBindsUptoRow : OpenClaim := { program := "ytcpdikhiodbdjaa", sum := "c36abe837740d3a03da6c998ea71fdf25fc2a86e70631dea4bd1f895e1d797fb", func := "lambrequin/lambrequinlaw09.SafeBinds", spec := "safeBinds", recurses := true, apart := false, narrowed := true }
def SafeBindsUptoSaid : Prop := safeBindsUptoRow.holds Try.pinned (OpenSpec.upto safeBindsSpec)

/-- 'lambrequinlaw09.SafeVars', WHERE WHAT IT READS IS OF BULK AT MOST 1048576: true; the input reads as it did. -/
def safeVarsUptoRow : OpenClaim := { program := "ytcpdikhiodbdjaa", sum := "c36abe837740d3a03da6c998ea71fdf25fc2a86e70631dea4bd1f895e1d797fb", func := "lambrequin/lambrequinlaw09.SafeVars", spec := "safeVars", recurses := true, apart := false, narrowed := true }
def SafeVarsUptoSaid : Prop := safeVarsUptoRow.holds Try.pinned (OpenSpec.upto safeVarsSpec)

/-- 'lambrequinlaw09.SafeDrops', WHERE WHAT IT READS IS OF BULK AT MOST 1048576: true; the input reads as it did. -/
def safeDropsUptoRow : OpenClaim := { program := "ytcpdikhiodbdjaa", sum := "c36abe837740d3a03da6c998ea71fdf25fc2a86e70631dea4bd1f895e1d797fb", func := "lambrequin/lambrequinlaw09.SafeDrops", spec := "safeDrops", recurses := true, apart := false, narrowed := true }
def SafeDropsUptoSaid : Prop := safeDropsUptoRow.holds Try.pinned (OpenSpec.upto safeDropsSpec)

end Rows
end Go.Proofs.Ytcpdikhiodbdjaa
