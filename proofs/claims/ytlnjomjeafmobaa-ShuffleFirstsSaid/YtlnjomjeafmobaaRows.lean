/-
  No cell of these rows narrows 'for every input' (looked for: loops, veiled, ifaces, maps, wideKeys, modest, calm, conditions, laid).
  DERIVED. THE GIVEN ROWS OF THIS SEAT. 5 by the template 'for every input the law returns true; each argument reads behind the call as it read before'; 0 by the template 'total and deterministic' (their statements: YtlnjomjeafmobaaTotals.lean).
  GIVEN WITH THE SEED: the statements are not yours to turn. If you find one false, say at which input.
  Laid BY PROGRAM, IN A SANDBOX (cutbox-rows.mjs): the forced cells as the released guide's own fill.sh prints them over the translation 7e954bd9dd2c1f5b… (all of the seat's roots in one cut). By AI agents, Wed Nov 11 2026. No macro, syntax, notation, axiom, sorry.
-/
import Derived.Test.YtlnjomjeafmobaaChecked
import GoSem.Claim
import GoSem.ClaimJoined
import GoSem.ClaimMapViews
import Derived.JoinedTies
import Derived.KernelRfl
namespace Go.Proofs.Ytlnjomjeafmobaa
/- THE CELL 'sum', in the pinned program and in every row, IS THE sha256 OF THE DUMP (.gsa) THAT YtlnjomjeafmobaaProg.lean LOADS. Nothing in Lean hashes anything: it is a label: what it is worth is what the hold of that sum in a sandbox is worth. -/
noncomputable def Try.pinned : Pinned := { name := "ytlnjomjeafmobaa", sum := "7e954bd9dd2c1f5b2efe772d9123f47a7597b826d487f3a0291ebd10dbad7c41", checked := Try.checked }
namespace Rows
def none {H : Type} : Left H := { results := [], args := [] }

/-- 'handofflaw02.ShuffleOrders': WHATEVER THE INPUT: true; the input reads as it did. -/
def shuffleOrdersSpec : ChangeSpec := { name := "shuffleOrders", fn := fun _ => fun
  | [d1, d2, d3] => { results := [.lit (.bool true)], args := [d1, d2, d3] }
  | _ => none }
def shuffleOrdersRow : OpenClaim := { program := "ytlnjomjeafmobaa", sum := "7e954bd9dd2c1f5b2efe772d9123f47a7597b826d487f3a0291ebd10dbad7c41", func := "handoff/handofflaw02.ShuffleOrders", spec := "shuffleOrders", recurses := true, apart := false }
def ShuffleOrdersSaid : Prop := shuffleOrdersRow.holds Try.pinned (OpenSpec.ofChange shuffleOrdersSpec)

/-- ITS FALSE NEIGHBOUR: 'it returns false'. Refute it at one input. -/
def shuffleOrdersWrong : ChangeSpec := { name := "shuffleOrders", fn := fun _ => fun
  | [d1, d2, d3] => { results := [.lit (.bool false)], args := [d1, d2, d3] }
  | _ => none }
def ShuffleOrdersWrongFalsely : Prop := shuffleOrdersRow.holds Try.pinned (OpenSpec.ofChange shuffleOrdersWrong)

/-- 'handofflaw02.ShuffleFirsts': WHATEVER THE INPUT: true; the input reads as it did. -/
def shuffleFirstsSpec : ChangeSpec := { name := "shuffleFirsts", fn := fun _ => fun
  | [d1, d2] => { results := [.lit (.bool true)], args := [d1, d2] }
  | _ => none }
def shuffleFirstsRow : OpenClaim := { program := "ytlnjomjeafmobaa", sum := "7e954bd9dd2c1f5b2efe772d9123f47a7597b826d487f3a0291ebd10dbad7c41", func := "handoff/handofflaw02.ShuffleFirsts", spec := "shuffleFirsts", apart := false }
def ShuffleFirstsSaid : Prop := shuffleFirstsRow.holds Try.pinned (OpenSpec.ofChange shuffleFirstsSpec)

/-- ITS FALSE NEIGHBOUR: 'it returns false'. Refute it at one input. -/
def shuffleFirstsWrong : ChangeSpec := { name := "shuffleFirsts", fn := fun _ => fun
  | [d1, d2] => { results := [.lit (.bool false)], args := [d1, d2] }
  | _ => none }
def ShuffleFirstsWrongFalsely : Prop := shuffleFirstsRow.holds Try.pinned (OpenSpec.ofChange shuffleFirstsWrong)

/-- 'handofflaw02.ShuffleBack': WHATEVER THE INPUT: true; the input reads as it did. -/
def shuffleBackSpec : ChangeSpec := { name := "shuffleBack", fn := fun _ => fun
  | [d] => { results := [.lit (.bool true)], args := [d] }
  | _ => none }
def shuffleBackRow : OpenClaim := { program := "ytlnjomjeafmobaa", sum := "7e954bd9dd2c1f5b2efe772d9123f47a7597b826d487f3a0291ebd10dbad7c41", func := "handoff/handofflaw02.ShuffleBack", spec := "shuffleBack", apart := false }
def ShuffleBackSaid : Prop := shuffleBackRow.holds Try.pinned (OpenSpec.ofChange shuffleBackSpec)

/-- ITS FALSE NEIGHBOUR: 'it returns false'. Refute it at one input. -/
def shuffleBackWrong : ChangeSpec := { name := "shuffleBack", fn := fun _ => fun
  | [d] => { results := [.lit (.bool false)], args := [d] }
  | _ => none }
def ShuffleBackWrongFalsely : Prop := shuffleBackRow.holds Try.pinned (OpenSpec.ofChange shuffleBackWrong)

/-- 'handofflaw02.ShuffleAll': WHATEVER THE INPUT: true; the input reads as it did. -/
def shuffleAllSpec : ChangeSpec := { name := "shuffleAll", fn := fun _ => fun
  | [d] => { results := [.lit (.bool true)], args := [d] }
  | _ => none }
def shuffleAllRow : OpenClaim := { program := "ytlnjomjeafmobaa", sum := "7e954bd9dd2c1f5b2efe772d9123f47a7597b826d487f3a0291ebd10dbad7c41", func := "handoff/handofflaw02.ShuffleAll", spec := "shuffleAll", recurses := true, apart := false }
def ShuffleAllSaid : Prop := shuffleAllRow.holds Try.pinned (OpenSpec.ofChange shuffleAllSpec)

/-- ITS FALSE NEIGHBOUR: 'it returns false'. Refute it at one input. -/
def shuffleAllWrong : ChangeSpec := { name := "shuffleAll", fn := fun _ => fun
  | [d] => { results := [.lit (.bool false)], args := [d] }
  | _ => none }
def ShuffleAllWrongFalsely : Prop := shuffleAllRow.holds Try.pinned (OpenSpec.ofChange shuffleAllWrong)

/-- 'handofflaw02.ShuffleFair': WHATEVER THE INPUT: true; the input reads as it did. -/
def shuffleFairSpec : ChangeSpec := { name := "shuffleFair", fn := fun _ => fun
  | [d] => { results := [.lit (.bool true)], args := [d] }
  | _ => none }
def shuffleFairRow : OpenClaim := { program := "ytlnjomjeafmobaa", sum := "7e954bd9dd2c1f5b2efe772d9123f47a7597b826d487f3a0291ebd10dbad7c41", func := "handoff/handofflaw02.ShuffleFair", spec := "shuffleFair", recurses := true, apart := false }
def ShuffleFairSaid : Prop := shuffleFairRow.holds Try.pinned (OpenSpec.ofChange shuffleFairSpec)

/-- ITS FALSE NEIGHBOUR: 'it returns false'. Refute it at one input. -/
def shuffleFairWrong : ChangeSpec := { name := "shuffleFair", fn := fun _ => fun
  | [d] => { results := [.lit (.bool false)], args := [d] }
  | _ => none }
def ShuffleFairWrongFalsely : Prop := shuffleFairRow.holds Try.pinned (OpenSpec.ofChange shuffleFairWrong)

/- THE SECOND FORM. 'bulk': how many values and letters a reading holds, each counted each time it is reached (what is shared counts as often as it is met; a slice's spare places count too). A statement '..UptoSaid' is the law's where the arguments, and the package variables that the reading takes, are together of bulk at most 1048576: NARROWER than '..Said'. Prove '..Said' where nothing that the law and all that it calls make is longer than what came in: it says more and counts as full. Else prove '..UptoSaid'. A law counts once. -/
mutual
def uptoBulk {H : Type} : DataW H → Nat
  | .lit (.string bytes) => bytes.length + 1
  | .lit _ => 1
  | .nil => 1
  | .ptr d => uptoBulk d + 1
  | .slice elems spare => uptoBulkAll elems + uptoBulkAll spare + 1
  | .agg parts => uptoBulkAll parts + 1
  | .iface _ d => uptoBulk d + 1
  | .map entries => uptoBulkEntries entries + 1
  | .held _ => 1
def uptoBulkAll {H : Type} : List (DataW H) → Nat
  | [] => 0
  | d :: r => uptoBulk d + uptoBulkAll r
def uptoBulkEntries {H : Type} : List (Lit × DataW H) → Nat
  | [] => 0
  | x :: r => uptoBulkEntry x + uptoBulkEntries r
def uptoBulkEntry {H : Type} : Lit × DataW H → Nat
  | (.string bytes, d) => bytes.length + uptoBulk d + 1
  | (_, d) => uptoBulk d + 1
 end
def uptoSmall : (H : Type) → List (DataW H) → Bool := fun _ ds => decide (uptoBulkAll ds ≤ 1048576)
def OpenSpec.upto (s : _root_.Go.ChangeSpec) : _root_.Go.OpenSpec := { _root_.Go.OpenSpec.ofChange s with cond := some uptoSmall }

/-- 'handofflaw02.ShuffleOrders', WHERE WHAT IT READS IS OF BULK AT MOST 1048576: true; the input reads as it did. -/
def shuffleOrdersUptoRow : OpenClaim := { program := "ytlnjomjeafmobaa", sum := "7e954bd9dd2c1f5b2efe772d9123f47a7597b826d487f3a0291ebd10dbad7c41", func := "handoff/handofflaw02.ShuffleOrders", spec := "shuffleOrders", recurses := true, apart := false, narrowed := true }
def ShuffleOrdersUptoSaid : Prop := shuffleOrdersUptoRow.holds Try.pinned (OpenSpec.upto shuffleOrdersSpec)

/-- 'handofflaw02.ShuffleFirsts', WHERE WHAT IT READS IS OF BULK AT MOST 1048576: true; the input reads as it did. -/
def shuffleFirstsUptoRow : OpenClaim := { program := "ytlnjomjeafmobaa", sum := "7e954bd9dd2c1f5b2efe772d9123f47a7597b826d487f3a0291ebd10dbad7c41", func := "handoff/handofflaw02.ShuffleFirsts", spec := "shuffleFirsts", apart := false, narrowed := true }
def ShuffleFirstsUptoSaid : Prop := shuffleFirstsUptoRow.holds Try.pinned (OpenSpec.upto shuffleFirstsSpec)

/-- 'handofflaw02.ShuffleBack', WHERE WHAT IT READS IS OF BULK AT MOST 1048576: true; the input reads as it did. -/
def shuffleBackUptoRow : OpenClaim := { program := "ytlnjomjeafmobaa", sum := "7e954bd9dd2c1f5b2efe772d9123f47a7597b826d487f3a0291ebd10dbad7c41", func := "handoff/handofflaw02.ShuffleBack", spec := "shuffleBack", apart := false, narrowed := true }
def ShuffleBackUptoSaid : Prop := shuffleBackUptoRow.holds Try.pinned (OpenSpec.upto shuffleBackSpec)

/-- 'handofflaw02.ShuffleAll', WHERE WHAT IT READS IS OF BULK AT MOST 1048576: true; the input reads as it did. -/
def shuffleAllUptoRow : OpenClaim := { program := "ytlnjomjeafmobaa", sum := "7e954bd9dd2c1f5b2efe772d9123f47a7597b826d487f3a0291ebd10dbad7c41", func := "handoff/handofflaw02.ShuffleAll", spec := "shuffleAll", recurses := true, apart := false, narrowed := true }
def ShuffleAllUptoSaid : Prop := shuffleAllUptoRow.holds Try.pinned (OpenSpec.upto shuffleAllSpec)

/-- 'handofflaw02.ShuffleFair', WHERE WHAT IT READS IS OF BULK AT MOST 1048576: true; the input reads as it did. -/
def shuffleFairUptoRow : OpenClaim := { program := "ytlnjomjeafmobaa", sum := "7e954bd9dd2c1f5b2efe772d9123f47a7597b826d487f3a0291ebd10dbad7c41", func := "handoff/handofflaw02.ShuffleFair", spec := "shuffleFair", recurses := true, apart := false, narrowed := true }
def ShuffleFairUptoSaid : Prop := shuffleFairUptoRow.holds Try.pinned (OpenSpec.upto shuffleFairSpec)

end Rows
end Go.Proofs.Ytlnjomjeafmobaa
