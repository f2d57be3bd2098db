/- The walk of PlanNames. -/
import Derived.Test.YtaighbofekefkaaAlive
namespace Go.Proofs.Ytaighbofekefkaa
open Go.RowKit
set_option linter.unusedVariables false

theorem rplan_nil (w : World) : RPlan w ⟨none, 0, 0⟩ [] := ⟨⟨rfl, Nat.le_refl _, Nat.zero_le _, fun _ => rfl⟩, [], rfl, fun j x hj => by simp at hj, fun j x l hx => by simp at hx⟩
theorem lnames_any (w : World) : Calls Try.prog 3 #[] w (Says w true) := by
  unfold Says
  go_enter Try.func3, Try.ntmps3
  go_wp2_with fail
  refine (encode_no _ (rplan_nil w) rfl ⟨by decide, by simp⟩ rfl).mono ?_
  rintro e w1 ⟨rfl, t1⟩
  have T1 := Lib.hid t1
  clear t1
  go_wp2_with fail
  refine (alive_any _).mono ?_
  rintro e w2 ⟨rfl, t2⟩
  have T2 := Lib.hid t2
  clear t2
  go_wp2_with fail
  go_ret
  exact ⟨rfl, T1.out.trans T2.out⟩

end Go.Proofs.Ytaighbofekefkaa
