/- Taken from s5: NewA. Made by pullk.py. -/
import Derived.Test.YtenbafkgfdlfpaaK5
import Derived.BigQuiet
import Derived.Deep.QuietTactic
import Derived.Outline
import Derived.RegionTactic
import Derived.ChangeAlike
import Derived.Deep.CutBlock
import Derived.Deep.DeepCutAuto
namespace Go.Proofs.Ytenbafkgfdlfpaa.R5.C5
open Go.RowKit
set_option linter.unusedVariables false

def canB (a b c : Int) : Bool := decide (0 ≤ a ∧ a ≤ 64 ∧ 0 ≤ b ∧ b ≤ 8 ∧ 1 ≤ c ∧ c ≤ 16)
theorem can_any (a b c : Int) (w : World) : Calls Try.prog 13 #[.int .i64 a, .int .i64 b, .int .i64 c] w fun e w' => e = .returned (.bool (canB a b c)) ∧ w = w' := by
  obtain ⟨r, hr⟩ : ∃ r, r = canB a b c := ⟨_, rfl⟩
  have HR := Lib.hid hr
  rw [← hr]
  clear hr
  by_cases h1 : 0 ≤ a
  · by_cases h2 : a ≤ 64
    · by_cases h3 : 0 ≤ b
      · by_cases h4 : b ≤ 8
        · by_cases h5 : 1 ≤ c
          · by_cases h6 : c ≤ 16
            · obtain rfl : r = true := by rw [HR.out]; exact decide_eq_true ⟨h1, h2, h3, h4, h5, h6⟩
              go_enter Try.func13, Try.ntmps13
              go_wp2
              go_ret
              exact ⟨rfl, rfl⟩
            · obtain rfl : r = false := by rw [HR.out]; exact decide_eq_false (fun h => h6 h.2.2.2.2.2)
              have H6 := Lib.hid (decide_eq_false h6)
              clear h6
              go_enter Try.func13, Try.ntmps13
              go_wp2
              go_ret
              exact ⟨ret_bool H6.out, rfl⟩
          · obtain rfl : r = false := by rw [HR.out]; exact decide_eq_false (fun h => h5 h.2.2.2.2.1)
            go_enter Try.func13, Try.ntmps13
            go_wp2
            go_ret
            exact ⟨rfl, rfl⟩
        · obtain rfl : r = false := by rw [HR.out]; exact decide_eq_false (fun h => h4 h.2.2.2.1)
          go_enter Try.func13, Try.ntmps13
          go_wp2
          go_ret
          exact ⟨rfl, rfl⟩
      · obtain rfl : r = false := by rw [HR.out]; exact decide_eq_false (fun h => h3 h.2.2.1)
        go_enter Try.func13, Try.ntmps13
        go_wp2
        go_ret
        exact ⟨rfl, rfl⟩
    · obtain rfl : r = false := by rw [HR.out]; exact decide_eq_false (fun h => h2 h.2.1)
      go_enter Try.func13, Try.ntmps13
      go_wp2
      go_ret
      exact ⟨rfl, rfl⟩
  · obtain rfl : r = false := by rw [HR.out]; exact decide_eq_false (fun h => h1 h.1)
    go_enter Try.func13, Try.ntmps13
    go_wp2
    go_ret
    exact ⟨rfl, rfl⟩
end Go.Proofs.Ytenbafkgfdlfpaa.R5.C5
