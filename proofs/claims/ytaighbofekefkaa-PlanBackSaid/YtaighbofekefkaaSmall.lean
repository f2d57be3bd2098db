/- What an op has; whether a number fits; a byte, or 0; a flag: the code's and the document's. -/
import Derived.Test.YtaighbofekefkaaGNest
import Derived.BigQuiet
import Derived.Deep.QuietTactic
import Derived.Outline
import Derived.RegionTactic
import Derived.ChangeAlike
import Derived.ChangeSame
import Derived.Deep.CutBlock
import Derived.Deep.DeepCutAuto
namespace Go.Proofs.Ytaighbofekefkaa
open Go.RowKit
set_option linter.unusedVariables false

theorem info_int : (Try.prog.info? 3).map (fun i => (i.zero, i.size, i.bytes)) = some (some (.int .i64 0), 1, 8) := by kernel_rfl
theorem info_u8 : (Try.prog.info? 5).map (fun i => (i.zero, i.size, i.bytes)) = some (some (.int .u8 0), 1, 1) := by kernel_rfl
def zeroC : Value := .agg #[.bool false, .int .i64 0, .int .i64 0]
def zeroO : Value := .agg #[.int .i64 0, .int .i64 0, .int .i64 0, .int .i64 0, .slice none 0 0, .bool false]
theorem info_case : (Try.prog.info? 45).map (fun i => (i.zero, i.size, i.bytes)) = some (some zeroC, 3, 24) := by kernel_rfl
theorem info_op : (Try.prog.info? 29).map (fun i => (i.zero, i.size, i.bytes)) = some (some zeroO, 6, 64) := by kernel_rfl
theorem info_ops : (Try.prog.info? 42).map (fun i => (i.zero, i.size, i.bytes)) = some (some (.slice none 0 0), 1, 24) := by kernel_rfl

/-- The cells of a case, of an op, as a load of the whole asks for them. -/
theorem cells3 {w : World} {a : Addr} {k : Nat} {x : Cas} (hc : ∀ i u, (encCV x)[i]? = some u → w.cell? ((a.add k).add i) = some u) : w.cell? (a.add k) = some (.bool x.send) ∧ w.cell? ⟨(a.add k).block, (a.add k).off + 1, none⟩ = some (.int .i64 x.ch) ∧ w.cell? ⟨(a.add k).block, (a.add k).off + 2, none⟩ = some (.int .i64 x.v) := by
  have c0 := hc 0 _ rfl
  rw [add_two, Nat.add_zero] at c0
  exact ⟨c0, hc 1 _ rfl, hc 2 _ rfl⟩
theorem cells6 {w : World} {a : Addr} {k : Nat} {r : OpV} (hc : ∀ i u, (encOV r)[i]? = some u → w.cell? ((a.add k).add i) = some u) : w.cell? (a.add k) = some (.int .i64 r.kind) ∧ w.cell? ⟨(a.add k).block, (a.add k).off + 1, none⟩ = some (.int .i64 r.ch) ∧ w.cell? ⟨(a.add k).block, (a.add k).off + 2, none⟩ = some (.int .i64 r.n) ∧
    w.cell? ⟨(a.add k).block, (a.add k).off + 3, none⟩ = some (.int .i64 r.v) ∧ w.cell? ⟨(a.add k).block, (a.add k).off + 4, none⟩ = some r.cs.val ∧ w.cell? ⟨(a.add k).block, (a.add k).off + 5, none⟩ = some (.bool r.els) := by
  have c0 := hc 0 _ rfl
  rw [add_two, Nat.add_zero] at c0
  exact ⟨c0, hc 1 _ rfl, hc 2 _ rfl, hc 3 _ rfl, hc 4 _ rfl, hc 5 _ rfl⟩

/-- What is answered is this bool; nothing that was has changed. -/
def Says (w : World) (b : Bool) (e : Ending) (w' : World) : Prop := e = .returned (.bool b) ∧ Turn (fun _ => False) w w'

theorem hasch_any (k : Int) (b : Bool) (w : World) (h : hasCh k = b) : Calls Try.prog 24 #[.int .i64 k] w fun e w' => e = .returned (.bool b) ∧ w = w' := by
  subst h
  unfold hasCh
  by_cases h1 : 2 ≤ k <;> by_cases h2 : k ≤ 8
  all_goals
    simp only [h1, h2, decide_true, decide_false, Bool.and_true, Bool.and_false]
    go_enter Try.func24, Try.ntmps24
    go_wp2_with fail
    go_ret
    exact ⟨rfl, rfl⟩
theorem rhasch_any (k : Int) (b : Bool) (w : World) (h : hasCh k = b) : Calls Try.prog 28 #[.int .i64 k] w fun e w' => e = .returned (.bool b) ∧ w = w' := by
  subst h
  unfold hasCh
  by_cases h1 : 2 ≤ k <;> by_cases h2 : k ≤ 8
  all_goals
    simp only [h1, h2, decide_true, decide_false, Bool.and_true, Bool.and_false]
    go_enter Try.func28, Try.ntmps28
    go_wp2_with fail
    go_ret
    exact ⟨rfl, rfl⟩
theorem hasn_any (k : Int) (b : Bool) (w : World) (h : (k == 1) = b) : Calls Try.prog 25 #[.int .i64 k] w fun e w' => e = .returned (.bool b) ∧ w = w' := by
  subst h
  go_enter Try.func25, Try.ntmps25
  go_wp2_with fail
  go_ret
  exact ⟨rfl, rfl⟩
theorem hasv_any (k : Int) (b : Bool) (w : World) (h : hasV k = b) : Calls Try.prog 26 #[.int .i64 k] w fun e w' => e = .returned (.bool b) ∧ w = w' := by
  subst h
  unfold hasV
  obtain ⟨b1, h1⟩ : ∃ b, (k == 2) = b := ⟨_, rfl⟩
  rw [h1]
  cases b1
  all_goals
    go_enter Try.func26, Try.ntmps26
    go_wp2_with fail
    go_ret
    exact ⟨rfl, rfl⟩
theorem rhasv_any (k : Int) (b : Bool) (w : World) (h : hasV k = b) : Calls Try.prog 29 #[.int .i64 k] w fun e w' => e = .returned (.bool b) ∧ w = w' := by
  subst h
  unfold hasV
  obtain ⟨b1, h1⟩ : ∃ b, (k == 2) = b := ⟨_, rfl⟩
  rw [h1]
  cases b1
  all_goals
    go_enter Try.func29, Try.ntmps29
    go_wp2_with fail
    go_ret
    exact ⟨rfl, rfl⟩

/-- A number that fits. -/
def fitB (x : Int) (has : Bool) (most : Int) : Bool := if has then decide (0 ≤ x) && decide (x ≤ most) else x == 0
theorem fits_any (x : Int) (has : Bool) (most : Int) (b : Bool) (w : World) (h : fitB x has most = b) : Calls Try.prog 23 #[.int .i64 x, .bool has, .int .i64 most] w fun e w' => e = .returned (.bool b) ∧ w = w' := by
  subst h
  unfold fitB
  cases has
  · go_enter Try.func23, Try.ntmps23
    go_wp2_with fail
    go_ret
    exact ⟨rfl, rfl⟩
  · by_cases h1 : 0 ≤ x <;> by_cases h2 : x ≤ most
    all_goals
      simp only [h1, h2, decide_true, decide_false, Bool.and_true, Bool.and_false, if_true]
      go_enter Try.func23, Try.ntmps23
      go_wp2_with fail
      go_ret
      exact ⟨rfl, rfl⟩

theorem odd_any (b : Bool) (w : World) : Calls Try.prog 39 #[.bool b] w fun e w' => e = .returned (.int .u8 (flagI b)) ∧ w = w' := by
  cases b
  all_goals
    go_enter Try.func39, Try.ntmps39
    go_wp2_with fail
    go_ret
    exact ⟨rfl, rfl⟩
theorem flag_any (b : Bool) (w : World) : Calls Try.prog 31 #[.bool b] w fun e w' => e = .returned (.int .u8 (flagI b)) ∧ w = w' := by
  cases b
  all_goals
    go_enter Try.func31, Try.ntmps31
    go_wp2_with fail
    go_ret
    exact ⟨rfl, rfl⟩

/-- The document's byte at a place. -/
theorem at_any {ao : Option Addr} {n c i : Nat} {B : List Int} {x : Int} (w : World) (hB : Ints .u8 w ao B) (hn : B.length = n) (hx : atB B i = x) (hb : 0 ≤ x ∧ x ≤ 255) (hm : n ≤ 1000000) : Calls Try.prog 34 #[.slice ao n c, .int .i64 i] w fun e w' => e = .returned (.int .i64 x) ∧ w = w' := by
  by_cases hi : i < n
  · obtain ⟨a, rfl, hc⟩ := hB i (by omega)
    unfold atB at hx
    rw [hx] at hc
    clear hB hn hx
    go_enter Try.func34, Try.ntmps34
    go_wp2_with fail
    go_ret
    exact ⟨rfl, rfl⟩
  · have hx0 : x = 0 := by
      rw [← hx]; unfold atB
      rw [List.getD_eq_getElem?_getD, List.getElem?_eq_none (by omega)]
      rfl
    subst hx0
    clear hB hn hx
    go_enter Try.func34, Try.ntmps34
    go_wp2_with fail
    go_ret
    exact ⟨rfl, rfl⟩

end Go.Proofs.Ytaighbofekefkaa
