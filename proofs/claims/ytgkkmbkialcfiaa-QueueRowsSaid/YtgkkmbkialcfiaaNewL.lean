/- Can; the walk of QueueNew. -/
import Derived.Test.YtgkkmbkialcfiaaNew
namespace Go.Proofs.Ytgkkmbkialcfiaa
open Go.RowKit
set_option linter.unusedVariables false

theorem can_no {a b : Int} (w : World) (h : a < 0 ∨ 64 < a ∨ b < 0 ∨ 64 < b) :
    Calls Try.prog 8 #[.int .i64 a, .int .i64 b] w fun e w' => e = .returned (.bool false) ∧ w = w' := by
  by_cases h1 : a < 0
  · have h1' : ¬ 0 ≤ a := by omega
    clear h
    go_enter Try.func8, Try.ntmps8
    go_wp2_with fail
    go_ret
    exact ⟨rfl, rfl⟩
  have h1' : 0 ≤ a := by omega
  by_cases h2 : 64 < a
  · have h2' : ¬ a ≤ 64 := by omega
    clear h
    go_enter Try.func8, Try.ntmps8
    go_wp2_with fail
    go_ret
    exact ⟨rfl, rfl⟩
  have h2' : a ≤ 64 := by omega
  by_cases h3 : b < 0
  · have h3' : ¬ 0 ≤ b := by omega
    clear h
    go_enter Try.func8, Try.ntmps8
    go_wp2_with fail
    go_ret
    exact ⟨rfl, rfl⟩
  have h3' : 0 ≤ b := by omega
  have h4 : decide (b ≤ 64) = false := decide_eq_false (by omega)
  have H4 := Lib.hid h4
  clear h
  go_enter Try.func8, Try.ntmps8
  go_wp2_with fail
  go_ret
  exact ⟨rfl, rfl⟩
theorem can_yes {n m : Nat} (w : World) (hn : n ≤ 64) (hm : m ≤ 64) :
    Calls Try.prog 8 #[.int .i64 n, .int .i64 m] w fun e w' => e = .returned (.bool true) ∧ w = w' := by
  have H4 := Lib.hid (show decide ((m : Int) ≤ 64) = true from decide_eq_true (by omega))
  go_enter Try.func8, Try.ntmps8
  go_wp2_with fail
  go_ret
  exact ⟨ret_bool H4.out, rfl⟩
theorem newS_list (n m : Nat) (k : Int) : listL (newS n m) k = [] := by
  unfold listL newS
  split <;> rfl

theorem lnew_any {a b : Int} (w : World) : Calls Try.prog 3 #[.int .i64 a, .int .i64 b] w fun e w' => e = .returned (.bool true) ∧ Turn (fun _ => False) w w' := by
  by_cases h : a < 0 ∨ 64 < a ∨ b < 0 ∨ 64 < b
  · have HB := Lib.hid h
    clear h
    go_enter Try.func3, Try.ntmps3
    go_wp2_with fail
    refine (alive_any w).mono ?_
    rintro e w1 ⟨rfl, t1⟩
    have T1 := Lib.hid t1
    clear t1
    go_wp2_with fail
    refine (new_bad w1 HB.out).mono ?_
    rintro e w2 ⟨rfl, rfl⟩
    go_wp2_with fail
    refine (can_no w1 HB.out).mono ?_
    rintro e w2 ⟨rfl, rfl⟩
    go_wp2_with fail
    go_ret
    exact ⟨rfl, T1.out⟩
  · obtain ⟨n, rfl⟩ : ∃ n : Nat, a = n := ⟨a.toNat, by omega⟩
    obtain ⟨m, rfl⟩ : ∃ m : Nat, b = m := ⟨b.toNat, by omega⟩
    have hn : n ≤ 64 := by omega
    have hm : m ≤ 64 := by omega
    clear h
    go_enter Try.func3, Try.ntmps3
    go_wp2_with fail
    refine (alive_any w).mono ?_
    rintro e w1 ⟨rfl, t1⟩
    have T1 := Lib.hid t1
    clear t1
    go_wp2_with fail
    refine (new_good w1 hn hm).mono ?_
    rintro e w2 ⟨p, tb, eb, rfl, h2⟩
    have H2 := Lib.hid h2
    have T2 := Lib.hid (T1.out.trans h2.t)
    clear h2
    go_wp2_with fail
    refine (can_yes w2 hn hm).mono ?_
    rintro e w3 ⟨rfl, rfl⟩
    go_wp2_with fail
    refine (len_any (nl := 0) w2 H2.out.q (by rw [newS_list]; rfl)).mono ?_
    rintro e w4 ⟨rfl, t4⟩
    have H4 := Lib.hid (H2.out.new t4)
    have T4 := Lib.hid (T2.out.trans t4)
    clear t4
    go_wp2_with fail
    refine (list_any (nl := 0) w4 H4.out.q (newS_list _ _ _) rfl).mono ?_
    rintro e w5 ⟨bo, bc, rfl, _, _, _, _, _, t5⟩
    have T5 := Lib.hid (T4.out.trans t5)
    clear t5
    go_wp2_with fail
    go_ret
    exact ⟨rfl, T5.out⟩

end Go.Proofs.Ytgkkmbkialcfiaa
