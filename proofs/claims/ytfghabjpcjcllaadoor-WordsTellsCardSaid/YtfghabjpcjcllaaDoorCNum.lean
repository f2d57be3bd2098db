/- The code's number, library calls as turns of the world. -/
import Derived.Test.YtfghabjpcjcllaaDoorCWld
import Derived.Test.YtfghabjpcjcllaaDoorOpW
namespace Go.Proofs.YtfghabjpcjcllaaDoor
open Go.RowKit
set_option linter.unusedVariables false

theorem grow_turn (w : World) (k : Nat) (os : Array Obj) : Turn (fun _ => False) w (Go.Sort.grow (w.drewN k) os) :=
  ⟨rfl, rfl, rfl, by simp [Go.Sort.grow], fun i hi _ => by
    show (w.heap ++ os)[i]? = _
    rw [Array.getElem?_append_left hi]⟩
theorem fmt_any (n : Int) (w : World) (hn : -9223372036854775808 ≤ n ∧ n ≤ 9223372036854775807) (hG : Gl0 w) : Calls Tryd.prog 47 #[.int .i64 n, .int .i64 10] w (GivesS w (numT n)) :=
  (Tryd.strconv_FormatInt_10 n hn.1 hn.2 w hG.tab).mono fun e w' ⟨h1, k, os, h2⟩ => ⟨h1, h2 ▸ grow_turn w k os⟩
theorem numT_20 {n : Int} (hn : -9223372036854775808 ≤ n ∧ n ≤ 9223372036854775807) : (numT n).length ≤ 20 := itoa_length n hn.1 hn.2

set_option maxRecDepth 100000 in
set_option maxHeartbeats 1000000 in
theorem number_any (n : Int) (w : World) (hn : -9223372036854775808 ≤ n ∧ n ≤ 9223372036854775807) (hG : Gl0 w) : Calls Tryd.prog 29 #[.int .i64 n] w (GivesS w (32 :: numT n)) := by
  have C := Lib.hid (fun w hG => fmt_any n w hn hG)
  have G := Lib.hid hG
  have hl := numT_20 hn
  obtain ⟨N, hN⟩ : ∃ S, bs (numT n) = S := ⟨_, rfl⟩
  obtain ⟨S, hS⟩ : ∃ S, bs (32 :: numT n) = S := ⟨_, rfl⟩
  have hadd : ∀ w, (Op.stringOp BinOp.add ⟨#[32]⟩ N).run Tryd.prog w = .ok (.string S) w := fun w => by
    subst hN hS
    exact add_text [32] (numT n) (by simp; omega) w
  unfold GivesS at C ⊢
  rw [hN] at C
  rw [hS]
  have HN := Lib.hid hN
  have HS := Lib.hid hS
  have HB := Lib.hid hn
  clear hN hS hl hG hn
  go_enter Tryd.func29, Tryd.ntmps29
  go_wp2_with fail
  refine (C.out _ G.out).mono ?_
  rintro e w1 ⟨rfl, t1⟩
  have T1 := Lib.hid t1
  clear t1
  go_wp2_with fail
  go_ret
  exact ⟨rfl, T1.out⟩
end Go.Proofs.YtfghabjpcjcllaaDoor
