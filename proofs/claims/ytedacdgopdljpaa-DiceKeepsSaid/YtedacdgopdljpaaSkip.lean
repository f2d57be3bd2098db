/- The contract of (*Dice).Skip. -/
import Derived.Test.YtedacdgopdljpaaDice
import Derived.Deep.RegionHeld3
import Derived.Deep.RegionLaw
namespace Go.Proofs.Ytedacdgopdljpaa
open Go.RowKit
set_option linter.unusedVariables false

theorem left_drew {p g : Nat} {L : List Int} {k : Nat} {w w' : World} (h : IsDice w p g L k) (e : w'.heap = w.heap) :
    Calls Try.prog 10 #[.pointer (some ⟨p, 0, none⟩)] w' fun e w'' => e = .returned (.int .i64 ((L.length : Int) - k)) ∧ ∃ n, w'' = w'.drewN n :=
  left_any w' ⟨by rw [e]; exact h.box, by rw [e]; exact h.row, h.ne, h.le, h.len, h.u16⟩

/-- How many more count as drawn. -/
def sk (L : List Int) (k : Nat) (n : Int) : Int := min (max n 0) ((L.length : Int) - k)

set_option maxHeartbeats 1600000 in
theorem skip_walk {p g : Nat} {L : List Int} {k : Nat} (n : Int) (w : World) (h : IsDice w p g L k) :
    Calls Try.prog 11 #[.pointer (some ⟨p, 0, none⟩), .int .i64 n] w fun e w' => e = .returned (.tuple #[]) ∧ ∃ m, w' = (w.drewN m).setCell ⟨p, 1, none⟩ (.int .i64 ((k : Int) + sk L k n)) := by
  have c1 := h.c1
  have f1 := h.f1
  have hl := h.len
  have hk := h.le
  have hw : IntKind.i64.wrap ((k : Int) + if (L.length : Int) - k < if n < 0 then 0 else n then (L.length : Int) - k else if n < 0 then 0 else n) = (k : Int) + sk L k n := by
    have e : (if (L.length : Int) - k < if n < 0 then 0 else n then (L.length : Int) - k else if n < 0 then 0 else n) = sk L k n := by
      unfold sk; split <;> split <;> omega
    rw [e]
    exact IntWalk.i64_in _ (by unfold sk; omega)
  have HW := Lib.hid hw
  clear hw
  go_enter Try.func11, Try.ntmps11
  go_region_law (first | (go_simp; go_at_call 10; refine (left_drew (w' := w.drew) h rfl).mono ?_; rintro e w' ⟨rfl, m, rfl⟩))
  all_goals (go_end0; exact ⟨rfl, 1 + m, by rw [HW.out]⟩)

theorem skip_any {p g : Nat} {L : List Int} {k : Nat} (n : Int) (w : World) (h : IsDice w p g L k) :
    Calls Try.prog 11 #[.pointer (some ⟨p, 0, none⟩), .int .i64 n] w fun e w' => e = .returned (.tuple #[]) ∧ IsDice w' p g L (k + (sk L k n).toNat) ∧ Turn (fun i => i = p) w w' := by
  have hk := h.le
  have hs : 0 ≤ sk L k n ∧ sk L k n ≤ (L.length : Int) - k := by unfold sk; omega
  refine (skip_walk n w h).mono ?_
  rintro e w' ⟨rfl, m, rfl⟩
  have e1 : (k : Int) + sk L k n = ((k + (sk L k n).toNat : Nat) : Int) := by omega
  rw [e1]
  exact ⟨rfl, h.set m _ (by omega), ((Turn.refl (fun i => i = p) w).drewN m).setCell (p := ⟨p, 1, none⟩) (Or.inl rfl) _⟩

end Go.Proofs.Ytedacdgopdljpaa
