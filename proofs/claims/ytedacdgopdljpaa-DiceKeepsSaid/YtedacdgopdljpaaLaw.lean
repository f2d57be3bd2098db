/- diceAlive, the document's Draw, and the laws' walks. -/
import Derived.Test.YtedacdgopdljpaaSkip
namespace Go.Proofs.Ytedacdgopdljpaa
open Go.RowKit
set_option linter.unusedVariables false

theorem draw_eq {p g : Nat} {L : List Int} {k k' : Nat} (n v : Int) (hn2 : n ≤ 9223372036854775807) (hv : dv L k n = v) (hk : dn L k n = k') (w : World) (h : IsDice w p g L k) :
    Calls Try.prog 8 #[.pointer (some ⟨p, 0, none⟩), .int .i64 n] w fun e w' => e = .returned (.int .i64 v) ∧ IsDice w' p g L k' ∧ Turn (fun i => i = p) w w' := by
  subst hv; subst hk
  exact draw_any n hn2 w h

theorem ints_79 (w : World) : Ints .u16 (w.alloc (.cells #[.int .u16 7, .int .u16 9] 32)) (some ⟨w.heap.size, 0, none⟩) [7, 9] := by
  intro j hj
  refine ⟨_, rfl, ?_⟩
  match j, hj with
  | 0, _ => simp [go_sem]
  | 1, _ => simp [go_sem]

theorem alive_any (w : World) : Calls Try.prog 5 #[] w fun e w' => e = .returned (.bool true) ∧ Turn (fun _ => False) w w' := by
  go_enter Try.func5, Try.ntmps5
  go_wp2_with fail
  refine (new_any (L := [7, 9]) _ (ints_79 _) (by decide) (by decide)).mono ?_
  rintro e w1 ⟨p, g, rfl, h1, hp, hg, t1⟩
  go_wp2_with fail
  refine (draw_eq 5 2 (by decide) (by decide) (k' := 1) (by decide) _ h1).mono ?_
  rintro e w2 ⟨rfl, h2, t2⟩
  go_wp2_with fail
  refine (draw_eq 5 4 (by decide) (by decide) (k' := 2) (by decide) _ h2).mono ?_
  rintro e w3 ⟨rfl, h3, t3⟩
  go_wp2_with fail
  refine (draw_eq 5 0 (by decide) (by decide) (k' := 2) (by decide) _ h3).mono ?_
  rintro e w4 ⟨rfl, h4, t4⟩
  go_wp2_with fail
  refine (drawn_any _ h4).mono ?_
  rintro e w5 ⟨rfl, rfl⟩
  go_wp2
  go_ret
  have := World.size_alloc
  refine ⟨rfl, (((((Turn.refl _ w).alloc _).and t1 (fun _ _ h => h)).and t2 ?_).and t3 ?_).and t4 ?_⟩
  all_goals (intro i hi e; subst e; simp at hp; omega)


/-- The document's own Draw. -/
theorem ref_any {ao : Option Addr} {cap : Nat} {L : List Int} (k : Nat) (n : Int) (w : World) (hr : Ints .u16 w ao L) (hl : L.length ≤ 300) (hu : ∀ x ∈ L, 0 ≤ x ∧ x ≤ 65535) (hk : k ≤ L.length) (hn2 : n ≤ 9223372036854775807) :
    Calls Try.prog 7 #[.slice ao L.length cap, .int .i64 k, .int .i64 n] w fun e w' => e = .returned (.tuple #[.int .i64 (dv L k n), .int .i64 (dn L k n)]) ∧ w = w' := by
  by_cases h1 : n < 1
  · have e1 : dv L k n = 0 := if_pos (Or.inl h1)
    have e2 : dn L k n = k := if_pos (Or.inl h1)
    rw [e1, e2]
    clear e1 e2
    go_enter Try.func7, Try.ntmps7
    go_wp2
    go_ret2
    exact ⟨rfl, rfl⟩
  by_cases h2 : L.length ≤ k
  · have e1 : dv L k n = 0 := if_pos (Or.inr h2)
    have e2 : dn L k n = k := if_pos (Or.inr h2)
    rw [e1, e2]
    clear e1 e2 hr
    go_enter Try.func7, Try.ntmps7
    go_wp2
    go_ret2
    exact ⟨rfl, rfl⟩
  · have e1 : dv L k n = L.getD k 0 % n := if_neg (by omega)
    have e2 : dn L k n = k + 1 := if_neg (by omega)
    rw [e1, e2]
    obtain ⟨ad, rfl, hc⟩ := hr k (by omega)
    have hub := hu _ (getD_mem (l := L) (j := k) (d := 0) (by omega))
    obtain ⟨x, hx⟩ : ∃ x, x = L.getD k 0 := ⟨_, rfl⟩
    rw [← hx] at hc hub ⊢
    have HX := Lib.hid hx
    have hb : (0 : Int) ≤ k ∧ (k : Int) < L.length := ⟨by omega, by omega⟩
    have hn0 : ¬ n = 0 := by omega
    clear e1 e2 hr hx
    go_enter Try.func7, Try.ntmps7
    go_wp2
    go_ret2
    exact ⟨rfl, rfl⟩

end Go.Proofs.Ytedacdgopdljpaa
