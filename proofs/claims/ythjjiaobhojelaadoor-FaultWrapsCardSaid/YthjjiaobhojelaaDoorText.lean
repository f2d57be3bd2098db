/- textOf: a deferred closure that recovers, and an error's own text. -/
import Derived.Test.YthjjiaobhojelaaDoorBuild
import Derived.Defers
import Derived.Recover
import Derived.Laws.Pointers
namespace Go.Proofs.YthjjiaobhojelaaDoor
open Go.RowKit Go.Extern.Stop Go.Stop Go.Extern

theorem method_error (v : Value) (w : World) : (Go.method 237 106 v "Error").run Tryd.prog w = .ok (80, v) w := by kernel_rfl
theorem recover_idle (w : World) : CallsD Tryd.prog 33 #[] .returning w fun e u' w' => e = .returned (.tuple #[]) ∧ u' = .returning ∧ w' = w := by
  refine callsD_of_wpS Tryd.func33 rfl fun c₀ cs hu => ?_
  apply wpS_region
  simp [wpOpsS, go_sem, recoverD, hu, Tryd.ntmps33, bodyPostS, results, Tryd.results33]
  cases c₀
  simp_all

theorem textOf_any (k : Nat) (A : Nat → Addr) (w : World) (hk : k < 3) (hG : Glob w A) :
    Calls Tryd.prog 24 #[.iface 106 (.pointer (some (A k)))] w fun e w' => e = .returned (.string (textS k)) ∧ w = w' := by
  have hmf : ∀ (fn : Fn) (first cap : Array Value) (w : World), (Instr.makeFunc fn first cap).run Tryd.prog w = .ok (.func fn first cap) w := fun _ _ _ _ => rfl
  have hm := method_error
  have hc := hG.text k hk
  clear hG hk
  obtain ⟨a, ha⟩ : ∃ a, A k = a := ⟨_, rfl⟩
  obtain ⟨s, hs⟩ : ∃ s, textS k = s := ⟨_, rfl⟩
  rw [ha, hs] at hc
  rw [ha, hs]
  clear ha hs
  go_enter_defers Tryd.func24, Tryd.ntmps24
  go_wp2
  refine leaves_cons (f := 33) (args := #[]) (by simp) (by simp [go_sem]) ?_
  refine (recover_idle _).mono ?_
  rintro e u' w'' ⟨rfl, rfl, rfl⟩
  simp [Leaves, settle, results, Tryd.results24, go_sem]

end Go.Proofs.YthjjiaobhojelaaDoor
