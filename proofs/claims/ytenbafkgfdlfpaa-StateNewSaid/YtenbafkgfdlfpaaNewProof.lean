/-
  The law StateNew: at every input the call returns true, and each argument reads behind it as it read before. No condition beside the form's own.
-/
import Derived.Test.YtenbafkgfdlfpaaMNew
import Derived.Test.YtenbafkgfdlfpaaKOpenG
import Derived.WalkKit
import Derived.ProofKit
import Derived.OpenShut
import Derived.ShutString
import Derived.ChangeOld
import Derived.Below
namespace Go.Proofs.Ytenbafkgfdlfpaa.stateNew
open Go.ChangeShapes Go.WideShapes Go.ChangeAt Go.RowKit
open Go.ChangeMaps (open_string shut_string)
set_option linter.unusedVariables false

theorem own : ownKnob Try.prog.godebug = none := by kernel_rfl
theorem laidOut : laidOutB Try.prog = true := by kernel_rfl

/-- A slice of integers that came in. -/
def IsRow (k : IntKind) (w : World) (a : Option Addr) (len cap : Nat) (zs : List Int) : Prop :=
  (a = none ∧ len = 0 ∧ cap = 0 ∧ zs = []) ∨
  ∃ x, a = some x ∧ len ≤ cap ∧ cap ≤ maxLen ∧ zs.length = cap ∧ (∀ i, i < zs.length → w.cell? (x.add i) = some (.int k (zs.getD i 0))) ∧ ∀ n ∈ zs, (Lit.int k n).wf = true
/-- A slice of bools that came in. -/
def IsBools (w : World) (a : Option Addr) (len cap : Nat) (B : Nat → Bool) : Prop :=
  (a = none ∧ len = 0 ∧ cap = 0) ∨ ∃ x, a = some x ∧ len ≤ cap ∧ cap ≤ maxLen ∧ ∀ i, i < cap → w.cell? (x.add i) = some (.bool (B i))

theorem walk (rv0 : Sl) (ro0 : List (List Opr)) (su0 ca0 : Int) (ds0 : Sl) (dr0 : List Int) (w : World) (w0 : RPlan w rv0 ro0 ∧ ds0.Ok dr0.length ∧ Ints .u16 w ds0.ao dr0 ∧ ∀ x ∈ dr0, 0 ≤ x ∧ x ≤ 65535) :
    Calls Try.prog 3 #[.agg #[rv0.val, .int .i64 su0, .int .i64 ca0, ds0.val]] w fun e w' => e = .returned (.bool true) ∧ Below w.heap.size w w' := by
  exact (law_any w w0.1 w0.2.1 w0.2.2.1 w0.2.2.2).mono fun _ _ ⟨he, t⟩ => ⟨he, t.below (Nat.le_refl _) (fun _ _ => id)⟩

set_option maxRecDepth 100000 in
theorem lifted (os : Os) (started : os.Started) (H : Type) (enc : TypeId × Value → H) :
    ReturnsInHanded {} Try.checked os 3 .any (Rows.stateNewSpec.pre6 enc Try.prog Try.f3 Rows.stateNewRow.domain false) (Rows.stateNewSpec.post enc Try.prog Try.f3 false true false false) := by
  refine returnsInHanded_of_change (C := Try.checked) own started (by kernel_rfl) Try.func3
    (ChangeSpec.witness6 (enc := enc) (C := Try.checked) false ⟨#[], #[.agg #[.slice none 0 0, .int .i64 0, .int .i64 0, .slice none 0 0]], []⟩ 8 (by kernel_rfl) (by kernel_rfl) (by kernel_rfl) (by kernel_rfl)) ?_
  intro W base args ds gs before hval0 hW hcnd _
  have hval : ∀ (j : Nat) t v, Try.f3.params[j]? = some t → args[j]? = some v → Value.okWide Try.prog W .any base t v := hval0
  have hW' := hW
  obtain ⟨p, q, hA0, hV, rfl, hfz, hnd⟩ := hW
  have hA : DataW.TrodAll enc Try.prog W 0 (fun _ => true) true Try.f3.params.toList args.toList ds p := hA0
  rw [Try.params3] at hA hval
  obtain ⟨v0, vs0, d0, ds0, p0, q0, hargs, rfl, rfl, h0, r0⟩ := trodAll_cons hA
  obtain ⟨rfl, rfl, rfl⟩ := trodAll_nil r0
  obtain rfl : args = #[v0] := by cases args; simp_all
  obtain ⟨rfl, rfl⟩ := trodVars_none hV
  have k0 := h0
  have lt0 : ∀ x ∈ p0, x.block < W.heap.size := by obtain ⟨m, hm⟩ := k0; exact DataW.trod_lt m _ _ _ hm
  obtain ⟨rv0, ro0, su0, ca0, ds0, dr0, ev0, w0⟩ := open_given Try.underlying27 (by kernel_rfl) rfl (by kernel_rfl) rfl (by kernel_rfl) rfl (by kernel_rfl) Try.underlying24 (by kernel_rfl) Try.underlying3 Try.underlying3 Try.underlying25 Try.underlying64 (by kernel_rfl) Try.underlying22 (by kernel_rfl) Try.underlying29 (by kernel_rfl) Try.underlying88 (by kernel_rfl) Try.underlying3 Try.underlying3 Try.underlying3 Try.underlying2 Try.underlying86 Try.underlying4 Try.underlying117 (by kernel_rfl) (by kernel_rfl) Try.underlying4 Try.underlying3 Try.underlying2 (hval 0 27 v0 rfl rfl) h0
  subst ev0
  clear hA0 hval0
  refine (walk rv0 ro0 su0 ca0 ds0 dr0 W w0).mono fun e W' ⟨he, bel⟩ => ?_
  subst he
  exact ⟨_, rfl, _, _, _, [], _, [], hW', trodAll_mk1 (shut_bool Try.underlying4 _), (trodAll_cons_mk (Below.trod laidOut (by kernel_rfl) (of_decide_eq_true (by kernel_rfl)) k0 bel lt0) trodAll_mk0), rfl, bel.frame _, fun h => by cases h⟩

theorem over : Rows.stateNewRow.holds Try.pinned (OpenSpec.ofChange Rows.stateNewSpec) :=
  OpenClaim.holds_of_wide 3 Try.f3 rfl rfl rfl rfl rfl rfl rfl ⟨rfl, rfl, rfl, rfl, rfl⟩ rfl rfl rfl rfl rfl (by kernel_rfl) Try.func3 (by kernel_rfl)
    (of_decide_eq_true (by kernel_rfl)) (by unfold Func.isWrapper; first | (rw [if_pos (by decide +kernel)]; kernel_rfl) | (rw [if_neg (by decide +kernel)]; exact ⟨rfl, rfl⟩))
    (fun os started H enc _ => lifted os started H enc)

/-- The statement. -/
theorem proved : Rows.StateNewSaid := over
end Go.Proofs.Ytenbafkgfdlfpaa.stateNew
