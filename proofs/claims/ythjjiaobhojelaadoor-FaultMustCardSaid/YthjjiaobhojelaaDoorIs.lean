/- errors.Is of an error that wraps others, and one of the three errors. -/
import Derived.Test.YthjjiaobhojelaaDoorWld
namespace Go.Proofs.YthjjiaobhojelaaDoor
open Go.RowKit Go.Extern.Stop Go.Stop Go.Extern

theorem is_typeOf (v : Value) (w : World) : (Extern.ReflectliteType.typeOf #[.iface 106 v]).run Tryd.prog w = .ok (.iface 72 (.agg #[.pointer (some ⟨7, 106, none⟩)])) w := by kernel_rfl
theorem is_comparable (w : World) : ((Extern.ReflectliteType.method fun t => do Rtype.noPackHeld "Comparable" t; pure (.bool (← typeInfo t).comparable)) #[.agg #[.pointer (some ⟨7, 106, none⟩)]]).run Tryd.prog w = .ok (.bool true) w := by kernel_rfl
theorem is_comparable_run (w : World) : (callFunc 71 #[.agg #[.pointer (some ⟨7, 106, none⟩)]]).run Tryd.prog w = .ok (Next.value (.bool true)) w := by
  rw [@run_callFunc_extern Tryd.prog 71 _ (Extern.ReflectliteType.method fun t => do Rtype.noPackHeld "Comparable" t; pure (.bool (← typeInfo t).comparable)) Tryd.func71 (by kernel_rfl) (by kernel_rfl) (by kernel_rfl) (by kernel_rfl), is_comparable]
  rfl
theorem is_method (v : Value) (w : World) : (Go.method 237 72 v "Comparable").run Tryd.prog w = .ok (71, v) w := by kernel_rfl
theorem is_comp : (Tryd.prog.info? 106).map (·.comparable) = some true := by kernel_rfl
theorem is_size : (Tryd.prog.info? 125).map (·.size) = some 1 := by kernel_rfl
theorem no_is_e (v : Value) (xT : TypeId) (w : World) : (Instr.typeAssert (.iface 106 v) xT 86 true).run Tryd.prog w = .ok (.tuple #[.nilIface, .bool false]) w := run_typeAssert_lacksB Tryd.underlying86 (by kernel_rfl) (by kernel_rfl) v xT w
theorem no_unwrap_e (v : Value) (xT : TypeId) (w : World) : (Instr.typeAssert (.iface 106 v) xT 79 true).run Tryd.prog w = .ok (.tuple #[.nilIface, .bool false]) w := run_typeAssert_lacksB Tryd.underlying79 (by kernel_rfl) (by kernel_rfl) v xT w
theorem no_unwraps_e (v : Value) (xT : TypeId) (w : World) : (Instr.typeAssert (.iface 106 v) xT 80 true).run Tryd.prog w = .ok (.tuple #[.nilIface, .bool false]) w := run_typeAssert_lacksB Tryd.underlying80 (by kernel_rfl) (by kernel_rfl) v xT w
theorem no_is_f (v : Value) (xT : TypeId) (w : World) : (Instr.typeAssert (.iface 30 v) xT 86 true).run Tryd.prog w = .ok (.tuple #[.nilIface, .bool false]) w := run_typeAssert_lacksB Tryd.underlying86 (by kernel_rfl) (by kernel_rfl) v xT w
theorem has_unwrap_f (v : Value) (xT : TypeId) (w : World) : (Instr.typeAssert (.iface 30 v) xT 79 true).run Tryd.prog w = .ok (.tuple #[.iface 30 v, .bool true]) w := run_typeAssert_hasB Tryd.underlying79 (by kernel_rfl) v xT w
theorem method_unwrap (v : Value) (w : World) : (Go.method 237 30 v "Unwrap").run Tryd.prog w = .ok (14, v) w := by kernel_rfl

theorem is_nil (b : Addr) (w : World) :
    Calls Tryd.prog 15 #[.nilIface, .iface 106 (.pointer (some b))] w fun e w' => e = .returned (.bool false) ∧ w' = w := by
  have hn := run_eql_iface_nil_left (P := Tryd.prog) w 106 (.pointer (some b)) Tryd.underlying24
  go_enter Tryd.func15, Tryd.ntmps15
  go_wp2
  go_ret
  exact ⟨rfl, rfl⟩

set_option maxHeartbeats 4000000 in
theorem is_any (L : List (Nat × Int × Int)) (k j : Nat) (v : Value) (A : Nat → Addr) (w : World) (hk : k < 3) (hj : j < 3) (hv : IsErr w A k L v) (hG : Glob w A) :
    Calls Tryd.prog 15 #[v, .iface 106 (.pointer (some (A j)))] w fun e w' => e = .returned (.bool (decide (k = j))) ∧ w' = w := by
  obtain ⟨i, hi, hcmp⟩ := Option.map_eq_some_iff.1 is_comp
  obtain ⟨jj, hjj, hjs⟩ := Option.map_eq_some_iff.1 is_size
  have h8 := @run_callFunc_extern Tryd.prog 27 _ Extern.ReflectliteType.typeOf Tryd.func27 (by kernel_rfl) (by kernel_rfl) (by kernel_rfl) (by kernel_rfl)
  have h32 := is_comparable_run
  have tT := is_typeOf
  have mR := is_method
  have nE := no_is_e
  have uE := no_unwrap_e
  have vE := no_unwraps_e
  have nF := no_is_f
  have uF := has_unwrap_f
  have mU := method_unwrap
  have heq : (binOp BinOp.eql 24 (Value.iface 106 (.pointer (some (A k)))) (Value.iface 106 (.pointer (some (A j))))).run Tryd.prog w = .ok (.bool (decide (k = j))) w := by
    by_cases e : k = j
    · subst e
      rw [decide_eq_true rfl]
      exact run_eql_iface_ptr_same (P := Tryd.prog) w (A k) Tryd.underlying24 Tryd.underlying106 hi hcmp hjj
    · rw [decide_eq_false e]
      obtain ⟨ca, ta, ha⟩ := hG.heap k hk
      obtain ⟨cb, tb, hb⟩ := hG.heap j hj
      exact run_eql_iface_ptr_other (P := Tryd.prog) w Tryd.underlying24 Tryd.underlying106 hi hcmp hjj (by rw [hjs]; decide) (hG.ne k j hk hj e) ha hb
  have hty := fun p => run_eql_iface_types (P := Tryd.prog) 30 106 (.pointer (some p)) (.pointer (some (A j))) Tryd.underlying24 (by decide) w
  have HG := Lib.hid hG
  clear hG hi hcmp hjj hjs
  obtain ⟨bb, hbb⟩ : ∃ bb, decide (k = j) = bb := ⟨_, rfl⟩
  rw [hbb] at heq ⊢
  clear hbb
  have HV := Lib.hid hv
  rcases hv.part with rfl | ⟨p, rfl⟩
  all_goals
    clear hv
    go_enter Tryd.func15, Tryd.ntmps15
    go_wp2
    go_loop [0] (fun u => ∃ L, IsErr w A k L u) (fun u => depth w A k u)
    case atStart => exact ⟨L, HV.out⟩
    case round =>
      obtain ⟨M, hM⟩ := hrel
      cases M with
      | nil =>
        unfold IsErr at hM
        subst hM
        cases bb
        all_goals
          go_wp2
          go_ret
          exact ⟨rfl, rfl⟩
      | cons x M =>
        obtain ⟨rfl, u, hu, hM⟩ := hM
        have hc : w.cell? ⟨x.1, 2, none⟩ = some u := cell_of_row w x.1 2 _ _ _ hu
        have HM := Lib.hid hM
        have HU := Lib.hid hu
        rcases hM.part with rfl | ⟨q, rfl⟩
        all_goals
          clear hM hu
          go_wp2
          go_round
          case rel => exact ⟨M, HM.out⟩
          case measure =>
            refine Nat.lt_of_le_of_lt (Nat.le_of_eq (depth_is HM.out)) ?_
            rw [depth_is (L := x :: M) ⟨rfl, _, HU.out, HM.out⟩]
            exact Nat.lt_succ_self _

end Go.Proofs.YthjjiaobhojelaaDoor
