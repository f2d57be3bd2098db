/- The package fault's small functions: errorOf, Of, Code, Where, Must; the document's texts. -/
import Derived.Test.YthjjiaobhojelaaDoorAs
import Derived.BigQuiet
import Derived.Deep.QuietTactic
namespace Go.Proofs.YthjjiaobhojelaaDoor
open Go.RowKit

/-- At a pointer of the call's own, block b: behind it stands the Fault. -/
theorem as_own (e : Addr) (b : Nat) (old : Value) (w : World) (hg : w.cell? ⟨3, 0, none⟩ = some (.iface 72 (.agg #[.pointer (some ⟨7, 24, none⟩)]))) (ht : w.heap[b]? = some (.cells #[old] 30 (0, 0))) :
    Calls Tryd.prog 11 #[.iface 30 (.pointer (some e)), .iface 32 (.pointer (some ⟨b, 0, none⟩))] w fun ev w' => ev = .returned (.bool true) ∧ w'.heap[b]? = some (.cells #[.pointer (some e)] 30 (0, 0)) ∧ Turn (fun i => i = b) w w' := by
  refine (as_hit e ⟨b, 0, none⟩ old w hg (cell_of_row w b 0 _ _ _ ht) (by simp [World.frozen?, ht])).mono ?_
  rintro ev w' ⟨rfl, rfl⟩
  refine ⟨rfl, ?_, Turn.setCell (((((Turn.refl (fun i => i = b) w).alloc _).alloc _).alloc _).alloc _) (.inl rfl) _⟩
  have hT : Turn (fun _ => False) w ((((w.alloc (.cells #[.pointer (some ⟨b, 0, none⟩)] 32)).alloc (.cells #[.pointer (some ⟨7, 32, none⟩), .pointer (some ⟨w.heap.size, 0, none⟩), .int .u64 150] 51)).alloc (.cells #[.pointer (some ⟨7, 32, none⟩), .pointer (some ⟨w.heap.size, 0, none⟩), .int .u64 150] 51)).alloc (.cells #[.pointer (some e)] 30)) := ((((Turn.refl _ w).alloc _).alloc _).alloc _).alloc _
  exact heap_setCell_at (hT.heap id ht) _


/-- The code of the k-th error. -/
def IsCode (code : Int) (k : Nat) : Prop := (code = 3 ∧ k = 0) ∨ (code = 4 ∧ k = 1) ∨ (code = 5 ∧ k = 2)
theorem IsCode.lt {code : Int} {k : Nat} (h : IsCode code k) : k < 3 := by rcases h with ⟨_, rfl⟩ | ⟨_, rfl⟩ | ⟨_, rfl⟩ <;> decide
theorem IsCode.eq {code : Int} {k : Nat} (h : IsCode code k) : code = (k : Int) + 3 := by rcases h with ⟨rfl, rfl⟩ | ⟨rfl, rfl⟩ | ⟨rfl, rfl⟩ <;> rfl
/-- No error's code. -/
def NoCode (code : Int) : Prop := code ≠ 3 ∧ code ≠ 4 ∧ code ≠ 5
theorem code_part (code : Int) : (∃ k, IsCode code k) ∨ NoCode code := by
  by_cases h3 : code = 3
  · exact .inl ⟨0, .inl ⟨h3, rfl⟩⟩
  by_cases h4 : code = 4
  · exact .inl ⟨1, .inr (.inl ⟨h4, rfl⟩)⟩
  by_cases h5 : code = 5
  · exact .inl ⟨2, .inr (.inr ⟨h5, rfl⟩)⟩
  exact .inr ⟨h3, h4, h5⟩

theorem errOf_yes (code : Int) (k : Nat) (A : Nat → Addr) (w : World) (hc : IsCode code k) (hG : Glob w A) :
    Calls Tryd.prog 17 #[.int .i64 code] w fun e w' => e = .returned (.iface 106 (.pointer (some (A k)))) ∧ w = w' := by
  have c0 := hG.c0
  have c1 := hG.c1
  have c2 := hG.c2
  rcases hc with ⟨rfl, rfl⟩ | ⟨rfl, rfl⟩ | ⟨rfl, rfl⟩
  all_goals
    go_enter Tryd.func17, Tryd.ntmps17
    go_wp2
    go_ret
    exact ⟨rfl, rfl⟩
theorem errOf_no (code : Int) (w : World) (hc : NoCode code) :
    Calls Tryd.prog 17 #[.int .i64 code] w fun e w' => e = .returned .nilIface ∧ w = w' := by
  obtain ⟨h3, h4, h5⟩ := hc
  go_enter Tryd.func17, Tryd.ntmps17
  go_wp2
  go_ret
  exact ⟨rfl, rfl⟩

theorem of_yes (code g op : Int) (k : Nat) (A : Nat → Addr) (w : World) (hc : IsCode code k) (hG : Glob w A) :
    Calls Tryd.prog 7 #[.int .i64 code, .int .i64 g, .int .i64 op] w fun e w' => e = .returned (.iface 30 (.pointer (some ⟨w.heap.size, 0, none⟩))) ∧ w' = w.alloc (.cells #[.int .i64 g, .int .i64 op, .iface 106 (.pointer (some (A k)))] 34) := by
  have HC := Lib.hid hc
  have HG := Lib.hid hG
  clear hc hG
  go_enter Tryd.func7, Tryd.ntmps7
  go_wp2_with fail
  refine (errOf_yes _ k A _ HC.out HG.out).mono ?_
  rintro e w' ⟨rfl, rfl⟩
  go_wp2
  go_ret
  exact ⟨rfl, rfl⟩
theorem of_no (code g op : Int) (w : World) (hc : NoCode code) :
    Calls Tryd.prog 7 #[.int .i64 code, .int .i64 g, .int .i64 op] w fun e w' => e = .returned .nilIface ∧ w = w' := by
  have HC := Lib.hid hc
  clear hc
  go_enter Tryd.func7, Tryd.ntmps7
  go_wp2_with fail
  refine (errOf_no _ _ HC.out).mono ?_
  rintro e w' ⟨rfl, rfl⟩
  go_wp2
  go_ret
  exact ⟨rfl, rfl⟩

theorem code_nil (A : Nat → Addr) (w : World) (hG : Glob w A) :
    Calls Tryd.prog 10 #[.nilIface] w fun e w' => e = .returned (.int .i64 0) ∧ w = w' := by
  have c0 := hG.c0
  have c1 := hG.c1
  have c2 := hG.c2
  clear hG
  go_enter Tryd.func10, Tryd.ntmps10
  go_wp2_with fail
  refine (is_nil (A 0) _).mono ?_
  rintro e w' ⟨rfl, rfl⟩
  go_wp2_with fail
  refine (is_nil (A 1) _).mono ?_
  rintro e w' ⟨rfl, rfl⟩
  go_wp2_with fail
  refine (is_nil (A 2) _).mono ?_
  rintro e w' ⟨rfl, rfl⟩
  go_wp2_with fail
  go_ret
  exact ⟨rfl, rfl⟩

theorem code_any (code : Int) (L : List (Nat × Int × Int)) (k : Nat) (v : Value) (A : Nat → Addr) (w : World) (hc : IsCode code k) (hv : IsErr w A k L v) (hG : Glob w A) :
    Calls Tryd.prog 10 #[v] w fun e w' => e = .returned (.int .i64 code) ∧ w = w' := by
  have c0 := hG.c0
  have c1 := hG.c1
  have c2 := hG.c2
  have HG := Lib.hid hG
  have HV := Lib.hid hv
  clear hG hv
  rcases hc with ⟨rfl, rfl⟩ | ⟨rfl, rfl⟩ | ⟨rfl, rfl⟩
  · go_enter Tryd.func10, Tryd.ntmps10
    go_wp2_with fail
    refine (is_any L 0 0 v A _ (by decide) (by decide) HV.out HG.out).mono ?_
    rintro e w' ⟨rfl, rfl⟩
    go_wp2_with fail
    go_ret
    exact ⟨rfl, rfl⟩
  · go_enter Tryd.func10, Tryd.ntmps10
    go_wp2_with fail
    refine (is_any L 1 0 v A _ (by decide) (by decide) HV.out HG.out).mono ?_
    rintro e w' ⟨rfl, rfl⟩
    go_wp2_with fail
    refine (is_any L 1 1 v A _ (by decide) (by decide) HV.out HG.out).mono ?_
    rintro e w' ⟨rfl, rfl⟩
    go_wp2_with fail
    go_ret
    exact ⟨rfl, rfl⟩
  · go_enter Tryd.func10, Tryd.ntmps10
    go_wp2_with fail
    refine (is_any L 2 0 v A _ (by decide) (by decide) HV.out HG.out).mono ?_
    rintro e w' ⟨rfl, rfl⟩
    go_wp2_with fail
    refine (is_any L 2 1 v A _ (by decide) (by decide) HV.out HG.out).mono ?_
    rintro e w' ⟨rfl, rfl⟩
    go_wp2_with fail
    refine (is_any L 2 2 v A _ (by decide) (by decide) HV.out HG.out).mono ?_
    rintro e w' ⟨rfl, rfl⟩
    go_wp2_with fail
    go_ret
    exact ⟨rfl, rfl⟩

theorem where_nil (w : World) :
    Calls Tryd.prog 9 #[.nilIface] w fun e w' => e = .returned (.tuple #[.int .i64 0, .int .i64 0, .bool false]) ∧ Turn (fun _ => False) w w' := by
  go_enter Tryd.func9, Tryd.ntmps9
  go_wp2_with fail
  refine (as_nil _ _).mono ?_
  rintro e w' ⟨rfl, rfl⟩
  go_wp2_with fail
  go_ret3
  exact ⟨rfl, (Turn.refl _ _).alloc _⟩

theorem rtext_yes (code : Int) (k : Nat) (w : World) (hc : IsCode code k) :
    Calls Tryd.prog 8 #[.int .i64 code] w fun e w' => e = .returned (.string (textS k)) ∧ w = w' := by
  rcases hc with ⟨rfl, rfl⟩ | ⟨rfl, rfl⟩ | ⟨rfl, rfl⟩
  all_goals
    go_enter Tryd.func8, Tryd.ntmps8
    go_wp2
    go_ret
    exact ⟨rfl, rfl⟩
theorem rtext_no (code : Int) (w : World) (hc : NoCode code) :
    Calls Tryd.prog 8 #[.int .i64 code] w fun e w' => e = .returned (.string ⟨#[]⟩) ∧ w = w' := by
  obtain ⟨h3, h4, h5⟩ := hc
  go_enter Tryd.func8, Tryd.ntmps8
  go_wp2
  go_ret
  exact ⟨rfl, rfl⟩

end Go.Proofs.YthjjiaobhojelaaDoor
