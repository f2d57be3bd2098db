/- Where of a Fault; Must; the document's number's text. -/
import Derived.Test.YthjjiaobhojelaaDoorSmall
namespace Go.Proofs.YthjjiaobhojelaaDoor
open Go.RowKit

set_option maxHeartbeats 1000000 in
theorem where_any (p : Nat) (g op : Int) (u : Value) (A : Nat → Addr) (w : World) (hp : w.heap[p]? = some (.cells #[.int .i64 g, .int .i64 op, u] 34 (0, 0))) (hG : Glob w A) :
    Calls Tryd.prog 9 #[.iface 30 (.pointer (some ⟨p, 0, none⟩))] w fun e w' => e = .returned (.tuple #[.int .i64 g, .int .i64 op, .bool true]) ∧ Turn (fun _ => False) w w' := by
  have HP := Lib.hid hp
  have HG := Lib.hid hG
  have plt : p < w.heap.size := (Array.getElem?_eq_some_iff.1 hp).1
  clear hp hG
  go_enter Tryd.func9, Tryd.ntmps9
  go_wp2_with fail
  refine (as_own ⟨p, 0, none⟩ w.heap.size (.pointer none) _ (HG.out.kept ((Turn.refl _ w).alloc _)).c3 (heap_alloc_new w _)).mono ?_
  rintro e w1 ⟨rfl, hb, t1⟩
  have c0 := cell_of_row w1 w.heap.size 0 _ _ _ hb
  have hp1 : w1.heap[p]? = some (.cells #[.int .i64 g, .int .i64 op, u] 34 (0, 0)) := t1.heap (by omega) (((Turn.refl (fun _ => False) w).alloc _).heap id HP.out)
  have c1 : w1.cell? ⟨p, 0, none⟩ = some (.int .i64 g) := cell_of_row w1 p 0 _ _ _ hp1
  have c2 : w1.cell? ⟨p, 1, none⟩ = some (.int .i64 op) := cell_of_row w1 p 1 _ _ _ hp1
  have c0' : w1.cell? ⟨w.heap.size, 0, none⟩ = some (.pointer (some ⟨p, 0, none⟩)) := c0
  have T1 := Lib.hid t1
  clear c0 hb hp1 t1
  go_wp2_with fail
  go_quiet (fail)
  go_wp2_with fail
  go_ret3
  exact ⟨rfl, (((Turn.refl (fun _ => False) w).alloc _).and T1.out (fun i hi e => absurd e (by omega))).drewN _⟩

theorem must_done (w : World) : Calls Tryd.prog 16 #[.int .i64 1] w fun e w' => e = .returned (.tuple #[.bool true, .nilIface]) ∧ w = w' := by
  go_enter Tryd.func16, Tryd.ntmps16
  go_wp2
  go_ret2
  exact ⟨rfl, rfl⟩
theorem must_yes (code : Int) (k : Nat) (A : Nat → Addr) (w : World) (hc : IsCode code k) (hG : Glob w A) :
    Calls Tryd.prog 16 #[.int .i64 code] w fun e w' => e = .returned (.tuple #[.bool false, .iface 106 (.pointer (some (A k)))]) ∧ w = w' := by
  have HG := Lib.hid hG
  clear hG
  have HC := Lib.hid hc
  rcases hc with ⟨rfl, rfl⟩ | ⟨rfl, rfl⟩ | ⟨rfl, rfl⟩
  all_goals
    go_enter Tryd.func16, Tryd.ntmps16
    go_wp2_with fail
    refine (errOf_yes _ _ A _ HC.out HG.out).mono ?_
    rintro e w' ⟨rfl, rfl⟩
    go_wp2
    go_ret2
    exact ⟨rfl, rfl⟩
theorem must_no (code : Int) (w : World) (hc : NoCode code) (h1 : code ≠ 1) :
    Calls Tryd.prog 16 #[.int .i64 code] w fun e w' => e = .returned (.tuple #[.bool false, .nilIface]) ∧ w = w' := by
  have HC := Lib.hid hc
  clear hc
  by_cases h2 : code = 2
  · subst h2
    go_enter Tryd.func16, Tryd.ntmps16
    go_wp2
    go_ret2
    exact ⟨rfl, rfl⟩
  by_cases h6 : code = 6
  · subst h6
    go_enter Tryd.func16, Tryd.ntmps16
    go_wp2
    go_ret2
    exact ⟨rfl, rfl⟩
  by_cases h7 : code = 7
  · subst h7
    go_enter Tryd.func16, Tryd.ntmps16
    go_wp2
    go_ret2
    exact ⟨rfl, rfl⟩
  go_enter Tryd.func16, Tryd.ntmps16
  go_wp2_with fail
  refine (errOf_no _ _ HC.out).mono ?_
  rintro e w' ⟨rfl, rfl⟩
  go_wp2
  go_ret2
  exact ⟨rfl, rfl⟩

end Go.Proofs.YthjjiaobhojelaaDoor
