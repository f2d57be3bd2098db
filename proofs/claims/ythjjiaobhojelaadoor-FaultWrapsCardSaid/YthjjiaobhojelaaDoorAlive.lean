/- The laws' first step: the chapter's example. -/
import Derived.Test.YthjjiaobhojelaaDoorError
import Derived.Test.YthjjiaobhojelaaDoorWhere
namespace Go.Proofs.YthjjiaobhojelaaDoor
open Go.RowKit

theorem example_text : (⟨(wholeL 1 1 2).toArray⟩ : ByteArray) = { data := #[103, 111, 114, 111, 117, 116, 105, 110, 101, 32, 49, 44, 32, 111, 112, 101, 114, 97, 116, 105, 111, 110, 32, 50, 58, 32, 99, 108, 111, 115, 101, 32, 111, 102, 32, 99, 108, 111, 115, 101, 100, 32, 99, 104, 97, 110, 110, 101, 108] } := by
  have h1 : Lib.itoa 1 = [49] := by unfold Lib.itoa; rw [if_neg (by decide), dec_small (by decide)]; rfl
  have h2 : Lib.itoa 2 = [50] := by unfold Lib.itoa; rw [if_neg (by decide), dec_small (by decide)]; rfl
  unfold wholeL
  rw [h1, h2]
  rfl

set_option maxHeartbeats 4000000 in
set_option maxRecDepth 100000 in
theorem alive_any (A : Nat → Addr) (w : World) (hG : Glob w A) :
    Calls Tryd.prog 6 #[] w fun e w' => e = .returned (.bool true) ∧ Turn (fun _ => False) w w' := by
  have HG := Lib.hid hG
  clear hG
  have HE := Lib.hid example_text
  go_enter Tryd.func6, Tryd.ntmps6
  go_wp2_with fail
  refine (of_yes 4 1 2 1 A _ (.inr (.inl ⟨rfl, rfl⟩)) HG.out).mono ?_
  rintro e w1 ⟨rfl, h1⟩
  have T1 := Lib.hid (show Turn (fun _ => False) w w1 from h1 ▸ (Turn.refl _ w).alloc _)
  have P1 := Lib.hid (show w1.heap[w.heap.size]? = some (.cells #[.int .i64 1, .int .i64 2, .iface 106 (.pointer (some (A 1)))] 34 (0, 0)) from h1 ▸ heap_alloc_new w _)
  have S1 : w.heap.size < w1.heap.size := (Array.getElem?_eq_some_iff.1 P1.out).1
  clear h1
  go_wp2_with fail
  refine (as_own ⟨w.heap.size, 0, none⟩ w1.heap.size (.pointer none) _ (HG.out.kept (T1.out.alloc _)).c3 (heap_alloc_new w1 _)).mono ?_
  rintro e w2 ⟨rfl, hb, t2⟩
  have T2 := Lib.hid (show Turn (fun _ => False) w1 w2 from ((Turn.refl _ w1).alloc _).and t2 (fun i hi e => by omega))
  have P2 := Lib.hid (T2.out.heap id P1.out)
  have c2 : w2.cell? ⟨w1.heap.size, 0, none⟩ = some (.pointer (some ⟨w.heap.size, 0, none⟩)) := cell_of_row w2 w1.heap.size 0 _ _ _ hb
  clear hb t2
  go_wp2_with fail
  refine (error_any w.heap.size 1 1 2 A _ P2.out (by decide) (HG.out.kept (T1.out.trans T2.out)) ⟨by decide, by decide⟩ ⟨by decide, by decide⟩).mono ?_
  rintro e w3 ⟨rfl, t3⟩
  have T3 := Lib.hid t3
  clear t3
  rw [HE.out]
  go_wp2_with fail
  go_ret
  exact ⟨rfl, (T1.out.trans T2.out).trans T3.out⟩

end Go.Proofs.YthjjiaobhojelaaDoor
