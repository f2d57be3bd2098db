/- The walk of FaultTells. -/
import Derived.Test.YthjjiaobhojelaaDoorAlive
namespace Go.Proofs.YthjjiaobhojelaaDoor
open Go.RowKit

theorem unwrap_any (p : Nat) (g op : Int) (u : Value) (w : World) (hp : w.heap[p]? = some (.cells #[.int .i64 g, .int .i64 op, u] 34 (0, 0))) :
    Calls Tryd.prog 14 #[.pointer (some ⟨p, 0, none⟩)] w fun e w' => e = .returned u ∧ w = w' := by
  have c2 : w.cell? ⟨p, 2, none⟩ = some u := cell_of_row w p 2 _ _ _ hp
  clear hp
  go_enter Tryd.func14, Tryd.ntmps14
  go_wp2
  go_ret
  exact ⟨rfl, rfl⟩

set_option maxHeartbeats 4000000 in
set_option maxRecDepth 100000 in
theorem tells_no (code g op : Int) (A : Nat → Addr) (w : World) (hG : Glob w A) (hc : NoCode code) :
    Calls Tryd.prog 3 #[.int .i64 code, .int .i64 g, .int .i64 op] w fun e w' => e = .returned (.bool true) ∧ Turn (fun _ => False) w w' := by
  have HG := Lib.hid hG
  have HC := Lib.hid hc
  clear hG hc
  go_enter Tryd.func3, Tryd.ntmps3
  go_wp2_with fail
  refine (alive_any A _ HG.out).mono ?_
  rintro e w1 ⟨rfl, t1⟩
  have T1 := Lib.hid t1
  clear t1
  go_wp2_with fail
  refine (of_no _ _ _ _ HC.out).mono ?_
  rintro e w' ⟨rfl, rfl⟩
  go_wp2_with fail
  refine (rtext_no _ _ HC.out).mono ?_
  rintro e w' ⟨rfl, rfl⟩
  go_wp2_with fail
  refine (where_nil _).mono ?_
  rintro e w2 ⟨rfl, t2⟩
  have T2 := Lib.hid (T1.out.trans t2)
  clear t2
  go_wp2_with fail
  refine (code_nil A _ (HG.out.kept T2.out)).mono ?_
  rintro e w' ⟨rfl, rfl⟩
  go_wp2_with fail
  go_ret
  exact ⟨rfl, T2.out⟩

set_option maxHeartbeats 8000000 in
set_option maxRecDepth 100000 in
theorem tells_yes (code g op : Int) (k : Nat) (A : Nat → Addr) (w : World) (hG : Glob w A) (hc : IsCode code k) (hg : In64 g) (ho : In64 op) :
    Calls Tryd.prog 3 #[.int .i64 code, .int .i64 g, .int .i64 op] w fun e w' => e = .returned (.bool true) ∧ Turn (fun _ => False) w w' := by
  have HG := Lib.hid hG
  have HC := Lib.hid hc
  have HI := Lib.hid (And.intro hg ho)
  clear hG hg ho
  rcases hc with ⟨rfl, rfl⟩ | ⟨rfl, rfl⟩ | ⟨rfl, rfl⟩
  · go_enter Tryd.func3, Tryd.ntmps3
    go_wp2_with fail
    refine (alive_any A _ HG.out).mono ?_
    rintro e w1 ⟨rfl, t1⟩
    have T1 := Lib.hid t1
    clear t1
    go_wp2_with fail
    refine (of_yes _ _ _ _ A _ HC.out (HG.out.kept T1.out)).mono ?_
    rintro e w2 ⟨rfl, h2⟩
    have T2 := Lib.hid (show Turn (fun _ => False) w1 w2 from h2 ▸ (Turn.refl _ w1).alloc _)
    have P2 := Lib.hid (show w2.heap[w1.heap.size]? = _ from h2 ▸ heap_alloc_new w1 _)
    have S2 : w1.heap.size < w2.heap.size := (Array.getElem?_eq_some_iff.1 P2.out).1
    clear h2
    go_wp2_with fail
    refine (rtext_yes _ _ _ HC.out).mono ?_
    rintro e w' ⟨rfl, rfl⟩
    dsimp only [textS, textL]
    go_wp2_with fail
    refine (as_own ⟨w1.heap.size, 0, none⟩ w2.heap.size (.pointer none) _ ((HG.out.kept (T1.out.trans T2.out)).kept ((Turn.refl _ w2).alloc _)).c3 (heap_alloc_new w2 _)).mono ?_
    rintro e w3 ⟨rfl, hb, t3⟩
    have T3 := Lib.hid (show Turn (fun _ => False) w2 w3 from ((Turn.refl _ w2).alloc _).and t3 (fun i hi e => by omega))
    have P3 := Lib.hid (T3.out.heap id P2.out)
    have HB := Lib.hid hb
    have cf : w3.cell? ⟨w2.heap.size, 0, none⟩ = some (.pointer (some ⟨w1.heap.size, 0, none⟩)) := cell_of_row w3 w2.heap.size 0 _ _ _ hb
    have cg : w3.cell? ⟨w1.heap.size, 0, none⟩ = some (.int .i64 g) := cell_of_row w3 w1.heap.size 0 _ _ _ P3.out
    have co : w3.cell? ⟨w1.heap.size, 1, none⟩ = some (.int .i64 op) := cell_of_row w3 w1.heap.size 1 _ _ _ P3.out
    have T3' := Lib.hid ((T1.out.trans T2.out).trans T3.out)
    clear hb t3
    go_wp2_with fail
    refine (error_any w1.heap.size _ g op A _ P3.out HC.out.lt (HG.out.kept T3'.out) HI.out.1 HI.out.2).mono ?_
    rintro e w4 ⟨rfl, t4⟩
    have T4 := Lib.hid t4
    clear t4
    go_wp2_with fail
    refine (whole_any _ _ g op _ HC.out HI.out.1 HI.out.2).mono ?_
    rintro e w5 ⟨rfl, t5⟩
    have T5 := Lib.hid (T4.out.trans t5)
    have P5 := Lib.hid (T5.out.heap id P3.out)
    have T5' := Lib.hid (T3'.out.trans T5.out)
    clear t5 cf cg co
    go_wp2_with fail
    refine (where_any w1.heap.size g op _ A _ P5.out (HG.out.kept T5'.out)).mono ?_
    rintro e w6 ⟨rfl, t6⟩
    have T6 := Lib.hid (T5'.out.trans t6)
    have G6 := Lib.hid (HG.out.kept T6.out)
    have P6 := Lib.hid (t6.heap id P5.out)
    have cf : w6.cell? ⟨w2.heap.size, 0, none⟩ = some (.pointer (some ⟨w1.heap.size, 0, none⟩)) := cell_of_row w6 w2.heap.size 0 _ _ _ ((T5.out.trans t6).heap id HB.out)
    have c0 := G6.out.c0
    have c1 := G6.out.c1
    have c2 := G6.out.c2
    clear t6
    have E6 := Lib.hid (show IsErr w6 A _ [(w1.heap.size, g, op)] (.iface 30 (.pointer (some ⟨w1.heap.size, 0, none⟩))) from ⟨rfl, _, P6.out, rfl⟩)
    go_wp2_with fail
    refine (unwrap_any w1.heap.size g op _ _ P6.out).mono ?_
    rintro e w' ⟨rfl, rfl⟩
    go_wp2_with fail
    refine (code_any _ [] _ _ A _ HC.out rfl G6.out).mono ?_
    rintro e w' ⟨rfl, rfl⟩
    go_wp2_with fail
    refine (code_any _ _ _ _ A _ HC.out E6.out G6.out).mono ?_
    rintro e w' ⟨rfl, rfl⟩
    go_wp2_with fail
    refine (is_any _ _ 0 _ A _ HC.out.lt (by decide) E6.out G6.out).mono ?_
    rintro e w' ⟨rfl, rfl⟩
    go_wp2_with fail
    refine (is_any _ _ 1 _ A _ HC.out.lt (by decide) E6.out G6.out).mono ?_
    rintro e w' ⟨rfl, rfl⟩
    go_wp2_with fail
    refine (is_any _ _ 2 _ A _ HC.out.lt (by decide) E6.out G6.out).mono ?_
    rintro e w' ⟨rfl, rfl⟩
    go_wp2_with fail
    go_ret
    exact ⟨rfl, T6.out⟩
  · go_enter Tryd.func3, Tryd.ntmps3
    go_wp2_with fail
    refine (alive_any A _ HG.out).mono ?_
    rintro e w1 ⟨rfl, t1⟩
    have T1 := Lib.hid t1
    clear t1
    go_wp2_with fail
    refine (of_yes _ _ _ _ A _ HC.out (HG.out.kept T1.out)).mono ?_
    rintro e w2 ⟨rfl, h2⟩
    have T2 := Lib.hid (show Turn (fun _ => False) w1 w2 from h2 ▸ (Turn.refl _ w1).alloc _)
    have P2 := Lib.hid (show w2.heap[w1.heap.size]? = _ from h2 ▸ heap_alloc_new w1 _)
    have S2 : w1.heap.size < w2.heap.size := (Array.getElem?_eq_some_iff.1 P2.out).1
    clear h2
    go_wp2_with fail
    refine (rtext_yes _ _ _ HC.out).mono ?_
    rintro e w' ⟨rfl, rfl⟩
    dsimp only [textS, textL]
    go_wp2_with fail
    refine (as_own ⟨w1.heap.size, 0, none⟩ w2.heap.size (.pointer none) _ ((HG.out.kept (T1.out.trans T2.out)).kept ((Turn.refl _ w2).alloc _)).c3 (heap_alloc_new w2 _)).mono ?_
    rintro e w3 ⟨rfl, hb, t3⟩
    have T3 := Lib.hid (show Turn (fun _ => False) w2 w3 from ((Turn.refl _ w2).alloc _).and t3 (fun i hi e => by omega))
    have P3 := Lib.hid (T3.out.heap id P2.out)
    have HB := Lib.hid hb
    have cf : w3.cell? ⟨w2.heap.size, 0, none⟩ = some (.pointer (some ⟨w1.heap.size, 0, none⟩)) := cell_of_row w3 w2.heap.size 0 _ _ _ hb
    have cg : w3.cell? ⟨w1.heap.size, 0, none⟩ = some (.int .i64 g) := cell_of_row w3 w1.heap.size 0 _ _ _ P3.out
    have co : w3.cell? ⟨w1.heap.size, 1, none⟩ = some (.int .i64 op) := cell_of_row w3 w1.heap.size 1 _ _ _ P3.out
    have T3' := Lib.hid ((T1.out.trans T2.out).trans T3.out)
    clear hb t3
    go_wp2_with fail
    refine (error_any w1.heap.size _ g op A _ P3.out HC.out.lt (HG.out.kept T3'.out) HI.out.1 HI.out.2).mono ?_
    rintro e w4 ⟨rfl, t4⟩
    have T4 := Lib.hid t4
    clear t4
    go_wp2_with fail
    refine (whole_any _ _ g op _ HC.out HI.out.1 HI.out.2).mono ?_
    rintro e w5 ⟨rfl, t5⟩
    have T5 := Lib.hid (T4.out.trans t5)
    have P5 := Lib.hid (T5.out.heap id P3.out)
    have T5' := Lib.hid (T3'.out.trans T5.out)
    clear t5 cf cg co
    go_wp2_with fail
    refine (where_any w1.heap.size g op _ A _ P5.out (HG.out.kept T5'.out)).mono ?_
    rintro e w6 ⟨rfl, t6⟩
    have T6 := Lib.hid (T5'.out.trans t6)
    have G6 := Lib.hid (HG.out.kept T6.out)
    have P6 := Lib.hid (t6.heap id P5.out)
    have cf : w6.cell? ⟨w2.heap.size, 0, none⟩ = some (.pointer (some ⟨w1.heap.size, 0, none⟩)) := cell_of_row w6 w2.heap.size 0 _ _ _ ((T5.out.trans t6).heap id HB.out)
    have c0 := G6.out.c0
    have c1 := G6.out.c1
    have c2 := G6.out.c2
    clear t6
    have E6 := Lib.hid (show IsErr w6 A _ [(w1.heap.size, g, op)] (.iface 30 (.pointer (some ⟨w1.heap.size, 0, none⟩))) from ⟨rfl, _, P6.out, rfl⟩)
    go_wp2_with fail
    refine (unwrap_any w1.heap.size g op _ _ P6.out).mono ?_
    rintro e w' ⟨rfl, rfl⟩
    go_wp2_with fail
    refine (code_any _ [] _ _ A _ HC.out rfl G6.out).mono ?_
    rintro e w' ⟨rfl, rfl⟩
    go_wp2_with fail
    refine (code_any _ _ _ _ A _ HC.out E6.out G6.out).mono ?_
    rintro e w' ⟨rfl, rfl⟩
    go_wp2_with fail
    refine (is_any _ _ 0 _ A _ HC.out.lt (by decide) E6.out G6.out).mono ?_
    rintro e w' ⟨rfl, rfl⟩
    go_wp2_with fail
    refine (is_any _ _ 1 _ A _ HC.out.lt (by decide) E6.out G6.out).mono ?_
    rintro e w' ⟨rfl, rfl⟩
    go_wp2_with fail
    refine (is_any _ _ 2 _ A _ HC.out.lt (by decide) E6.out G6.out).mono ?_
    rintro e w' ⟨rfl, rfl⟩
    go_wp2_with fail
    go_ret
    exact ⟨rfl, T6.out⟩
  · go_enter Tryd.func3, Tryd.ntmps3
    go_wp2_with fail
    refine (alive_any A _ HG.out).mono ?_
    rintro e w1 ⟨rfl, t1⟩
    have T1 := Lib.hid t1
    clear t1
    go_wp2_with fail
    refine (of_yes _ _ _ _ A _ HC.out (HG.out.kept T1.out)).mono ?_
    rintro e w2 ⟨rfl, h2⟩
    have T2 := Lib.hid (show Turn (fun _ => False) w1 w2 from h2 ▸ (Turn.refl _ w1).alloc _)
    have P2 := Lib.hid (show w2.heap[w1.heap.size]? = _ from h2 ▸ heap_alloc_new w1 _)
    have S2 : w1.heap.size < w2.heap.size := (Array.getElem?_eq_some_iff.1 P2.out).1
    clear h2
    go_wp2_with fail
    refine (rtext_yes _ _ _ HC.out).mono ?_
    rintro e w' ⟨rfl, rfl⟩
    dsimp only [textS, textL]
    go_wp2_with fail
    refine (as_own ⟨w1.heap.size, 0, none⟩ w2.heap.size (.pointer none) _ ((HG.out.kept (T1.out.trans T2.out)).kept ((Turn.refl _ w2).alloc _)).c3 (heap_alloc_new w2 _)).mono ?_
    rintro e w3 ⟨rfl, hb, t3⟩
    have T3 := Lib.hid (show Turn (fun _ => False) w2 w3 from ((Turn.refl _ w2).alloc _).and t3 (fun i hi e => by omega))
    have P3 := Lib.hid (T3.out.heap id P2.out)
    have HB := Lib.hid hb
    have cf : w3.cell? ⟨w2.heap.size, 0, none⟩ = some (.pointer (some ⟨w1.heap.size, 0, none⟩)) := cell_of_row w3 w2.heap.size 0 _ _ _ hb
    have cg : w3.cell? ⟨w1.heap.size, 0, none⟩ = some (.int .i64 g) := cell_of_row w3 w1.heap.size 0 _ _ _ P3.out
    have co : w3.cell? ⟨w1.heap.size, 1, none⟩ = some (.int .i64 op) := cell_of_row w3 w1.heap.size 1 _ _ _ P3.out
    have T3' := Lib.hid ((T1.out.trans T2.out).trans T3.out)
    clear hb t3
    go_wp2_with fail
    refine (error_any w1.heap.size _ g op A _ P3.out HC.out.lt (HG.out.kept T3'.out) HI.out.1 HI.out.2).mono ?_
    rintro e w4 ⟨rfl, t4⟩
    have T4 := Lib.hid t4
    clear t4
    go_wp2_with fail
    refine (whole_any _ _ g op _ HC.out HI.out.1 HI.out.2).mono ?_
    rintro e w5 ⟨rfl, t5⟩
    have T5 := Lib.hid (T4.out.trans t5)
    have P5 := Lib.hid (T5.out.heap id P3.out)
    have T5' := Lib.hid (T3'.out.trans T5.out)
    clear t5 cf cg co
    go_wp2_with fail
    refine (where_any w1.heap.size g op _ A _ P5.out (HG.out.kept T5'.out)).mono ?_
    rintro e w6 ⟨rfl, t6⟩
    have T6 := Lib.hid (T5'.out.trans t6)
    have G6 := Lib.hid (HG.out.kept T6.out)
    have P6 := Lib.hid (t6.heap id P5.out)
    have cf : w6.cell? ⟨w2.heap.size, 0, none⟩ = some (.pointer (some ⟨w1.heap.size, 0, none⟩)) := cell_of_row w6 w2.heap.size 0 _ _ _ ((T5.out.trans t6).heap id HB.out)
    have c0 := G6.out.c0
    have c1 := G6.out.c1
    have c2 := G6.out.c2
    clear t6
    have E6 := Lib.hid (show IsErr w6 A _ [(w1.heap.size, g, op)] (.iface 30 (.pointer (some ⟨w1.heap.size, 0, none⟩))) from ⟨rfl, _, P6.out, rfl⟩)
    go_wp2_with fail
    refine (unwrap_any w1.heap.size g op _ _ P6.out).mono ?_
    rintro e w' ⟨rfl, rfl⟩
    go_wp2_with fail
    refine (code_any _ [] _ _ A _ HC.out rfl G6.out).mono ?_
    rintro e w' ⟨rfl, rfl⟩
    go_wp2_with fail
    refine (code_any _ _ _ _ A _ HC.out E6.out G6.out).mono ?_
    rintro e w' ⟨rfl, rfl⟩
    go_wp2_with fail
    refine (is_any _ _ 0 _ A _ HC.out.lt (by decide) E6.out G6.out).mono ?_
    rintro e w' ⟨rfl, rfl⟩
    go_wp2_with fail
    refine (is_any _ _ 1 _ A _ HC.out.lt (by decide) E6.out G6.out).mono ?_
    rintro e w' ⟨rfl, rfl⟩
    go_wp2_with fail
    refine (is_any _ _ 2 _ A _ HC.out.lt (by decide) E6.out G6.out).mono ?_
    rintro e w' ⟨rfl, rfl⟩
    go_wp2_with fail
    go_ret
    exact ⟨rfl, T6.out⟩

theorem tells_any (code g op : Int) (A : Nat → Addr) (w : World) (hG : Glob w A) (hg : In64 g) (ho : In64 op) :
    Calls Tryd.prog 3 #[.int .i64 code, .int .i64 g, .int .i64 op] w fun e w' => e = .returned (.bool true) ∧ Turn (fun _ => False) w w' := by
  rcases code_part code with ⟨k, hk⟩ | hn
  · exact tells_yes code g op k A w hG hk hg ho
  · exact tells_no code g op A w hG hn

end Go.Proofs.YthjjiaobhojelaaDoor
