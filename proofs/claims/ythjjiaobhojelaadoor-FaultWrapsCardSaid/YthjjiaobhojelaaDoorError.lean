/- The walk of a Fault's Error. -/
import Derived.Test.YthjjiaobhojelaaDoorErr
namespace Go.Proofs.YthjjiaobhojelaaDoor
open Go.RowKit Go.Extern.Stop Go.Stop Go.Extern

set_option maxHeartbeats 4000000 in
set_option maxRecDepth 100000 in
theorem error_any (p k : Nat) (g op : Int) (A : Nat → Addr) (w : World) (hp : w.heap[p]? = some (.cells #[.int .i64 g, .int .i64 op, .iface 106 (.pointer (some (A k)))] 34 (0, 0))) (hk : k < 3) (hG : Glob w A) (hg : In64 g) (ho : In64 op) :
    Calls Tryd.prog 12 #[.pointer (some ⟨p, 0, none⟩)] w fun e w' => e = .returned (.string ⟨(wholeL k g op).toArray⟩) ∧ Turn (fun _ => False) w w' := by
  have plt : p < w.heap.size := (Array.getElem?_eq_some_iff.1 hp).1
  have lg := hg.len
  have lo := ho.len
  have lt := textL_length k
  have la := ahead_length hg ho
  have a1 := add_str [103, 111, 114, 111, 117, 116, 105, 110, 101, 32] (Lib.itoa g) (by simp; omega)
  have a2 := add_str ([103, 111, 114, 111, 117, 116, 105, 110, 101, 32] ++ Lib.itoa g) [44, 32, 111, 112, 101, 114, 97, 116, 105, 111, 110, 32] (by simp; omega)
  have a3 := add_str ([103, 111, 114, 111, 117, 116, 105, 110, 101, 32] ++ Lib.itoa g ++ [44, 32, 111, 112, 101, 114, 97, 116, 105, 111, 110, 32]) (Lib.itoa op) (by simp; omega)
  have a4 := add_str ([103, 111, 114, 111, 117, 116, 105, 110, 101, 32] ++ Lib.itoa g ++ [44, 32, 111, 112, 101, 114, 97, 116, 105, 111, 110, 32] ++ Lib.itoa op) [58, 32] (by simp; omega)
  obtain ⟨l1, h1⟩ : ∃ l, [103, 111, 114, 111, 117, 116, 105, 110, 101, 32] ++ Lib.itoa g = l := ⟨_, rfl⟩
  rw [h1] at a1 a2 a3 a4
  obtain ⟨l2, h2⟩ : ∃ l, l1 ++ [44, 32, 111, 112, 101, 114, 97, 116, 105, 111, 110, 32] = l := ⟨_, rfl⟩
  rw [h2] at a2 a3 a4
  obtain ⟨l3, h3⟩ : ∃ l, l2 ++ Lib.itoa op = l := ⟨_, rfl⟩
  rw [h3] at a3 a4
  obtain ⟨l4, h4⟩ : ∃ l, l3 ++ [58, 32] = l := ⟨_, rfl⟩
  rw [h4] at a4
  have hA : aheadL g op = l4 := by unfold aheadL; rw [h1, h2, h3, h4]
  have hW : wholeL k g op = [] ++ l4 ++ textL k := by unfold wholeL; rw [h1, h2, h3, h4]; rfl
  rw [hA] at la
  have LEN := Lib.hid (show l4.length ≤ 64 ∧ (textL k).length ≤ 23 from ⟨la, lt⟩)
  rw [hW]
  obtain ⟨sk, hsk⟩ : ∃ s, textS k = s := ⟨_, rfl⟩
  have HSK := Lib.hid hsk
  have HP := Lib.hid hp
  have HG := Lib.hid hG
  have HK := Lib.hid hk
  have HI := Lib.hid (And.intro hg ho)
  have nF := no_fault_e
  have KEEP := Lib.hid (show ∀ w', Turn (fun i => w.heap.size ≤ i) w w' → (w'.cell? ⟨p, 0, none⟩ = some (.int .i64 g) ∧ w'.cell? ⟨p, 1, none⟩ = some (.int .i64 op)) ∧ w'.cell? ⟨p, 2, none⟩ = some (.iface 106 (.pointer (some (A k)))) from fun w' t => by
    have h := t.heap (show ¬ w.heap.size ≤ p by omega) hp
    exact ⟨⟨cell_of_row w' p 0 _ _ _ h, cell_of_row w' p 1 _ _ _ h⟩, cell_of_row w' p 2 _ _ _ h⟩)
  have GLOB := Lib.hid (show ∀ w', Turn (fun i => w.heap.size ≤ i) w w' → Glob w' A from fun w' t => (by
    have t' : Turn (fun _ => False) w w' := t.mono fun i hi e => by omega
    exact hG.kept t'))
  clear hA hW h1 h2 h3 h4 hg ho lg lo lt la hsk hp hG hk
  go_enter Tryd.func12, Tryd.ntmps12
  go_wp2_with fail
  refine wp_loop_rounds 1 ?_
  rw [rounds_succ]
  go_wp2_with fail
  have B0 := Lib.hid (Bld.new w)
  have C0 := KEEP.out _ (B0.out.turn)
  refine stand_start (by kernel_rfl) 99 (fun w' => w'.cell? ⟨p, 0, none⟩ = some (.int .i64 g) ∧ w'.cell? ⟨p, 1, none⟩ = some (.int .i64 op)) 99 (fun w' => True) C0.1 trivial ?_
  clear C0
  refine stand_take (i := 0) (v := ?_) rfl (by kernel_rfl) (by kernel_rfl) (by kernel_rfl) (by rfl) (fun _ _ _ h => h) (by decide) (by decide) (by rfl) ?_ ?_
  rotate_left
  · (intro w; go_simp; try with_reducible rfl)
  dsimp only [List.set_cons_zero, List.set_cons_succ]
  refine stand_take (i := 1) (v := ?_) rfl (by kernel_rfl) (by kernel_rfl) (by kernel_rfl) (by rfl) (fun _ _ _ h => h) (by decide) (by decide) (by rfl) ?_ ?_
  rotate_left
  · (intro w; go_simp; try with_reducible rfl)
  dsimp only [List.set_cons_zero, List.set_cons_succ]
  refine stand_take (i := 2) (v := ?_) rfl (by kernel_rfl) (by kernel_rfl) (by kernel_rfl) (by rfl) (fun _ _ _ h => h) (by decide) (by decide) (by rfl) ?_ ?_
  rotate_left
  · (intro w; go_simp; try with_reducible rfl)
  dsimp only [List.set_cons_zero, List.set_cons_succ]
  refine stand_take (i := 7) (v := ?_) rfl (by kernel_rfl) (by kernel_rfl) (by kernel_rfl) (by rfl) (fun _ _ _ h => h) (by decide) (by decide) (by rfl) ?_ ?_
  rotate_left
  · (intro w; go_simp; try with_reducible rfl)
  dsimp only [List.set_cons_zero, List.set_cons_succ]
  refine stand_take (i := 8) (v := ?_) rfl (by kernel_rfl) (by kernel_rfl) (by kernel_rfl) (by rfl) (fun _ _ _ h => h) (by decide) (by decide) (by rfl) ?_ ?_
  rotate_left
  · (intro w; go_simp; try with_reducible rfl)
  dsimp only [List.set_cons_zero, List.set_cons_succ]
  refine stand_take (i := 9) (v := ?_) rfl (by kernel_rfl) (by kernel_rfl) (by kernel_rfl) (by rfl) (fun _ _ _ h => h) (by decide) (by decide) (by rfl) ?_ ?_
  rotate_left
  · (intro w; go_simp; try with_reducible rfl)
  dsimp only [List.set_cons_zero, List.set_cons_succ]
  refine stand_load3 (i := 3) (v := ?_) rfl (by kernel_rfl) (by kernel_rfl) (by kernel_rfl) (by rfl) (fun _ _ _ h => h) (by decide) (by decide) (by kernel_rfl) (by rfl) ?_ ?_
  rotate_left
  · (intro w hA; (try dsimp only at hA); go_simp; try with_reducible rfl)
  dsimp only [List.set_cons_zero, List.set_cons_succ]
  refine stand_load3 (i := 10) (v := ?_) rfl (by kernel_rfl) (by kernel_rfl) (by kernel_rfl) (by rfl) (fun _ _ _ h => h) (by decide) (by decide) (by kernel_rfl) (by rfl) ?_ ?_
  rotate_left
  · (intro w hA; (try dsimp only at hA); go_simp; try with_reducible rfl)
  dsimp only [List.set_cons_zero, List.set_cons_succ]
  refine stand_step (i := 4) (by kernel_rfl) rfl (fun K hK => ?_)
  go_simp
  have B1 := Lib.hid (B0.out.kept (Turn.refl (fun _ => False) _).drew)
  refine (Tryd.strconv_Itoa g HI.out.1.1 HI.out.1.2 _ (GLOB.out _ B1.out.turn).tab).mono ?_
  rintro e w4 ⟨rfl, k4, os4, h4⟩
  have B4 := Lib.hid (B1.out.kept (h4 ▸ grow_turn _ k4 os4))
  clear h4
  refine hK.out _ _ (fun _ => (KEEP.out _ B4.out.turn).1) (fun _ => trivial) ?_
  clear hK K
  try simp only [put_laid, List.set_cons_zero, List.set_cons_succ]
  refine stand_take (i := 5) (v := ?_) rfl (by kernel_rfl) (by kernel_rfl) (by kernel_rfl) (by rfl) (fun _ _ _ h => h) (by decide) (by decide) (by rfl) ?_ ?_
  rotate_left
  · (intro w; go_simp; try with_reducible rfl)
  dsimp only [List.set_cons_zero, List.set_cons_succ]
  refine stand_take (i := 6) (v := ?_) rfl (by kernel_rfl) (by kernel_rfl) (by kernel_rfl) (by rfl) (fun _ _ _ h => h) (by decide) (by decide) (by rfl) ?_ ?_
  rotate_left
  · (intro w; go_simp; try with_reducible rfl)
  dsimp only [List.set_cons_zero, List.set_cons_succ]
  refine stand_step (i := 11) (by kernel_rfl) rfl (fun K hK => ?_)
  go_simp
  refine (Tryd.strconv_Itoa op HI.out.2.1 HI.out.2.2 _ (GLOB.out _ B4.out.turn).tab).mono ?_
  rintro e w5 ⟨rfl, k5, os5, h5⟩
  have B5 := Lib.hid (B4.out.kept (h5 ▸ grow_turn _ k5 os5))
  clear h5
  refine hK.out _ _ (fun _ => (KEEP.out _ B5.out.turn).1) (fun _ => trivial) ?_
  clear hK K
  try simp only [put_laid, List.set_cons_zero, List.set_cons_succ]
  refine stand_take (i := 12) (v := ?_) rfl (by kernel_rfl) (by kernel_rfl) (by kernel_rfl) (by rfl) (fun _ _ _ h => h) (by decide) (by decide) (by rfl) ?_ ?_
  rotate_left
  · (intro w; go_simp; try with_reducible rfl)
  dsimp only [List.set_cons_zero, List.set_cons_succ]
  refine stand_take (i := 13) (v := ?_) rfl (by kernel_rfl) (by kernel_rfl) (by kernel_rfl) (by rfl) (fun _ _ _ h => h) (by decide) (by decide) (by rfl) ?_ ?_
  rotate_left
  · (intro w; go_simp; try with_reducible rfl)
  dsimp only [List.set_cons_zero, List.set_cons_succ]
  refine stand_step (i := 14) (by kernel_rfl) rfl (fun K hK => ?_)
  go_simp
  refine (write_bld _ _ [] l4 _ _ B5.out (by have := LEN.out; simp; omega)).mono ?_
  rintro e w6 ⟨⟨n6, rfl⟩, b6⟩
  have B6 := Lib.hid b6
  clear b6
  refine hK.out _ _ (fun _ => (KEEP.out _ B6.out.turn).1) (fun _ => trivial) ?_
  clear hK K
  try simp only [put_laid, List.set_cons_zero, List.set_cons_succ]
  refine stand_done (by kernel_rfl) ?_
  have c6 := (KEEP.out _ B6.out.turn).2
  go_wp2_with fail
  refine (textOf_any k A _ HK.out (GLOB.out _ B6.out.turn)).mono ?_
  rintro e w7 ⟨rfl, rfl⟩
  go_wp2_with fail
  refine (write_bld _ _ ([] ++ l4) (textL k) _ _ B6.out (by have := LEN.out; simp; omega)).mono ?_
  rintro e w8 ⟨⟨n8, rfl⟩, b8⟩
  have B8 := Lib.hid b8
  clear b8
  go_wp2_with fail
  refine (Tryd.Builder_String_any _ _ ([] ++ l4 ++ textL k) _ B8.out.is B8.out.le).mono ?_
  rintro e w9 ⟨rfl, b9⟩
  have B9 := Lib.hid b9
  clear b9
  go_wp2_with fail
  go_ret
  refine ⟨rfl, ?_⟩
  have t := B8.out.turn
  have b := B9.out
  exact ⟨b.os.trans t.os, b.tape.trans t.tape, b.output.trans t.output, Nat.le_trans t.size b.size, fun i hi _ => (b.block i hi).trans (t.block i hi (by omega))⟩

end Go.Proofs.YthjjiaobhojelaaDoor
