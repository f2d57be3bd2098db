/- The code's State, where there is no channel yet. -/
import Derived.Test.YtenbafkgfdlfpaaMStep
namespace Go.Proofs.Ytenbafkgfdlfpaa
open Go.RowKit
set_option linter.unusedVariables false

theorem info_ints' : (Try.prog.info? 38).map (fun i => (i.zero, i.size, i.bytes)) = some (some (.slice none 0 0), 1, 24) := by kernel_rfl
/-- What each of the calls gives. -/
def Gave (y : WV) (n i : Nat) (w : World) (e : Ending) (w'' : World) : Prop := ∃ v, e = .returned v ∧ Turn (fun _ => False) w w'' ∧ StR y n i w.heap.size w''.heap.size v w''
theorem gave12 {base n : Nat} {tag : Nat → Nat} {y : WV} (w' : World) (hW : IsW base tag w' y) (hO : WOk y n) (hgl : y.gs.len = n) : Calls Try.prog 18 #[.slice y.gs.ao n y.gs.cap] w' (Gave y n 12 w') := by
  refine (copiedgs_some w' hgl hW.gs.nil (hW.gs.has gv_ok (by decide)) (fun x hx => (hW.g x hx).reads) hO.gl (by have := hO.n8; omega) hO.tame).mono ?_
  rintro e w'' ⟨s, Y, rfl, h1, h2, h3, h4, h5⟩
  exact ⟨_, rfl, h5, ⟨fun _ => ⟨s, Y, rfl, h1, h2, h3, h4, fun k hk => (h2.lt k hk).2⟩, fun e => absurd e (by decide), fun e => absurd e (by decide), fun e => absurd e (by decide), fun e => absurd e (by decide), fun e => absurd e (by decide), fun e => absurd e (by decide), fun e => absurd e (by decide)⟩⟩
theorem gave17 {base n : Nat} {tag : Nat → Nat} {y : WV} (w' : World) (hW : IsW base tag w' y) (hO : WOk y n) (hsl : y.S.length = y.sd.len) : Calls Try.prog 19 #[.slice y.sd.ao y.sd.len y.sd.cap] w' (Gave y n 17 w') := by
  refine (cpsd_any w' hsl (by rw [← hsl]; exact Nat.le_trans hO.sd (by decide)) hW.sd.nil (hW.sd.has sd_ok (by decide))).mono ?_
  rintro e w'' ⟨s, rfl, h1, h2, h5⟩
  exact ⟨_, rfl, h5, ⟨fun e => absurd e (by decide), fun _ => ⟨s, rfl, h1, h2, fun k hk => (h2.lt k hk).2⟩, fun e => absurd e (by decide), fun e => absurd e (by decide), fun e => absurd e (by decide), fun e => absurd e (by decide), fun e => absurd e (by decide), fun e => absurd e (by decide)⟩⟩
theorem gave22 {base n : Nat} {tag : Nat → Nat} {y : WV} (w' : World) (hW : IsW base tag w' y) (hO : WOk y n) : Calls Try.prog 20 #[.pointer (some ⟨y.pp, 0, none⟩)] w' (Gave y n 22 w') := by
  refine (R5.C5.middle_any w' hW.pool rfl (by have := hO.good.row (Nat.le_refl y.pl.n); omega)).mono ?_
  rintro e w'' ⟨rfl, h1, h5⟩
  exact ⟨_, rfl, h5, ⟨fun e => absurd e (by decide), fun e => absurd e (by decide), fun _ => ⟨rfl, h1, h1.lt⟩, fun e => absurd e (by decide), fun e => absurd e (by decide), fun e => absurd e (by decide), fun e => absurd e (by decide), fun e => absurd e (by decide)⟩⟩
theorem gave27 {base n : Nat} {tag : Nat → Nat} {y : WV} (w' : World) (hW : IsW base tag w' y) (hO : WOk y n) : Calls Try.prog 21 #[.pointer (some ⟨y.pp, 0, none⟩)] w' (Gave y n 27 w') := by
  refine (R5.C5.fresh_any w' hW.pool).mono ?_
  rintro e w'' ⟨rfl, rfl⟩
  exact ⟨_, rfl, Turn.refl _ _, ⟨fun e => absurd e (by decide), fun e => absurd e (by decide), fun e => absurd e (by decide), fun _ => rfl, fun e => absurd e (by decide), fun e => absurd e (by decide), fun e => absurd e (by decide), fun e => absurd e (by decide)⟩⟩
theorem gave32 {base n : Nat} {tag : Nat → Nat} {y : WV} (w' : World) (hW : IsW base tag w' y) (hO : WOk y n) : Calls Try.prog 22 #[.slice y.dr.ao y.draws.length y.dr.cap] w' (Gave y n 32 w') := by
  refine (cpu16_any w' rfl (Nat.le_trans hW.dice.len (by decide)) hW.dr.ok.nil hW.dr.has).mono ?_
  rintro e w'' ⟨s, rfl, h1, h2, h5⟩
  exact ⟨_, rfl, h5, ⟨fun e => absurd e (by decide), fun e => absurd e (by decide), fun e => absurd e (by decide), fun e => absurd e (by decide), fun _ => ⟨s, rfl, h1, h2, fun k hk => (h2.lt k hk).2⟩, fun e => absurd e (by decide), fun e => absurd e (by decide), fun e => absurd e (by decide)⟩⟩
theorem gave37 {base n : Nat} {tag : Nat → Nat} {y : WV} (w' : World) (hW : IsW base tag w' y) (hO : WOk y n) : Calls Try.prog 23 #[.pointer (some ⟨y.dp, 0, none⟩)] w' (Gave y n 37 w') := by
  refine (C1.drawn_any w' hW.dice).mono ?_
  rintro e w'' ⟨rfl, rfl⟩
  exact ⟨_, rfl, Turn.refl _ _, ⟨fun e => absurd e (by decide), fun e => absurd e (by decide), fun e => absurd e (by decide), fun e => absurd e (by decide), fun e => absurd e (by decide), fun _ => rfl, fun e => absurd e (by decide), fun e => absurd e (by decide)⟩⟩
theorem gave42 {base n : Nat} {tag : Nat → Nat} {y : WV} (w' : World) (hW : IsW base tag w' y) (hO : WOk y n) (hnl : y.dl.length = y.dn.len) : Calls Try.prog 24 #[.slice y.dn.ao y.dn.len y.dn.cap] w' (Gave y n 42 w') := by
  refine (cpmk_any w' hnl (by rw [← hnl]; exact Nat.le_trans hO.dn (by decide)) hW.dn.nil (hW.dn.has mk_ok (by decide))).mono ?_
  rintro e w'' ⟨s, rfl, h1, h2, h5⟩
  exact ⟨_, rfl, h5, ⟨fun e => absurd e (by decide), fun e => absurd e (by decide), fun e => absurd e (by decide), fun e => absurd e (by decide), fun e => absurd e (by decide), fun e => absurd e (by decide), fun _ => ⟨s, rfl, h1, h2, fun k hk => (h2.lt k hk).2⟩, fun e => absurd e (by decide)⟩⟩
theorem gave44 (y : WV) (n : Nat) (w' : World) : StR y n 44 w'.heap.size (w'.alloc (.cells zS.cs.toArray 41)).heap.size (.pointer (some ⟨w'.heap.size, 0, none⟩)) (w'.alloc (.cells zS.cs.toArray 41)) :=
  ⟨fun e => absurd e (by decide), fun e => absurd e (by decide), fun e => absurd e (by decide), fun e => absurd e (by decide), fun e => absurd e (by decide), fun e => absurd e (by decide), fun e => absurd e (by decide), fun _ => ⟨rfl, blk_new w' _ _, by simp⟩⟩
set_option maxRecDepth 100000 in
set_option maxHeartbeats 8000000 in
theorem state_any {base n : Nat} {tag : Nat → Nat} {y : WV} (w : World) (hw : IsW base tag w y) (ho : WOk y n) :
    Calls Try.prog 8 #[ptr y.p] w fun e w' => ∃ z : SV, e = .returned z.val ∧ z.s = y.st ∧ RS (fun b => b < w'.heap.size) w' z ∧ Turn (fun _ => False) w w' := by
  have HW := Lib.hid hw
  have HO := Lib.hid ho
  have hgl : y.gs.len = n := (hw.gs.len gv_ok (by decide)).symm.trans ho.gl
  have hn8 := ho.n8
  have HGL := Lib.hid hgl
  have HSL := Lib.hid (hw.sd.len sd_ok (by decide))
  have HNL := Lib.hid (hw.dn.len mk_ok (by decide))
  have HDL := Lib.hid (show y.dr.len = y.draws.length from hw.dr.ok.len)
  clear hw ho hgl
  unfold ptr
  go_enter Try.func8, Try.ntmps8
  go_upto_region 1 with fail
  refine at_world (φ := fun w' => Hid (Boxes w w' [(w.heap.size, 41, zS.cs)])) (Lib.hid (boxes1 w 41 zS.cs)) ?_
  intro w1 B
  generalize hr0 : w.heap.size = r0 at B ⊢
  have HW1 := Lib.hid (HW.out.new B.out.t)
  have F0 : ∀ k, w1.cell? ⟨y.p, k, none⟩ = y.cs[k]? := blk_f HW1.out.box
  have HR1 : Hid (Blk w1 r0 41 zS.cs) := Lib.hid (B.out.at 0 rfl)
  have T1 := Lib.hid B.out.t
  go_cut [3] (fun s3 wx => ∃ (b3 : Nat) (z : SV) (Y : List GV) (D : Nat → Prop), s3 = .pointer (some ⟨b3, 0, none⟩) ∧ Hid (StA w y n r0 b3 z Y D wx) ∧ Hid (Y.map GV.g = y.G.map GV.g) ∧ Hid (z.ch = zSl ∧ z.ca = zSl ∧ z.s = y.st))
  case first =>
    refine stand_start (by kernel_rfl) 99 (fun w' => ∀ k, w'.cell? ⟨y.p, k, none⟩ = y.cs[k]?) 99 (fun _ => True) F0 trivial ?_
    have HW2 := Lib.hid (HW1.out.new (Turn.refl _ _).drew)
    have HR2 : Hid (Blk w1.drew r0 41 zS.cs) := Lib.hid (HR1.out.new (Turn.refl _ _).drew)
    have T2 := Lib.hid T1.out.drew
    clear F0 HW1 HR1 T1 B HW
    generalize w1.drew = wd at HW2 HR2 T2 ⊢
    refine stand_take (i := 0) (v := ?_) rfl (by kernel_rfl) (by kernel_rfl) (by kernel_rfl) (by rfl) (fun _ _ _ h => h) (by decide) (by decide) (by rfl) ?_ ?_
    rotate_left
    · (intro w; go_simp; try with_reducible rfl)
    dsimp only [List.set_cons_zero, List.set_cons_succ]
    refine stand_take (i := 1) (v := ?_) rfl (by kernel_rfl) (by kernel_rfl) (by kernel_rfl) (by rfl) (fun _ _ _ h => h) (by decide) (by decide) (by rfl) ?_ ?_
    rotate_left
    · (intro w; go_simp; try with_reducible rfl)
    dsimp only [List.set_cons_zero, List.set_cons_succ]
    refine stand_take (i := 2) (v := ?_) rfl (by kernel_rfl) (by kernel_rfl) (by kernel_rfl) (by rfl) (fun _ _ _ h => h) (by decide) (by decide) (by rfl) ?_ ?_
    rotate_left
    · (intro w; go_simp; try with_reducible rfl)
    dsimp only [List.set_cons_zero, List.set_cons_succ]
    refine stand_load3 (i := 3) (v := .agg [.int .i64 (y.pl.size : Int), .int .i64 (y.pl.most : Int)].toArray) rfl (by kernel_rfl) (by kernel_rfl) (by kernel_rfl) (by rfl) (fun _ _ _ h => h) (by decide) (by decide) (by kernel_rfl) (by rfl) (fun w hA => exec_at (wcfg_at hA) t_config rfl rfl) ?_
    dsimp only [List.set_cons_zero, List.set_cons_succ]
    refine stand_take (i := 4) (v := ?_) rfl (by kernel_rfl) (by kernel_rfl) (by kernel_rfl) (by rfl) (fun _ _ _ h => h) (by decide) (by decide) (by rfl) ?_ ?_
    rotate_left
    · (intro w; go_simp; try with_reducible rfl)
    dsimp only [List.set_cons_zero, List.set_cons_succ]
    refine stand_take (i := 5) (v := ?_) rfl (by kernel_rfl) (by kernel_rfl) (by kernel_rfl) (by rfl) (fun _ _ _ h => h) (by decide) (by decide) (by rfl) ?_ ?_
    rotate_left
    · (intro w; go_simp; try with_reducible rfl)
    dsimp only [List.set_cons_zero, List.set_cons_succ]
    refine stand_take (i := 6) (v := ?_) rfl (by kernel_rfl) (by kernel_rfl) (by kernel_rfl) (by rfl) (fun _ _ _ h => h) (by decide) (by decide) (by rfl) ?_ ?_
    rotate_left
    · (intro w; go_simp; try with_reducible rfl)
    dsimp only [List.set_cons_zero, List.set_cons_succ]
    refine stand_load3 (i := 7) (v := ?_) rfl (by kernel_rfl) (by kernel_rfl) (by kernel_rfl) (by rfl) (fun _ _ _ h => h) (by decide) (by decide) (by kernel_rfl) (by rfl) ?_ ?_
    rotate_left
    · (intro w hA; (try dsimp only at hA); go_simp; try with_reducible rfl)
    dsimp only [List.set_cons_zero, List.set_cons_succ]
    refine stand_take (i := 8) (v := ?_) rfl (by kernel_rfl) (by kernel_rfl) (by kernel_rfl) (by rfl) (fun _ _ _ h => h) (by decide) (by decide) (by rfl) ?_ ?_
    rotate_left
    · (intro w; go_simp; try with_reducible rfl)
    dsimp only [List.set_cons_zero, List.set_cons_succ]
    refine stand_take (i := 9) (v := ?_) rfl (by kernel_rfl) (by kernel_rfl) (by kernel_rfl) (by rfl) (fun _ _ _ h => h) (by decide) (by decide) (by rfl) ?_ ?_
    rotate_left
    · (intro w; go_simp; try with_reducible rfl)
    dsimp only [List.set_cons_zero, List.set_cons_succ]
    refine stand_take (i := 10) (v := ?_) rfl (by kernel_rfl) (by kernel_rfl) (by kernel_rfl) (by rfl) (fun _ _ _ h => h) (by decide) (by decide) (by rfl) ?_ ?_
    rotate_left
    · (intro w; go_simp; try with_reducible rfl)
    dsimp only [List.set_cons_zero, List.set_cons_succ]
    refine stand_load3 (i := 11) (v := ?_) rfl (by kernel_rfl) (by kernel_rfl) (by kernel_rfl) (by rfl) (fun _ _ _ h => h) (by decide) (by decide) (by kernel_rfl) (by rfl) ?_ ?_
    rotate_left
    · (intro w hA; (try dsimp only at hA); go_simp; try with_reducible rfl)
    dsimp only [List.set_cons_zero, List.set_cons_succ]
    refine stand_take (i := 13) (v := ?_) rfl (by kernel_rfl) (by kernel_rfl) (by kernel_rfl) (by rfl) (fun _ _ _ h => h) (by decide) (by decide) (by rfl) ?_ ?_
    rotate_left
    · (intro w; go_simp; try with_reducible rfl)
    dsimp only [List.set_cons_zero, List.set_cons_succ]
    refine stand_take (i := 14) (v := ?_) rfl (by kernel_rfl) (by kernel_rfl) (by kernel_rfl) (by rfl) (fun _ _ _ h => h) (by decide) (by decide) (by rfl) ?_ ?_
    rotate_left
    · (intro w; go_simp; try with_reducible rfl)
    dsimp only [List.set_cons_zero, List.set_cons_succ]
    refine stand_take (i := 15) (v := ?_) rfl (by kernel_rfl) (by kernel_rfl) (by kernel_rfl) (by rfl) (fun _ _ _ h => h) (by decide) (by decide) (by rfl) ?_ ?_
    rotate_left
    · (intro w; go_simp; try with_reducible rfl)
    dsimp only [List.set_cons_zero, List.set_cons_succ]
    refine stand_load3 (i := 16) (v := ?_) rfl (by kernel_rfl) (by kernel_rfl) (by kernel_rfl) (by rfl) (fun _ _ _ h => h) (by decide) (by decide) (by kernel_rfl) (by rfl) ?_ ?_
    rotate_left
    · (intro w hA; (try dsimp only at hA); go_simp; try with_reducible rfl)
    dsimp only [List.set_cons_zero, List.set_cons_succ]
    refine stand_take (i := 18) (v := ?_) rfl (by kernel_rfl) (by kernel_rfl) (by kernel_rfl) (by rfl) (fun _ _ _ h => h) (by decide) (by decide) (by rfl) ?_ ?_
    rotate_left
    · (intro w; go_simp; try with_reducible rfl)
    dsimp only [List.set_cons_zero, List.set_cons_succ]
    refine stand_take (i := 19) (v := ?_) rfl (by kernel_rfl) (by kernel_rfl) (by kernel_rfl) (by rfl) (fun _ _ _ h => h) (by decide) (by decide) (by rfl) ?_ ?_
    rotate_left
    · (intro w; go_simp; try with_reducible rfl)
    dsimp only [List.set_cons_zero, List.set_cons_succ]
    refine stand_take (i := 20) (v := ?_) rfl (by kernel_rfl) (by kernel_rfl) (by kernel_rfl) (by rfl) (fun _ _ _ h => h) (by decide) (by decide) (by rfl) ?_ ?_
    rotate_left
    · (intro w; go_simp; try with_reducible rfl)
    dsimp only [List.set_cons_zero, List.set_cons_succ]
    refine stand_load3 (i := 21) (v := ?_) rfl (by kernel_rfl) (by kernel_rfl) (by kernel_rfl) (by rfl) (fun _ _ _ h => h) (by decide) (by decide) (by kernel_rfl) (by rfl) ?_ ?_
    rotate_left
    · (intro w hA; (try dsimp only at hA); go_simp; try with_reducible rfl)
    dsimp only [List.set_cons_zero, List.set_cons_succ]
    refine stand_take (i := 23) (v := ?_) rfl (by kernel_rfl) (by kernel_rfl) (by kernel_rfl) (by rfl) (fun _ _ _ h => h) (by decide) (by decide) (by rfl) ?_ ?_
    rotate_left
    · (intro w; go_simp; try with_reducible rfl)
    dsimp only [List.set_cons_zero, List.set_cons_succ]
    refine stand_take (i := 24) (v := ?_) rfl (by kernel_rfl) (by kernel_rfl) (by kernel_rfl) (by rfl) (fun _ _ _ h => h) (by decide) (by decide) (by rfl) ?_ ?_
    rotate_left
    · (intro w; go_simp; try with_reducible rfl)
    dsimp only [List.set_cons_zero, List.set_cons_succ]
    refine stand_take (i := 25) (v := ?_) rfl (by kernel_rfl) (by kernel_rfl) (by kernel_rfl) (by rfl) (fun _ _ _ h => h) (by decide) (by decide) (by rfl) ?_ ?_
    rotate_left
    · (intro w; go_simp; try with_reducible rfl)
    dsimp only [List.set_cons_zero, List.set_cons_succ]
    refine stand_load3 (i := 26) (v := ?_) rfl (by kernel_rfl) (by kernel_rfl) (by kernel_rfl) (by rfl) (fun _ _ _ h => h) (by decide) (by decide) (by kernel_rfl) (by rfl) ?_ ?_
    rotate_left
    · (intro w hA; (try dsimp only at hA); go_simp; try with_reducible rfl)
    dsimp only [List.set_cons_zero, List.set_cons_succ]
    refine stand_take (i := 28) (v := ?_) rfl (by kernel_rfl) (by kernel_rfl) (by kernel_rfl) (by rfl) (fun _ _ _ h => h) (by decide) (by decide) (by rfl) ?_ ?_
    rotate_left
    · (intro w; go_simp; try with_reducible rfl)
    dsimp only [List.set_cons_zero, List.set_cons_succ]
    refine stand_take (i := 29) (v := ?_) rfl (by kernel_rfl) (by kernel_rfl) (by kernel_rfl) (by rfl) (fun _ _ _ h => h) (by decide) (by decide) (by rfl) ?_ ?_
    rotate_left
    · (intro w; go_simp; try with_reducible rfl)
    dsimp only [List.set_cons_zero, List.set_cons_succ]
    refine stand_take (i := 30) (v := ?_) rfl (by kernel_rfl) (by kernel_rfl) (by kernel_rfl) (by rfl) (fun _ _ _ h => h) (by decide) (by decide) (by rfl) ?_ ?_
    rotate_left
    · (intro w; go_simp; try with_reducible rfl)
    dsimp only [List.set_cons_zero, List.set_cons_succ]
    refine stand_load3 (i := 31) (v := ?_) rfl (by kernel_rfl) (by kernel_rfl) (by kernel_rfl) (by rfl) (fun _ _ _ h => h) (by decide) (by decide) (by kernel_rfl) (by rfl) ?_ ?_
    rotate_left
    · (intro w hA; (try dsimp only at hA); go_simp; try with_reducible rfl)
    dsimp only [List.set_cons_zero, List.set_cons_succ]
    refine stand_take (i := 33) (v := ?_) rfl (by kernel_rfl) (by kernel_rfl) (by kernel_rfl) (by rfl) (fun _ _ _ h => h) (by decide) (by decide) (by rfl) ?_ ?_
    rotate_left
    · (intro w; go_simp; try with_reducible rfl)
    dsimp only [List.set_cons_zero, List.set_cons_succ]
    refine stand_take (i := 34) (v := ?_) rfl (by kernel_rfl) (by kernel_rfl) (by kernel_rfl) (by rfl) (fun _ _ _ h => h) (by decide) (by decide) (by rfl) ?_ ?_
    rotate_left
    · (intro w; go_simp; try with_reducible rfl)
    dsimp only [List.set_cons_zero, List.set_cons_succ]
    refine stand_take (i := 35) (v := ?_) rfl (by kernel_rfl) (by kernel_rfl) (by kernel_rfl) (by rfl) (fun _ _ _ h => h) (by decide) (by decide) (by rfl) ?_ ?_
    rotate_left
    · (intro w; go_simp; try with_reducible rfl)
    dsimp only [List.set_cons_zero, List.set_cons_succ]
    refine stand_load3 (i := 36) (v := ?_) rfl (by kernel_rfl) (by kernel_rfl) (by kernel_rfl) (by rfl) (fun _ _ _ h => h) (by decide) (by decide) (by kernel_rfl) (by rfl) ?_ ?_
    rotate_left
    · (intro w hA; (try dsimp only at hA); go_simp; try with_reducible rfl)
    dsimp only [List.set_cons_zero, List.set_cons_succ]
    refine stand_take (i := 38) (v := ?_) rfl (by kernel_rfl) (by kernel_rfl) (by kernel_rfl) (by rfl) (fun _ _ _ h => h) (by decide) (by decide) (by rfl) ?_ ?_
    rotate_left
    · (intro w; go_simp; try with_reducible rfl)
    dsimp only [List.set_cons_zero, List.set_cons_succ]
    refine stand_take (i := 39) (v := ?_) rfl (by kernel_rfl) (by kernel_rfl) (by kernel_rfl) (by rfl) (fun _ _ _ h => h) (by decide) (by decide) (by rfl) ?_ ?_
    rotate_left
    · (intro w; go_simp; try with_reducible rfl)
    dsimp only [List.set_cons_zero, List.set_cons_succ]
    refine stand_take (i := 40) (v := ?_) rfl (by kernel_rfl) (by kernel_rfl) (by kernel_rfl) (by rfl) (fun _ _ _ h => h) (by decide) (by decide) (by rfl) ?_ ?_
    rotate_left
    · (intro w; go_simp; try with_reducible rfl)
    dsimp only [List.set_cons_zero, List.set_cons_succ]
    refine stand_load3 (i := 41) (v := ?_) rfl (by kernel_rfl) (by kernel_rfl) (by kernel_rfl) (by rfl) (fun _ _ _ h => h) (by decide) (by decide) (by kernel_rfl) (by rfl) ?_ ?_
    rotate_left
    · (intro w hA; (try dsimp only at hA); go_simp; try with_reducible rfl)
    dsimp only [List.set_cons_zero, List.set_cons_succ]
    have HLEN := HGL.out
    have HLEN2 := HDL.out
    rw [HLEN, HLEN2]
    clear HLEN HLEN2
    refine stand_race_laid (n := 2) [12, 17, 22, 27, 32, 37, 42, 44] [18, 23, 28, 33, 38, 43, 48, 3] [12, 17, 22, 27, 32, 37, 42] [18, 23, 28, 33, 38, 43, 48] (StR y n) (by decide) (by kernel_rfl) (by decide) (by rfl) (by rfl) ?_ (fun w' t => blk_f (HW2.out.new t).box) (fun _ _ => trivial) ?_ ?_
    · intro i hi
      simp only [List.mem_cons, List.not_mem_nil, or_false] at hi
      rcases hi with rfl | rfl | rfl | rfl | rfl | rfl | rfl | rfl
      · exact ⟨⟨_, rfl, rfl, (by intro cs b e; cases e), .inl ⟨18, #[.slice y.gs.ao n y.gs.cap], fun w' => by go_simp, fun w' t => gave12 w' (HW2.out.new t) HO.out HGL.out⟩⟩, fun _ _ _ _ _ h t => h.stay t⟩
      · exact ⟨⟨_, rfl, rfl, (by intro cs b e; cases e), .inl ⟨19, #[.slice y.sd.ao y.sd.len y.sd.cap], fun w' => by go_simp, fun w' t => gave17 w' (HW2.out.new t) HO.out HSL.out⟩⟩, fun _ _ _ _ _ h t => h.stay t⟩
      · exact ⟨⟨_, rfl, rfl, (by intro cs b e; cases e), .inl ⟨20, #[.pointer (some ⟨y.pp, 0, none⟩)], fun w' => by go_simp, fun w' t => gave22 w' (HW2.out.new t) HO.out⟩⟩, fun _ _ _ _ _ h t => h.stay t⟩
      · exact ⟨⟨_, rfl, rfl, (by intro cs b e; cases e), .inl ⟨21, #[.pointer (some ⟨y.pp, 0, none⟩)], fun w' => by go_simp, fun w' t => gave27 w' (HW2.out.new t) HO.out⟩⟩, fun _ _ _ _ _ h t => h.stay t⟩
      · exact ⟨⟨_, rfl, rfl, (by intro cs b e; cases e), .inl ⟨22, #[.slice y.dr.ao y.draws.length y.dr.cap], fun w' => by go_simp, fun w' t => gave32 w' (HW2.out.new t) HO.out⟩⟩, fun _ _ _ _ _ h t => h.stay t⟩
      · exact ⟨⟨_, rfl, rfl, (by intro cs b e; cases e), .inl ⟨23, #[.pointer (some ⟨y.dp, 0, none⟩)], fun w' => by go_simp, fun w' t => gave37 w' (HW2.out.new t) HO.out⟩⟩, fun _ _ _ _ _ h t => h.stay t⟩
      · exact ⟨⟨_, rfl, rfl, (by intro cs b e; cases e), .inl ⟨24, #[.slice y.dn.ao y.dn.len y.dn.cap], fun w' => by go_simp, fun w' t => gave42 w' (HW2.out.new t) HO.out HNL.out⟩⟩, fun _ _ _ _ _ h t => h.stay t⟩
      · exact ⟨⟨_, rfl, rfl, (by intro cs b e; cases e), .inr fun w' t => ⟨.pointer (some ⟨w'.heap.size, 0, none⟩), w'.alloc (.cells zS.cs.toArray 41), by go_simp; rfl, (Turn.refl _ _).alloc _, gave44 y n w'⟩⟩, fun _ _ _ _ _ h t => h.stay t⟩
    · intro V lo hi w5 HR
      obtain ⟨v44, k44, l44⟩ := (HR.got 44 (by simp)).h rfl
      have m44 := HR.lim 44 (by simp)
      have hplt := HW2.out.box.lt
      have hoff := HR.off
      obtain ⟨ga, gc, sa, sc, ra, rc, na, nc, Y, v12, v17, v22, v27, v32, v37, v42, hY, hfin⟩ := sta_of (HR.sub (J := [12, 17, 22, 27, 32, 37, 42]) (by simp)) T2.out HR2.out (by rw [← hr0]; exact Nat.le_refl _) HO.out.gl (by have := HO.out.good.row (Nat.le_refl y.pl.n); omega)
      simp only [setAll, List.map_cons, List.map_nil, List.set_cons_succ, List.set_cons_zero, v12, v17, v22, v27, v32, v37, v42, v44]
      have HY := Lib.hid hY
      have HF := Lib.hid hfin
      have HR5 := Lib.hid HR
      clear v12 v17 v22 v27 v32 v37 v42 v44 hY hfin HR
      refine stand_take (i := 43) (v := ?_) rfl (by kernel_rfl) (by kernel_rfl) (by kernel_rfl) (by rfl) (fun _ _ _ h => h) (by decide) (by decide) (by rfl) ?_ ?_
      rotate_left
      · (intro w; go_simp; try with_reducible rfl)
      dsimp only [List.set_cons_zero, List.set_cons_succ]
      refine stand_step (i := 45) (by kernel_rfl) rfl (fun K hK => ?_)
      refine step_store_at rfl rfl rfl (cs := (zOf y n ga gc sa sc (lo 22) ra rc na nc).cs) rfl (k44.store _ rfl t_state (sv_ok.one _)) ?_
      have t6 := row_turn w5 (lo 44) (zOf y n ga gc sa sc (lo 22) ra rc na nc).cs.toArray
      have b6 := k44.row (zOf y n ga gc sa sc (lo 22) ra rc na nc).cs
      generalize w5.setRow (lo 44) (zOf y n ga gc sa sc (lo 22) ra rc na nc).cs.toArray = w6 at t6 b6 ⊢
      refine hK.out _ _ (fun _ => blk_f ((HW2.out.box.new HR5.out.t).turn t6 (fun e => by omega))) (fun _ => trivial) ?_
      clear hK K
      refine stand_done (by kernel_rfl) ?_
      obtain ⟨D, hA⟩ := HF.out w6 (lo 44) (fun i hi => by
        rcases hoff i (by simp at hi ⊢; rcases hi with rfl | rfl | rfl | rfl | rfl | rfl | rfl <;> simp) 44 (by simp) (by simp at hi; rcases hi with rfl | rfl | rfl | rfl | rfl | rfl | rfl <;> decide) with h | h
        · exact .inl h
        · exact .inr (by omega)) m44.1 t6 b6
      have HA := Lib.hid hA
      have HZ : Hid ((zOf y n ga gc sa sc (lo 22) ra rc na nc).ch = zSl ∧ (zOf y n ga gc sa sc (lo 22) ra rc na nc).ca = zSl ∧ (zOf y n ga gc sa sc (lo 22) ra rc na nc).s = y.st) := Lib.hid ⟨rfl, rfl, rfl⟩
      clear hA hoff m44 l44 k44 t6 b6 hplt
      go_wp2_with fail
      go_meet
      exact ⟨_, _, _, D, rfl, HA, HY, HZ⟩
    · intro V lo hi w5 HR
      have hplt := HW2.out.box.lt
      obtain ⟨ga, gc, sa, sc, ra, rc, na, nc, Y, v12, v17, v22, v27, v32, v37, v42, hY, hfin⟩ := sta_of HR T2.out HR2.out (by rw [← hr0]; exact Nat.le_refl _) HO.out.gl (by have := HO.out.good.row (Nat.le_refl y.pl.n); omega)
      simp only [setAll, List.map_cons, List.map_nil, List.set_cons_succ, List.set_cons_zero, v12, v17, v22, v27, v32, v37, v42]
      have HY := Lib.hid hY
      have HF := Lib.hid hfin
      have HR5 := Lib.hid HR
      clear v12 v17 v22 v27 v32 v37 v42 hY hfin HR
      refine stand_take (i := 43) (v := ?_) rfl (by kernel_rfl) (by kernel_rfl) (by kernel_rfl) (by rfl) (fun _ _ _ h => h) (by decide) (by decide) (by rfl) ?_ ?_
      rotate_left
      · (intro w; go_simp; try with_reducible rfl)
      dsimp only [List.set_cons_zero, List.set_cons_succ]
      obtain ⟨b3, hb3⟩ : ∃ b3, w5.heap.size = b3 := ⟨_, rfl⟩
      have k44 : Blk (w5.alloc (.cells zS.cs.toArray 41)) b3 41 zS.cs := by rw [← hb3]; exact blk_new w5 _ _
      have t5 : Turn (fun _ => False) w5 (w5.alloc (.cells zS.cs.toArray 41)) := (Turn.refl _ _).alloc _
      refine stand_step (i := 44) (by kernel_rfl) rfl (fun K hK => ?_)
      refine step_at (φ := fun w' => Blk w' b3 41 zS.cs ∧ Turn (fun _ => False) w5 w') (w' := w5.alloc (.cells zS.cs.toArray 41)) (v := .pointer (some ⟨b3, 0, none⟩)) rfl (by go_simp; rfl) ⟨k44, t5⟩ ?_
      clear k44 t5
      rintro w6 ⟨k44, t5⟩
      refine hK.out _ _ (fun _ => blk_f ((HW2.out.box.new HR5.out.t).new t5)) (fun _ => trivial) ?_
      clear hK K
      try simp only [put_laid, List.set_cons_zero, List.set_cons_succ]
      refine stand_step (i := 45) (by kernel_rfl) rfl (fun K hK => ?_)
      refine step_store_at rfl rfl rfl (cs := (zOf y n ga gc sa sc (lo 22) ra rc na nc).cs) rfl (k44.store _ rfl t_state (sv_ok.one _)) ?_
      have t6 := row_turn w6 b3 (zOf y n ga gc sa sc (lo 22) ra rc na nc).cs.toArray
      have b6 := k44.row (zOf y n ga gc sa sc (lo 22) ra rc na nc).cs
      generalize w6.setRow b3 (zOf y n ga gc sa sc (lo 22) ra rc na nc).cs.toArray = w7 at t6 b6 ⊢
      have hsz := HR5.out.t.size
      refine hK.out _ _ (fun _ => blk_f (((HW2.out.box.new HR5.out.t).new t5).turn t6 (fun e => by omega))) (fun _ => trivial) ?_
      clear hK K
      refine stand_done (by kernel_rfl) ?_
      obtain ⟨D, hA⟩ := HF.out w7 b3 (fun i hi => .inl (by rw [← hb3]; exact (HR5.out.lim i hi).2.2)) (by omega) ((t5.mono (fun _ _ e => e.elim)).trans t6) b6
      have HA := Lib.hid hA
      have HZ : Hid ((zOf y n ga gc sa sc (lo 22) ra rc na nc).ch = zSl ∧ (zOf y n ga gc sa sc (lo 22) ra rc na nc).ca = zSl ∧ (zOf y n ga gc sa sc (lo 22) ra rc na nc).s = y.st) := Lib.hid ⟨rfl, rfl, rfl⟩
      clear hA k44 t5 t6 b6 hplt hsz hb3
      go_wp2_with fail
      go_meet
      exact ⟨_, _, _, D, rfl, HA, HY, HZ⟩
  case rest =>
    obtain ⟨b3, ⟨zs, ⟨ga, gl, gc⟩, zch, zsd, zca, zmi, zdr, zdn⟩, Y, D, rfl, HA, HY, HZ⟩ := hcut
    obtain ⟨h1, h2, h3⟩ := HZ.out
    dsimp only at h1 h2 h3
    subst h1 h2 h3
    have h4 : gl = n := HA.out.gl
    subst h4
    have HYL := Lib.hid HA.out.yl
    obtain ⟨a9, ha9⟩ : ∃ a9, wc.heap.size = a9 := ⟨_, rfl⟩
    have HL0 : Hid (StL w y gl r0 b3 ⟨y.st, ⟨ga, gl, gc⟩, zSl, zsd, zSl, zmi, zdr, zdn⟩ Y D a9 0 Y zSl [] wc) := Lib.hid ⟨HA.out, by
      rw [← ha9]
      exact ⟨HA.out.res.lt, HA.out.box.lt, fun b hb => (HA.out.d b hb).1, fun k hk => (HA.out.gs.lt k hk).2, HA.out.t.size⟩, own_nil, rfl, rfl, fun k hk => absurd hk (Nat.not_lt_zero _), fun k x hx => by rw [if_neg (Nat.not_lt_zero _)]; exact hx, by rw [ha9]; exact Nat.le_refl _⟩
    have F0 := blk_f HA.out.box
    go_upto_region 3 with fail
    clear F0 HA HZ B HW1 HR1 T1
    go_loopw [53] (fun s53 wr => ∃ (i : Nat) (Yi : List GV) (ca : Sl) (X : List IV), i ≤ gl ∧ s53 = .int .i64 i ∧ Hid (StL w y gl r0 b3 ⟨y.st, ⟨ga, gl, gc⟩, zSl, zsd, zSl, zmi, zdr, zdn⟩ Y D a9 i Yi ca X wr)) (fun s53 _ => gl - (intOf s53).toNat)
    case atStart => exact ⟨0, Y, zSl, [], Nat.zero_le _, rfl, HL0⟩
    case round =>
      clear HL0
      obtain ⟨i, Yi, ca, X, hi, rfl, HL⟩ := hrel
      by_cases hlt : i < gl
      · obtain ⟨x, hx⟩ : ∃ x, Y[i]? = some x := ⟨_, List.getElem?_eq_getElem (by rw [HYL.out]; exact hlt)⟩
        obtain ⟨⟨s, tk⟩, hb⟩ : ∃ b, y.B[i]? = some b := ⟨_, List.getElem?_eq_getElem (by rw [HO.out.bl]; exact hlt)⟩
        have hS : C8.stV y.B (i : Int) = s := by unfold C8.stV C8.at_; rw [if_pos (by omega), Int.toNat_natCast, hb]; rfl
        have hT : C8.tkB y.B (i : Int) = tk := by unfold C8.tkB C8.at_; rw [if_pos (by omega), Int.toNat_natCast, hb]; rfl
        have ho : wr.ownsRow w.heap.size 50 25 (.slice ga gl gc) gl (flat GV.cs Yi) := HL.out.a.gs
        obtain ⟨g2, gc', e1, -, -, -⟩ := own_form ho (by omega)
        cases e1
        have HX := Lib.hid hx
        have HB := Lib.hid hb
        have HS := Lib.hid hS
        have HT := Lib.hid hT
        have hyx := HL.out.gs i x hx
        rw [if_neg (Nat.lt_irrefl i)] at hyx
        have HYX := Lib.hid hyx
        have HWR := Lib.hid (HW.out.new HL.out.a.t)
        have HNE := Lib.hid (show g2 ≠ b3 ∧ g2 ≠ y.p ∧ b3 ≠ y.p ∧ y.p < w.heap.size from ⟨(HL.out.a.go g2 rfl).2, by have := (ho.lt g2 rfl).1; have := HW.out.box.lt; omega, by have := HL.out.a.lo; have := HW.out.box.lt; omega, HW.out.box.lt⟩)
        clear hx hb hS hT hyx ho
        have A0 : wr.cell? ⟨b3, 3, none⟩ = some (.slice (some ⟨g2, 0, none⟩) gl gc) := blk_f HL.out.a.box 3
        have A1 : wr.cell? ⟨y.p, 4, none⟩ = some (.pointer (some ⟨y.bp, 0, none⟩)) := blk_f HWR.out.box 4
        go_upto_region 5 with fail
        refine stand_start (by kernel_rfl) 99 (fun w' => w'.cell? ⟨b3, 3, none⟩ = some (.slice (some ⟨g2, 0, none⟩) gl gc) ∧ w'.cell? ⟨y.p, 4, none⟩ = some (.pointer (some ⟨y.bp, 0, none⟩))) 99 (fun _ => True) ⟨A0, A1⟩ trivial ?_
        have HL5 := Lib.hid (HL.out.new (Turn.refl _ _).drew)
        have HW5 := Lib.hid (HWR.out.new (Turn.refl _ _).drew)
        have HA5 : Hid (wr.drew.cell? ⟨b3, 3, none⟩ = some (.slice (some ⟨g2, 0, none⟩) gl gc) ∧ wr.drew.cell? ⟨y.p, 4, none⟩ = some (.pointer (some ⟨y.bp, 0, none⟩))) := Lib.hid ⟨A0, A1⟩
        clear A0 A1 HL HWR
        generalize wr.drew = wd at HL5 HW5 HA5 ⊢
        have hd0 : decide ((i : Int) < 0) = false := decide_eq_false (by omega)
        refine stand_take (i := 0) (v := ?_) rfl (by kernel_rfl) (by kernel_rfl) (by kernel_rfl) (by rfl) (fun _ _ _ h => h) (by decide) (by decide) (by rfl) ?_ ?_
        rotate_left
        · (intro w; go_simp; try with_reducible rfl)
        dsimp only [List.set_cons_zero, List.set_cons_succ]
        refine stand_load3 (i := 1) (v := .slice (some ⟨g2, 0, none⟩) gl gc) rfl (by kernel_rfl) (by kernel_rfl) (by kernel_rfl) (by rfl) (fun _ _ _ h => h) (by decide) (by decide) (by kernel_rfl) (by rfl) ?_ ?_
        · (intro w hA; have hA0 := hA.1; clear hA; go_simp; try with_reducible rfl)
        dsimp only [List.set_cons_zero, List.set_cons_succ]
        refine stand_take (i := 2) (v := ?_) rfl (by kernel_rfl) (by kernel_rfl) (by kernel_rfl) (by rfl) (fun _ _ _ h => h) (by decide) (by decide) (by rfl) ?_ ?_
        rotate_left
        · (intro w; go_simp; try with_reducible rfl)
        dsimp only [List.set_cons_zero, List.set_cons_succ]
        refine stand_take (i := 3) (v := ?_) rfl (by kernel_rfl) (by kernel_rfl) (by kernel_rfl) (by rfl) (fun _ _ _ h => h) (by decide) (by decide) (by rfl) ?_ ?_
        rotate_left
        · (intro w; go_simp; try with_reducible rfl)
        dsimp only [List.set_cons_zero, List.set_cons_succ]
        refine stand_load3 (i := 4) (v := .slice (some ⟨g2, 0, none⟩) gl gc) rfl (by kernel_rfl) (by kernel_rfl) (by kernel_rfl) (by rfl) (fun _ _ _ h => h) (by decide) (by decide) (by kernel_rfl) (by rfl) ?_ ?_
        · (intro w hA; have hA0 := hA.1; clear hA; go_simp; try with_reducible rfl)
        dsimp only [List.set_cons_zero, List.set_cons_succ]
        refine stand_take (i := 5) (v := ?_) rfl (by kernel_rfl) (by kernel_rfl) (by kernel_rfl) (by rfl) (fun _ _ _ h => h) (by decide) (by decide) (by rfl) ?_ ?_
        rotate_left
        · (intro w; go_simp; try with_reducible rfl)
        dsimp only [List.set_cons_zero, List.set_cons_succ]
        refine stand_take (i := 6) (v := ?_) rfl (by kernel_rfl) (by kernel_rfl) (by kernel_rfl) (by rfl) (fun _ _ _ h => h) (by decide) (by decide) (by rfl) ?_ ?_
        rotate_left
        · (intro w; go_simp; try with_reducible rfl)
        dsimp only [List.set_cons_zero, List.set_cons_succ]
        refine stand_take (i := 7) (v := ?_) rfl (by kernel_rfl) (by kernel_rfl) (by kernel_rfl) (by rfl) (fun _ _ _ h => h) (by decide) (by decide) (by rfl) ?_ ?_
        rotate_left
        · (intro w; go_simp; try with_reducible rfl)
        dsimp only [List.set_cons_zero, List.set_cons_succ]
        refine stand_take (i := 8) (v := ?_) rfl (by kernel_rfl) (by kernel_rfl) (by kernel_rfl) (by rfl) (fun _ _ _ h => h) (by decide) (by decide) (by rfl) ?_ ?_
        rotate_left
        · (intro w; go_simp; try with_reducible rfl)
        dsimp only [List.set_cons_zero, List.set_cons_succ]
        refine stand_load3 (i := 9) (v := .pointer (some ⟨y.bp, 0, none⟩)) rfl (by kernel_rfl) (by kernel_rfl) (by kernel_rfl) (by rfl) (fun _ _ _ h => h) (by decide) (by decide) (by kernel_rfl) (by rfl) ?_ ?_
        · (intro w hA; have hA0 := hA.2; clear hA; go_simp; try with_reducible rfl)
        dsimp only [List.set_cons_zero, List.set_cons_succ]
        refine stand_take (i := 10) (v := ?_) rfl (by kernel_rfl) (by kernel_rfl) (by kernel_rfl) (by rfl) (fun _ _ _ h => h) (by decide) (by decide) (by rfl) ?_ ?_
        rotate_left
        · (intro w; go_simp; try with_reducible rfl)
        dsimp only [List.set_cons_zero, List.set_cons_succ]
        refine stand_take (i := 12) (v := ?_) rfl (by kernel_rfl) (by kernel_rfl) (by kernel_rfl) (by rfl) (fun _ _ _ h => h) (by decide) (by decide) (by rfl) ?_ ?_
        rotate_left
        · (intro w; go_simp; try with_reducible rfl)
        dsimp only [List.set_cons_zero, List.set_cons_succ]
        refine stand_take (i := 13) (v := ?_) rfl (by kernel_rfl) (by kernel_rfl) (by kernel_rfl) (by rfl) (fun _ _ _ h => h) (by decide) (by decide) (by rfl) ?_ ?_
        rotate_left
        · (intro w; go_simp; try with_reducible rfl)
        dsimp only [List.set_cons_zero, List.set_cons_succ]
        refine stand_take (i := 14) (v := ?_) rfl (by kernel_rfl) (by kernel_rfl) (by kernel_rfl) (by rfl) (fun _ _ _ h => h) (by decide) (by decide) (by rfl) ?_ ?_
        rotate_left
        · (intro w; go_simp; try with_reducible rfl)
        dsimp only [List.set_cons_zero, List.set_cons_succ]
        refine stand_load3 (i := 15) (v := .pointer (some ⟨y.bp, 0, none⟩)) rfl (by kernel_rfl) (by kernel_rfl) (by kernel_rfl) (by rfl) (fun _ _ _ h => h) (by decide) (by decide) (by kernel_rfl) (by rfl) ?_ ?_
        · (intro w hA; have hA0 := hA.2; clear hA; go_simp; try with_reducible rfl)
        dsimp only [List.set_cons_zero, List.set_cons_succ]
        refine stand_take (i := 16) (v := ?_) rfl (by kernel_rfl) (by kernel_rfl) (by kernel_rfl) (by rfl) (fun _ _ _ h => h) (by decide) (by decide) (by rfl) ?_ ?_
        rotate_left
        · (intro w; go_simp; try with_reducible rfl)
        dsimp only [List.set_cons_zero, List.set_cons_succ]
        refine stand_step (i := 11) (by kernel_rfl) rfl (fun K hK => ?_)
        go_simp
        refine (C8.status_any wd HW5.out.bench HS.out).mono ?_
        rintro e w6 ⟨rfl, rfl⟩
        refine hK.out _ _ (fun _ => HA5.out) (fun _ => trivial) ?_
        clear hK K
        try simp only [put_laid, List.set_cons_zero, List.set_cons_succ]
        refine stand_step (i := 17) (by kernel_rfl) rfl (fun K hK => ?_)
        go_simp
        refine (C8.token_any wd HW5.out.bench HT.out).mono ?_
        rintro e w6 ⟨rfl, rfl⟩
        refine hK.out _ _ (fun _ => HA5.out) (fun _ => trivial) ?_
        clear hK K
        try simp only [put_laid, List.set_cons_zero, List.set_cons_succ]
        refine stand_take (i := 18) (v := ?_) rfl (by kernel_rfl) (by kernel_rfl) (by kernel_rfl) (by rfl) (fun _ _ _ h => h) (by decide) (by decide) (by rfl) ?_ ?_
        rotate_left
        · (intro w; go_simp; try with_reducible rfl)
        dsimp only [List.set_cons_zero, List.set_cons_succ]
        refine stand_take (i := 19) (v := ?_) rfl (by kernel_rfl) (by kernel_rfl) (by kernel_rfl) (by rfl) (fun _ _ _ h => h) (by decide) (by decide) (by rfl) ?_ ?_
        rotate_left
        · (intro w; go_simp; try with_reducible rfl)
        dsimp only [List.set_cons_zero, List.set_cons_succ]
        obtain ⟨d0, d1⟩ := own_at gv_ok HL5.out.a.gs HYX.out (i := 3) (u := .int .i64 x.g.status) rfl
        refine stand_step (i := 20) (by kernel_rfl) rfl (fun K hK => ?_)
        go_simp
        refine hK.out _ _ (fun _ => ⟨?_, ?_⟩) (fun _ => trivial) ?_
        · exact (set_turn wd g2 _ _).cell (fun e => HNE.out.1 e.symm) HA5.out.1
        · exact (set_turn wd g2 _ _).cell (fun e => HNE.out.2.1 e.symm) HA5.out.2
        clear hK K
        try simp only [put_laid, List.set_cons_zero, List.set_cons_succ]
        clear d0 d1
        refine stand_take (i := 21) (v := ?_) rfl (by kernel_rfl) (by kernel_rfl) (by kernel_rfl) (by rfl) (fun _ _ _ h => h) (by decide) (by decide) (by rfl) ?_ ?_
        rotate_left
        · (intro w; go_simp; try with_reducible rfl)
        dsimp only [List.set_cons_zero, List.set_cons_succ]
        refine stand_take (i := 22) (v := ?_) rfl (by kernel_rfl) (by kernel_rfl) (by kernel_rfl) (by rfl) (fun _ _ _ h => h) (by decide) (by decide) (by rfl) ?_ ?_
        rotate_left
        · (intro w; go_simp; try with_reducible rfl)
        dsimp only [List.set_cons_zero, List.set_cons_succ]
        have h1 := HL5.out.a.put rfl (x' := { x with g := { x.g with status := s } }) HYX.out (c := 3) (by decide) (u := .int .i64 s) rfl (fun w h => ⟨h.ops, h.order, h.locks, h.sgs, h.wakes⟩)
        obtain ⟨d0, d1⟩ := own_at gv_ok h1.gs (j := i) (x := { x with g := { x.g with status := s } }) (by simp [HL5.out.a.yl, hlt]) (i := 4) (u := .bool x.g.token) rfl
        clear h1
        refine stand_step (i := 23) (by kernel_rfl) rfl (fun K hK => ?_)
        go_simp
        refine hK.out _ _ (fun _ => ⟨?_, ?_⟩) (fun _ => trivial) ?_
        · exact (set_turn _ g2 _ _).cell (fun e => HNE.out.1 e.symm) ((set_turn wd g2 _ _).cell (fun e => HNE.out.1 e.symm) HA5.out.1)
        · exact (set_turn _ g2 _ _).cell (fun e => HNE.out.2.1 e.symm) ((set_turn wd g2 _ _).cell (fun e => HNE.out.2.1 e.symm) HA5.out.2)
        clear d0 d1 hK K
        refine stand_done (by kernel_rfl) ?_
        obtain ⟨Yn, hA, hown, ht, hrows, hgs⟩ := HL5.out.told (gc := gc) rfl HX.out HB.out rfl
        have HA6 := Lib.hid hA
        have HO6 := Lib.hid hown
        have HT6 := Lib.hid ht
        have HRW := Lib.hid hrows
        have HGS := Lib.hid hgs
        have HD9 := Lib.hid HL5.out.d9
        have HCL := Lib.hid HL5.out.cl
        have HXL := Lib.hid HL5.out.xl
        have HW6 := Lib.hid (HW.out.new hA.t)
        have H9L := Lib.hid HL5.out.lim
        clear hA hown ht hrows hgs HL5 HW5 HA5 hd0
        generalize (wd.setCell ⟨g2, i * 25 + 3, none⟩ (.int .i64 s)).setCell ⟨g2, i * 25 + 4, none⟩ (.bool tk) = w6 at HA6 HO6 HT6 HRW HW6 ⊢
        have H96 := Lib.hid (show a9 ≤ w6.heap.size from Nat.le_trans H9L.out HT6.out.size)
        clear HT6 H9L
        obtain ⟨cao, cl, ccap⟩ := ca
        have hcl : cl = i := HCL.out
        subst hcl
        have A0 : w6.cell? ⟨b3, 6, none⟩ = some (.slice cao cl ccap) := blk_f HA6.out.box 6
        have A1 : w6.cell? ⟨y.p, 10, none⟩ = some (.pointer (some ⟨y.pp, 0, none⟩)) := blk_f HW6.out.box 10
        go_upto_region 6 with fail
        refine stand_start (by kernel_rfl) 9 (fun w' => w'.cell? ⟨b3, 6, none⟩ = some (.slice cao cl ccap) ∧ w'.cell? ⟨y.p, 10, none⟩ = some (.pointer (some ⟨y.pp, 0, none⟩))) 99 (fun _ => True) ⟨A0, A1⟩ trivial ?_
        have T7 : Hid (Turn (fun _ => False) w6 w6.drew) := Lib.hid (Turn.refl _ _).drew
        have HA7 : Hid (w6.drew.cell? ⟨b3, 6, none⟩ = some (.slice cao cl ccap) ∧ w6.drew.cell? ⟨y.p, 10, none⟩ = some (.pointer (some ⟨y.pp, 0, none⟩))) := Lib.hid ⟨A0, A1⟩
        have HW7 := Lib.hid (HW6.out.new (Turn.refl _ _).drew)
        clear A0 A1
        generalize w6.drew = w7 at T7 HA7 HW7 ⊢
        refine stand_take (i := 0) (v := ?_) rfl (by kernel_rfl) (by kernel_rfl) (by kernel_rfl) (by rfl) (fun _ _ _ h => h) (by decide) (by decide) (by rfl) ?_ ?_
        rotate_left
        · (intro w; go_simp; try with_reducible rfl)
        dsimp only [List.set_cons_zero, List.set_cons_succ]
        refine stand_load1 (i := 1) (v := .slice cao cl ccap) rfl (by kernel_rfl) (by kernel_rfl) (by kernel_rfl) (by rfl) (fun _ _ _ h => h) (by decide) (by decide) (by kernel_rfl) (by rfl) ?_ ?_
        · (intro w hA; have hA0 := hA.1; clear hA; go_simp; try with_reducible rfl)
        dsimp only [List.set_cons_zero, List.set_cons_succ]
        refine stand_take (i := 2) (v := ?_) rfl (by kernel_rfl) (by kernel_rfl) (by kernel_rfl) (by rfl) (fun _ _ _ h => h) (by decide) (by decide) (by rfl) ?_ ?_
        rotate_left
        · (intro w; go_simp; try with_reducible rfl)
        dsimp only [List.set_cons_zero, List.set_cons_succ]
        refine stand_take (i := 3) (v := ?_) rfl (by kernel_rfl) (by kernel_rfl) (by kernel_rfl) (by rfl) (fun _ _ _ h => h) (by decide) (by decide) (by rfl) ?_ ?_
        rotate_left
        · (intro w; go_simp; try with_reducible rfl)
        dsimp only [List.set_cons_zero, List.set_cons_succ]
        refine stand_take (i := 4) (v := ?_) rfl (by kernel_rfl) (by kernel_rfl) (by kernel_rfl) (by rfl) (fun _ _ _ h => h) (by decide) (by decide) (by rfl) ?_ ?_
        rotate_left
        · (intro w; go_simp; try with_reducible rfl)
        dsimp only [List.set_cons_zero, List.set_cons_succ]
        refine stand_load1 (i := 5) (v := .pointer (some ⟨y.pp, 0, none⟩)) rfl (by kernel_rfl) (by kernel_rfl) (by kernel_rfl) (by rfl) (fun _ _ _ h => h) (by decide) (by decide) (by kernel_rfl) (by rfl) ?_ ?_
        · (intro w hA; have hA0 := hA.2; clear hA; go_simp; try with_reducible rfl)
        dsimp only [List.set_cons_zero, List.set_cons_succ]
        refine stand_take (i := 6) (v := ?_) rfl (by kernel_rfl) (by kernel_rfl) (by kernel_rfl) (by rfl) (fun _ _ _ h => h) (by decide) (by decide) (by rfl) ?_ ?_
        rotate_left
        · (intro w; go_simp; try with_reducible rfl)
        dsimp only [List.set_cons_zero, List.set_cons_succ]
        have hmi := HO.out.good.row (show cl ≤ y.pl.n by rw [HO.out.pn]; omega)
        refine stand_step (i := 7) (by kernel_rfl) rfl (fun K hK => ?_)
        go_simp
        refine (R5.C5.cache_yes (g := cl) w7 HW7.out.pool (by rw [HO.out.pn]; exact hlt) rfl (by omega)).mono ?_
        rintro e w8 ⟨rfl, hrow, t8⟩
        refine hK.out _ _ (fun _ => ⟨t8.cell id HA7.out.1, t8.cell id HA7.out.2⟩) (fun _ => trivial) ?_
        clear hK K
        try simp only [put_laid, List.set_cons_zero, List.set_cons_succ]
        have HRO := Lib.hid hrow
        have T8 := Lib.hid (T7.out.trans t8)
        have HBS := Lib.hid (show w6.heap.size ≤ w7.heap.size from T7.out.size)
        have HA8 := Lib.hid (And.intro (t8.cell id HA7.out.1) (t8.cell id HA7.out.2))
        clear hrow t8
        obtain ⟨bs, hbs⟩ : ∃ bs, w7.heap.size = bs := ⟨_, rfl⟩
        rw [hbs] at HRO HBS ⊢
        obtain ⟨nm, hnm⟩ : ∃ nm, (y.pl.M cl).length = nm := ⟨_, rfl⟩
        have HNM := Lib.hid hnm
        rw [hnm]
        clear T7 HA7 HW7 hbs
        obtain ⟨b9, hb9⟩ : ∃ b9, w8.heap.size = b9 := ⟨_, rfl⟩
        have K9 := Lib.hid (show (w8.alloc (.cells (IV.cs ⟨y.pl.M cl, ⟨some ⟨bs, 0, none⟩, nm, nm⟩⟩).toArray 38)).heap[b9]? = some (.cells (IV.cs ⟨y.pl.M cl, ⟨some ⟨bs, 0, none⟩, nm, nm⟩⟩).toArray 38 (0, 0)) by rw [← hb9]; exact heap_alloc_new w8 _)
        have T9 := Lib.hid (show Turn (fun _ => False) w8 (w8.alloc (.cells (IV.cs ⟨y.pl.M cl, ⟨some ⟨bs, 0, none⟩, nm, nm⟩⟩).toArray 38)) from (Turn.refl _ _).alloc _)
        refine stand_step (i := 8) (by kernel_rfl) rfl (fun K hK => ?_)
        refine step_at (φ := fun w' => Hid (w'.heap[b9]? = some (.cells (IV.cs ⟨y.pl.M cl, ⟨some ⟨bs, 0, none⟩, nm, nm⟩⟩).toArray 38 (0, 0))) ∧ Hid (Turn (fun _ => False) w8 w')) (w' := w8.alloc (.cells (IV.cs ⟨y.pl.M cl, ⟨some ⟨bs, 0, none⟩, nm, nm⟩⟩).toArray 38)) (v := .slice (some ⟨b9, 0, none⟩) 1 1) rfl (by go_simp; rfl) ⟨K9, T9⟩ ?_
        clear K9 T9 hb9
        rintro w9 ⟨K9, T9⟩
        refine hK.out _ _ (fun _ => ⟨T9.out.cell id HA8.out.1, T9.out.cell id HA8.out.2⟩) (fun _ => trivial) ?_
        clear hK K
        try simp only [put_laid, List.set_cons_zero, List.set_cons_succ]
        have O9 := Lib.hid (own_turn (own_turn HO6.out T8.out (fun _ _ => id)) T9.out (fun _ _ => id))
        have H99 := Lib.hid (show a9 ≤ w9.heap.size from Nat.le_trans H96.out (Nat.le_trans T8.out.size T9.out.size))
        refine stand_step (i := 9) (by kernel_rfl) rfl (fun K hK => ?_)
        refine step_append_flat_one iv_ok (by decide) Try.underlying37 info_ints' rfl (by decide) rfl (.tmp 79) (.tmp 86) rfl a9 (.slice cao cl ccap) X cl rfl O9.out b9 ⟨y.pl.M cl, ⟨some ⟨bs, 0, none⟩, nm, nm⟩⟩ rfl K9.out (cl + 1) rfl (by omega) H99.out ?_
        intro g c w10 hg9 h10 t10 u10
        have B10 := Lib.hid (((HA6.out.box.new T8.out).new T9.out).turn t10.out (fun e => by have := (HO6.out.lt b3 e).1; have := HD9.out.2.1; omega))
        refine hK.out _ _ (past (by kernel_rfl)) (fun _ => trivial) ?_
        clear hK K
        try simp only [put_laid, List.set_cons_zero, List.set_cons_succ]
        refine stand_take (i := 10) (v := ?_) rfl (by kernel_rfl) (by kernel_rfl) (by kernel_rfl) (by rfl) (fun _ _ _ h => h) (by decide) (by decide) (by rfl) ?_ ?_
        rotate_left
        · (intro w; go_simp; try with_reducible rfl)
        dsimp only [List.set_cons_zero, List.set_cons_succ]
        have d0 : w10.cell? ⟨b3, 6, none⟩ = some (.slice cao cl ccap) := blk_f B10.out 6
        have d1 : w10.frozen? ⟨b3, 6, none⟩ = false := B10.out.fr 6
        refine stand_step (i := 11) (by kernel_rfl) rfl (fun K hK => ?_)
        go_simp
        refine hK.out _ _ (past (by kernel_rfl)) (fun _ => trivial) ?_
        clear d0 d1 hK K
        refine stand_done (by kernel_rfl) ?_
        have HLN : Hid (StL w y gl r0 b3 ⟨y.st, ⟨some ⟨g2, 0, none⟩, gl, gc⟩, zSl, zsd, zSl, zmi, zdr, zdn⟩ Y D a9 (cl + 1) Yn ⟨some ⟨g, 0, none⟩, cl + 1, c⟩ (X ++ [⟨y.pl.M cl, ⟨some ⟨bs, 0, none⟩, nm, nm⟩⟩]) (w10.setCell ⟨b3, 6, none⟩ (.slice (some ⟨g, 0, none⟩) (cl + 1) c))) := Lib.hid (by
          have hq := HNM.out
          subst hq
          exact stl_more HD9.out HA6.out rfl HXL.out H96.out (fun k hk => HO6.out.lt k hk) HRW.out HGS.out T8.out HRO.out HBS.out (by omega) T9.out h10.out t10.out u10.out)
        clear HA6 HO6 HRW HGS HD9 HCL HXL HW6 H96 T8 HRO HBS HA8 K9 T9 O9 H99 h10 t10 u10 B10 hmi hnm HNM
        generalize w10.setCell ⟨b3, 6, none⟩ (.slice (some ⟨g, 0, none⟩) (cl + 1) c) = w11 at HLN ⊢
        go_wp2_with fail
        go_roundw
        case rel => exact ⟨cl + 1, Yn, ⟨some ⟨g, 0, none⟩, cl + 1, c⟩, _, by omega, by go_num, HLN⟩
        case measure => simp [intOf]; omega
      · obtain rfl : i = gl := by omega
        have HWR := Lib.hid (HW.out.new HL.out.a.t)
        have A5 : wr.cell? ⟨y.p, 5, none⟩ = some (.slice none 0 0) := blk_f HWR.out.box 5
        go_upto_region 9 with fail
        clear A5
        have hL := HL.out
        have L1 := hL.a.box.load (P := Try.prog) (t := 41) t_state
        have S1 := hL.a.res.store (P := Try.prog) (t := 41) (SV.cs ⟨y.st, ⟨ga, i, gc⟩, zSl, zsd, ca, zmi, zdr, zdn⟩) rfl t_state (sv_ok.one _)
        have t2 := row_turn wr r0 (SV.cs ⟨y.st, ⟨ga, i, gc⟩, zSl, zsd, ca, zmi, zdr, zdn⟩).toArray
        have b2 := hL.a.res.row (SV.cs ⟨y.st, ⟨ga, i, gc⟩, zSl, zsd, ca, zmi, zdr, zdn⟩)
        have T2 : Hid (Turn (fun b => b = r0) wr (wr.setRow r0 (SV.cs ⟨y.st, ⟨ga, i, gc⟩, zSl, zsd, ca, zmi, zdr, zdn⟩).toArray)) := Lib.hid t2
        have B2 : Hid (Blk (wr.setRow r0 (SV.cs ⟨y.st, ⟨ga, i, gc⟩, zSl, zsd, ca, zmi, zdr, zdn⟩).toArray) r0 41 (SV.cs ⟨y.st, ⟨ga, i, gc⟩, zSl, zsd, ca, zmi, zdr, zdn⟩)) := Lib.hid b2
        clear hL t2 b2
        generalize wr.setRow r0 (SV.cs ⟨y.st, ⟨ga, i, gc⟩, zSl, zsd, ca, zmi, zdr, zdn⟩).toArray = w2 at S1 T2 B2
        have HL1 := Lib.hid L1
        have HS1 := Lib.hid S1
        clear L1 S1
        go_loopw [95] (fun s95 wx => s95 = .int .i64 0 ∧ Hid (wx = wr)) (fun _ _ => 0)
        case atStart => exact ⟨rfl, Lib.hid rfl⟩
        case round =>
          obtain ⟨rfl, hw⟩ := hrel
          have hw' := hw.out
          subst hw'
          have L1 := HL1.out
          have S1 := HS1.out
          go_wp2_with (first | refine wpList_load_at rfl rfl rfl L1 ?_ | refine wpList_store_at rfl rfl rfl rfl S1 ?_)
          have BX : Boxes w w2 [(r0, 41, SV.cs ⟨y.st, ⟨ga, i, gc⟩, zSl, zsd, ca, zmi, zdr, zdn⟩)] := ⟨HL.out.a.t.and T2.out (fun j hj e => by have := HL.out.a.lo.1; omega), by intro x hx; simp only [List.mem_singleton] at hx; subst hx; exact HL.out.a.lo.1, by simp, by intro x hx; simp only [List.mem_singleton] at hx; subst hx; exact B2.out⟩
          refine bodyPost_ret (ret_box Try.results8 BX 0 rfl rfl t_state) rfl ⟨⟨y.st, ⟨ga, i, gc⟩, zSl, zsd, ca, zmi, zdr, zdn⟩, rfl, rfl, HL.out.all HY.out ⟨rfl, rfl⟩ ⟨HO.out.gl, HO.out.bl, HO.out.pn⟩ T2.out, BX.t⟩

end Go.Proofs.Ytenbafkgfdlfpaa
