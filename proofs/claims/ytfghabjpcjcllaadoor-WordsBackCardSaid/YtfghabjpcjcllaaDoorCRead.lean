/- The code's reading of a line. -/
import Derived.Test.YtfghabjpcjcllaaDoorCGuess
import Derived.Test.YtfghabjpcjcllaaDoorCOp
namespace Go.Proofs.YtfghabjpcjcllaaDoor
open Go.RowKit
set_option linter.unusedVariables false

theorem splitK_many (sep : Tx) (save : Nat) : ∀ (k : Nat) (s : Tx), (Lib.splitK sep save k s).length ≤ k + 1
  | 0, _ => Nat.le_refl _
  | k + 1, s => by
    unfold Lib.splitK
    split
    · simp
    · have := splitK_many sep save k (s.drop ((Lib.index s sep).toNat + sep.length))
      simp only [List.length_cons]
      omega
theorem gLine_cases (t : Tx) : (gLine t).cases.length ≤ t.length + 2 := by
  have h1 := splitK_many sepB 0 (Lib.count t sepB) t
  have h2 := Lib.count_le t sepB
  rw [gLine_of]
  unfold partsT
  generalize Lib.splitK sepB 0 (Lib.count t sepB) t = W at h1
  cases W with
  | nil => simp [gOf]
  | cons p ps =>
    show (gCases ps).length ≤ _
    unfold gCases
    rw [List.length_map]
    have := List.length_filter_le (fun q => q != wElse) ps
    simp only [List.length_cons] at h1
    omega

/-- A line is answered as an op, and whether it is one's. -/
def GivesR (w : World) (t : Tx) (e : Ending) (w' : World) : Prop := Turn (fun _ => False) w w' ∧ ∃ (r : OpV) (q : Opr) (ok : Bool), e = .returned (.tuple #[r.val, .bool ok]) ∧ ok = readC t ∧ BOp w' 40 r q ∧ (ok = true → q = gLine t)
theorem gives_r {w w' : World} {t : Tx} {r : OpV} {q : Opr} {ok : Bool} (h1 : Turn (fun _ => False) w w') (h2 : ok = readC t) (h3 : BOp w' 40 r q) (h4 : ok = true → q = gLine t) : GivesR w t (.returned (.tuple #[r.val, .bool ok])) w' := ⟨h1, r, q, ok, rfl, h2, h3, h4⟩
theorem bop_zero (w : World) : BOp w 40 ⟨0, 0, 0, 0, ⟨none, 0, 0⟩, false⟩ ⟨0, 0, 0, 0, [], false⟩ :=
  ⟨⟨rfl, rfl, rfl, rfl, rfl, (GCs.nil w 40 0).done.r⟩, (GCs.nil w 40 0).done.typ⟩

set_option maxRecDepth 100000 in
set_option maxHeartbeats 4000000 in
theorem read_any (t : Tx) (w : World) (hl : t.length ≤ 100000) (hG : Gl w) : Calls Tryd.prog 50 #[.string (bs t)] w (GivesR w t) := by
  have hrc : ∀ b, decide (t ≠ [] ∧ t.length ≤ 91 ∧ opS (gLine t) = t) = b → readC t = b := fun b h => h
  obtain ⟨m, hm⟩ : ∃ n, t.length = n := ⟨_, rfl⟩
  have hlen := len_text (t := t) (hn := hm)
  obtain ⟨eb, heb⟩ : ∃ b, decide (t = []) = b := ⟨_, rfl⟩
  have hq0 := lit_text t [] heb
  have CG := Lib.hid (fun (h : t.length ≤ 1000) w hG => guess_any t w h hG)
  have hcs := gLine_cases t
  have CO := Lib.hid (fun (h : t.length ≤ 1000) (r : OpV) w (h2 : ROp w r (gLine t)) hG => op_any r (gLine t) w h2 (by omega) hG)
  obtain ⟨ob, hob⟩ : ∃ b, decide (opS (gLine t) = t) = b := ⟨_, rfl⟩
  have hqo := eq_text (opS (gLine t)) t
  rw [hob] at hqo
  obtain ⟨T, hT⟩ : ∃ S, bs t = S := ⟨_, rfl⟩
  obtain ⟨SO, hSO⟩ : ∃ S, bs (opS (gLine t)) = S := ⟨_, rfl⟩
  unfold GivesS at CO
  rw [hSO] at CO hqo
  rw [hT] at hlen hq0 CG hqo ⊢
  have G := Lib.hid hG
  have Z0 : Hid (Six (w.alloc (.cells #[.int .i64 0, .int .i64 0, .int .i64 0, .int .i64 0, .slice none 0 0, .bool false] 25)) w.heap.size 0 0 0 0 (.slice none 0 0) false) := Lib.hid (blk_new w _ 25)
  have T0 := Lib.hid ((Turn.refl (fun _ => False) w).alloc (.cells #[.int .i64 0, .int .i64 0, .int .i64 0, .int .i64 0, .slice none 0 0, .bool false] 25))
  have hb1 : eb = true → readC t = false := fun h => hrc _ (by rw [decide_eq_false_iff_not]; intro hh; exact hh.1 (of_decide_eq_true (heb.trans h)))
  have hb2 : 91 < m → readC t = false := fun h => hrc _ (by rw [decide_eq_false_iff_not]; intro hh; have := hh.2.1; omega)
  have hb3 : eb = false → m ≤ 91 → readC t = ob := fun h1 h2 => hrc _ (by
    rw [← hob]
    have : t ≠ [] := of_decide_eq_false (heb.trans h1)
    simp [this, hm, h2])
  have hml : m ≤ 91 → t.length ≤ 1000 := fun h => by omega
  clear hT hSO hl hG hob heb hcs hrc hm
  have HB1 := Lib.hid hb1
  have HB2 := Lib.hid hb2
  have HB3 := Lib.hid hb3
  have HML := Lib.hid hml
  clear hb1 hb2 hb3 hml
  go_enter Tryd.func50, Tryd.ntmps50
  go_upto_region 1 with fail
  generalize w.alloc (.cells #[.int .i64 0, .int .i64 0, .int .i64 0, .int .i64 0, .slice none 0 0, .bool false] 25) = w1 at Z0 T0 ⊢
  obtain ⟨rz, hrz⟩ : ∃ b, w.heap.size = b := ⟨_, rfl⟩
  have LOW : Hid (w.heap.size ≤ rz) := Lib.hid (by omega)
  rw [hrz] at Z0 ⊢
  clear hrz
  cases eb
  case true =>
    have HBAD := Lib.hid (HB1.out rfl)
    obtain ⟨⟨z0, z1, z2, z3, z4, z5⟩, y0, y1, y2, y3, y4, y5⟩ := Z0.out.cells
    go_wp2_with fail
    have ZF := Lib.hid (Z0.out.all 0 0 0 0 (.slice none 0 0) false)
    have TF := Lib.hid (T0.out.and (six_turn w1 rz (.int .i64 0) (.int .i64 0) (.int .i64 0) (.int .i64 0) (.slice none 0 0) (.bool false)) (fun q hq e => by have := LOW.out; omega))
    clear z0 z1 z2 z3 z4 z5 y0 y1 y2 y3 y4 y5
    generalize ((((((w1.setCell ⟨rz, 0, none⟩ (.int .i64 0)).setCell ⟨rz, 1, none⟩ (.int .i64 0)).setCell ⟨rz, 2, none⟩ (.int .i64 0)).setCell ⟨rz, 3, none⟩ (.int .i64 0)).setCell ⟨rz, 4, none⟩ (.slice none 0 0)).setCell ⟨rz, 5, none⟩ (.bool false)) = wf at ZF TF ⊢
    obtain ⟨⟨k0, k1, k2, k3, k4, k5⟩, _⟩ := ZF.out.cells
    refine bodyPost_ret (v := .tuple #[.agg #[.int .i64 0, .int .i64 0, .int .i64 0, .int .i64 0, .slice none 0 0, .bool false], .bool false]) (by simp [results, Tryd.results50, go_sem, k0, k1, k2, k3, k4, k5]) rfl (gives_r (r := ⟨0, 0, 0, 0, ⟨none, 0, 0⟩, false⟩) (q := ⟨0, 0, 0, 0, [], false⟩) TF.out ?_ ?_ ?_)
    · rw [HBAD.out]
    · exact bop_zero wf
    · intro h; cases h
  rcases Nat.lt_or_ge 91 m with hbig | hsm
  · have HBAD := Lib.hid (HB2.out hbig)
    obtain ⟨⟨z0, z1, z2, z3, z4, z5⟩, y0, y1, y2, y3, y4, y5⟩ := Z0.out.cells
    go_wp2_with fail
    have ZF := Lib.hid (Z0.out.all 0 0 0 0 (.slice none 0 0) false)
    have TF := Lib.hid (T0.out.and (six_turn w1 rz (.int .i64 0) (.int .i64 0) (.int .i64 0) (.int .i64 0) (.slice none 0 0) (.bool false)) (fun q hq e => by have := LOW.out; omega))
    clear z0 z1 z2 z3 z4 z5 y0 y1 y2 y3 y4 y5
    generalize ((((((w1.setCell ⟨rz, 0, none⟩ (.int .i64 0)).setCell ⟨rz, 1, none⟩ (.int .i64 0)).setCell ⟨rz, 2, none⟩ (.int .i64 0)).setCell ⟨rz, 3, none⟩ (.int .i64 0)).setCell ⟨rz, 4, none⟩ (.slice none 0 0)).setCell ⟨rz, 5, none⟩ (.bool false)) = wf at ZF TF ⊢
    obtain ⟨⟨k0, k1, k2, k3, k4, k5⟩, _⟩ := ZF.out.cells
    refine bodyPost_ret (v := .tuple #[.agg #[.int .i64 0, .int .i64 0, .int .i64 0, .int .i64 0, .slice none 0 0, .bool false], .bool false]) (by simp [results, Tryd.results50, go_sem, k0, k1, k2, k3, k4, k5]) rfl (gives_r (r := ⟨0, 0, 0, 0, ⟨none, 0, 0⟩, false⟩) (q := ⟨0, 0, 0, 0, [], false⟩) TF.out ?_ ?_ ?_)
    · rw [HBAD.out]
    · exact bop_zero wf
    · intro h; cases h
  have HOK := Lib.hid (HB3.out rfl hsm)
  have HM := Lib.hid (HML.out hsm)
  go_wp2_with fail
  refine (CG.out HM.out _ (G.out.new T0.out)).mono ?_
  rintro e w2 ⟨t2, ⟨kind, ch, n, v, ⟨ao, len, cap⟩, els⟩, rfl, hbo⟩
  have T2 := Lib.hid (T0.out.trans t2)
  have Z2 := Lib.hid (Z0.out.new t2)
  have BO := Lib.hid hbo
  clear t2 hbo
  unfold OpV.val Sl.val
  dsimp only
  go_upto_region 4 with fail
  have A : Hid (OnS w (w2.alloc (.cells #[.int .i64 kind, .int .i64 ch, .int .i64 n, .int .i64 v, .slice ao len cap, .bool els] 25)) rz w2.heap.size kind ch n v (.slice ao len cap) els) := Lib.hid ⟨Z2.out.new ((Turn.refl _ _).alloc _), blk_new w2 _ 25, T2.out.alloc _, LOW.out, Blk.lt Z2.out⟩
  have BO := Lib.hid (BO.out.new ((Turn.refl _ w2).alloc (.cells #[.int .i64 kind, .int .i64 ch, .int .i64 n, .int .i64 v, .slice ao len cap, .bool els] 25)))
  obtain ⟨bx, hbx⟩ : ∃ b, w2.heap.size = b := ⟨_, rfl⟩
  rw [hbx] at A ⊢
  clear hbx
  generalize w2.alloc (.cells #[.int .i64 kind, .int .i64 ch, .int .i64 n, .int .i64 v, .slice ao len cap, .bool els] 25) = w3 at A BO ⊢
  have TT := Lib.hid (Turn.refl (fun _ => False) w3).drew
  have TD := TT
  have KEEP := Lib.hid (show ∀ w', Turn (fun j => j = rz) w3 w' → (w'.cell? ⟨bx, 0, none⟩ = some (.int .i64 kind) ∧ w'.cell? ⟨bx, 1, none⟩ = some (.int .i64 ch) ∧ w'.cell? ⟨bx, 2, none⟩ = some (.int .i64 n) ∧ w'.cell? ⟨bx, 3, none⟩ = some (.int .i64 v) ∧ w'.cell? ⟨bx, 4, none⟩ = some (.slice ao len cap) ∧ w'.cell? ⟨bx, 5, none⟩ = some (.bool els)) from fun w' t => (A.out.x.turn t (by have := A.out.nxt; omega)).cells.1)
  refine stand_start (by kernel_rfl) 99 (fun w' => w'.cell? ⟨bx, 0, none⟩ = some (.int .i64 kind) ∧ w'.cell? ⟨bx, 1, none⟩ = some (.int .i64 ch) ∧ w'.cell? ⟨bx, 2, none⟩ = some (.int .i64 n) ∧ w'.cell? ⟨bx, 3, none⟩ = some (.int .i64 v) ∧ w'.cell? ⟨bx, 4, none⟩ = some (.slice ao len cap) ∧ w'.cell? ⟨bx, 5, none⟩ = some (.bool els)) 99 (fun w' => True) (KEEP.out _ (TD.out.mono fun _ _ e => e.elim)) trivial ?_
  refine stand_load3 (i := 0) (v := ?_) rfl (by kernel_rfl) (by kernel_rfl) (by kernel_rfl) (by rfl) (fun _ _ _ h => h) (by decide) (by decide) (by kernel_rfl) (by rfl) ?_ ?_
  rotate_left
  · (intro w hA; (try dsimp only at hA); go_simp; try with_reducible rfl)
  dsimp only [List.set_cons_zero, List.set_cons_succ]
  refine stand_load3 (i := 1) (v := ?_) rfl (by kernel_rfl) (by kernel_rfl) (by kernel_rfl) (by rfl) (fun _ _ _ h => h) (by decide) (by decide) (by kernel_rfl) (by rfl) ?_ ?_
  rotate_left
  · (intro w hA; (try dsimp only at hA); go_simp; try with_reducible rfl)
  dsimp only [List.set_cons_zero, List.set_cons_succ]
  refine stand_take (i := 3) (v := ?_) rfl (by kernel_rfl) (by kernel_rfl) (by kernel_rfl) (by rfl) (fun _ _ _ h => h) (by decide) (by decide) (by rfl) ?_ ?_
  rotate_left
  · (intro w; go_simp; try with_reducible rfl)
  dsimp only [List.set_cons_zero, List.set_cons_succ]
  refine stand_step (i := 2) (by kernel_rfl) rfl (fun K hK => ?_)
  go_simp
  refine (CO.out HM.out ⟨kind, ch, n, v, ⟨ao, len, cap⟩, els⟩ _ (BO.out.rd.new TT.out) (G.out.new (A.out.t.trans TT.out)).base).mono ?_
  rintro e w4 ⟨rfl, t4⟩
  have TT := Lib.hid (TT.out.trans t4)
  clear t4
  refine hK.out _ _ (fun _ => KEEP.out _ (TT.out.mono fun _ _ e => e.elim)) (fun _ => trivial) ?_
  clear hK K
  try simp only [put_laid, List.set_cons_zero, List.set_cons_succ]
  refine stand_take (i := 4) (v := ?_) rfl (by kernel_rfl) (by kernel_rfl) (by kernel_rfl) (by rfl) (fun _ _ _ h => h) (by decide) (by decide) (by rfl) ?_ ?_
  rotate_left
  · (intro w; go_simp; try with_reducible rfl)
  dsimp only [List.set_cons_zero, List.set_cons_succ]
  have A4 := Lib.hid (A.out.new TT.out)
  have BO4 := Lib.hid (BO.out.new TT.out)
  obtain ⟨⟨z0, z1, z2, z3, z4, z5⟩, y0, y1, y2, y3, y4, y5⟩ := A4.out.z.cells
  refine stand_step (i := 5) (by kernel_rfl) rfl (fun K hK => ?_)
  go_simp
  have T6 := Lib.hid (six_turn w4 rz (.int .i64 kind) (.int .i64 ch) (.int .i64 n) (.int .i64 v) (.slice ao len cap) (.bool els))
  have ZF := Lib.hid (A4.out.z.all kind ch n v (.slice ao len cap) els)
  have TF := Lib.hid (A4.out.t.and T6.out (fun q hq e => by have := A4.out.low; omega))
  have BF := Lib.hid (BO4.out.apart T6.out (fun i _ e => by subst e; exact ⟨_, 25, by decide, A4.out.z⟩))
  have KF := Lib.hid (KEEP.out _ ((TT.out.mono fun _ _ e => e.elim).trans T6.out))
  clear z0 z1 z2 z3 z4 z5 y0 y1 y2 y3 y4 y5 T6
  generalize ((((((w4.setCell ⟨rz, 0, none⟩ (.int .i64 kind)).setCell ⟨rz, 1, none⟩ (.int .i64 ch)).setCell ⟨rz, 2, none⟩ (.int .i64 n)).setCell ⟨rz, 3, none⟩ (.int .i64 v)).setCell ⟨rz, 4, none⟩ (.slice ao len cap)).setCell ⟨rz, 5, none⟩ (.bool els)) = wf at ZF TF BF KF ⊢
  refine hK.out _ _ (fun _ => KF.out) (fun _ => trivial) ?_
  clear hK K
  try simp only [put_laid, List.set_cons_zero, List.set_cons_succ]
  refine stand_take (i := 6) (v := ?_) rfl (by kernel_rfl) (by kernel_rfl) (by kernel_rfl) (by rfl) (fun _ _ _ h => h) (by decide) (by decide) (by rfl) ?_ ?_
  rotate_left
  · (intro w; go_simp; try with_reducible rfl)
  dsimp only [List.set_cons_zero, List.set_cons_succ]
  refine stand_done (by kernel_rfl) ?_
  go_wp2_with fail
  obtain ⟨⟨k0, k1, k2, k3, k4, k5⟩, _⟩ := ZF.out.cells
  refine bodyPost_ret (v := .tuple #[.agg #[.int .i64 kind, .int .i64 ch, .int .i64 n, .int .i64 v, .slice ao len cap, .bool els], .bool ob]) (by simp [results, Tryd.results50, go_sem, k0, k1, k2, k3, k4, k5]) rfl (gives_r (r := ⟨kind, ch, n, v, ⟨ao, len, cap⟩, els⟩) (q := gLine t) TF.out ?_ ?_ ?_)
  · rw [HOK.out]
  · exact BF.out
  · intro _; rfl
end Go.Proofs.YtfghabjpcjcllaaDoor
