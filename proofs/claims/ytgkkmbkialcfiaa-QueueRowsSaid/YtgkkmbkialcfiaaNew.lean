/- New; queueAlive. -/
import Derived.Test.YtgkkmbkialcfiaaList
namespace Go.Proofs.Ytgkkmbkialcfiaa
open Go.RowKit
set_option linter.unusedVariables false

theorem made_flat {z : Array Value} {u : Value} {size : Nat} (hz : z.toList = List.replicate size u) (hs : 0 < size) (n : Nat) : (madeCells z n).toList = List.replicate n u := by
  have hzs : z.size = size := by rw [← Array.length_toList, hz, List.length_replicate]
  have key : ∀ i, z[i % z.size]! = u := fun i => by
    have hi : i % z.size < z.size := Nat.mod_lt _ (by omega)
    rw [getElem!_pos z _ hi]
    have h2 : z.toList[i % z.size]'(by rw [Array.length_toList]; exact hi) = u := by
      simp only [hz, List.getElem_replicate]
    simpa using h2
  apply List.ext_getElem?
  intro i
  by_cases h : i < n
  · simp only [madeCells, Array.toList_map, List.getElem?_map]
    rw [List.getElem?_replicate, if_pos h]
    have : (Array.range n).toList[i]? = some i := by simp [h]
    rw [this]
    simp [key i]
  · simp [madeCells, h]
theorem flat_row {w : World} {g base n size : Nat} {e : TypeId} (h : w.ownsRow base e size (.slice (some ⟨g, 0, none⟩) n n) n (List.replicate (n * size) (.int .i64 0))) : RowF e w g (n * size) (fun _ => 0) := by
  rcases h.2 with ⟨h1, _⟩ | ⟨g', cap, cur, h1, _, hh, _, _, hs, ht⟩
  · cases h1
  · cases h1
    have e : cur = ((List.range (n * size)).map fun _ => Value.int .i64 0).toArray := by
      apply Array.toList_inj.1
      have hn : n * size = cur.toList.length := by simpa using hs.symm
      rw [hn, List.take_length] at ht
      rw [ht]
      show _ = (List.range (n * size)).map fun _ => Value.int .i64 0
      rw [List.map_const', List.length_range, hn]
    unfold RowF
    rw [hh, e]
theorem step_make_flat {P : Program} {z : Value} {t e : TypeId} {size by_ : Nat} (hz : z.cells.toList = List.replicate size (.int .i64 0)) (hs : 0 < size) (ht : P.underlying t = some (.slice e)) (hinfo : (P.info? e).map (fun i => (i.zero, i.size, i.bytes)) = some (some z, size, by_)) (hby : by_ ≤ 24)
    {w : World} {ops : Array Oper} {o : Oper} {a : Act} {K : Act → World → Prop} {Q : Exit → Act → World → Prop} {E : Prop} (hgd : o.guard = none) (l c : Operand) (hop : o.op = Op.makeSlice t l c) (n : Nat) (hl : a.eval l = .int .i64 n) (hc : a.eval c = .int .i64 n) (hn : n ≤ 1000000)
    (hK : ∀ w', Hid (RowF e w' w.heap.size (n * size) (fun _ => 0)) → Hid (Turn (fun _ => False) w w') → K (a.put o.dst (.slice (some ⟨w.heap.size, 0, none⟩) n n)) w') :
    if Region.wanted o (yielded ops a.tmps) = true then Oper.wp P o a w K Q else E := by
  have hw : Region.wanted o (yielded ops a.tmps) = true := by simp [Region.wanted, hgd]
  rw [if_pos hw]
  obtain ⟨i0, hi, hz0, hz1, hz2⟩ := info_parts hinfo
  have hb : i0.bytes * n ≤ 24 * 1000000 := Nat.mul_le_mul (by omega) hn
  obtain ⟨w', hrun, r1, r2⟩ := run_make_full (P := P) w w.heap.size t e i0 z size ht hi hz0 hz1 .i64 .i64 n (by omega) (by unfold maxLen; omega) (Nat.le_refl _)
  rw [made_flat hz hs] at r1
  unfold Oper.wp
  simp [execOp, hop, hl, hc, hrun, Result.andThen]
  exact hK w' (flat_row r1) ((Turn.refl _ _).grown r2 (by simp))

def zeroTie : Value := .agg #[.int .i64 0, .int .i64 0, .int .i64 0]
def zeroEnds : Value := .agg #[.int .i64 0, .int .i64 0]
theorem info_tie : (Try.prog.info? 54).map (fun i => (i.zero, i.size, i.bytes)) = some (some zeroTie, 3, 24) := by kernel_rfl
theorem info_ends : (Try.prog.info? 57).map (fun i => (i.zero, i.size, i.bytes)) = some (some zeroEnds, 2, 16) := by kernel_rfl

def newS (n m : Nat) : St := ⟨n, m, fun _ => []⟩
/-- The first i things, and the first k queues, are told to be loose, and empty. -/
def partC (i k : Nat) : Cl := ⟨fun j => if j < 3 * i then -1 else 0, fun j => if j < 2 * k then -1 else 0⟩
theorem part_zero : partC 0 0 = ⟨fun _ => 0, fun _ => 0⟩ := rfl
theorem part_tie (i k : Nat) : (partC i k).tie i (-1) (-1) (-1) = partC (i + 1) k := by
  unfold partC Cl.tie upd
  congr 1
  funext j
  show (if _ then _ else if _ then _ else if _ then _ else if _ then _ else _) = if _ then _ else _
  by_cases h1 : j = 3 * i + 2
  · rw [if_pos h1, if_pos (by omega)]
  · rw [if_neg h1]
    by_cases h2 : j = 3 * i + 1
    · rw [if_pos h2, if_pos (by omega)]
    · rw [if_neg h2]
      by_cases h3 : j = 3 * i
      · rw [if_pos h3, if_pos (by omega)]
      · rw [if_neg h3]
        by_cases h4 : j < 3 * i
        · rw [if_pos h4, if_pos (by omega)]
        · rw [if_neg h4, if_neg (by omega)]
theorem part_ends (i k : Nat) : (⟨(partC i k).T, upd (upd (partC i k).E (2 * k) (-1)) (2 * k + 1) (-1)⟩ : Cl) = partC i (k + 1) := by
  unfold partC upd
  congr 1
  funext j
  show (if _ then _ else if _ then _ else if _ then _ else _) = if _ then _ else _
  by_cases h2 : j = 2 * k + 1
  · rw [if_pos h2, if_pos (by omega)]
  · rw [if_neg h2]
    by_cases h3 : j = 2 * k
    · rw [if_pos h3, if_pos (by omega)]
    · rw [if_neg h3]
      by_cases h4 : j < 2 * k
      · rw [if_pos h4, if_pos (by omega)]
      · rw [if_neg h4, if_neg (by omega)]
theorem part_good {n m : Nat} (hn : n ≤ 64) (hm : m ≤ 64) : Good (newS n m) (partC n m) :=
  ⟨hn, hm, fun k _ x hx => (by cases hx), fun j hj => Or.inl (if_pos (show 3 * j < 3 * n by have : j < n := hj; omega)), fun k _ => List.nodup_nil, fun k hk => by
    have hk' : k < m := hk
    refine ⟨?_, ?_⟩
    · unfold Cl.nx
      rw [if_pos rfl]
      exact if_pos (by omega)
    · unfold Cl.pv
      rw [if_pos rfl]
      exact if_pos (by omega)⟩

def BadPost (w : World) (e : Ending) (w' : World) : Prop := e = .returned (.tuple #[.pointer none, .int .i64 1]) ∧ w = w'
theorem new_bad {a b : Int} (w : World) (h : a < 0 ∨ 64 < a ∨ b < 0 ∨ 64 < b) :
    Calls Try.prog 7 #[.int .i64 a, .int .i64 b] w (BadPost w) := by
  by_cases h1 : a < 0
  · clear h
    go_enter Try.func7, Try.ntmps7
    go_wp2_with fail
    go_ret2
    exact ⟨rfl, rfl⟩
  by_cases h2 : 64 < a
  · clear h
    go_enter Try.func7, Try.ntmps7
    go_wp2_with fail
    go_ret2
    exact ⟨rfl, rfl⟩
  by_cases h3 : b < 0
  · clear h
    go_enter Try.func7, Try.ntmps7
    go_wp2_with fail
    go_ret2
    exact ⟨rfl, rfl⟩
  have h4 : 64 < b := by omega
  clear h
  go_enter Try.func7, Try.ntmps7
  go_wp2_with fail
  go_ret2
  exact ⟨rfl, rfl⟩

/-- The queues within a call that began at w0. -/
structure Here (w0 wx : World) (p tb eb : Nat) (s : St) : Prop where
  q : IsQ wx w0.heap.size p tb eb s
  t : Turn (fun _ => False) w0 wx
section
variable {w0 wx w' : World} {p tb eb : Nat} {s s' : St}
theorem Here.kept (h : Here w0 wx p tb eb s) (k : Kept w0.heap.size p tb eb s' wx w') : Here w0 w' p tb eb s' :=
  ⟨k.1, h.t.and k.2 (fun i hi e => by have := (h.q.blocks e).1; omega)⟩
theorem Here.new (h : Here w0 wx p tb eb s) (t : Turn (fun _ => False) wx w') : Here w0 w' p tb eb s := ⟨h.q.new t, h.t.trans t⟩
theorem Here.drewN (h : Here w0 wx p tb eb s) (k : Nat) : Here w0 (wx.drewN k) p tb eb s := h.new ((Turn.refl _ _).drewN k)
end
structure Made (w wx : World) (p tb eb n m : Nat) (c : Cl) : Prop where
  c : Cells wx w.heap.size p tb eb n m c
  t : Turn (fun _ => False) w wx
theorem Made.and {w wx w' : World} {p tb eb n m : Nat} {c c' : Cl} (h : Made w wx p tb eb n m c) (h2 : Cells w' w.heap.size p tb eb n m c') (t : Turn (QB p tb eb) wx w') : Made w w' p tb eb n m c' :=
  ⟨h2, h.t.and t (fun i hi e => by have := (h.c.blocks e).1; omega)⟩
theorem Made.new {w wx w' : World} {p tb eb n m : Nat} {c : Cl} (h : Made w wx p tb eb n m c) (t : Turn (fun _ => False) wx w') : Made w w' p tb eb n m c := ⟨h.c.new t, h.t.trans t⟩

theorem made_two {w w1 w2 : World} {n m : Nat} (t1 : Turn (fun _ => False) w.drew w1) (r1 : RowF 54 w1 w.heap.size (n * 3) (fun _ => 0)) (t2 : Turn (fun _ => False) w1 w2) (r2 : RowF 57 w2 w1.heap.size (m * 2) (fun _ => 0)) :
    Made w (w2.alloc (.cells #[.slice (some ⟨w.heap.size, 0, none⟩) n n, .slice (some ⟨w1.heap.size, 0, none⟩) m m] 52)) w2.heap.size w.heap.size w1.heap.size n m (partC 0 0) := by
  have ta : Turn (fun _ => False) w2 (w2.alloc (.cells #[.slice (some ⟨w.heap.size, 0, none⟩) n n, .slice (some ⟨w1.heap.size, 0, none⟩) m m] 52)) := (Turn.refl _ _).alloc _
  have h1 : w.heap.size < w1.heap.size := r1.lt
  have h2 := r2.lt
  have h3 := t2.size
  rw [Nat.mul_comm] at r1 r2
  refine ⟨⟨heap_alloc_new _ _, (r1.turn t2 id).turn ta id, r2.turn ta id, by omega, by omega⟩, (((Turn.refl _ w).drewN 1).trans t1).trans (t2.trans ta)⟩
theorem made_two' {w w1 w2 : World} {n m : Nat} (t1 : Turn (fun _ => False) w.drew w1) (r1 : RowF 57 w1 w.heap.size (m * 2) (fun _ => 0)) (t2 : Turn (fun _ => False) w1 w2) (r2 : RowF 54 w2 w1.heap.size (n * 3) (fun _ => 0)) :
    Made w (w2.alloc (.cells #[.slice (some ⟨w1.heap.size, 0, none⟩) n n, .slice (some ⟨w.heap.size, 0, none⟩) m m] 52)) w2.heap.size w1.heap.size w.heap.size n m (partC 0 0) := by
  have ta : Turn (fun _ => False) w2 (w2.alloc (.cells #[.slice (some ⟨w1.heap.size, 0, none⟩) n n, .slice (some ⟨w.heap.size, 0, none⟩) m m] 52)) := (Turn.refl _ _).alloc _
  have h1 : w.heap.size < w1.heap.size := r1.lt
  have h2 := r2.lt
  have h3 := t2.size
  rw [Nat.mul_comm] at r1 r2
  refine ⟨⟨heap_alloc_new _ _, r2.turn ta id, (r1.turn t2 id).turn ta id, by omega, by omega⟩, (((Turn.refl _ w).drewN 1).trans t1).trans (t2.trans ta)⟩

def NewPost (n m : Nat) (w : World) (e : Ending) (w' : World) : Prop :=
  ∃ p tb eb, e = .returned (.tuple #[.pointer (some ⟨p, 0, none⟩), .int .i64 0]) ∧ Here w w' p tb eb (newS n m)
set_option maxHeartbeats 1000000 in
theorem new_good {n m : Nat} (w : World) (hn : n ≤ 64) (hm : m ≤ 64) :
    Calls Try.prog 7 #[.int .i64 n, .int .i64 m] w (NewPost n m w) := by
  go_enter Try.func7, Try.ntmps7
  go_upto_region 3 with fail
  go_cut [6] (fun s6 wx => ∃ p tb eb, s6 = .pointer (some ⟨p, 0, none⟩) ∧ Hid (Made w wx p tb eb n m (partC 0 0)))
  case first =>
    refine stand_start (by kernel_rfl) 99 (fun w' => True) 99 (fun w' => True) trivial trivial ?_
    refine stand_take (i := 0) (v := ?_) rfl (by kernel_rfl) (by kernel_rfl) (by kernel_rfl) (by rfl) (fun _ _ _ h => h) (by decide) (by decide) (by rfl) ?_ ?_
    rotate_left
    · (intro w; go_simp; try with_reducible rfl)
    dsimp only [List.set_cons_zero, List.set_cons_succ]
    refine stand_take (i := 2) (v := ?_) rfl (by kernel_rfl) (by kernel_rfl) (by kernel_rfl) (by rfl) (fun _ _ _ h => h) (by decide) (by decide) (by rfl) ?_ ?_
    rotate_left
    · (intro w; go_simp; try with_reducible rfl)
    dsimp only [List.set_cons_zero, List.set_cons_succ]
    refine stand_two (i := 1) (j := 3) (by kernel_rfl) rfl rfl (fun K hK => ?_) (fun K hK => ?_)
    · refine step_make_flat (z := zeroTie) rfl (by decide) Try.underlying49 info_tie (by decide) rfl (.tmp 23) (.tmp 23) rfl n rfl rfl (by omega) ?_
      intro w1 R1 T1
      refine hK.out _ _ (fun _ => trivial) (fun _ => trivial) ?_
      clear hK K
      try simp only [put_laid, List.set_cons_zero, List.set_cons_succ]
      refine stand_step (i := 3) (by kernel_rfl) rfl (fun K hK => ?_)
      refine step_make_flat (z := zeroEnds) rfl (by decide) Try.underlying50 info_ends (by decide) rfl (.tmp 25) (.tmp 25) rfl m rfl rfl (by omega) ?_
      intro w2 R2 T2
      refine hK.out _ _ (fun _ => trivial) (fun _ => trivial) ?_
      clear hK K
      try simp only [put_laid, List.set_cons_zero, List.set_cons_succ]
      refine stand_take (i := 4) (v := ?_) rfl (by kernel_rfl) (by kernel_rfl) (by kernel_rfl) (by rfl) (fun _ _ _ h => h) (by decide) (by decide) (by rfl) ?_ ?_
      rotate_left
      · (intro w; go_simp; try with_reducible rfl)
      dsimp only [List.set_cons_zero, List.set_cons_succ]
      refine stand_step (i := 5) (by kernel_rfl) rfl (fun K hK => ?_)
      go_simp
      refine hK.out _ _ (fun _ => trivial) (fun _ => trivial) ?_
      clear hK K
      try simp only [put_laid, List.set_cons_zero, List.set_cons_succ]
      refine stand_take (i := 6) (v := ?_) rfl (by kernel_rfl) (by kernel_rfl) (by kernel_rfl) (by rfl) (fun _ _ _ h => h) (by decide) (by decide) (by rfl) ?_ ?_
      rotate_left
      · (intro w; go_simp; try with_reducible rfl)
      dsimp only [List.set_cons_zero, List.set_cons_succ]
      refine stand_done (by kernel_rfl) ?_
      go_wp2_with fail
      go_meet
      exact ⟨_, _, _, rfl, Lib.hid (made_two T1.out R1.out T2.out R2.out)⟩
    · refine step_make_flat (z := zeroEnds) rfl (by decide) Try.underlying50 info_ends (by decide) rfl (.tmp 25) (.tmp 25) rfl m rfl rfl (by omega) ?_
      intro w1 R1 T1
      refine hK.out _ _ (fun _ => trivial) (fun _ => trivial) ?_
      clear hK K
      try simp only [put_laid, List.set_cons_zero, List.set_cons_succ]
      refine stand_step (i := 1) (by kernel_rfl) rfl (fun K hK => ?_)
      refine step_make_flat (z := zeroTie) rfl (by decide) Try.underlying49 info_tie (by decide) rfl (.tmp 23) (.tmp 23) rfl n rfl rfl (by omega) ?_
      intro w2 R2 T2
      refine hK.out _ _ (fun _ => trivial) (fun _ => trivial) ?_
      clear hK K
      try simp only [put_laid, List.set_cons_zero, List.set_cons_succ]
      refine stand_take (i := 4) (v := ?_) rfl (by kernel_rfl) (by kernel_rfl) (by kernel_rfl) (by rfl) (fun _ _ _ h => h) (by decide) (by decide) (by rfl) ?_ ?_
      rotate_left
      · (intro w; go_simp; try with_reducible rfl)
      dsimp only [List.set_cons_zero, List.set_cons_succ]
      refine stand_step (i := 5) (by kernel_rfl) rfl (fun K hK => ?_)
      go_simp
      refine hK.out _ _ (fun _ => trivial) (fun _ => trivial) ?_
      clear hK K
      try simp only [put_laid, List.set_cons_zero, List.set_cons_succ]
      refine stand_take (i := 6) (v := ?_) rfl (by kernel_rfl) (by kernel_rfl) (by kernel_rfl) (by rfl) (fun _ _ _ h => h) (by decide) (by decide) (by rfl) ?_ ?_
      rotate_left
      · (intro w; go_simp; try with_reducible rfl)
      dsimp only [List.set_cons_zero, List.set_cons_succ]
      refine stand_done (by kernel_rfl) ?_
      go_wp2_with fail
      go_meet
      exact ⟨_, _, _, rfl, Lib.hid (made_two' T1.out R1.out T2.out R2.out)⟩
  case rest =>
    obtain ⟨p, tb, eb, rfl, HM⟩ := hcut
    have c0 := HM.out.c.c0
    go_upto_region 5 with fail
    clear c0
    go_loopw [34] (fun s34 wr => ∃ i : Nat, i ≤ n ∧ s34 = .int .i64 i ∧ Hid (Made w wr p tb eb n m (partC i 0))) (fun s34 _ => n - (intOf s34).toNat)
    case atStart => exact ⟨0, Nat.zero_le _, rfl, HM⟩
    case round =>
      clear HM
      obtain ⟨i, hi, rfl, HM⟩ := hrel
      by_cases hlt : i < n
      · go_upto_region 7 with fail
        have c0 := HM.out.c.c0
        refine stand_start (by kernel_rfl) 99 (fun w' => w'.cell? ⟨p, 0, none⟩ = some (.slice (some ⟨tb, 0, none⟩) n n)) 99 (fun w' => True) c0 trivial ?_
        clear c0
        refine stand_take (i := 0) (v := ?_) rfl (by kernel_rfl) (by kernel_rfl) (by kernel_rfl) (by rfl) (fun _ _ _ h => h) (by decide) (by decide) (by rfl) ?_ ?_
        rotate_left
        · (intro w; go_simp; try with_reducible rfl)
        dsimp only [List.set_cons_zero, List.set_cons_succ]
        refine stand_take (i := 1) (v := ?_) rfl (by kernel_rfl) (by kernel_rfl) (by kernel_rfl) (by rfl) (fun _ _ _ h => h) (by decide) (by decide) (by rfl) ?_ ?_
        rotate_left
        · (intro w; go_simp; try with_reducible rfl)
        dsimp only [List.set_cons_zero, List.set_cons_succ]
        refine stand_take (i := 2) (v := ?_) rfl (by kernel_rfl) (by kernel_rfl) (by kernel_rfl) (by rfl) (fun _ _ _ h => h) (by decide) (by decide) (by rfl) ?_ ?_
        rotate_left
        · (intro w; go_simp; try with_reducible rfl)
        dsimp only [List.set_cons_zero, List.set_cons_succ]
        refine stand_load3 (i := 3) (v := ?_) rfl (by kernel_rfl) (by kernel_rfl) (by kernel_rfl) (by rfl) (fun _ _ _ h => h) (by decide) (by decide) (by kernel_rfl) (by rfl) ?_ ?_
        rotate_left
        · (intro w hA; (try dsimp only at hA); go_simp; try with_reducible rfl)
        dsimp only [List.set_cons_zero, List.set_cons_succ]
        refine stand_take (i := 4) (v := ?_) rfl (by kernel_rfl) (by kernel_rfl) (by kernel_rfl) (by rfl) (fun _ _ _ h => h) (by decide) (by decide) (by rfl) ?_ ?_
        rotate_left
        · (intro w; go_simp; try with_reducible rfl)
        dsimp only [List.set_cons_zero, List.set_cons_succ]
        refine stand_step (i := 5) (by kernel_rfl) rfl (fun K hK => ?_)
        go_simp
        refine (loose_any _).mono ?_
        rintro e w4 ⟨rfl, t4⟩
        have HM4 := Lib.hid (HM.out.new (((Turn.refl (fun _ => False) wr).drewN 1).trans t4))
        clear t4
        refine hK.out _ _ (fun _ => HM4.out.c.c0) (fun _ => trivial) ?_
        clear hK K
        try simp only [put_laid, List.set_cons_zero, List.set_cons_succ]
        refine stand_take (i := 6) (v := ?_) rfl (by kernel_rfl) (by kernel_rfl) (by kernel_rfl) (by rfl) (fun _ _ _ h => h) (by decide) (by decide) (by rfl) ?_ ?_
        rotate_left
        · (intro w; go_simp; try with_reducible rfl)
        dsimp only [List.set_cons_zero, List.set_cons_succ]
        have y0 := HM4.out.c.t0 hlt
        have y1 := HM4.out.c.t1 hlt
        have y2 := HM4.out.c.t2 hlt
        have f0 := HM4.out.c.ties.frozen (i * 3)
        have f1 := HM4.out.c.ties.frozen (i * 3 + 1)
        have f2 := HM4.out.c.ties.frozen (i * 3 + 2)
        refine stand_step (i := 7) (by kernel_rfl) rfl (fun K hK => ?_)
        go_simp
        have HM5 := Lib.hid (HM4.out.and (HM4.out.c.tie i (-1) (-1) (-1)) (HM4.out.c.tie_turn i (-1) (-1) (-1)))
        rw [part_tie] at HM5
        refine hK.out _ _ (fun _ => HM5.out.c.c0) (fun _ => trivial) ?_
        clear hK K
        try simp only [put_laid, List.set_cons_zero, List.set_cons_succ]
        refine stand_done (by kernel_rfl) ?_
        clear y0 y1 y2 f0 f1 f2
        go_wp2_with fail
        go_roundw
        case rel => exact ⟨i + 1, by omega, by go_num, HM5⟩
        case measure => simp [intOf]; omega
      · have hi2 : i = n := by omega
        rw [hi2] at HM
        clear hi2
        have c1 := HM.out.c.c1
        go_upto_region 10 with fail
        clear c1
        go_loopw [50] (fun s50 wr => ∃ k : Nat, k ≤ m ∧ s50 = .int .i64 k ∧ Hid (Made w wr p tb eb n m (partC n k))) (fun s50 _ => m - (intOf s50).toNat)
        case atStart => exact ⟨0, Nat.zero_le _, rfl, HM⟩
        case round =>
          clear HM
          obtain ⟨k, hk, rfl, HM⟩ := hrel
          by_cases hlt2 : k < m
          · have c1 := HM.out.c.c1
            have y0 := HM.out.c.e0 hlt2
            have y1 := HM.out.c.e1 hlt2
            have f0 := HM.out.c.ends.frozen (k * 2)
            have f1 := HM.out.c.ends.frozen (k * 2 + 1)
            go_wp2_with fail
            have HM5 := Lib.hid (HM.out.and ((HM.out.c.putE (k * 2) (-1)).putE (k * 2 + 1) (-1)) (((HM.out.c.putE_turn (k * 2) (.int .i64 (-1)))).trans ((HM.out.c.putE (k * 2) (-1)).putE_turn (k * 2 + 1) (.int .i64 (-1)))))
            rw [Nat.mul_comm k 2, part_ends, Nat.mul_comm 2 k] at HM5
            go_roundw
            case rel => exact ⟨k + 1, by omega, by go_num, HM5⟩
            case measure => simp [intOf]; omega
          · have hk2 : k = m := by omega
            rw [hk2] at HM
            clear hk2
            go_wp2_with fail
            go_ret2
            exact ⟨p, tb, eb, rfl, ⟨_, HM.out.c, part_good hn hm⟩, HM.out.t⟩
theorem new_any {n m : Nat} {a b : Int} (w : World) (ha : a = (n : Int)) (hb : b = (m : Int)) (hn : n ≤ 64) (hm : m ≤ 64) : Calls Try.prog 7 #[.int .i64 a, .int .i64 b] w (NewPost n m w) := by
  subst ha
  subst hb
  exact new_good w hn hm

def s1 : St := newS 9 2
def s2 : St := pushS s1 1 4
def s3 : St := pushS s2 1 2
def s4 : St := pushS s3 1 7
def s5 : St := dropS s4 2
theorem f1 : pushB s1 1 4 = true := by decide
theorem f2 : pushB s2 1 2 = true := by decide
theorem f3 : pushB s3 1 7 = true := by decide
theorem f4 : inB s4 2 = true := by decide
theorem f5 : listL s5 1 = [4, 7] := by decide
theorem ints_of2 (w : World) (a b : Int) : Ints .i64 (w.alloc (.cells #[.int .i64 a, .int .i64 b] 3)) (some ⟨w.heap.size, 0, none⟩) [a, b] := by
  intro j hj
  refine ⟨_, rfl, ?_⟩
  match j, hj with
  | 0, _ => simp [go_sem]
  | 1, _ => simp [go_sem]
theorem new_first (w : World) : Calls Try.prog 7 #[.int .i64 9, .int .i64 2] w (NewPost 9 2 w) := new_good (n := 9) (m := 2) w (by decide) (by decide)
theorem alive_any (w : World) : Calls Try.prog 6 #[] w fun e w' => e = .returned (.bool true) ∧ Turn (fun _ => False) w w' := by
  go_enter Try.func6, Try.ntmps6
  go_wp2_with fail
  refine (new_first w).mono ?_
  rintro e w1 ⟨p, tb, eb, rfl, h1⟩
  have H1 := Lib.hid (show Here w w1 p tb eb s1 from h1)
  clear h1
  go_wp2_with fail
  refine (push_any w1 H1.out.q f1).mono ?_
  rintro e w2 ⟨rfl, k2⟩
  have H2 := Lib.hid (show Here w w2 p tb eb s2 from H1.out.kept k2)
  clear k2 H1
  go_wp2_with fail
  refine (push_any w2 H2.out.q f2).mono ?_
  rintro e w3 ⟨rfl, k3⟩
  have H3 := Lib.hid (show Here w w3 p tb eb s3 from H2.out.kept k3)
  clear k3 H2
  go_wp2_with fail
  refine (push_any w3 H3.out.q f3).mono ?_
  rintro e w4 ⟨rfl, k4⟩
  have H4 := Lib.hid (show Here w w4 p tb eb s4 from H3.out.kept k4)
  clear k4 H3
  go_wp2_with fail
  refine (drop_any w4 H4.out.q f4).mono ?_
  rintro e w5 ⟨rfl, k5⟩
  have H5 := Lib.hid (show Here w w5 p tb eb s5 from H4.out.kept k5)
  clear k5 H4
  go_wp2_with fail
  refine (list_any (nl := 2) w5 H5.out.q f5 rfl).mono ?_
  rintro e w6 ⟨bo, bc, rfl, l6, i6, _, _, _, t6⟩
  have I6 := Lib.hid i6
  have T6 := Lib.hid (H5.out.t.trans t6)
  clear l6 i6 t6
  go_wp2_with fail
  refine (same_eq (L := [4, 7]) _ (I6.out.turn ((Turn.refl (fun _ => False) w6).alloc _) (fun _ _ => id)) (ints_of2 w6 4 7) rfl (by decide)).mono ?_
  rintro e w7 ⟨rfl, k, rfl⟩
  go_wp2_with fail
  go_ret
  exact ⟨rfl, (T6.out.alloc _).drewN _⟩

end Go.Proofs.Ytgkkmbkialcfiaa
