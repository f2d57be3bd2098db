/- strings.Builder: copyCheck, WriteString. -/
import Derived.Test.YtfghabjpcjcllaaDoorMNum
import Derived.Laws.LoneSync
import Derived.LaidEqlPtr
namespace Go.Proofs.YtfghabjpcjcllaaDoor
open Go.RowKit Go.Extern.Stop Go.Stop Go.Extern

theorem b_size : (Tryd.prog.info? 45).map (·.size) = some 2 := by kernel_rfl
theorem b_lies : liesAt Tryd.prog Tryd.prog.depth 45 (2 / Tryd.prog.cellsOf 45) 0 45 1 = true := by kernel_rfl
theorem b_shape {w : World} {b : Nat} {u v : Value} (h : w.heap[b]? = some (.cells #[u, v] 45 (0, 0))) : w.shape? b = some (45, 2) := by
  simp [World.shape?, h]
theorem conv_out {w : World} {b : Nat} {u v : Value} (h : w.heap[b]? = some (.cells #[u, v] 45 (0, 0))) : (convert 42 84 (.pointer (some ⟨b, 0, none⟩))).run Tryd.prog w = .ok (.pointer (some ⟨b, 0, none⟩)) w := by
  obtain ⟨j, hj, hs⟩ := Option.map_eq_some_iff.1 b_size
  exact Lib.run_to_unsafe w ⟨b, 0, none⟩ Tryd.underlying42 Tryd.underlying84 hj (by rw [hs]; decide) (b_shape h) (Nat.zero_lt_two)
theorem conv_in {w : World} {b : Nat} {u v : Value} (h : w.heap[b]? = some (.cells #[u, v] 45 (0, 0))) : (convert 84 42 (.pointer (some ⟨b, 0, none⟩))).run Tryd.prog w = .ok (.pointer (some ⟨b, 0, none⟩)) w := by
  obtain ⟨j, hj, hs⟩ := Option.map_eq_some_iff.1 b_size
  exact Lib.run_from_unsafe w ⟨b, 0, none⟩ Tryd.underlying84 Tryd.underlying42 hj (b_shape h) b_lies
theorem b_neq (w : World) (a : Addr) : (binOp BinOp.neq 42 (.pointer (some a)) (.pointer (some a))).run Tryd.prog w = .ok (.bool false) w := by
  obtain ⟨j, hj, hs⟩ := Option.map_eq_some_iff.1 b_size
  exact Lib.run_neq_ptr_same w a Tryd.underlying42 hj
theorem no_escape (p : Addr) (w : World) : (callFunc 55 #[.pointer (some p)]).run Tryd.prog w = .ok (Next.value (.pointer (some p))) w := by kernel_rfl

set_option maxHeartbeats 1000000 in
set_option maxRecDepth 100000 in
theorem check_new (b : Nat) (v : Value) (w : World) (h : w.heap[b]? = some (.cells #[.pointer none, v] 45 (0, 0))) :
    Calls Tryd.prog 37 #[.pointer (some ⟨b, 0, none⟩)] w fun e w' => e = .returned (.tuple #[]) ∧ w' = w.setCell ⟨b, 0, none⟩ (.pointer (some ⟨b, 0, none⟩)) := by
  have c0 : w.cell? ⟨b, 0, none⟩ = some (.pointer none) := cell_of_row w b 0 _ _ _ h
  have f0 : w.frozen? ⟨b, 0, none⟩ = false := by simp [World.frozen?, h]
  have f1 : (w.setCell ⟨b, 0, none⟩ (.pointer (some ⟨b, 0, none⟩))).cell? ⟨b, 0, none⟩ = some (.pointer (some ⟨b, 0, none⟩)) := cell_of_row _ b 0 _ _ _ (heap_setCell_at h _)
  have cv1 := conv_out h
  have cv2 := conv_in h
  have nq := b_neq (w.setCell ⟨b, 0, none⟩ (.pointer (some ⟨b, 0, none⟩))) ⟨b, 0, none⟩
  have ne := no_escape ⟨b, 0, none⟩
  clear h
  go_enter Tryd.func37, Tryd.ntmps37
  go_wp2
  go_end0
  exact ⟨rfl, rfl⟩
set_option maxRecDepth 100000 in
theorem check_old (b : Nat) (v : Value) (w : World) (h : w.heap[b]? = some (.cells #[.pointer (some ⟨b, 0, none⟩), v] 45 (0, 0))) :
    Calls Tryd.prog 37 #[.pointer (some ⟨b, 0, none⟩)] w fun e w' => e = .returned (.tuple #[]) ∧ w = w' := by
  have c0 : w.cell? ⟨b, 0, none⟩ = some (.pointer (some ⟨b, 0, none⟩)) := cell_of_row w b 0 _ _ _ h
  have nq := b_neq w ⟨b, 0, none⟩
  clear h
  go_enter Tryd.func37, Tryd.ntmps37
  go_wp2
  go_end0
  exact ⟨rfl, rfl⟩

theorem byte_info : (Tryd.prog.info? 5).map (fun i => (i.zero, i.size, i.bytes)) = some (some (.int .u8 0), 1, 1) := by kernel_rfl

set_option maxHeartbeats 2000000 in
set_option maxRecDepth 100000 in
theorem write_on (B b : Nat) (p v : Value) (bs : List Value) (s : ByteArray) (w : World) (hp : p = .pointer none ∨ p = .pointer (some ⟨b, 0, none⟩)) (hb : w.heap[b]? = some (.cells #[p, v] 45 (0, 0))) (hown : w.ownsRow B 5 1 v bs.length bs) (hne : v.ownBlock ≠ some b) (hBb : B ≤ b)
    (hlen : bs.length + s.size ≤ 140737488355328) (hBw : B ≤ w.heap.size) :
    Calls Tryd.prog 19 #[.pointer (some ⟨b, 0, none⟩), .string s] w fun e w' => e = .returned (.tuple #[.int .i64 s.size, .nilIface]) ∧ Lib.IsBuilder 45 5 B b (bs ++ Lib.strCells s) w' ∧ Turn (fun i => B ≤ i) w w' := by
  obtain ⟨i0, hi0, hz0, hz1, hz2⟩ := info_parts byte_info
  obtain ⟨w1, t1, hb1, C⟩ : ∃ w1, Turn (fun i => i = b) w w1 ∧ w1.heap[b]? = some (.cells #[.pointer (some ⟨b, 0, none⟩), v] 45 (0, 0)) ∧ Calls Tryd.prog 37 #[.pointer (some ⟨b, 0, none⟩)] w fun e w' => e = .returned (.tuple #[]) ∧ w' = w1 := by
    rcases hp with rfl | rfl
    · exact ⟨_, Turn.setCell (Turn.refl (fun i => i = b) w) (.inl rfl) _, heap_setCell_at hb _, check_new b v w hb⟩
    · exact ⟨w, Turn.refl _ w, hb, (check_old b v w hb).mono fun _ _ ⟨h1, h2⟩ => ⟨h1, h2.symm⟩⟩
  have hown1 : w1.ownsRow B 5 1 v bs.length bs := own_turn hown t1 (fun k hk e => hne (e ▸ hk))
  have c1 : w1.cell? ⟨b, 1, none⟩ = some v := cell_of_row w1 b 1 _ _ _ hb1
  have hB1 : B ≤ w1.heap.size := Nat.le_trans hBw t1.size
  have hmax : bs.length + s.size ≤ maxLen := by unfold maxLen; omega
  have hblt : b < w1.heap.size := (Array.getElem?_eq_some_iff.1 hb1).1
  have HI := Lib.hid hi0
  have HZ := Lib.hid (And.intro hz0 (And.intro hz1 hz2))
  have HO := Lib.hid hown1
  have HN := Lib.hid hne
  have HL := Lib.hid hlen
  have HM := Lib.hid hmax
  have HB := Lib.hid hb1
  have T1 := Lib.hid t1
  have HC := Lib.hid C
  clear hi0 hz0 hz1 hz2 hown hown1 hne hlen hmax hb hb1 t1 C hp hBw
  go_enter Tryd.func19, Tryd.ntmps19
  go_wp2_with fail
  refine HC.out.mono ?_
  rintro e w1' ⟨rfl, rfl⟩
  go_wp2_with (
    at_builtin
    refine Lib.wpList_append_own_string _ rfl (.tmp 12) (.tmp 13) 43 9 rfl B 5 i0 Tryd.underlying43 Tryd.underlying9 HI.out HZ.out.1 HZ.out.2.1 HZ.out.2.2 v bs.length bs rfl HO.out s rfl HM.out HL.out hB1 ?_
    intro v' w2 hown2 hg2 _
    obtain ⟨ao2, cc2, hv2, _, _, _⟩ := own_slice hown2
    subst hv2
    have hb2 : w2.heap[b]? = some (.cells #[.pointer (some ⟨b, 0, none⟩), v] 45 (0, 0)) := (hg2.block b hblt (fun e => HN.out e.symm)).trans HB.out
    have c2 : w2.cell? ⟨b, 1, none⟩ = some v := cell_of_row w2 b 1 _ _ _ hb2
    have f2 : w2.frozen? ⟨b, 1, none⟩ = false := by simp [World.frozen?, hb2]
    have HO2 := Lib.hid hown2
    have HG2 := Lib.hid hg2
    have HB2 := Lib.hid hb2
    clear hown2 hg2 hb2)
  go_ret2
  have hne2 : (Value.slice ao2 (bs.length + s.size) cc2).ownBlock ≠ some b := fun e => by
    obtain ⟨cur, hcur⟩ := own_type HO2.out b e
    rw [HB2.out] at hcur
    injection hcur with hcur
    injection hcur with _ ht
    exact absurd ht (by decide)
  have t2 : Turn (fun i => B ≤ i) w1' w2 := (Turn.refl _ w1').grown HG2.out (fun k hk => .inl (by
    rcases HO.out.2 with ⟨e, _⟩ | ⟨g, cap, cur, e, h2, _⟩
    · rw [e] at hk; simp [Value.ownBlock] at hk
    · rw [e] at hk; simp [Value.ownBlock] at hk; omega))
  have t3 : Turn (fun i => i = b) w2 (w2.setCell ⟨b, 1, none⟩ (Value.slice ao2 (bs.length + s.size) cc2)) := Turn.setCell (Turn.refl (fun i => i = b) w2) (.inl rfl) _
  refine ⟨rfl, .inr ⟨hBb, (Value.slice ao2 (bs.length + s.size) cc2), heap_setCell_at HB2.out (Value.slice ao2 (bs.length + s.size) cc2), ?_, hne2⟩, ((T1.out.mono (fun i _ e => e ▸ hBb)).trans t2).trans (t3.mono fun i _ e => e ▸ hBb)⟩
  have hl : (bs ++ Lib.strCells s).length = bs.length + s.size := by
    rw [List.length_append]
    simp [Lib.strCells]
  rw [hl]
  exact own_turn HO2.out t3 (fun k hk e => hne2 (e ▸ hk))

end Go.Proofs.YtfghabjpcjcllaaDoor
