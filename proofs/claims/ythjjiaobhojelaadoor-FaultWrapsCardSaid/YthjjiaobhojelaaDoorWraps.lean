/- The walk of FaultWraps. -/
import Derived.Test.YthjjiaobhojelaaDoorTells
namespace Go.Proofs.YthjjiaobhojelaaDoor
open Go.RowKit

/-- A slice of pairs that came in. -/
def IsPairs (w : World) (a : Option Addr) (len : Nat) (Z : Nat → Int × Int) : Prop :=
  len = 0 ∨ ∃ x, a = some x ∧ ∀ i, i < len → w.cell? (x.add (i * 2)) = some (.int .i64 (Z i).1) ∧ w.cell? (x.add (i * 2 + 1)) = some (.int .i64 (Z i).2)

theorem add_next (x : Addr) (j : Nat) : x.add (j + 1) = ⟨(x.add j).block, (x.add j).off + 1, none⟩ := by
  unfold Addr.add
  by_cases h : j = 0
  · subst h; simp
  · simp [h, Nat.add_assoc]

set_option maxHeartbeats 8000000 in
set_option maxRecDepth 100000 in
theorem wraps_go (code g op : Int) (k : Nat) (a : Option Addr) (n c : Nat) (Z : Nat → Int × Int) (A : Nat → Addr) (w : World) (hG : Glob w A) (hc : IsCode code k) (hn : n ≤ 60) (hz : IsPairs w a n Z) :
    Calls Tryd.prog 5 #[.agg #[.int .i64 code, .int .i64 g, .int .i64 op], .slice a n c] w fun e w' => e = .returned (.bool true) ∧ Turn (fun _ => False) w w' := by
  have HG := Lib.hid hG
  have HC := Lib.hid hc
  have HZ := Lib.hid hz
  clear hG hc hz
  go_enter Tryd.func5, Tryd.ntmps5
  go_wp2_with fail
  go_quiet (fail)
  go_wp2_with fail
  have T0 := Lib.hid (((Turn.refl (fun _ => False) w).alloc (.cells #[.int .i64 code, .int .i64 g, .int .i64 op] 43)).drewN nq)
  refine (alive_any A _ (HG.out.kept T0.out)).mono ?_
  rintro e w1 ⟨rfl, t1⟩
  have T1 := Lib.hid (T0.out.trans t1)
  clear t1
  go_wp2_with fail
  refine (of_yes _ _ _ k A _ HC.out (HG.out.kept T1.out)).mono ?_
  rintro e w2 ⟨rfl, h2⟩
  have T2 := Lib.hid (T1.out.trans (show Turn (fun _ => False) w1 w2 from h2 ▸ (Turn.refl _ w1).alloc _))
  have P2 := Lib.hid (show w2.heap[w1.heap.size]? = _ from h2 ▸ heap_alloc_new w1 _)
  clear h2
  go_wp2_with fail
  go_loopw [39, 8, 9, 10] (fun i e x y wr => ∃ (m p : Nat) (gg oo : Int) (L : List (Nat × Int × Int)), i = .int .i64 m ∧ e = .iface 30 (.pointer (some ⟨p, 0, none⟩)) ∧ x = .int .i64 gg ∧ y = .int .i64 oo ∧ m ≤ n ∧ Hid (IsErr wr A k ((p, gg, oo) :: L) (.iface 30 (.pointer (some ⟨p, 0, none⟩))) ∧ Turn (fun _ => False) w wr)) (fun i _ _ _ _ => n - (Lib.intOf i).toNat)
  case atStart => exact ⟨0, w1.heap.size, g, op, [], rfl, rfl, rfl, rfl, Nat.zero_le _, Lib.hid ⟨⟨rfl, _, P2.out, rfl⟩, T2.out⟩⟩
  case round =>
    obtain ⟨m, p, gg, oo, L, rfl, rfl, rfl, rfl, hm, HR⟩ := hrel
    by_cases hlt : m < n
    · obtain ⟨x, hx, hcell⟩ : ∃ x, a = some x ∧ (wr.cell? (x.add (m * 2)) = some (.int .i64 (Z m).1) ∧ wr.cell? (x.add (m * 2 + 1)) = some (.int .i64 (Z m).2)) := by
        rcases HZ.out with h0 | ⟨x, hx, hc⟩
        · omega
        · exact ⟨x, hx, HR.out.2.cell id (hc m hlt).1, HR.out.2.cell id (hc m hlt).2⟩
      subst hx
      obtain ⟨d1, d2⟩ := hcell
      have d3 : wr.cell? ⟨(x.add (m * 2)).block, (x.add (m * 2)).off + 1, none⟩ = some (.int .i64 (Z m).2) := by rw [add_next] at d2; exact d2
      obtain ⟨z1, hz1⟩ : ∃ z, (Z m).1 = z := ⟨_, rfl⟩
      obtain ⟨z2, hz2⟩ : ∃ z, (Z m).2 = z := ⟨_, rfl⟩
      rw [hz1] at d1
      rw [hz2] at d2 d3
      clear hz1 hz2
      go_wp2_with fail
      go_quiet (fail)
      go_wp2_with fail
      go_roundw
      case rel =>
        have t : Turn (fun _ => False) wr ((wr.alloc (.cells #[.int .i64 z1, .int .i64 z2] 45)).alloc (.cells #[.int .i64 z1, .int .i64 z2, .iface 30 (.pointer (some ⟨p, 0, none⟩))] 34)) := ((Turn.refl _ wr).alloc _).alloc _
        have hh := heap_alloc_new (wr.alloc (.cells #[.int .i64 z1, .int .i64 z2] 45)) (.cells #[.int .i64 z1, .int .i64 z2, .iface 30 (.pointer (some ⟨p, 0, none⟩))] 34)
        rw [show (wr.alloc (.cells #[.int .i64 z1, .int .i64 z2] 45)).heap.size = wr.heap.size + 1 by simp] at hh
        exact ⟨m + 1, wr.heap.size + 1, z1, z2, (p, gg, oo) :: L, by go_num, rfl, rfl, rfl, by omega, Lib.hid ⟨⟨rfl, _, hh, HR.out.1.kept (t.drewN _)⟩, (HR.out.2.trans t).drewN _⟩⟩
      case measure =>
        simp [Lib.intOf]
        omega
    · have hW := Lib.hid HR.out.1.2
      obtain ⟨u, hp, _⟩ := hW.out
      have HP := Lib.hid hp
      clear hp hW
      go_wp2_with fail
      refine (where_any p gg oo u A _ HP.out (HG.out.kept HR.out.2)).mono ?_
      rintro e w3 ⟨rfl, t3⟩
      have T3 := Lib.hid t3
      clear t3
      go_wp2_with fail
      refine (code_any code _ k _ A _ HC.out (HR.out.1.kept T3.out) (HG.out.kept (HR.out.2.trans T3.out))).mono ?_
      rintro e w' ⟨rfl, rfl⟩
      go_wp2_with fail
      go_ret
      exact ⟨rfl, HR.out.2.trans T3.out⟩

set_option maxHeartbeats 4000000 in
set_option maxRecDepth 100000 in
theorem wraps_no (code g op : Int) (a : Option Addr) (n c : Nat) (A : Nat → Addr) (w : World) (hG : Glob w A) (hc : NoCode code) :
    Calls Tryd.prog 5 #[.agg #[.int .i64 code, .int .i64 g, .int .i64 op], .slice a n c] w fun e w' => e = .returned (.bool true) ∧ Turn (fun _ => False) w w' := by
  have HG := Lib.hid hG
  have HC := Lib.hid hc
  clear hG hc
  by_cases hn : n ≤ 60
  · go_enter Tryd.func5, Tryd.ntmps5
    go_wp2_with fail
    go_quiet (fail)
    go_wp2_with fail
    have T0 := Lib.hid (((Turn.refl (fun _ => False) w).alloc (.cells #[.int .i64 code, .int .i64 g, .int .i64 op] 43)).drewN nq)
    refine (alive_any A _ (HG.out.kept T0.out)).mono ?_
    rintro e w1 ⟨rfl, t1⟩
    have T1 := Lib.hid (T0.out.trans t1)
    clear t1
    go_wp2_with fail
    refine (of_no _ _ _ _ HC.out).mono ?_
    rintro e w' ⟨rfl, rfl⟩
    go_wp2_with fail
    go_ret
    exact ⟨rfl, T1.out⟩
  · have hn' : 60 < n := by omega
    clear hn
    go_enter Tryd.func5, Tryd.ntmps5
    go_wp2_with fail
    go_quiet (fail)
    go_wp2_with fail
    have T0 := Lib.hid (((Turn.refl (fun _ => False) w).alloc (.cells #[.int .i64 code, .int .i64 g, .int .i64 op] 43)).drewN nq)
    refine (alive_any A _ (HG.out.kept T0.out)).mono ?_
    rintro e w1 ⟨rfl, t1⟩
    have T1 := Lib.hid (T0.out.trans t1)
    clear t1
    go_wp2_with fail
    refine (of_no _ _ _ _ HC.out).mono ?_
    rintro e w' ⟨rfl, rfl⟩
    go_wp2_with fail
    go_ret
    exact ⟨rfl, T1.out⟩

set_option maxHeartbeats 4000000 in
set_option maxRecDepth 100000 in
theorem wraps_long (code g op : Int) (k : Nat) (a : Option Addr) (n c : Nat) (A : Nat → Addr) (w : World) (hG : Glob w A) (hc : IsCode code k) (hn : 60 < n) :
    Calls Tryd.prog 5 #[.agg #[.int .i64 code, .int .i64 g, .int .i64 op], .slice a n c] w fun e w' => e = .returned (.bool true) ∧ Turn (fun _ => False) w w' := by
  have HG := Lib.hid hG
  have HC := Lib.hid hc
  clear hG hc
  go_enter Tryd.func5, Tryd.ntmps5
  go_wp2_with fail
  go_quiet (fail)
  go_wp2_with fail
  have T0 := Lib.hid (((Turn.refl (fun _ => False) w).alloc (.cells #[.int .i64 code, .int .i64 g, .int .i64 op] 43)).drewN nq)
  refine (alive_any A _ (HG.out.kept T0.out)).mono ?_
  rintro e w1 ⟨rfl, t1⟩
  have T1 := Lib.hid (T0.out.trans t1)
  clear t1
  go_wp2_with fail
  refine (of_yes _ _ _ k A _ HC.out (HG.out.kept T1.out)).mono ?_
  rintro e w2 ⟨rfl, h2⟩
  have T2 := Lib.hid (T1.out.trans (show Turn (fun _ => False) w1 w2 from h2 ▸ (Turn.refl _ w1).alloc _))
  clear h2
  go_wp2_with fail
  go_ret
  exact ⟨rfl, T2.out⟩

theorem wraps_any (code g op : Int) (a : Option Addr) (n c : Nat) (Z : Nat → Int × Int) (A : Nat → Addr) (w : World) (hG : Glob w A) (hz : IsPairs w a n Z) :
    Calls Tryd.prog 5 #[.agg #[.int .i64 code, .int .i64 g, .int .i64 op], .slice a n c] w fun e w' => e = .returned (.bool true) ∧ Turn (fun _ => False) w w' := by
  rcases code_part code with ⟨k, hk⟩ | hno
  · by_cases hn : n ≤ 60
    · exact wraps_go code g op k a n c Z A w hG hk hn hz
    · exact wraps_long code g op k a n c A w hG hk (by omega)
  · exact wraps_no code g op a n c A w hG hno

end Go.Proofs.YthjjiaobhojelaaDoor
