/- The ring in memory; New, Room, Len, Full, copied, All, Of. -/
import Derived.Test.YtakfepgndokdpaaSmall
namespace Go.Proofs.Ytakfepgndokdpaa
open Go.RowKit
set_option linter.unusedVariables false

theorem info_int : (Try.prog.info? 2).map (fun i => (i.zero, i.size, i.bytes)) = some (some (.int .i64 0), 1, 8) := by kernel_rfl
theorem size_int : (Try.prog.info? 2).map (·.size) = some 1 := by kernel_rfl

/-- A ring at block p: its places and its row of values, all of the call's own memory, from base on. -/
structure IsRing (w : World) (base p room : Nat) (ao : Option Addr) (c : Nat) (L : List Int) : Prop where
  box : w.heap[p]? = some (.cells #[.int .i64 room, .slice ao L.length c] 50 (0, 0))
  own : w.ownsRow base 2 1 (.slice ao L.length c) L.length (L.map (Value.int .i64))
  far : ∀ a, ao = some a → a.block ≠ p
  base : base ≤ p
  le : L.length ≤ room
  room : room ≤ 64
/-- The blocks of such a ring. -/
def RB (p : Nat) (ao : Option Addr) (i : Nat) : Prop := i = p ∨ ∃ a, ao = some a ∧ a.block = i

section
variable {w w' : World} {base p room c : Nat} {ao : Option Addr} {L : List Int} {S : Nat → Prop}
theorem IsRing.c0 (h : IsRing w base p room ao c L) : w.cell? ⟨p, 0, none⟩ = some (.int .i64 room) := by simp [World.cell?, h.box]
theorem IsRing.c1 (h : IsRing w base p room ao c L) : w.cell? ⟨p, 1, none⟩ = some (.slice ao L.length c) := by simp [World.cell?, h.box]
theorem IsRing.f1 (h : IsRing w base p room ao c L) : w.frozen? ⟨p, 1, none⟩ = false := by simp [World.frozen?, h.box]
theorem IsRing.lt (h : IsRing w base p room ao c L) : p < w.heap.size := (Array.getElem?_eq_some_iff.1 h.box).1
theorem IsRing.blocks (h : IsRing w base p room ao c L) {i : Nat} (hi : RB p ao i) : base ≤ i ∧ i < w.heap.size := by
  rcases hi with rfl | ⟨a, rfl, rfl⟩
  · exact ⟨h.base, h.lt⟩
  · exact h.own.lt a.block (by rw [own_block]; rfl)
theorem IsRing.turn (h : IsRing w base p room ao c L) (t : Turn S w w') (hs : ∀ i, RB p ao i → ¬ S i) : IsRing w' base p room ao c L := by
  refine ⟨t.heap (hs p (.inl rfl)) h.box, own_turn h.own t (fun k hk => ?_), h.far, h.base, h.le, h.room⟩
  rw [own_block] at hk
  cases ao with
  | none => cases hk
  | some a =>
    cases hk
    exact hs _ (.inr ⟨a, rfl, rfl⟩)
theorem IsRing.new (h : IsRing w base p room ao c L) (t : Turn (fun _ => False) w w') : IsRing w' base p room ao c L := h.turn t (fun _ _ => id)
theorem IsRing.drewN (h : IsRing w base p room ao c L) (n : Nat) : IsRing (w.drewN n) base p room ao c L := h.new ((Turn.refl _ _).drewN _)
theorem IsRing.ints (h : IsRing w base p room ao c L) : Ints .i64 w ao L := (own_reads h.own).2.1
theorem IsRing.nil (h : IsRing w base p room ao c L) : ao = none → c = 0 := (own_reads h.own).2.2.2
/-- The row's blocks but for the ring's own. -/
theorem IsRing.less {base' : Nat} (h : IsRing w base p room ao c L) (hb : base' ≤ base) : IsRing w base' p room ao c L :=
  ⟨h.box, own_less h.own hb, h.far, Nat.le_trans hb h.base, h.le, h.room⟩
end

theorem room_any {base p room c : Nat} {ao : Option Addr} {L : List Int} (w : World) (h : IsRing w base p room ao c L) :
    Calls Try.prog 10 #[.pointer (some ⟨p, 0, none⟩)] w fun e w' => e = .returned (.int .i64 room) ∧ w = w' := by
  have c0 := h.c0
  clear h
  go_enter Try.func10, Try.ntmps10
  go_wp2
  go_ret
  exact ⟨rfl, rfl⟩
theorem len_any {base p room c : Nat} {ao : Option Addr} {L : List Int} (w : World) (h : IsRing w base p room ao c L) :
    Calls Try.prog 11 #[.pointer (some ⟨p, 0, none⟩)] w fun e w' => e = .returned (.int .i64 L.length) ∧ w = w' := by
  have c1 := h.c1
  clear h
  go_enter Try.func11, Try.ntmps11
  go_wp2
  go_ret
  exact ⟨rfl, rfl⟩
theorem full_any {base p room c : Nat} {ao : Option Addr} {L : List Int} (w : World) (h : IsRing w base p room ao c L) :
    Calls Try.prog 12 #[.pointer (some ⟨p, 0, none⟩)] w fun e w' => e = .returned (.bool (decide (L.length = room))) ∧ ∃ n, w' = w.drewN n := by
  have c0 := h.c0
  have H := Lib.hid h
  clear h
  have he : ((L.length : Int) == (room : Int)) = decide (L.length = room) := by rw [Bool.eq_iff_iff]; simp; omega
  have HE := Lib.hid he
  clear he
  go_enter Try.func12, Try.ntmps12
  go_wp2
  go_quiet ((go_at_call 11; exact Calls.quiet_of_same ((len_any _ (H.out.drewN _)).mono fun _ _ ⟨a, b⟩ => ⟨a, b.symm⟩)))
  go_wp2
  go_ret
  exact ⟨ret_bool HE.out, _, rfl⟩
theorem full_yes {base p room c : Nat} {ao : Option Addr} {L : List Int} (w : World) (h : IsRing w base p room ao c L) (hl : L.length = room) :
    Calls Try.prog 12 #[.pointer (some ⟨p, 0, none⟩)] w fun e w' => e = .returned (.bool true) ∧ ∃ n, w' = w.drewN n := by
  have := full_any w h
  rwa [decide_eq_true hl] at this
theorem full_no {base p room c : Nat} {ao : Option Addr} {L : List Int} (w : World) (h : IsRing w base p room ao c L) (hl : L.length < room) :
    Calls Try.prog 12 #[.pointer (some ⟨p, 0, none⟩)] w fun e w' => e = .returned (.bool false) ∧ ∃ n, w' = w.drewN n := by
  have := full_any w h
  rwa [decide_eq_false (by omega)] at this

/-- A list of which the first k are written. -/
def cpart (L : List Int) (k : Nat) : List Int := L.take k ++ List.replicate (L.length - k) 0
theorem cpart_zero (L : List Int) : cpart L 0 = List.replicate L.length 0 := by simp [cpart]
theorem cpart_length (L : List Int) (k : Nat) (h : k ≤ L.length) : (cpart L k).length = L.length := by simp [cpart]; omega
theorem cpart_all (L : List Int) : cpart L L.length = L := by simp [cpart]
theorem cpart_next (L : List Int) (k : Nat) (h : k < L.length) : (cpart L k).set k (L.getD k 0) = cpart L (k + 1) := by
  unfold cpart
  obtain ⟨m, hm⟩ : ∃ m, L.length - k = m + 1 := ⟨L.length - k - 1, by omega⟩
  rw [show L.length - (k + 1) = m by omega, hm]
  rw [List.take_succ_eq_append_getElem h, List.append_assoc]
  rw [List.set_append_right _ _ (by simp; omega)]
  simp [h, List.replicate_succ, Nat.min_eq_left (Nat.le_of_lt h)]

set_option maxHeartbeats 1000000 in
theorem copied_any {ao : Option Addr} {cap : Nat} {L : List Int} (w : World) (hr : Ints .i64 w ao L) (hl : L.length ≤ 1000) :
    Calls Try.prog 21 #[.slice ao L.length cap] w fun e w' => ∃ v, e = .returned v ∧ Fresh .i64 2 w w' v L := by
  have HR := Lib.hid hr
  clear hr
  go_enter Try.func21, Try.ntmps21
  go_wp2_with (with_reducible refine wpList_make_ints (k := .i64) Try.underlying22 info_int (by decide) rfl (.tmp 6) (.tmp 6) rfl L.length rfl rfl (by omega) ?_; intro w1 R1 T1 hs1)
  go_loopw [10] (fun i wr => ∃ k : Nat, k ≤ L.length ∧ i = .int .i64 k ∧ Row .i64 2 wr w.heap.size (cpart L k) ∧ Turn (fun _ => False) w wr) (fun i _ => L.length - (intOf i).toNat)
  case atStart => exact ⟨0, Nat.zero_le _, rfl, by rw [cpart_zero]; exact R1.out, T1.out⟩
  case round =>
    obtain ⟨k, hk, rfl, hrow, ht⟩ := hrel
    clear R1 T1
    have HRow := Lib.hid hrow
    have HT := Lib.hid ht
    clear hrow ht
    have hpl := cpart_length L k hk
    by_cases hlt : k < L.length
    · obtain ⟨ad, hao, hc⟩ := HR.out.turn HT.out (fun _ _ => id) k hlt
      subst hao
      have HS := Lib.hid (cpart_next L k hlt)
      obtain ⟨x, hx⟩ : ∃ x, x = L.getD k 0 := ⟨_, rfl⟩
      rw [← hx] at HS
      rw [← hx] at hc
      obtain ⟨P, hP⟩ : ∃ P, P = cpart L k := ⟨_, rfl⟩
      rw [← hP] at HRow HS hpl
      have c1 := HRow.out.cell (i := k) (by omega)
      have f1 := HRow.out.frozen k
      obtain ⟨y, hy⟩ : ∃ y, y = P.getD k 0 := ⟨_, rfl⟩
      rw [← hy] at c1
      clear hx hy hP hpl
      go_wp2
      go_roundw
      case rel => exact ⟨k + 1, by omega, by go_num, by rw [← HS.out]; exact HRow.out.set k x, HT.out.setCell (Or.inr (Nat.le_refl _)) _⟩
      case measure => simp [intOf]; omega
    · obtain rfl : k = L.length := by omega
      go_wp2
      go_ret
      rw [cpart_all] at HRow
      exact ⟨_, rfl, HRow.out.own (base := w.heap.size) (Nat.le_refl _) (by unfold maxLen; omega), HT.out⟩

theorem all_any {base p room c : Nat} {ao : Option Addr} {L : List Int} (w : World) (h : IsRing w base p room ao c L) :
    Calls Try.prog 14 #[.pointer (some ⟨p, 0, none⟩)] w (Reads .i64 L.length L w) := by
  have c1 := h.c1
  have hl : L.length ≤ 64 := Nat.le_trans h.le h.room
  have HI := Lib.hid h.ints
  clear h
  go_enter Try.func14, Try.ntmps14
  go_wp2_with fail
  refine (copied_any w HI.out (by omega)).mono ?_
  rintro e w1 ⟨v, rfl, f⟩
  have F := Lib.hid f
  clear f
  go_wp2
  go_ret
  exact reads_of rfl ⟨_, rfl, F.out⟩

end Go.Proofs.Ytakfepgndokdpaa
