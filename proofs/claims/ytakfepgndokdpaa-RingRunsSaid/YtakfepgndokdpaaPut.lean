/- New, Of, Put of the ring. -/
import Derived.Test.YtakfepgndokdpaaRing
namespace Go.Proofs.Ytakfepgndokdpaa
open Go.RowKit
set_option linter.unusedVariables false

/-- What a call upon a ring leaves: the ring holds L', nothing that was has turned but its blocks. -/
def Kept (w w' : World) (base p room : Nat) (ao : Option Addr) (L' : List Int) : Prop :=
  ∃ ao' c', IsRing w' base p room ao' c' L' ∧ Turn (RB p ao) w w' ∧ ∀ i, RB p ao' i → RB p ao i ∨ w.heap.size ≤ i

theorem new_bad (r : Int) (w : World) (h : r < 0 ∨ 64 < r) :
    Calls Try.prog 7 #[.int .i64 r] w fun e w' => e = .returned (.tuple #[.pointer none, .int .i64 1]) ∧ w = w' := by
  rcases h with h | h
  · go_enter Try.func7, Try.ntmps7
    go_wp2
    go_ret2
    exact ⟨rfl, rfl⟩
  · have h0 : ¬ r < 0 := by omega
    go_enter Try.func7, Try.ntmps7
    go_wp2
    go_ret2
    exact ⟨rfl, rfl⟩
theorem new_good (n : Nat) (w : World) (h : n ≤ 64) :
    Calls Try.prog 7 #[.int .i64 n] w fun e w' => e = .returned (.tuple #[.pointer (some ⟨w.heap.size, 0, none⟩), .int .i64 0]) ∧ IsRing w' w.heap.size w.heap.size n none 0 [] ∧ Turn (fun _ => False) w w' := by
  go_enter Try.func7, Try.ntmps7
  go_wp2
  go_ret2
  exact ⟨rfl, ⟨heap_alloc_new _ _, ⟨rfl, .inl ⟨rfl, rfl⟩⟩, by simp, Nat.le_refl _, Nat.zero_le _, h⟩, (Turn.refl _ _).alloc _⟩

theorem ring_store {w : World} {base p room c' : Nat} {ao' : Option Addr} {L' : List Int} {v0 : Value} (hb : w.heap[p]? = some (.cells #[.int .i64 room, v0] 50 (0, 0)))
    (ho : w.ownsRow base 2 1 (.slice ao' L'.length c') L'.length (L'.map (Value.int .i64))) (hf : ∀ a, ao' = some a → a.block ≠ p) (hbp : base ≤ p) (hl : L'.length ≤ room) (hr : room ≤ 64) :
    IsRing (w.setCell ⟨p, 1, none⟩ (.slice ao' L'.length c')) base p room ao' c' L' := by
  refine ⟨?_, ?_, hf, hbp, hl, hr⟩
  · rw [heap_setCell_at hb]; rfl
  · refine own_turn ho ((Turn.refl (fun i => i = p) w).setCell (p := ⟨p, 1, none⟩) (Or.inl rfl) _) (fun k hk e => ?_)
    rw [own_block] at hk
    cases ao' with
    | none => cases hk
    | some a => cases hk; exact hf a rfl e

theorem put_no {base p room c : Nat} {ao : Option Addr} {L : List Int} (x : Int) (w : World) (h : IsRing w base p room ao c L) (hl : L.length = room) :
    Calls Try.prog 16 #[.pointer (some ⟨p, 0, none⟩), .int .i64 x] w fun e w' => e = .returned (.bool false) ∧ Kept w w' base p room ao L := by
  have H := Lib.hid h
  have HL := Lib.hid hl
  clear h hl
  go_enter Try.func16, Try.ntmps16
  go_wp2_with fail
  refine (full_yes w H.out HL.out).mono ?_
  rintro e w1 ⟨rfl, n, rfl⟩
  go_wp2
  go_ret
  exact ⟨rfl, ao, c, H.out.drewN _, (Turn.refl _ _).drewN _, fun _ => Or.inl⟩

set_option maxHeartbeats 1000000 in
theorem put_yes {base p room c : Nat} {ao : Option Addr} {L : List Int} (x : Int) (w : World) (h : IsRing w base p room ao c L) (hl : L.length < room) :
    Calls Try.prog 16 #[.pointer (some ⟨p, 0, none⟩), .int .i64 x] w fun e w' => e = .returned (.bool true) ∧ Kept w w' base p room ao (L ++ [x]) := by
  have H := Lib.hid h
  have hr := h.room
  have c1 := h.c1
  have HO := Lib.hid h.own
  have HB := Lib.hid h.box
  have HF := Lib.hid (fun k (hk : (Value.slice ao L.length c).ownBlock = some k) (e : k = p) => by
    rw [own_block] at hk
    cases ao with
    | none => cases hk
    | some a => cases hk; exact h.far a rfl e)
  have hbase : base ≤ w.heap.size := Nat.le_trans h.base (Nat.le_of_lt h.lt)
  clear h
  go_enter Try.func16, Try.ntmps16
  go_wp2_with fail
  refine (full_no w H.out hl).mono ?_
  rintro e w1 ⟨rfl, n, rfl⟩
  go_wp2_with (at_builtin; refine wpList_append_one (w0 := w.drewN n) Try.underlying22 info_int (by decide) rfl (.tmp 11) (.tmp 13) rfl base (.slice ao L.length c) L L.length x rfl HO.out rfl rfl (by omega) hbase ?_; intro g c2 w2 hg H2 T2 B2; have HB2 := Lib.hid (T2.out.heap (i := p) (fun e => HF.out p e rfl) HB.out); have d1 : w2.cell? ⟨p, 1, none⟩ = some (.slice ao L.length c) := (by simp [World.cell?, HB2.out]); have f1 : w2.frozen? ⟨p, 1, none⟩ = false := (by simp [World.frozen?, HB2.out]))
  go_ret
  have hgp : g ≠ p := by
    rcases B2.out with e | e
    · exact HF.out g e
    · have := H.out.lt
      simp at e
      omega
  have hlen : (L ++ [x]).length = L.length + 1 := by simp
  refine ⟨rfl, some ⟨g, 0, none⟩, c2, ?_, ?_, ?_⟩
  · have := ring_store (base := base) (p := p) (room := room) (L' := L ++ [x]) (ao' := some ⟨g, 0, none⟩) (c' := c2) HB2.out (by rw [hlen]; exact H2.out) (fun a e => by cases e; exact hgp) H.out.base (by rw [hlen]; omega) hr
    rwa [hlen] at this
  · refine (((Turn.refl _ _).drewN _).and T2.out (fun i hi e => ?_)).setCell (Or.inl (Or.inl rfl)) _
    rw [own_block] at e
    cases ao with
    | none => cases e
    | some a => cases e; exact Or.inr ⟨a, rfl, rfl⟩
  · rintro i (rfl | ⟨a, e, rfl⟩)
    · exact Or.inl (Or.inl rfl)
    · cases e
      rcases B2.out with e | e
      · rw [own_block] at e
        cases ao with
        | none => cases e
        | some a => cases e; exact Or.inl (Or.inr ⟨a, rfl, rfl⟩)
      · right; simp at e ⊢; omega

end Go.Proofs.Ytakfepgndokdpaa
