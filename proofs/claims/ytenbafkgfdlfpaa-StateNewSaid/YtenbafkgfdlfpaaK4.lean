/- Taken from s4: Small Ring Put Get. Made by pullk.py. -/
import Derived.Test.YtenbafkgfdlfpaaGStep
import Derived.BigQuiet
import Derived.Deep.QuietTactic
import Derived.Outline
import Derived.RegionTactic
import Derived.ChangeAlike
import Derived.Deep.CutBlock
import Derived.Deep.DeepCutAuto
import Derived.Deep.Slices
import Derived.IntWalk
namespace Go.Proofs.Ytenbafkgfdlfpaa.C4
open Go.RowKit
set_option linter.unusedVariables false

theorem info_int : (Try.prog.info? 2).map (fun i => (i.zero, i.size, i.bytes)) = some (some (.int .i64 0), 1, 8) := by kernel_rfl
/-- A ring at block p: its places and its row of values, all of the call's own memory, from base on. -/
structure IsRing (w : World) (base p room : Nat) (ao : Option Addr) (c : Nat) (L : List Int) : Prop where
  box : w.heap[p]? = some (.cells #[.int .i64 room, .slice ao L.length c] 142 (0, 0))
  own : w.ownsRow base 2 1 (.slice ao L.length c) L.length (L.map (Value.int .i64))
  far : ∀ a, ao = some a → a.block ≠ p
  base : base ≤ p
  le : L.length ≤ room
  room : room ≤ 64
/-- The blocks of such a ring. -/
def RB (p : Nat) (ao : Option Addr) (i : Nat) : Prop := i = p ∨ ∃ a, ao = some a ∧ a.block = i

section
variable {w w' : World} {base p room c : Nat} {ao : Option Addr} {L : List Int} {S : Nat → Prop}
theorem IsRing.c0 (h : IsRing w base p room ao c L) : w.cell? ⟨p, 0, none⟩ = some (.int .i64 room) := by simp [World.cell?, h.box]

end
section
variable {w w' : World} {base p room c : Nat} {ao : Option Addr} {L : List Int} {S : Nat → Prop}
theorem IsRing.c1 (h : IsRing w base p room ao c L) : w.cell? ⟨p, 1, none⟩ = some (.slice ao L.length c) := by simp [World.cell?, h.box]

end
section
variable {w w' : World} {base p room c : Nat} {ao : Option Addr} {L : List Int} {S : Nat → Prop}
theorem IsRing.f1 (h : IsRing w base p room ao c L) : w.frozen? ⟨p, 1, none⟩ = false := by simp [World.frozen?, h.box]

end
section
variable {w w' : World} {base p room c : Nat} {ao : Option Addr} {L : List Int} {S : Nat → Prop}
theorem IsRing.lt (h : IsRing w base p room ao c L) : p < w.heap.size := (Array.getElem?_eq_some_iff.1 h.box).1

end
section
variable {w w' : World} {base p room c : Nat} {ao : Option Addr} {L : List Int} {S : Nat → Prop}
theorem IsRing.blocks (h : IsRing w base p room ao c L) {i : Nat} (hi : RB p ao i) : base ≤ i ∧ i < w.heap.size := by
  rcases hi with rfl | ⟨a, rfl, rfl⟩
  · exact ⟨h.base, h.lt⟩
  · exact h.own.lt a.block (by rw [own_block]; rfl)

end
section
variable {w w' : World} {base p room c : Nat} {ao : Option Addr} {L : List Int} {S : Nat → Prop}
theorem IsRing.turn (h : IsRing w base p room ao c L) (t : Turn S w w') (hs : ∀ i, RB p ao i → ¬ S i) : IsRing w' base p room ao c L := by
  refine ⟨t.heap (hs p (.inl rfl)) h.box, own_turn h.own t (fun k hk => ?_), h.far, h.base, h.le, h.room⟩
  rw [own_block] at hk
  cases ao with
  | none => cases hk
  | some a =>
    cases hk
    exact hs _ (.inr ⟨a, rfl, rfl⟩)

end
section
variable {w w' : World} {base p room c : Nat} {ao : Option Addr} {L : List Int} {S : Nat → Prop}
theorem IsRing.new (h : IsRing w base p room ao c L) (t : Turn (fun _ => False) w w') : IsRing w' base p room ao c L := h.turn t (fun _ _ => id)

end
section
variable {w w' : World} {base p room c : Nat} {ao : Option Addr} {L : List Int} {S : Nat → Prop}
theorem IsRing.ints (h : IsRing w base p room ao c L) : Ints .i64 w ao L := (own_reads h.own).2.1

end
section
variable {w w' : World} {base p room c : Nat} {ao : Option Addr} {L : List Int} {S : Nat → Prop}
/-- The row's blocks but for the ring's own. -/
theorem IsRing.less {base' : Nat} (h : IsRing w base p room ao c L) (hb : base' ≤ base) : IsRing w base' p room ao c L :=
  ⟨h.box, own_less h.own hb, h.far, Nat.le_trans hb h.base, h.le, h.room⟩

end
theorem room_any {base p room c : Nat} {ao : Option Addr} {L : List Int} (w : World) (h : IsRing w base p room ao c L) :
    Calls Try.prog 49 #[.pointer (some ⟨p, 0, none⟩)] w fun e w' => e = .returned (.int .i64 room) ∧ w = w' := by
  have c0 := h.c0
  clear h
  go_enter Try.func49, Try.ntmps49
  go_wp2
  go_ret
  exact ⟨rfl, rfl⟩
/-- A list of which the first k are written. -/
def cpart (L : List Int) (k : Nat) : List Int := L.take k ++ List.replicate (L.length - k) 0
theorem cpart_zero (L : List Int) : cpart L 0 = List.replicate L.length 0 := by simp [cpart]
theorem cpart_length (L : List Int) (k : Nat) (h : k ≤ L.length) : (cpart L k).length = L.length := by simp [cpart]; omega
theorem cpart_all (L : List Int) : cpart L L.length = L := by simp [cpart]
theorem cpart_next (L : List Int) (k : Nat) (h : k < L.length) : (cpart L k).set k (L.getD k 0) = cpart L (k + 1) := by
  unfold cpart
  obtain ⟨m, hm⟩ : ∃ m, L.length - k = m + 1 := ⟨L.length - k - 1, by omega⟩
  rw [show L.length - (k + 1) = m by omega, hm]
  rw [List.take_succ_eq_append_getElem h, List.append_assoc]
  rw [List.set_append_right _ _ (by simp; omega)]
  simp [h, List.replicate_succ, Nat.min_eq_left (Nat.le_of_lt h)]

set_option maxHeartbeats 1000000 in
theorem copied_any {ao : Option Addr} {cap : Nat} {L : List Int} (w : World) (hr : Ints .i64 w ao L) (hl : L.length ≤ 1000) :
    Calls Try.prog 77 #[.slice ao L.length cap] w fun e w' => ∃ v, e = .returned v ∧ Fresh .i64 2 w w' v L := by
  have HR := Lib.hid hr
  clear hr
  go_enter Try.func77, Try.ntmps77
  go_wp2_with (with_reducible refine wpList_make_ints (k := .i64) Try.underlying61 info_int (by decide) rfl (.tmp 6) (.tmp 6) rfl L.length rfl rfl (by omega) ?_; intro w1 R1 T1 hs1)
  go_loopw [10] (fun i wr => ∃ k : Nat, k ≤ L.length ∧ i = .int .i64 k ∧ Row .i64 2 wr w.heap.size (cpart L k) ∧ Turn (fun _ => False) w wr) (fun i _ => L.length - (intOf i).toNat)
  case atStart => exact ⟨0, Nat.zero_le _, rfl, by rw [cpart_zero]; exact R1.out, T1.out⟩
  case round =>
    obtain ⟨k, hk, rfl, hrow, ht⟩ := hrel
    clear R1 T1
    have HRow := Lib.hid hrow
    have HT := Lib.hid ht
    clear hrow ht
    have hpl := cpart_length L k hk
    by_cases hlt : k < L.length
    · obtain ⟨ad, hao, hc⟩ := HR.out.turn HT.out (fun _ _ => id) k hlt
      subst hao
      have HS := Lib.hid (cpart_next L k hlt)
      obtain ⟨x, hx⟩ : ∃ x, x = L.getD k 0 := ⟨_, rfl⟩
      rw [← hx] at HS
      rw [← hx] at hc
      obtain ⟨P, hP⟩ : ∃ P, P = cpart L k := ⟨_, rfl⟩
      rw [← hP] at HRow HS hpl
      have c1 := HRow.out.cell (i := k) (by omega)
      have f1 := HRow.out.frozen k
      obtain ⟨y, hy⟩ : ∃ y, y = P.getD k 0 := ⟨_, rfl⟩
      rw [← hy] at c1
      clear hx hy hP hpl
      go_wp2
      go_roundw
      case rel => exact ⟨k + 1, by omega, by go_num, by rw [← HS.out]; exact HRow.out.set k x, HT.out.setCell (Or.inr (Nat.le_refl _)) _⟩
      case measure => simp [intOf]; omega
    · obtain rfl : k = L.length := by omega
      go_wp2
      go_ret
      rw [cpart_all] at HRow
      exact ⟨_, rfl, HRow.out.own (base := w.heap.size) (Nat.le_refl _) (by unfold maxLen; omega), HT.out⟩

theorem all_any {base p room c : Nat} {ao : Option Addr} {L : List Int} (w : World) (h : IsRing w base p room ao c L) :
    Calls Try.prog 50 #[.pointer (some ⟨p, 0, none⟩)] w (Reads .i64 L.length L w) := by
  have c1 := h.c1
  have hl : L.length ≤ 64 := Nat.le_trans h.le h.room
  have HI := Lib.hid h.ints
  clear h
  go_enter Try.func50, Try.ntmps50
  go_wp2_with fail
  refine (copied_any w HI.out (by omega)).mono ?_
  rintro e w1 ⟨v, rfl, f⟩
  have F := Lib.hid f
  clear f
  go_wp2
  go_ret
  exact reads_of rfl ⟨_, rfl, F.out⟩

theorem new_bad (r : Int) (w : World) (h : r < 0 ∨ 64 < r) :
    Calls Try.prog 83 #[.int .i64 r] w fun e w' => e = .returned (.tuple #[.pointer none, .int .i64 1]) ∧ w = w' := by
  rcases h with h | h
  · go_enter Try.func83, Try.ntmps83
    go_wp2
    go_ret2
    exact ⟨rfl, rfl⟩
  · have h0 : ¬ r < 0 := by omega
    go_enter Try.func83, Try.ntmps83
    go_wp2
    go_ret2
    exact ⟨rfl, rfl⟩
theorem new_good (n : Nat) (w : World) (h : n ≤ 64) :
    Calls Try.prog 83 #[.int .i64 n] w fun e w' => e = .returned (.tuple #[.pointer (some ⟨w.heap.size, 0, none⟩), .int .i64 0]) ∧ IsRing w' w.heap.size w.heap.size n none 0 [] ∧ Turn (fun _ => False) w w' := by
  go_enter Try.func83, Try.ntmps83
  go_wp2
  go_ret2
  exact ⟨rfl, ⟨heap_alloc_new _ _, ⟨rfl, .inl ⟨rfl, rfl⟩⟩, by simp, Nat.le_refl _, Nat.zero_le _, h⟩, (Turn.refl _ _).alloc _⟩

theorem ring_store {w : World} {base p room c' : Nat} {ao' : Option Addr} {L' : List Int} {v0 : Value} (hb : w.heap[p]? = some (.cells #[.int .i64 room, v0] 142 (0, 0)))
    (ho : w.ownsRow base 2 1 (.slice ao' L'.length c') L'.length (L'.map (Value.int .i64))) (hf : ∀ a, ao' = some a → a.block ≠ p) (hbp : base ≤ p) (hl : L'.length ≤ room) (hr : room ≤ 64) :
    IsRing (w.setCell ⟨p, 1, none⟩ (.slice ao' L'.length c')) base p room ao' c' L' := by
  refine ⟨?_, ?_, hf, hbp, hl, hr⟩
  · rw [heap_setCell_at hb]; rfl
  · refine own_turn ho ((Turn.refl (fun i => i = p) w).setCell (p := ⟨p, 1, none⟩) (Or.inl rfl) _) (fun k hk e => ?_)
    rw [own_block] at hk
    cases ao' with
    | none => cases hk
    | some a => cases hk; exact hf a rfl e

/-- Of. -/
theorem of_bad {ao : Option Addr} {cap n : Nat} (r : Int) (w : World) (h : r < 0 ∨ 64 < r) :
    Calls Try.prog 69 #[.int .i64 r, .slice ao n cap] w fun e w' => e = .returned (.tuple #[.pointer none, .int .i64 1]) ∧ w = w' := by
  go_enter Try.func69, Try.ntmps69
  go_wp2_with fail
  refine (new_bad r w h).mono ?_
  rintro e w1 ⟨rfl, rfl⟩
  go_wp2
  go_ret2
  exact ⟨rfl, rfl⟩
theorem of_many {ao : Option Addr} {cap n room : Nat} (w : World) (h : room ≤ 64) (hn : room < n) :
    Calls Try.prog 69 #[.int .i64 room, .slice ao n cap] w fun e w' => e = .returned (.tuple #[.pointer none, .int .i64 1]) ∧ Turn (fun _ => False) w w' := by
  go_enter Try.func69, Try.ntmps69
  go_wp2_with fail
  refine (new_good room w h).mono ?_
  rintro e w1 ⟨rfl, h1, t1⟩
  have T1 := Lib.hid t1
  clear h1 t1
  go_wp2
  go_ret2
  exact ⟨rfl, T1.out⟩
theorem of_good {ao : Option Addr} {cap room : Nat} {L : List Int} (w : World) (h : room ≤ 64) (hn : L.length ≤ room) (hr : Ints .i64 w ao L) :
    Calls Try.prog 69 #[.int .i64 room, .slice ao L.length cap] w fun e w' => e = .returned (.tuple #[.pointer (some ⟨w.heap.size, 0, none⟩), .int .i64 0]) ∧ (∃ ao' c', IsRing w' w.heap.size w.heap.size room ao' c' L) ∧ Turn (fun _ => False) w w' := by
  have HR := Lib.hid hr
  clear hr
  go_enter Try.func69, Try.ntmps69
  go_wp2_with fail
  refine (new_good room w h).mono ?_
  rintro e w1 ⟨rfl, h1, t1⟩
  have T1 := Lib.hid t1
  have H1 := Lib.hid h1
  clear h1 t1
  go_wp2_with fail
  refine (copied_any w1 (HR.out.turn T1.out (fun _ _ => id)) (by omega)).mono ?_
  rintro e w2 ⟨v, rfl, f⟩
  obtain ⟨ao2, c2, rfl, _⟩ := f.ints
  have H2 := Lib.hid (H1.out.new f.2)
  have hs := H1.out.lt
  have HF := Lib.hid (fun a (e : ao2 = some a) => (show a.block ≠ w.heap.size by
    subst e
    have := (f.1.lt a.block (by rw [own_block]; rfl)).1
    omega))
  have HO := Lib.hid (own_less f.1 (Nat.le_of_lt hs))
  have T2 := Lib.hid (T1.out.trans f.2)
  have d1 := H2.out.c1
  have f1 := H2.out.f1
  clear f hs
  go_wp2
  go_ret2
  exact ⟨rfl, ⟨ao2, c2, ring_store H2.out.box HO.out HF.out (Nat.le_refl _) hn h⟩, T2.out.setCell (Or.inr (Nat.le_refl _)) _⟩

end Go.Proofs.Ytenbafkgfdlfpaa.C4
