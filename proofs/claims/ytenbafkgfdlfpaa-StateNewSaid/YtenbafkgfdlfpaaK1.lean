/- Dice: made, counted, skipped. -/
import Derived.Test.YtenbafkgfdlfpaaGBase
import Derived.Laws.CopyOwn
import Derived.BigQuiet
import Derived.Deep.QuietTactic
import Derived.Lib.Hide
import Derived.Deep.RegionHeld3
import Derived.Deep.RegionLaw
import Derived.IntWalk
namespace Go.Proofs.Ytenbafkgfdlfpaa.C1
open Go.RowKit
set_option linter.unusedVariables false

/-- A die at block p over the row g of numbers L, k of them drawn. -/
structure IsDice (w : World) (p g : Nat) (L : List Int) (k : Nat) : Prop where
  box : w.heap[p]? = some (.cells #[.slice (some ⟨g, 0, none⟩) L.length L.length, .int .i64 k] 108 (0, 0))
  row : w.heap[g]? = some (.cells (L.map (Value.int .u16)).toArray 64 (0, 0))
  ne : g ≠ p
  le : k ≤ L.length
  len : L.length ≤ 300
  u16 : ∀ x ∈ L, 0 ≤ x ∧ x ≤ 65535

theorem IsDice.c0 {w p g L k} (h : IsDice w p g L k) : w.cell? ⟨p, 0, none⟩ = some (.slice (some ⟨g, 0, none⟩) L.length L.length) := by simp [World.cell?, h.box]
theorem IsDice.c1 {w p g L k} (h : IsDice w p g L k) : w.cell? ⟨p, 1, none⟩ = some (.int .i64 k) := by simp [World.cell?, h.box]
theorem IsDice.f1 {w p g L k} (h : IsDice w p g L k) : w.frozen? ⟨p, 1, none⟩ = false := by simp [World.frozen?, h.box]
theorem IsDice.cr {w p g L k} (h : IsDice w p g L k) {j : Nat} (hj : j < L.length) : w.cell? ⟨g, j, none⟩ = some (.int .u16 (L.getD j 0)) := by simp [World.cell?, h.row, hj]

theorem left_any {p g : Nat} {L : List Int} {k : Nat} (w : World) (h : IsDice w p g L k) :
    Calls Try.prog 64 #[.pointer (some ⟨p, 0, none⟩)] w fun e w' => e = .returned (.int .i64 ((L.length : Int) - k)) ∧ ∃ n, w' = w.drewN n := by
  have c0 := h.c0
  have c1 := h.c1
  have hl := h.len
  have hk := h.le
  clear h
  go_enter Try.func64, Try.ntmps64
  go_wp2
  go_quiet (fail)
  go_wp2
  go_ret
  exact ⟨rfl, _, rfl⟩

theorem drawn_any {p g : Nat} {L : List Int} {k : Nat} (w : World) (h : IsDice w p g L k) :
    Calls Try.prog 23 #[.pointer (some ⟨p, 0, none⟩)] w fun e w' => e = .returned (.int .i64 k) ∧ w = w' := by
  have c0 := h.c0
  have c1 := h.c1
  clear h
  go_enter Try.func23, Try.ntmps23
  go_wp2
  go_ret
  exact ⟨rfl, rfl⟩


theorem IsDice.turn {S : Nat → Prop} {w w' p g L k} (h : IsDice w p g L k) (t : Turn S w w') (hp : ¬ S p) (hg : ¬ S g) : IsDice w' p g L k :=
  ⟨t.heap hp h.box, t.heap hg h.row, h.ne, h.le, h.len, h.u16⟩

theorem IsDice.set {w p g L k} (h : IsDice w p g L k) (m k' : Nat) (hk : k' ≤ L.length) : IsDice ((w.drewN m).setCell ⟨p, 1, none⟩ (.int .i64 k')) p g L k' := by
  refine ⟨?_, ?_, h.ne, hk, h.len, h.u16⟩
  · exact heap_setCell_at (w := w.drewN m) h.box _
  · rw [Below.heap_setCell _ _ _ _ (by exact h.ne)]
    exact h.row

theorem info32 : (Try.prog.info? 64).map (fun i => (i.zero, i.size, i.bytes)) = some (some (.int .u16 0), 1, 2) := by kernel_rfl
theorem size32 : (Try.prog.info? 64).map (·.size) = some 1 := by kernel_rfl

/-- A row that was made: its block. -/
theorem row_of {w : World} {base : Nat} {e : TypeId} {g n : Nat} {xs : List Value} (h : w.ownsRow base e 1 (.slice (some ⟨g, 0, none⟩) n n) n xs) :
    ∃ cur : List Value, w.heap[g]? = some (.cells cur.toArray e (0, 0)) ∧ cur.length = n := by
  rcases h.2 with ⟨h1, _⟩ | ⟨g', cap, cur, h1, _, hh, _, _, hs, _⟩
  · cases h1
  · cases h1
    exact ⟨cur.toList, by simpa using hh, by simpa using hs⟩

theorem splice_all {α : Type} (cur cs : List α) (h : cs.length = cur.length) : splice cur 0 cs = cs := by
  simp [splice, h]

theorem new_any {ao : Option Addr} {cap : Nat} {L : List Int} (w : World) (hr : Ints .u16 w ao L) (hl : L.length ≤ 300) (hu : ∀ x ∈ L, 0 ≤ x ∧ x ≤ 65535) :
    Calls Try.prog 34 #[.slice ao L.length cap] w fun e w' => ∃ p g, e = .returned (.pointer (some ⟨p, 0, none⟩)) ∧ IsDice w' p g L 0 ∧ w.heap.size ≤ p ∧ w.heap.size ≤ g ∧ Turn (fun _ => False) w w' := by
  obtain ⟨i0, hi, hz0, hz1, hz2⟩ := info_parts info32
  have hold : ∀ ad, ao = some ad → 0 < L.length → ad.block < w.heap.size := by
    intro ad e hp
    obtain ⟨a, ea, hc⟩ := hr 0 hp
    rw [e] at ea; cases ea
    have := World.block_lt_of_cell? w _ hc
    rwa [block_add] at this
  have HR := Lib.hid hr
  have HO := Lib.hid hold
  clear hr hold
  go_enter Try.func34, Try.ntmps34
  go_wp2_with (first
    | (at_make; refine wpList_make_full _ rfl (.tmp 5) (.tmp 5) 25 rfl w.heap.size 64 i0 (.int .u16 0) 1 Try.underlying25 hi hz0 hz1 .i64 .i64 L.length L.length L.length rfl rfl rfl rfl (by rw [hz2]; omega) (by unfold maxLen; omega) (Nat.le_refl _) ?_; intro w1 hown hgrow; obtain ⟨cur, hrow, hcl⟩ := row_of hown; have HC := Lib.hid hcl; have HG := Lib.hid hgrow; have HW := Lib.hid hrow; clear hown hcl hgrow hrow)
    | (with_reducible refine wpList_copy_splice rfl (.tmp 7) (.tmp 8) 25 25 rfl 64 Try.underlying25 size32 (some ⟨w.heap.size, 0, none⟩) ao L.length L.length L.length cap rfl rfl w.heap.size 0 cur 64 HW.out (L.map (Value.int .u16)) ?c1 ?c2 ?c3 ?c4 w.heap.size w ?c5 (Nat.le_refl _) ?_))
  case c1 => simp
  case c2 =>
    intro hp
    have hp' : 0 < L.length := by simpa using hp
    obtain ⟨ad, e, _⟩ := HR.out 0 hp'
    refine ⟨ad, e, fun j x hx => ?_⟩
    obtain ⟨hj, hx'⟩ := List.getElem?_eq_some_iff.1 hx
    obtain ⟨a', e', hc⟩ := HR.out j hj
    rw [e] at e'; cases e'
    have hb := HO.out ad e hp'
    rw [World.cell?_of_block (HG.out.block _ (by rw [block_add]; exact hb) (by simp)), hc]
    simp [hx]
  case c3 => simp [HC.out]
  case c4 =>
    intro v hv
    obtain ⟨x, _, rfl⟩ := List.mem_map.1 hv
    rfl
  case c5 => exact (Below.refl _ _).grown HG.out (Nat.le_refl _) (by simp)
  intro w2 h2 hb2
  have H2 := Lib.hid h2
  have B2 := Lib.hid hb2
  clear h2 hb2
  go_wp2
  go_ret
  have hs := B2.out.size
  have hg : w2.heap[w.heap.size]? = some (.cells (L.map (Value.int .u16)).toArray 64 (0, 0)) := by
    have := H2.out.out
    rwa [splice_all _ _ (by rw [HC.out]; simp)] at this
  have hlt : w.heap.size < w2.heap.size := (Array.getElem?_eq_some_iff.1 hg).1
  refine ⟨w2.heap.size, w.heap.size, rfl, ⟨heap_alloc_new _ _, ?_, by omega, Nat.zero_le _, hl, hu⟩, by omega, by omega, ?_⟩
  · rw [Below.heap_alloc _ _ _ hlt]; exact hg
  · exact Turn.alloc ⟨B2.out.os, B2.out.tape, B2.out.output, B2.out.size, fun i hi _ => B2.out.block i hi⟩ _

theorem left_drew {p g : Nat} {L : List Int} {k : Nat} {w w' : World} (h : IsDice w p g L k) (e : w'.heap = w.heap) :
    Calls Try.prog 64 #[.pointer (some ⟨p, 0, none⟩)] w' fun e w'' => e = .returned (.int .i64 ((L.length : Int) - k)) ∧ ∃ n, w'' = w'.drewN n :=
  left_any w' ⟨by rw [e]; exact h.box, by rw [e]; exact h.row, h.ne, h.le, h.len, h.u16⟩

/-- How many more count as drawn. -/
def sk (L : List Int) (k : Nat) (n : Int) : Int := min (max n 0) ((L.length : Int) - k)

set_option maxHeartbeats 1600000 in
theorem skip_walk {p g : Nat} {L : List Int} {k : Nat} (n : Int) (w : World) (h : IsDice w p g L k) :
    Calls Try.prog 36 #[.pointer (some ⟨p, 0, none⟩), .int .i64 n] w fun e w' => e = .returned (.tuple #[]) ∧ ∃ m, w' = (w.drewN m).setCell ⟨p, 1, none⟩ (.int .i64 ((k : Int) + sk L k n)) := by
  have c1 := h.c1
  have f1 := h.f1
  have hl := h.len
  have hk := h.le
  have hw : IntKind.i64.wrap ((k : Int) + if (L.length : Int) - k < if n < 0 then 0 else n then (L.length : Int) - k else if n < 0 then 0 else n) = (k : Int) + sk L k n := by
    have e : (if (L.length : Int) - k < if n < 0 then 0 else n then (L.length : Int) - k else if n < 0 then 0 else n) = sk L k n := by
      unfold sk; split <;> split <;> omega
    rw [e]
    exact IntWalk.i64_in _ (by unfold sk; omega)
  have HW := Lib.hid hw
  clear hw
  go_enter Try.func36, Try.ntmps36
  go_region_law (first | (go_simp; go_at_call 64; refine (left_drew (w' := w.drew) h rfl).mono ?_; rintro e w' ⟨rfl, m, rfl⟩))
  all_goals (go_end0; exact ⟨rfl, 1 + m, by rw [HW.out]⟩)

theorem skip_any {p g : Nat} {L : List Int} {k : Nat} (n : Int) (w : World) (h : IsDice w p g L k) :
    Calls Try.prog 36 #[.pointer (some ⟨p, 0, none⟩), .int .i64 n] w fun e w' => e = .returned (.tuple #[]) ∧ IsDice w' p g L (k + (sk L k n).toNat) ∧ Turn (fun i => i = p) w w' := by
  have hk := h.le
  have hs : 0 ≤ sk L k n ∧ sk L k n ≤ (L.length : Int) - k := by unfold sk; omega
  refine (skip_walk n w h).mono ?_
  rintro e w' ⟨rfl, m, rfl⟩
  have e1 : (k : Int) + sk L k n = ((k + (sk L k n).toNat : Nat) : Int) := by omega
  rw [e1]
  exact ⟨rfl, h.set m _ (by omega), ((Turn.refl (fun i => i = p) w).drewN m).setCell (p := ⟨p, 1, none⟩) (Or.inl rfl) _⟩

end Go.Proofs.Ytenbafkgfdlfpaa.C1
