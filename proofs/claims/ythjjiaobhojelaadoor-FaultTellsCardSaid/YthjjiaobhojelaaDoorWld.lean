/- The world of the laws: the package-level variables as they are laid, and errors that wrap others. -/
import Derived.Test.YthjjiaobhojelaaDoorGSkip
import Derived.Test.YthjjiaobhojelaaDoorShelf
import Derived.LaidEql
import Derived.Stop.Asserts
import Derived.RowKitTokens
namespace Go.Proofs.YthjjiaobhojelaaDoor
open Go.RowKit

/-- The three errors' texts. -/
def textL : Nat → List UInt8
  | 0 => [115, 101, 110, 100, 32, 111, 110, 32, 99, 108, 111, 115, 101, 100, 32, 99, 104, 97, 110, 110, 101, 108]
  | 1 => [99, 108, 111, 115, 101, 32, 111, 102, 32, 99, 108, 111, 115, 101, 100, 32, 99, 104, 97, 110, 110, 101, 108]
  | _ => [99, 108, 111, 115, 101, 32, 111, 102, 32, 110, 105, 108, 32, 99, 104, 97, 110, 110, 101, 108]
def textS (k : Nat) : ByteArray := ⟨(textL k).toArray⟩
theorem textL_length (k : Nat) : (textL k).length ≤ 23 := by
  match k with
  | 0 => decide
  | 1 => decide
  | n + 2 => show List.length [_, _, _, _, _, _, _, _, _, _, _, _, _, _, _, _, _, _, _, _] ≤ 23; decide

/-- The package-level variables as they are laid; A k: where the k-th error lies. -/
structure Glob (w : World) (A : Nat → Addr) : Prop where
  c0 : w.cell? ⟨0, 0, none⟩ = some (.iface 106 (.pointer (some (A 0))))
  c1 : w.cell? ⟨1, 0, none⟩ = some (.iface 106 (.pointer (some (A 1))))
  c2 : w.cell? ⟨2, 0, none⟩ = some (.iface 106 (.pointer (some (A 2))))
  c3 : w.cell? ⟨3, 0, none⟩ = some (.iface 72 (.agg #[.pointer (some ⟨7, 24, none⟩)]))
  tab : Lib.TabIs Tryd.prog w "internal/strconv.uint64pow10" .u64 Lib.pow10Tab
  text : ∀ k, k < 3 → w.cell? (A k) = some (.string (textS k))
  heap : ∀ k, k < 3 → ∃ c t, w.heap[(A k).block]? = some (.cells c t (0, 0))
  ne : ∀ i j, i < 3 → j < 3 → i ≠ j → A i ≠ A j
theorem glob_tab : Tryd.prog.globalNamed "internal/strconv.uint64pow10" = some 4 := by kernel_rfl
theorem tab_kept {w w' : World} (h : Lib.TabIs Tryd.prog w "internal/strconv.uint64pow10" .u64 Lib.pow10Tab) (t : Turn (fun _ => False) w w') : Lib.TabIs Tryd.prog w' "internal/strconv.uint64pow10" .u64 Lib.pow10Tab := by
  have h' := h
  unfold Lib.TabIs World.var? at h h' ⊢
  rw [glob_tab] at h h' ⊢
  simp only [Option.bind_some] at h h' ⊢
  rcases Nat.lt_or_ge 4 w.heap.size with hlt | hge
  · rw [t.block 4 hlt id]; exact h
  · rw [Array.getElem?_eq_none hge] at h; cases h
theorem Glob.kept {w w' : World} {A : Nat → Addr} (h : Glob w A) (t : Turn (fun _ => False) w w') : Glob w' A :=
  ⟨t.cell id h.c0, t.cell id h.c1, t.cell id h.c2, t.cell id h.c3, tab_kept h.tab t, fun k hk => t.cell id (h.text k hk), fun k hk => (h.heap k hk).imp fun _ ⟨t', e⟩ => ⟨t', t.heap id e⟩, h.ne⟩

/-- An error that wraps, by Faults of L (its block, G and Op), the k-th error. -/
def IsErr (w : World) (A : Nat → Addr) (k : Nat) : List (Nat × Int × Int) → Value → Prop
  | [], v => v = .iface 106 (.pointer (some (A k)))
  | x :: L, v => v = .iface 30 (.pointer (some ⟨x.1, 0, none⟩)) ∧ ∃ u, w.heap[x.1]? = some (.cells #[.int .i64 x.2.1, .int .i64 x.2.2, u] 34 (0, 0)) ∧ IsErr w A k L u
theorem IsErr.kept {w w' : World} {A : Nat → Addr} {k : Nat} (t : Turn (fun _ => False) w w') : ∀ {L : List (Nat × Int × Int)} {v : Value}, IsErr w A k L v → IsErr w' A k L v
  | [], _, h => h
  | _ :: _, _, ⟨h, u, hh, hr⟩ => ⟨h, u, t.heap id hh, IsErr.kept t hr⟩
theorem IsErr.same {w : World} {A : Nat → Addr} {k : Nat} : ∀ {L L' : List (Nat × Int × Int)} {v : Value}, IsErr w A k L v → IsErr w A k L' v → L.length = L'.length
  | [], [], _, _, _ => rfl
  | [], _ :: _, _, h, ⟨h', _⟩ => by unfold IsErr at h; subst h; exact absurd (Value.iface.inj h').1 (by decide)
  | _ :: _, [], _, ⟨h', _⟩, h => by unfold IsErr at h; subst h; exact absurd (Value.iface.inj h').1 (by decide)
  | x :: L, y :: L', _, ⟨h, u, hh, hr⟩, ⟨h', u', hh', hr'⟩ => by
    subst h
    have e : x.1 = y.1 := by
      have := (Value.iface.inj h').2
      simpa using this
    rw [← e, hh] at hh'
    have : u = u' := by
      have h2 := (Obj.cells.inj (Option.some.inj hh')).1
      simp at h2
      exact h2.2.2
    subst this
    rw [List.length_cons, List.length_cons, IsErr.same hr hr']
open Classical in
/-- How many Faults it wraps. -/
noncomputable def depth (w : World) (A : Nat → Addr) (k : Nat) (v : Value) : Nat := if h : ∃ L, IsErr w A k L v then (Classical.choose h).length else 0
theorem depth_is {w : World} {A : Nat → Addr} {k : Nat} {L : List (Nat × Int × Int)} {v : Value} (h : IsErr w A k L v) : depth w A k v = L.length := by
  have hx : ∃ L, IsErr w A k L v := ⟨L, h⟩
  unfold depth
  rw [dif_pos hx]
  exact (Classical.choose_spec hx).same h
/-- Whether it is an error that wraps, and one that doesn't. -/
theorem IsErr.part {w : World} {A : Nat → Addr} {k : Nat} {L : List (Nat × Int × Int)} {v : Value} (h : IsErr w A k L v) : v = .iface 106 (.pointer (some (A k))) ∨ ∃ p, v = .iface 30 (.pointer (some ⟨p, 0, none⟩)) := by
  cases L with
  | nil => exact .inl h
  | cons x L => exact .inr ⟨_, h.1⟩

end Go.Proofs.YthjjiaobhojelaaDoor
