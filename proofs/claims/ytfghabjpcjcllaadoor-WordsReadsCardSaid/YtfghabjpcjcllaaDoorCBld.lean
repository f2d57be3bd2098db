/- A builder that holds bytes. -/
import Derived.Test.YtfghabjpcjcllaaDoorCBuild
namespace Go.Proofs.YtfghabjpcjcllaaDoor
open Go.RowKit

theorem strCells_list (l : List UInt8) : Lib.strCells ⟨l.toArray⟩ = Lib.byteCells l := by simp [Lib.strCells, Lib.byteCells]
theorem byteCells_add (l m : List UInt8) : Lib.byteCells l ++ Lib.byteCells m = Lib.byteCells (l ++ m) := by simp [Lib.byteCells]
/-- A builder that the call has made: it holds the bytes l; all that was ahead of it is as it was. -/
structure Bld (B b : Nat) (l : List UInt8) (w0 w : World) : Prop where
  is : Lib.IsBuilder 45 5 B b (Lib.byteCells l) w
  turn : Turn (fun i => B ≤ i) w0 w
  le : B ≤ w.heap.size
theorem Bld.new (w : World) : Bld w.heap.size w.heap.size [] w (w.alloc (.cells #[.pointer none, .slice none 0 0] 45)) :=
  ⟨.inl ⟨Nat.le_refl _, .slice none 0 0, heap_alloc_new w _, ⟨rfl, .inl ⟨rfl, rfl⟩⟩, by simp [Value.ownBlock]⟩, (Turn.refl _ w).alloc _, by simp⟩
theorem Bld.kept {B b : Nat} {l : List UInt8} {w0 w w' : World} (h : Bld B b l w0 w) (t : Turn (fun _ => False) w w') : Bld B b l w0 w' := by
  refine ⟨?_, h.turn.trans (t.mono fun _ _ e => e.elim), Nat.le_trans h.le t.size⟩
  rcases h.is with ⟨h1, v, hb, ho, hn⟩ | ⟨h1, v, hb, ho, hn⟩
  · exact .inl ⟨h1, v, t.heap id hb, own_turn ho t (fun _ _ => id), hn⟩
  · exact .inr ⟨h1, v, t.heap id hb, own_turn ho t (fun _ _ => id), hn⟩
theorem write_bld (B b : Nat) (l m : List UInt8) (w0 w : World) (h : Bld B b l w0 w) (hl : l.length + m.length ≤ 100000) :
    Calls Tryd.prog 19 #[.pointer (some ⟨b, 0, none⟩), .string ⟨m.toArray⟩] w fun e w' => (∃ n : Int, e = .returned (.tuple #[.int .i64 n, .nilIface])) ∧ Bld B b (l ++ m) w0 w' := by
  have hs : (⟨m.toArray⟩ : ByteArray).size = m.length := by show m.toArray.size = _; simp
  have hb : (Lib.byteCells l).length = l.length := by simp [Lib.byteCells]
  have key : ∀ p v, (p = Value.pointer none ∨ p = .pointer (some ⟨b, 0, none⟩)) → w.heap[b]? = some (.cells #[p, v] 45 (0, 0)) → w.ownsRow B 5 1 v (Lib.byteCells l).length (Lib.byteCells l) → v.ownBlock ≠ some b → B ≤ b →
      Calls Tryd.prog 19 #[.pointer (some ⟨b, 0, none⟩), .string ⟨m.toArray⟩] w fun e w' => (∃ n : Int, e = .returned (.tuple #[.int .i64 n, .nilIface])) ∧ Bld B b (l ++ m) w0 w' := fun p v hp hh ho hn hle =>
    (write_on B b p v (Lib.byteCells l) ⟨m.toArray⟩ w hp hh ho hn hle (by rw [hs, hb]; omega) h.le).mono fun e w' ⟨h1, h2, h3⟩ => ⟨⟨_, h1⟩, by rw [← byteCells_add, ← strCells_list m]; exact h2, h.turn.trans h3, Nat.le_trans h.le h3.size⟩
  rcases h.is with ⟨h1, v, hh, ho, hn⟩ | ⟨h1, v, hh, ho, hn⟩
  · exact key _ v (.inl rfl) hh ho hn h1
  · exact key _ v (.inr rfl) hh ho hn h1

end Go.Proofs.YtfghabjpcjcllaaDoor
