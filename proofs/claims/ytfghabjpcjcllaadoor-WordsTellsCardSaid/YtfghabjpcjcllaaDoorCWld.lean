/- The package-level variables as they are laid: the names of kinds and of codes, the table of powers; a number and two errors of the library's. -/
import Derived.Test.YtfghabjpcjcllaaDoorShelf
import Derived.Test.YtfghabjpcjcllaaDoorMPure
import Derived.Test.YtfghabjpcjcllaaDoorTxt
namespace Go.Proofs.YtfghabjpcjcllaaDoor
open Go.RowKit

def nameL : List Tx := [[], [109, 97, 107, 101], [115, 101, 110, 100], [114, 101, 99, 118], [116, 114, 121, 32, 115, 101, 110, 100], [116, 114, 121, 32, 114, 101, 99, 118], [99, 108, 111, 115, 101], [108, 101, 110], [99, 97, 112], [115, 101, 108, 101, 99, 116]]
def codeL : List Tx := [[], [100, 111, 110, 101], [110, 111], [112, 97, 110, 105, 99, 32, 115, 101, 110, 100], [112, 97, 110, 105, 99, 32, 99, 108, 111, 115, 101], [112, 97, 110, 105, 99, 32, 110, 105, 108], [110, 111, 110, 101], [102, 117, 108, 108]]

/-- What all three laws' rows list. -/
structure Gl0 (w : World) : Prop where
  codes : ∀ k t, codeL[k]? = some t → w.cell? ⟨0, k, none⟩ = some (.string (bs t))
  names : ∀ k t, nameL[k]? = some t → w.cell? ⟨1, k, none⟩ = some (.string (bs t))
  tab : Lib.TabIs Tryd.prog w "internal/strconv.uint64pow10" .u64 Lib.pow10Tab
/-- What is read beside these, where texts are read. -/
structure Gl (w : World) : Prop where
  base : Gl0 w
  most : ∃ m : Int, w.cell? ⟨3, 0, none⟩ = some (.int .i64 m)
  syn : ∃ ev, w.cell? ⟨8, 0, none⟩ = some ev ∧ (ev = .nilIface ∨ ∃ te pe, ev = .iface te pe)
  rng : ∃ ev, w.cell? ⟨9, 0, none⟩ = some ev ∧ (ev = .nilIface ∨ ∃ te pe, ev = .iface te pe)

theorem glob_tab : Tryd.prog.globalNamed "internal/strconv.uint64pow10" = some 2 := by kernel_rfl
theorem tab_kept {w w' : World} (h : Lib.TabIs Tryd.prog w "internal/strconv.uint64pow10" .u64 Lib.pow10Tab) (t : Turn (fun _ => False) w w') : Lib.TabIs Tryd.prog w' "internal/strconv.uint64pow10" .u64 Lib.pow10Tab := by
  have h' := h
  unfold Lib.TabIs World.var? at h h' ⊢
  rw [glob_tab] at h h' ⊢
  simp only [Option.bind_some] at h h' ⊢
  rcases Nat.lt_or_ge 2 w.heap.size with hlt | hge
  · rw [t.block 2 hlt id]; exact h
  · rw [Array.getElem?_eq_none hge] at h; cases h
theorem Gl0.new {w w' : World} (h : Gl0 w) (t : Turn (fun _ => False) w w') : Gl0 w' :=
  ⟨fun k x hx => t.cell id (h.codes k x hx), fun k x hx => t.cell id (h.names k x hx), tab_kept h.tab t⟩
theorem Gl.new {w w' : World} (h : Gl w) (t : Turn (fun _ => False) w w') : Gl w' :=
  ⟨h.base.new t, h.most.imp fun _ e => t.cell id e, h.syn.imp fun _ e => ⟨t.cell id e.1, e.2⟩, h.rng.imp fun _ e => ⟨t.cell id e.1, e.2⟩⟩
theorem turn_of_below {w w' : World} (h : Below w.heap.size w w') : Turn (fun _ => False) w w' := by
  exact ⟨h.os, h.tape, h.output, h.size, fun i hi _ => h.block i hi⟩
theorem bytes_of (t : Tx) : (⟨t.toArray⟩ : ByteArray) = bs t := rfl
theorem bs_data (t : Tx) : (bs t).data.toList = t := by simp [bs]
end Go.Proofs.YtfghabjpcjcllaaDoor
