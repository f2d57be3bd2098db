/- Parts of a slice of texts. -/
import Derived.Test.YtfghabjpcjcllaaDoorTxt
import Derived.Laws.Slices
import Derived.ChangeKeysEq
namespace Go.Proofs.YtfghabjpcjcllaaDoor
open Go.RowKit
set_option linter.unusedVariables false

/-- The part from a to b of a slice of texts. -/
def partV (s : Sl) (a b : Nat) : Sl := ⟨if s.cap = a then s.ao else s.ao.map (fun x => x.add a), b - a, s.cap - a⟩
theorem size_text (w : World) : (sizeOf (Tryd.prog.elem 53)).run Tryd.prog w = .ok 1 w := by
  obtain ⟨i0, hi, hz0, hz1, hz2⟩ := info_parts info_text
  have he : Tryd.prog.elem 53 = 9 := by kernel_rfl
  rw [he, run_sizeOf _ hi]
  have : Tryd.prog.cellsOf 9 = 1 := by kernel_rfl
  rw [this]
theorem part_rd {w : World} {s : Sl} {ws : List Tx} {a b : Nat} (h : RTs w s ws) (hab : a ≤ b) (hb : b ≤ ws.length) : RTs w (partV s a b) ((ws.drop a).take (b - a)) := by
  have hl : ((ws.drop a).take (b - a)).length = b - a := by rw [List.length_take, List.length_drop]; omega
  have h1 := h.ok.len
  have h2 := h.ok.cap
  have h3 := h.ok.max
  have h4 := h.ok.nil
  refine ⟨⟨by rw [hl]; rfl, ?_, ?_, ?_⟩, ?_⟩
  · show b - a ≤ s.cap - a
    omega
  · show s.cap - a ≤ maxLen
    omega
  · intro e
    show s.cap - a = 0
    unfold partV at e
    dsimp only at e
    split at e
    · omega
    · rw [Option.map_eq_none_iff] at e
      have := h4 e
      omega
  · intro j x hx
    have hj : j < b - a := by have := (List.getElem?_eq_some_iff.1 hx).1; omega
    have hx' : ws[a + j]? = some x := by rw [List.getElem?_take, if_pos hj, List.getElem?_drop] at hx; exact hx
    obtain ⟨ad, e, hc⟩ := h.has (a + j) x hx'
    refine ⟨ad.add a, ?_, fun i u hu => ?_⟩
    · unfold partV
      dsimp only
      rw [if_neg (by omega), e]
      rfl
    · have := hc i u hu
      rw [add_two] at this
      rw [add_two, add_two]
      rwa [show a + (j * 1 + i) = (a + j) * 1 + i by omega]
theorem und_texts : Tryd.prog.underlying 53 = some (.slice (Tryd.prog.elem 53)) := by kernel_rfl
theorem mid_texts (s : Sl) {n a b : Nat} (hab : a ≤ b) (hb : b ≤ s.cap) (w : World) : (Instr.slice 53 (.slice s.ao n s.cap) (some (.int .i64 a)) (some (.int .i64 b)) none).run Tryd.prog w = .ok (.slice (partV s a b).ao (partV s a b).len (partV s a b).cap) w := by
  rw [run_slice_lh (ht := und_texts) (h0 := by omega) (h1 := by omega) (h2 := by omega), size_text]
  simp only [Int.toNat_natCast, Result.andThen, sliced, Nat.mul_one, partV]
theorem tail_texts (s : Sl) {n a : Nat} (hab : a ≤ n) (w : World) : (Instr.slice 53 (.slice s.ao n s.cap) (some (.int .i64 a)) none none).run Tryd.prog w = .ok (.slice (partV s a n).ao (partV s a n).len (partV s a n).cap) w := by
  rw [run_slice_l (ht := und_texts) (h0 := by omega) (h1 := by omega), size_text]
  simp only [Int.toNat_natCast, Result.andThen, sliced, Nat.mul_one, partV]
theorem part_tail {w : World} {s : Sl} {ws : List Tx} {a n : Nat} (h : RTs w s ws) (hn : ws.length = n) (hab : a ≤ n) : RTs w (partV s a n) (ws.drop a) := by
  have := part_rd (b := n) h hab (by omega)
  rwa [List.take_of_length_le (by rw [List.length_drop]; omega)] at this
end Go.Proofs.YtfghabjpcjcllaaDoor
