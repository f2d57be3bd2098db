/- Texts and slices of texts in memory. -/
import Derived.Test.YtfghabjpcjcllaaDoorDSmall
import Derived.Test.YtfghabjpcjcllaaDoorMPure
import Derived.Laws.Strings
import Derived.Laws.Strings2
import Derived.Laws.Strings3
import Derived.Laws.Concat
import Derived.Laws.DeepStrings4
namespace Go.Proofs.YtfghabjpcjcllaaDoor
open Go.RowKit
set_option linter.unusedVariables false

def bs (t : Tx) : ByteArray := ⟨t.toArray⟩
def encT (t : Tx) : List Value := [.string (bs t)]
theorem encT_ok : Enc encT 1 := ⟨fun _ => rfl, fun x u hu => by simp [encT] at hu; subst hu; rfl⟩
theorem info_text : (Tryd.prog.info? 9).map (fun i => (i.zero, i.size, i.bytes)) = some (some (.string ⟨#[]⟩), 1, 16) := by kernel_rfl

theorem bs_size (t : Tx) : (bs t).size = t.length := by simp [bs, ByteArray.size]
theorem bs_list (t : Tx) : (bs t).toList = t := ByteArray.toList_mk t
theorem bs_add (s t : Tx) : bs s ++ bs t = bs (s ++ t) := ByteArray.mk_append_mk s t
theorem len_text (ty : TypeId) (t : Tx) {n : Nat} (hn : t.length = n) (w : World) : (Builtin.len_ #[9] ty #[.string (bs t)]).run Tryd.prog w = .ok (.int .i64 n) w := by
  rw [run_len_string _ _ _ _ Tryd.underlying9, bs_size, hn]
  rfl
theorem index_text (t : Tx) {i : Nat} {x : UInt8} (hx : t[i]? = some x) (w : World) : (Instr.index 9 (.string (bs t)) (.int .i64 i)).run Tryd.prog w = .ok (.int .u8 x.toNat) w := by
  obtain ⟨hl, he⟩ := List.getElem?_eq_some_iff.1 hx
  rw [run_index_string _ _ _ _ _ Tryd.underlying9, dif_pos ⟨by omega, by rw [bs_size]; omega⟩]
  congr 3
  simp only [Int.toNat_natCast]
  rw [show (bs t)[i]'(by rw [bs_size]; exact hl) = t[i] from rfl, he]
theorem slice_text (t : Tx) {a b : Nat} (h : a ≤ b) (hb : b ≤ t.length) (w : World) : (Instr.slice 9 (.string (bs t)) (some (.int .i64 a)) (some (.int .i64 b)) none).run Tryd.prog w = .ok (.string (bs ((t.drop a).take (b - a)))) w := by
  rw [run_slice_string _ _ _ _ _ _ _ Tryd.underlying9 (by omega) (by omega) (by rw [bs_size]; omega)]
  simp only [Int.toNat_natCast]
  rw [show (bs t).extract a b = bs ((t.drop a).take (b - a)) from ByteArray.extract_mk t a b]
theorem from_text (t : Tx) {a : Nat} (h : a ≤ t.length) (w : World) : (Instr.slice 9 (.string (bs t)) (some (.int .i64 a)) none none).run Tryd.prog w = .ok (.string (bs (t.drop a))) w := by
  rw [run_slice_string_from_if _ _ _ _ _ Tryd.underlying9, if_pos ⟨by omega, by rw [bs_size]; omega⟩]
  simp only [Int.toNat_natCast, bs_size]
  rw [show (bs t).extract a t.length = bs ((t.drop a).take (t.length - a)) from ByteArray.extract_mk t a t.length, List.take_of_length_le (by simp)]
theorem add_text (s t : Tx) (h : s.length + t.length ≤ 10000000) (w : World) : (Op.stringOp BinOp.add (bs s) (bs t)).run Tryd.prog w = .ok (.string (bs (s ++ t))) w := by
  rw [run_string_add_sum w _ _ (by rw [bs_size, bs_size]; omega), bs_add]
theorem eq_text (s t : Tx) : ((bs s).toList == (bs t).toList) = decide (s = t) := by
  rw [bs_list, bs_list]
  by_cases h : s = t
  · subst h; simp
  · rw [decide_eq_false h]; simpa using h

/-- A slice of texts that is read. -/
structure RTs (w : World) (s : Sl) (L : List Tx) : Prop where
  ok : s.Ok L.length
  has : Has encT 1 w s.ao L
theorem RTs.new {w w' : World} {s : Sl} {L : List Tx} (h : RTs w s L) (t : Turn (fun _ => False) w w') : RTs w' s L := ⟨h.ok, h.has.new t⟩
theorem RTs.at {w : World} {s : Sl} {L : List Tx} (h : RTs w s L) {i : Nat} {x : Tx} (hx : L[i]? = some x) : ∃ ad, s.ao = some ad ∧ w.cell? (ad.add i) = some (.string (bs x)) := by
  obtain ⟨ad, e, hc⟩ := h.has i x hx
  refine ⟨ad, e, ?_⟩
  have := hc 0 _ rfl
  rwa [add_two, Nat.mul_one, Nat.add_zero] at this
theorem RTs.of_own {w : World} {base n c : Nat} {e : TypeId} {bo : Option Addr} {L : List Tx} (h : w.ownsRow base e 1 (.slice bo n c) n (flat encT L)) : RTs w ⟨bo, n, c⟩ L := by
  have hn := own_len encT_ok (by omega) h
  subst hn
  exact ⟨(own_sl (s := ⟨bo, L.length, c⟩) h rfl).1, Has.of_own encT_ok (by omega) h⟩
end Go.Proofs.YtfghabjpcjcllaaDoor
