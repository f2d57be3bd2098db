/- 'make' of zero values of one cell each, in a plain list of operations and at a step of a region that draws. General, over any program. -/
import Derived.Test.YtenbafkgfdlfpaaGTill
namespace Go.Proofs.Ytenbafkgfdlfpaa
open Go.RowKit

/-- Block g is n times z, of type e. -/
def Zeros (w : World) (g n : Nat) (z : Value) (e : TypeId) : Prop := w.heap[g]? = some (.cells (List.replicate n z).toArray e (0, 0))
theorem made_zeros {z : Value} (hz : z.cells = #[z]) (n : Nat) : (madeCells z.cells (n * 1)).toList = List.replicate n z := by
  apply List.ext_getElem?
  intro i
  rw [Nat.mul_one, hz]
  by_cases h : i < n
  · simp [madeCells, h, Nat.mod_one]
  · simp [madeCells, h]
theorem zeros_made {w : World} {g base n : Nat} {z : Value} {e : TypeId} (h : w.ownsRow base e 1 (.slice (some ⟨g, 0, none⟩) n n) n (List.replicate n z)) : Zeros w g n z e := by
  rcases h.2 with ⟨h1, _⟩ | ⟨g', cap, cur, h1, _, hh, _, _, hs, ht⟩
  · cases h1
  · cases h1
    have e : cur = (List.replicate n z).toArray := by
      apply Array.toList_inj.1
      have hn : n * 1 = cur.toList.length := by simpa using hs.symm
      rw [hn, List.take_length] at ht
      rw [ht]
    unfold Zeros
    rw [hh, e]
theorem wp_make_zeros {P : Program} {z : Value} {t e : TypeId} {by_ : Nat} (hz : z.cells = #[z]) (ht : P.underlying t = some (.slice e)) (hinfo : (P.info? e).map (fun i => (i.zero, i.size, i.bytes)) = some (some z, 1, by_)) (hby : by_ ≤ 24)
    {w : World} {o : Oper} {a : Act} {K : Act → World → Prop} {Q : Exit → Act → World → Prop} (l c : Operand) (hop : o.op = Op.makeSlice t l c) (n : Nat) (hl : a.eval l = .int .i64 n) (hc : a.eval c = .int .i64 n) (hn : n ≤ 1000000)
    (hK : ∀ w', Hid (Zeros w' w.heap.size n z e) → Hid (Turn (fun _ => False) w w') → K (a.put o.dst (.slice (some ⟨w.heap.size, 0, none⟩) n n)) w') : o.wp P a w K Q := by
  obtain ⟨i0, hi, hz0, hz1, hz2⟩ := info_parts hinfo
  have hb : i0.bytes * n ≤ 24 * 1000000 := Nat.mul_le_mul (by omega) hn
  obtain ⟨w', hrun, r1, r2⟩ := run_make_full (P := P) w w.heap.size t e i0 z 1 ht hi hz0 hz1 .i64 .i64 n (by omega) (by unfold maxLen; omega) (Nat.le_refl _)
  rw [made_zeros hz] at r1
  unfold Oper.wp
  simp [execOp, hop, hl, hc, hrun, Result.andThen]
  exact hK w' (zeros_made r1) ((Turn.refl _ _).grown r2 (by simp))
theorem wpList_make_zeros {P : Program} {z : Value} {t e : TypeId} {by_ : Nat} (hz : z.cells = #[z]) (ht : P.underlying t = some (.slice e)) (hinfo : (P.info? e).map (fun i => (i.zero, i.size, i.bytes)) = some (some z, 1, by_)) (hby : by_ ≤ 24)
    {w : World} {ops : Array Oper} {rest : List Oper} {o : Oper} {a : Act} {Q : Exit → Act → World → Prop} (hg : o.guard = none) (l c : Operand) (hop : o.op = Op.makeSlice t l c) (n : Nat) (hl : a.eval l = .int .i64 n) (hc : a.eval c = .int .i64 n) (hn : n ≤ 1000000)
    (hK : ∀ w', Hid (Zeros w' w.heap.size n z e) → Hid (Turn (fun _ => False) w w') → wpList P ops Q rest (a.put o.dst (.slice (some ⟨w.heap.size, 0, none⟩) n n)) w') : wpList P ops Q (o :: rest) a w :=
  wpList_plain hg fun _ hK' => wp_make_zeros hz ht hinfo hby l c hop n hl hc hn fun w' h1 h2 => hK' _ _ (hK w' h1 h2)
theorem step_make_zeros {P : Program} {z : Value} {t e : TypeId} {by_ : Nat} (hz : z.cells = #[z]) (ht : P.underlying t = some (.slice e)) (hinfo : (P.info? e).map (fun i => (i.zero, i.size, i.bytes)) = some (some z, 1, by_)) (hby : by_ ≤ 24)
    {w : World} {ops : Array Oper} {o : Oper} {a : Act} {K : Act → World → Prop} {Q : Exit → Act → World → Prop} {E : Prop} (hgd : o.guard = none) (l c : Operand) (hop : o.op = Op.makeSlice t l c) (n : Nat) (hl : a.eval l = .int .i64 n) (hc : a.eval c = .int .i64 n) (hn : n ≤ 1000000)
    (hK : ∀ w', Hid (Zeros w' w.heap.size n z e) → Hid (Turn (fun _ => False) w w') → K (a.put o.dst (.slice (some ⟨w.heap.size, 0, none⟩) n n)) w') :
    if Region.wanted o (yielded ops a.tmps) = true then Oper.wp P o a w K Q else E := by
  have hw : Region.wanted o (yielded ops a.tmps) = true := by simp [Region.wanted, hgd]
  rw [if_pos hw]
  exact wp_make_zeros hz ht hinfo hby l c hop n hl hc hn hK
theorem Zeros.turn {w w' : World} {S : Nat → Prop} {g n : Nat} {z : Value} {e : TypeId} (h : Zeros w g n z e) (t : Turn S w w') (hg : ¬ S g) : Zeros w' g n z e := t.heap hg h
theorem Zeros.lt {w : World} {g n : Nat} {z : Value} {e : TypeId} (h : Zeros w g n z e) : g < w.heap.size := (Array.getElem?_eq_some_iff.1 h).1
theorem Zeros.at_ {n i : Nat} {z : Value} (hi : i < n) : (List.replicate n z).toArray[i]? = some z := by simp [hi]

end Go.Proofs.Ytenbafkgfdlfpaa
