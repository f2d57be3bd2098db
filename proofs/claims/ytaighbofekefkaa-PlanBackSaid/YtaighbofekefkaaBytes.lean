/- Bytes that are written: a case's. The code's. -/
import Derived.Test.YtaighbofekefkaaRightW
import Derived.Test.YtaighbofekefkaaGSkip
import Derived.Test.YtaighbofekefkaaGAny
namespace Go.Proofs.Ytaighbofekefkaa
open Go.RowKit
set_option linter.unusedVariables false

/-- Bytes of the call's own. -/
def Own (w : World) (base : Nat) (v : Value) (out : List Int) : Prop := w.ownsRow base 5 1 v out.length (out.map (Value.int .u8))
section
variable {w w' : World} {base : Nat} {v : Value} {out : List Int}
theorem Own.new (h : Own w base v out) (t : Turn (fun _ => False) w w') : Own w' base v out := own_turn h t (fun _ _ => id)
theorem Own.slice (h : Own w base v out) : ∃ bo c, v = .slice bo out.length c ∧ out.length ≤ c := by
  obtain ⟨bo, c, e, h1, _⟩ := own_slice h
  exact ⟨bo, c, e, h1⟩
theorem Own.at {n : Nat} (h : Own w base v out) (hn : out.length = n) : w.ownsRow base 5 1 v n (out.map (Value.int .u8)) := hn ▸ h
theorem Own.of {n : Nat} {o : List Int} (h : w.ownsRow base 5 1 v n (o.map (Value.int .u8))) (e : o = out) : Own w base v out := by
  have hl := h.1
  subst e
  rw [List.length_map, Nat.mul_one] at hl
  subst hl
  exact h
theorem Own.lt (h : Own w base v out) : ∀ i, v.ownBlock = some i → base ≤ i ∧ i < w.heap.size := World.ownsRow.lt h
/-- A block of another type is kept where the bytes' block turns. -/
theorem Own.beside {b : Nat} {cur : Array Value} {e : TypeId} (h : Own w base v out) (hne : 5 ≠ e) (t : Turn (fun i => v.ownBlock = some i) w w') (hb : w.heap[b]? = some (.cells cur e (0, 0))) : w'.heap[b]? = some (.cells cur e (0, 0)) :=
  t.heap (fun hs => by
    obtain ⟨cur', hc⟩ := own_type h b hs
    rw [hb] at hc
    injection hc with hc
    injection hc with _ ht
    exact hne ht.symm) hb
end
/-- A row v of the call's own has grown to v'. -/
structure Grow (v : Value) (w : World) (v' : Value) (w' : World) : Prop where
  t : Turn (fun i => v.ownBlock = some i) w w'
  b : v'.ownBlock = v.ownBlock ∨ ∃ g, v'.ownBlock = some g ∧ w.heap.size ≤ g
theorem Grow.refl (v : Value) (w : World) : Grow v w v w := ⟨Turn.refl _ _, Or.inl rfl⟩
theorem Grow.trans {v v1 v2 : Value} {w w1 w2 : World} (h : Grow v w v1 w1) (k : Grow v1 w1 v2 w2) : Grow v w v2 w2 := by
  refine ⟨h.t.and k.t (fun i hi e => ?_), ?_⟩
  · rcases h.b with hb | ⟨g, hg, hb⟩
    · rw [← hb]; exact e
    · rw [hg] at e
      have := Option.some.inj e
      omega
  · have hs := h.t.size
    rcases k.b with kb | ⟨g, hg, kb⟩
    · rw [kb]; exact h.b
    · exact Or.inr ⟨g, hg, by omega⟩
theorem Grow.new {v v1 : Value} {w w1 w2 : World} (h : Grow v w v1 w1) (k : Turn (fun _ => False) w1 w2) : Grow v w v1 w2 := h.trans ⟨k.mono (fun _ _ h => h.elim), Or.inl rfl⟩
theorem Grow.of {v v1 : Value} {w w1 w2 : World} (k : Turn (fun _ => False) w w1) (h : Grow v w1 v1 w2) : Grow v w v1 w2 := (Grow.refl v w).new k |>.trans h
/-- Nothing that was ahead of the row has turned. -/
theorem Grow.kept {v v1 : Value} {w0 w w1 : World} (h : Grow v w v1 w1) (t : Turn (fun _ => False) w0 w) (hb : ∀ i, v.ownBlock = some i → w0.heap.size ≤ i) : Turn (fun _ => False) w0 w1 := t.and h.t (fun i hi e => by have := hb i e; omega)
/-- What a call that appends gives back. -/
def Adds (base : Nat) (v : Value) (out : List Int) (w : World) (e : Ending) (w' : World) : Prop := ∃ v', e = .returned v' ∧ Own w' base v' out ∧ Grow v w v' w'
theorem wrap_u8 {x : Int} (h : 0 ≤ x ∧ x ≤ 255) : IntKind.u8.wrap x = x := by
  unfold IntKind.wrap
  simp [IntKind.bits, IntKind.signed]
  omega
theorem rightC_in {x : Cas} (h : rightC x = true) : 0 ≤ x.ch ∧ x.ch ≤ 8 ∧ 0 ≤ x.v ∧ x.v ≤ 255 := by
  unfold rightC at h
  simp at h
  omega
theorem flagI_in (b : Bool) : 0 ≤ flagI b ∧ flagI b ≤ 1 := by cases b <;> simp [flagI]
/-- A case's cells in a block. -/
theorem at3_new (w : World) (a b c : Value) (e : TypeId) : (w.alloc (.cells #[a, b, c] e)).cell? ⟨w.heap.size, 0, none⟩ = some a ∧ (w.alloc (.cells #[a, b, c] e)).cell? ⟨w.heap.size, 1, none⟩ = some b ∧ (w.alloc (.cells #[a, b, c] e)).cell? ⟨w.heap.size, 2, none⟩ = some c := by
  have h := heap_alloc_new w (.cells #[a, b, c] e)
  refine ⟨?_, ?_, ?_⟩ <;> (unfold World.cell?; rw [h]; rfl)
theorem cells_of3 {w : World} {B : Nat} {a b c : Value} {e : TypeId} (h : w.heap[B]? = some (.cells #[a, b, c] e (0, 0))) : w.cell? ⟨B, 0, none⟩ = some a ∧ w.cell? ⟨B, 1, none⟩ = some b ∧ w.cell? ⟨B, 2, none⟩ = some c := by
  refine ⟨?_, ?_, ?_⟩ <;> (unfold World.cell?; rw [h]; rfl)
theorem two_ints {w : World} {b : Nat} {x y : Int} {e : TypeId} (h : w.heap[b]? = some (.cells #[.int .u8 x, .int .u8 y] e (0, 0))) : Ints .u8 w (some ⟨b, 0, none⟩) [x, y] := by
  intro j hj
  have hj2 : j = 0 ∨ j = 1 := by simp at hj; omega
  refine ⟨_, rfl, ?_⟩
  rw [Addr.add_lit]
  rcases hj2 with rfl | rfl <;> simp [World.cell?, h]

set_option maxRecDepth 100000 in
set_option maxHeartbeats 2000000 in
theorem appendcase_any {base n c : Nat} {bo : Option Addr} {out : List Int} (x : Cas) (w : World) (h : Own w base (.slice bo n c) out) (hn : out.length = n) (hx : rightC x = true) (hl : n ≤ 500000) (hb : base ≤ w.heap.size) :
    Calls Try.prog 40 #[.slice bo n c, x.val] w (Adds base (.slice bo n c) (out ++ encC x) w) := by
  obtain ⟨s, ch, v⟩ := x
  obtain ⟨h1, h2, h3, h4⟩ := rightC_in hx
  dsimp only at h1 h2 h3 h4
  have hw : IntKind.u8.wrap ch = ch := wrap_u8 (by omega)
  have hv : IntKind.u8.wrap v = v := wrap_u8 (by omega)
  have HW := Lib.hid h
  have HN := Lib.hid hn
  clear h hn hx
  unfold Cas.val
  dsimp only
  go_enter Try.func40, Try.ntmps40
  go_upto_region 1 with fail
  have C := heap_alloc_new w (.cells #[.bool s, .int .i64 ch, .int .i64 v] 45)
  have T0 := Lib.hid ((Turn.refl (fun _ => False) w).alloc (.cells #[.bool s, .int .i64 ch, .int .i64 v] 45))
  have S0 : w.heap.size < (w.alloc (.cells #[.bool s, .int .i64 ch, .int .i64 v] 45)).heap.size := by simp
  obtain ⟨BB, hBB⟩ : ∃ b, w.heap.size = b := ⟨_, rfl⟩
  rw [hBB] at C S0 ⊢
  generalize w.alloc (.cells #[.bool s, .int .i64 ch, .int .i64 v] 45) = w1 at C T0 S0 ⊢
  have TD := Lib.hid (Turn.refl (fun _ => False) w1).drew
  have KEEP := Lib.hid (show ∀ w', Turn (fun _ => False) w1 w' → (w'.cell? ⟨BB, 0, none⟩ = some (.bool s) ∧ w'.cell? ⟨BB, 1, none⟩ = some (.int .i64 ch)) from fun w' t => ⟨(cells_of3 (t.heap id C)).1, (cells_of3 (t.heap id C)).2.1⟩)
  have HC := Lib.hid C
  clear C
  refine stand_start (by kernel_rfl) 8 (fun w' => w'.cell? ⟨BB, 0, none⟩ = some (.bool s) ∧ w'.cell? ⟨BB, 1, none⟩ = some (.int .i64 ch)) 99 (fun w' => True) (KEEP.out _ TD.out) trivial ?_
  refine stand_take (i := 0) (v := ?_) rfl (by kernel_rfl) (by kernel_rfl) (by kernel_rfl) (by rfl) (fun _ _ _ h => h) (by decide) (by decide) (by rfl) ?_ ?_
  rotate_left
  · (intro w; go_simp; try with_reducible rfl)
  dsimp only [List.set_cons_zero, List.set_cons_succ]
  refine stand_take (i := 1) (v := ?_) rfl (by kernel_rfl) (by kernel_rfl) (by kernel_rfl) (by rfl) (fun _ _ _ h => h) (by decide) (by decide) (by rfl) ?_ ?_
  rotate_left
  · (intro w; go_simp; try with_reducible rfl)
  dsimp only [List.set_cons_zero, List.set_cons_succ]
  refine stand_load1 (i := 2) (v := ?_) rfl (by kernel_rfl) (by kernel_rfl) (by kernel_rfl) (by rfl) (fun _ _ _ h => h) (by decide) (by decide) (by kernel_rfl) (by rfl) ?_ ?_
  rotate_left
  · (intro w hA; (try dsimp only at hA); go_simp; try with_reducible rfl)
  dsimp only [List.set_cons_zero, List.set_cons_succ]
  refine stand_take (i := 4) (v := ?_) rfl (by kernel_rfl) (by kernel_rfl) (by kernel_rfl) (by rfl) (fun _ _ _ h => h) (by decide) (by decide) (by rfl) ?_ ?_
  rotate_left
  · (intro w; go_simp; try with_reducible rfl)
  dsimp only [List.set_cons_zero, List.set_cons_succ]
  refine stand_load1 (i := 5) (v := ?_) rfl (by kernel_rfl) (by kernel_rfl) (by kernel_rfl) (by rfl) (fun _ _ _ h => h) (by decide) (by decide) (by kernel_rfl) (by rfl) ?_ ?_
  rotate_left
  · (intro w hA; (try dsimp only at hA); go_simp; try with_reducible rfl)
  dsimp only [List.set_cons_zero, List.set_cons_succ]
  refine stand_take (i := 6) (v := ?_) rfl (by kernel_rfl) (by kernel_rfl) (by kernel_rfl) (by rfl) (fun _ _ _ h => h) (by decide) (by decide) (by rfl) ?_ ?_
  rotate_left
  · (intro w; go_simp; try with_reducible rfl)
  dsimp only [List.set_cons_zero, List.set_cons_succ]
  refine stand_step (i := 3) (by kernel_rfl) rfl (fun K hK => ?_)
  go_simp
  refine (odd_any _ _).mono ?_
  rintro e w4 ⟨rfl, rfl⟩
  refine hK.out _ _ (fun _ => KEEP.out _ TD.out) (fun _ => trivial) ?_
  clear hK K
  try simp only [put_laid, List.set_cons_zero, List.set_cons_succ]
  refine stand_step (i := 7) (by kernel_rfl) rfl (fun K hK => ?_)
  go_simp
  have TE := Lib.hid (((Turn.refl (fun _ => False) w1).alloc (.cells #[.int .u8 (flagI s), .int .u8 ch] 5)).drew)
  refine hK.out _ _ (fun _ => KEEP.out _ TE.out) (fun _ => trivial) ?_
  clear hK K
  try simp only [put_laid, List.set_cons_zero, List.set_cons_succ]
  have HB2 := Lib.hid (two_ints (show (w1.alloc (.cells #[.int .u8 (flagI s), .int .u8 ch] 5)).drew.heap[w1.heap.size]? = _ from heap_alloc_new w1 (.cells #[.int .u8 (flagI s), .int .u8 ch] 5)))
  have O2 := Lib.hid (HW.out.new (T0.out.trans TE.out))
  have HC2 := Lib.hid (TE.out.heap id HC.out)
  generalize (w1.alloc (.cells #[.int .u8 (flagI s), .int .u8 ch] 5)).drew = w2 at TE HB2 O2 HC2 ⊢
  have T2 := Lib.hid (T0.out.trans TE.out)
  refine stand_step (i := 8) (by kernel_rfl) rfl (fun K hK => ?_)
  refine step_append_ints Try.underlying22 info_u8 (by decide) rfl (.tmp 5) (.tmp 12) rfl base (.slice bo n c) out n rfl (O2.out.at HN.out) ⟨_, 0, none⟩ [flagI s, ch] 2 2 rfl rfl HB2.out (by omega) (Nat.le_trans hb T2.out.size) ?_
  intro v3 w3 h3 t3 b3
  have C3 := Lib.hid (O2.out.beside (by decide) t3.out HC2.out)
  have O3 := Lib.hid (Own.of h3.out rfl)
  have G3 := Lib.hid (Grow.of T2.out (Grow.mk t3.out (b3.out.imp id (fun e => ⟨_, e, Nat.le_refl _⟩))))
  refine hK.out _ _ (past (by kernel_rfl)) (fun _ => trivial) ?_
  clear hK K
  try simp only [put_laid, List.set_cons_zero, List.set_cons_succ]
  clear h3 t3 b3
  refine stand_take (i := 9) (v := ?_) rfl (by kernel_rfl) (by kernel_rfl) (by kernel_rfl) (by rfl) (fun _ _ _ h => h) (by decide) (by decide) (by rfl) ?_ ?_
  rotate_left
  · (intro w; go_simp; try with_reducible rfl)
  dsimp only [List.set_cons_zero, List.set_cons_succ]
  refine stand_done (by kernel_rfl) ?_
  obtain ⟨c0, c1, c2⟩ := cells_of3 C3.out
  cases s
  · go_wp2_with fail
    go_ret
    exact ⟨_, rfl, O3.out, G3.out⟩
  · obtain ⟨m, hm⟩ : ∃ m, (out ++ [flagI true, ch]).length = m := ⟨_, rfl⟩
    obtain ⟨m1, hm1⟩ : ∃ m1, m + 1 = m1 := ⟨_, rfl⟩
    have hml : m = n + 2 := by rw [← hm, List.length_append, HN.out]; rfl
    have HM := Lib.hid hm
    have HM1 := Lib.hid hm1
    have hmx : m ≤ 600000 := by omega
    clear hm hm1 hml
    go_wp2_with (at_builtin; refine wpList_append_one_n Try.underlying22 info_u8 (by decide) rfl (.tmp 16) (.tmp 20) rfl base v3 (out ++ [flagI true, ch]) m v rfl (O3.out.at HM.out) m1 HM1.out rfl (by omega) (Nat.le_trans hb G3.out.t.size) ?_; intro g c' w5 hg h5 t5 b5)
    go_ret
    exact ⟨_, rfl, Own.of h5.out (by simp [encC, flagI]), G3.out.trans ⟨t5.out, b5.out.elim (fun e => Or.inl e.symm) (fun e => Or.inr ⟨g, rfl, e⟩)⟩⟩

end Go.Proofs.Ytaighbofekefkaa
