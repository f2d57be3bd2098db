/- The code's Parse. -/
import Derived.Test.YtfghabjpcjcllaaDoorCParse
namespace Go.Proofs.YtfghabjpcjcllaaDoor
open Go.RowKit Go.Shelf
set_option linter.unusedVariables false
attribute [local go_sem] Oper.semAt_some

/-- A plan, and the number of a line, are answered. -/
def GivesL (w : World) (r : List (List Opr) × Nat) (e : Ending) (w' : World) : Prop := Turn (fun _ => False) w w' ∧ ∃ sl : Sl, e = .returned (.tuple #[sl.val, .int .i64 r.2]) ∧ RPlan w' sl r.1
theorem gives_l {w w' : World} {r : List (List Opr) × Nat} {sl : Sl} {n : Nat} (h1 : Turn (fun _ => False) w w') (h2 : r.2 = n) (h3 : RPlan w' sl r.1) : GivesL w r (.returned (.tuple #[sl.val, .int .i64 n])) w' := ⟨h1, sl, by rw [h2], h3⟩
theorem rplan_nil (w : World) : RPlan w ⟨none, 0, 0⟩ [] := (GPlan.nil w 40 25 41 0).reads

/-- Between two rounds: the two results' cells, the plan; what was ahead of the call lies as it lay. -/
structure Mid2 (w : World) (z2 z3 : Nat) (W : World) (sv : Value) (k : Nat) : Prop where
  c2 : W.heap[z2]? = some (.cells #[sv] 22 (0, 0))
  c3 : W.heap[z3]? = some (.cells #[.int .i64 k] 3 (0, 0))
  below : Below w.heap.size w W
def BetweenL (w : World) (z2 z3 base : Nat) (pre : List LineA) (W : World) : Prop := ∃ (p : List (List Opr)) (sl : Sl) (V : List Sl), Ran (unA pre) p ∧ PG W 40 25 41 base sl V p ∧ Mid2 w z2 z3 W sl.val pre.length ∧ base ≤ W.heap.size
def LeftL (w : World) (z2 z3 : Nat) (c : Code) (pre : List LineA) (W : World) : Prop := c = .ret ∧ (∀ rest, parseC (unA pre ++ rest) 0 [] = ([], pre.length)) ∧ Mid2 w z2 z3 W (.slice none 0 0) pre.length

theorem Mid2.aside {w W W' : World} {z2 z3 k : Nat} {sv : Value} {S : Nat → Prop} (h : Mid2 w z2 z3 W sv k) (t : Turn S W W') (hS : ∀ b, S b → w.heap.size ≤ b ∧ ∃ o : Obj, W.heap[b]? = some o ∧ ∀ cs t f, o ≠ .cells cs t f) : Mid2 w z2 z3 W' sv k := by
  have no : ∀ {b : Nat} {cs : Array Value} {t : TypeId} {f : Nat × Nat}, W.heap[b]? = some (.cells cs t f) → ¬ S b := fun hb h => by
    obtain ⟨_, o, ho, hc⟩ := hS _ h
    rw [hb] at ho
    cases ho
    exact hc _ _ _ rfl
  exact ⟨t.heap (no h.c2) h.c2, t.heap (no h.c3) h.c3, h.below.trans (t.below (by have := h.below.size; omega) (fun i hi e => by have := (hS i e).1; omega))⟩
theorem grown_turn {W W' : World} {row : Option Nat} (h : W.grownBy W' row) : Turn (fun b => row = some b) W W' := (Turn.refl _ W).grown h (fun k e => .inl e)
theorem own_between (w : World) (z2 z3 base B : Nat) (hB : w.heap.size ≤ B) : OwnFrom B (BetweenL w z2 z3 base) := fun pre A A' row hs hg hr => by
  obtain ⟨p, sl, V, h1, h2, h3, h4⟩ := hs
  have t := grown_turn hg
  have nc : ∀ b, row = some b → ∃ o : Obj, A.heap[b]? = some o ∧ ∀ cs t f, o ≠ .cells cs t f := fun b hb => by
    obtain ⟨_, o, ho, hc⟩ := hr b hb
    exact ⟨o, ho, fun cs t f e => by subst e; simp [Obj.isCells] at hc⟩
  exact ⟨p, sl, V, h1, h2.aside t nc, h3.aside t (fun b hb => ⟨Nat.le_trans hB (hr b hb).1, nc b hb⟩), Nat.le_trans h4 t.size⟩
theorem own_left (w : World) (z2 z3 B : Nat) (hB : w.heap.size ≤ B) (c : Code) : OwnFrom B (LeftL w z2 z3 c) := fun pre A A' row hs hg hr => by
  obtain ⟨h1, h2, h3⟩ := hs
  have t := grown_turn hg
  have nc : ∀ b, row = some b → ∃ o : Obj, A.heap[b]? = some o ∧ ∀ cs t f, o ≠ .cells cs t f := fun b hb => by
    obtain ⟨_, o, ho, hc⟩ := hr b hb
    exact ⟨o, ho, fun cs t f e => by subst e; simp [Obj.isCells] at hc⟩
  exact ⟨h1, h2, h3.aside t (fun b hb => ⟨Nat.le_trans hB (hr b hb).1, nc b hb⟩)⟩

set_option maxRecDepth 100000 in
set_option maxHeartbeats 4000000 in
theorem parse_code (s : Tx) (w : World) (hl : s.length ≤ 100000) (hG : Gl w) : Calls Tryd.prog 14 #[.string (bs s)] w (GivesL w (parseT s)) := by
  obtain ⟨eb, heb⟩ : ∃ b, decide (s = []) = b := ⟨_, rfl⟩
  have hq := lit_text s [] heb
  cases eb
  case true =>
    have hs : s = [] := of_decide_eq_true heb
    subst hs
    have hp : parseT [] = ([], 1) := rfl
    rw [hp]
    obtain ⟨S, hS⟩ : ∃ x, bs [] = x := ⟨_, rfl⟩
    rw [hS] at hq ⊢
    clear hS heb hl
    go_enter Tryd.func14, Tryd.ntmps14
    have c2 : ((w.alloc (.cells #[.slice none 0 0] 22)).alloc (.cells #[.int .i64 0] 3)).heap[w.heap.size]? = some (.cells #[.slice none 0 0] 22 (0, 0)) := ((Turn.refl (fun _ => False) (w.alloc (.cells #[.slice none 0 0] 22))).alloc _).heap id (heap_alloc_new w _)
    have c3 : ((w.alloc (.cells #[.slice none 0 0] 22)).alloc (.cells #[.int .i64 0] 3)).heap[w.heap.size + 1]? = some (.cells #[.int .i64 0] 3 (0, 0)) := by
      have := heap_alloc_new (w.alloc (.cells #[.slice none 0 0] 22)) (.cells #[.int .i64 0] 3)
      rwa [show (w.alloc (.cells #[.slice none 0 0] 22)).heap.size = w.heap.size + 1 by simp] at this
    have T0 := Lib.hid (((Turn.refl (fun _ => False) w).alloc (.cells #[.slice none 0 0] 22)).alloc (.cells #[.int .i64 0] 3))
    go_upto_region 1 with fail
    generalize (w.alloc (.cells #[.slice none 0 0] 22)).alloc (.cells #[.int .i64 0] 3) = w1 at c2 c3 T0 ⊢
    obtain ⟨z2, hz2⟩ : ∃ b, w.heap.size = b := ⟨_, rfl⟩
    obtain ⟨z3, hz3⟩ : ∃ b, w.heap.size + 1 = b := ⟨_, rfl⟩
    rw [hz3] at c3 ⊢
    rw [hz2] at c2 ⊢
    have B2 : Hid (Blk w1 z2 22 [.slice none 0 0]) := Lib.hid c2
    have B3 : Hid (Blk w1 z3 3 [.int .i64 0]) := Lib.hid c3
    have HZ := Lib.hid (And.intro hz2 hz3)
    clear c2 c3 hz2 hz3
    have c2 := B2.out.c 0 rfl
    have c3 := B3.out.c 0 rfl
    have f2 := B2.out.fr 0
    have f3 := B3.out.fr 0
    have f3' : (w1.setCell ⟨z2, 0, none⟩ (.slice none 0 0)).frozen? ⟨z3, 0, none⟩ = false := by rw [World.frozen?_setCell]; exact f3
    have c3' : (w1.setCell ⟨z2, 0, none⟩ (.slice none 0 0)).cell? ⟨z3, 0, none⟩ = some (.int .i64 0) := (B3.out.far (p := ⟨z2, 0, none⟩) (by have := HZ.out; show z3 ≠ z2; omega) _).c 0 rfl
    go_wp2_with fail
    have BB2 := Lib.hid (((B2.out.set 0 (.slice none 0 0)).far (p := ⟨z3, 0, none⟩) (by have := HZ.out; show z2 ≠ z3; omega) (.int .i64 1)))
    have BB3 := Lib.hid ((B3.out.far (p := ⟨z2, 0, none⟩) (by have := HZ.out; show z3 ≠ z2; omega) (.slice none 0 0)).set 0 (.int .i64 1))
    have TF := Lib.hid ((T0.out.setCell (p := ⟨z2, 0, none⟩) (Or.inr (by have := HZ.out; show w.heap.size ≤ z2; omega)) (.slice none 0 0)).setCell (p := ⟨z3, 0, none⟩) (Or.inr (by have := HZ.out; show w.heap.size ≤ z3; omega)) (.int .i64 1))
    clear c2 c3 f2 f3 f3' c3'
    generalize (w1.setCell ⟨z2, 0, none⟩ (.slice none 0 0)).setCell ⟨z3, 0, none⟩ (.int .i64 1) = wf at BB2 BB3 TF ⊢
    have k2 := BB2.out.c 0 rfl
    have k3 := BB3.out.c 0 rfl
    refine bodyPost_ret (v := .tuple #[.slice none 0 0, .int .i64 1]) (by simp [results, Tryd.results14, go_sem, k2, k3]) rfl (gives_l (sl := ⟨none, 0, 0⟩) (n := 1) TF.out rfl (rplan_nil wf))
  have hne : s ≠ [] := of_decide_eq_false heb
  have hml := marks_len s
  have hms := marks_short (s := s)
  have CL := Lib.hid (fun w => lines_any s w)
  obtain ⟨S, hS⟩ : ∃ x, bs s = x := ⟨_, rfl⟩
  rw [hS] at hq CL ⊢
  have HS := Lib.hid hS
  rw [parseT_marks hne]
  have hc2 : (((w.alloc (.cells #[.slice none 0 0] 22)).alloc (.cells #[.int .i64 0] 3)).alloc (.cells #[.string S] 9)).heap[w.heap.size]? = some (.cells #[.slice none 0 0] 22 (0, 0)) := (((Turn.refl (fun _ => False) (w.alloc (.cells #[.slice none 0 0] 22))).alloc _).alloc _).heap id (heap_alloc_new w _)
  have hc3 : (((w.alloc (.cells #[.slice none 0 0] 22)).alloc (.cells #[.int .i64 0] 3)).alloc (.cells #[.string S] 9)).heap[w.heap.size + 1]? = some (.cells #[.int .i64 0] 3 (0, 0)) := by
    have := heap_alloc_new (w.alloc (.cells #[.slice none 0 0] 22)) (.cells #[.int .i64 0] 3)
    rw [show (w.alloc (.cells #[.slice none 0 0] 22)).heap.size = w.heap.size + 1 by simp] at this
    exact ((Turn.refl (fun _ => False) _).alloc _).heap id this
  have hc4 : (((w.alloc (.cells #[.slice none 0 0] 22)).alloc (.cells #[.int .i64 0] 3)).alloc (.cells #[.string S] 9)).heap[w.heap.size + 1 + 1]? = some (.cells #[.string S] 9 (0, 0)) := by
    have := heap_alloc_new ((w.alloc (.cells #[.slice none 0 0] 22)).alloc (.cells #[.int .i64 0] 3)) (.cells #[.string S] 9)
    rwa [show ((w.alloc (.cells #[.slice none 0 0] 22)).alloc (.cells #[.int .i64 0] 3)).heap.size = w.heap.size + 1 + 1 by simp] at this
  have T0 := Lib.hid ((((Turn.refl (fun _ => False) w).alloc (.cells #[.slice none 0 0] 22)).alloc (.cells #[.int .i64 0] 3)).alloc (.cells #[.string S] 9))
  have hsz : (((w.alloc (.cells #[.slice none 0 0] 22)).alloc (.cells #[.int .i64 0] 3)).alloc (.cells #[.string S] 9)).heap.size = w.heap.size + 3 := by simp
  refine (callsIn_wide (n := 3)).1 ?_
  refine callsIn_of_wp_marks Tryd.func14 rfl trivial ?_ rfl
  simp only [Tryd.ntmps14, List.size_toArray, List.length_cons, List.length_nil, Nat.reduceAdd, Nat.reduceSub, Array.replicate_succ, Array.replicate_zero, List.push_toArray, List.append_toArray, List.nil_append, List.cons_append]
  gi_wp2_with fail
  refine ⟨trivial, ?_⟩
  refine (callsIn_wide.2 (CL.out _)).mono ?_
  rintro e w1 ⟨rfl, rfl⟩
  gi_wp2_with fail
  generalize ((w.alloc (.cells #[.slice none 0 0] 22)).alloc (.cells #[.int .i64 0] 3)).alloc (.cells #[.string S] 9) = w1 at hc2 hc3 hc4 T0 hsz ⊢
  obtain ⟨z2, hz2⟩ : ∃ b, w.heap.size = b := ⟨_, rfl⟩
  obtain ⟨z3, hz3⟩ : ∃ b, w.heap.size + 1 = b := ⟨_, rfl⟩
  obtain ⟨b1, hb1⟩ : ∃ b, w.heap.size + 1 + 1 = b := ⟨_, rfl⟩
  rw [hb1] at hc4 ⊢
  rw [hz3] at hc3 ⊢
  have hsz' : w1.heap.size = z2 + 3 := by omega
  rw [hz2] at hc2 ⊢
  have HZ : Hid (w.heap.size = z2 ∧ z3 = z2 + 1 ∧ b1 = z2 + 2) := Lib.hid ⟨hz2, by omega, by omega⟩
  have c4 : w1.cell? ⟨b1, 0, none⟩ = some (.string (bs s)) := by rw [hS]; exact (show Blk w1 b1 9 [.string S] from hc4).c 0 rfl
  have hbel : Below w.heap.size w w1 := T0.out.below (Nat.le_refl _) (fun _ _ => id)
  clear hz2 hz3 hb1
  have h0 : BetweenL w z2 z3 (z2 + 3) [] w1 := ⟨[], ⟨none, 0, 0⟩, [], Ran.nil, PG.nil w1 40 25 41 (z2 + 3), ⟨hc2, hc3, hbel⟩, by omega⟩
  refine wpIn_rangeFunc_ownF rfl (by decide) (gf := 48) (lb := #[.pointer (some ⟨b1, 0, none⟩)]) rfl trivial (enters_of Tryd.func48 (by kernel_rfl) rfl)
    (lines_stops 2 s b1 w.heap.size w w1 hl hG rfl hbel hbel.size (by have := HZ.out; omega) c4) belowK_t (belowK_b hbel.size) (Below.refl _ _) (fun _ => rfl)
    (BetweenL w z2 z3 (z2 + 3)) (LeftL w z2 z3) (own_between w z2 z3 (z2 + 3) _ hbel.size) (own_left w z2 z3 _ hbel.size) h0
    (fun x => { tmps := #[.string S, undef, .pointer (some ⟨z2, 0, none⟩), .pointer (some ⟨z3, 0, none⟩), .string (bs x.1.1), .bool x.1.2, undef, .string S, .bool false, .string S, .func (.func 48) #[] #[.pointer (some ⟨b1, 0, none⟩)], .string (bs x.1.1), .bool x.1.2, undef, undef, undef, undef, undef, undef, undef, undef, undef, undef, undef, undef, undef, undef, undef, undef], defers := [] }) ?assign ?body ?done ?stop
  case assign =>
    intro l x W K hK
    unfold encM
    gi_wp2
    exact hK
  case body =>
    rintro l pre ⟨⟨x, e⟩, hxl⟩ W ⟨p, sl, V, hr, hg, hm, hbs⟩ hlen
    dsimp only at hxl ⊢
    obtain ⟨cs, hcs⟩ : ∃ n, pre.length = n := ⟨_, rfl⟩
    rw [hcs] at hm hlen
    have hcn : cs ≤ 100001 := by omega
    obtain ⟨k1, hk1⟩ : ∃ n, cs + 1 = n := ⟨_, rfl⟩
    have hkI : (cs : Int) + 1 = (k1 : Int) := by omega
    obtain ⟨S1, hS1⟩ : ∃ y, bs x = y := ⟨_, rfl⟩
    have B2 : Hid (Blk W z2 22 [sl.val]) := Lib.hid hm.c2
    have B3 : Hid (Blk W z3 3 [.int .i64 cs]) := Lib.hid hm.c3
    have BEL := Lib.hid hm.below
    have HR := Lib.hid hr
    have HCS := Lib.hid (And.intro hcs hk1)
    have c2 := B2.out.c 0 rfl
    have c3 := B3.out.c 0 rfl
    have f3 := B3.out.fr 0
    have hne23 : z2 ≠ z3 := by have := HZ.out; omega
    have BB2 := Lib.hid (B2.out.far (p := ⟨z3, 0, none⟩) hne23 (.int .i64 k1))
    have BB3 := Lib.hid (B3.out.set 0 (.int .i64 k1))
    have c2' : (W.setCell ⟨z3, 0, none⟩ (.int .i64 k1)).cell? ⟨z2, 0, none⟩ = some sl.val := BB2.out.c 0 rfl
    have TS := Lib.hid (set_turn W z3 0 (.int .i64 k1))
    have notz : ∀ b, b = z3 → ∃ cur e', e' ≠ 40 ∧ e' ≠ 25 ∧ e' ≠ 41 ∧ W.heap[b]? = some (.cells cur e' (0, 0)) := fun b hb => by
      subst hb
      exact ⟨_, 3, by decide, by decide, by decide, B3.out⟩
    have G1 := Lib.hid (hg.keep TS.out (fun b _ hb => by obtain ⟨cur, e', h1, h2, h3, h4⟩ := notz b hb; exact ⟨cur, e', h1, h4⟩) (fun b _ hb => by obtain ⟨cur, e', h1, h2, h3, h4⟩ := notz b hb; exact ⟨cur, e', h2, h4⟩) (fun b _ hb => by obtain ⟨cur, e', h1, h2, h3, h4⟩ := notz b hb; exact ⟨cur, e', h3, h4⟩))
    have BEL1 : Hid (Below w.heap.size w (W.setCell ⟨z3, 0, none⟩ (.int .i64 k1))) := Lib.hid (BEL.out.setCell (p := ⟨z3, 0, none⟩) (by have := HZ.out; show w.heap.size ≤ z3; omega) _)
    have CA := Lib.hid (add_line (z2 + 3) sl V p x _ G1.out HR.out.len HR.out.rows (by rw [World.size_setCell]; exact hbs) hxl (hG.new (turn_of_below BEL1.out)))
    rw [hS1] at CA ⊢
    have K1 := Lib.hid (KeepsOthers.setCell W ⟨z3, 0, none⟩ (.int .i64 k1))
    have KB1 : Hid (Below w.heap.size W (W.setCell ⟨z3, 0, none⟩ (.int .i64 k1))) := Lib.hid ((Below.refl w.heap.size W).setCell (p := ⟨z3, 0, none⟩) (by have := HZ.out; show w.heap.size ≤ z3; omega) _)
    have hbs1 : z2 + 3 ≤ (W.setCell ⟨z3, 0, none⟩ (.int .i64 k1)).heap.size := by rw [World.size_setCell]; exact hbs
    clear hr hg hm hcs hk1 hS1 notz TS c2
    gi_wp2_with fail
    generalize W.setCell ⟨z3, 0, none⟩ (.int .i64 k1) = w2 at BB2 BB3 c2' G1 BEL1 CA K1 KB1 hbs1 ⊢
    refine ⟨trivial, ?_⟩
    refine (CallsIn.inRound l (callsIn_wide.2 CA.out)).mono ?_
    rintro e' w3 ⟨t3, ⟨sao, slen, scap⟩, V', q, ok, rfl, hok, hno⟩
    have hsv : (⟨sao, slen, scap⟩ : Sl).val = .slice sao slen scap := rfl
    rw [hsv]
    have hz : ∀ b, Mine sl V b → z2 + 3 ≤ b := fun b hb => (G1.out.mine hb).1
    have hz2n : ¬ Mine sl V z2 := fun h => by have := hz _ h; omega
    have hz3n : ¬ Mine sl V z3 := fun h => by have := hz _ h; have := HZ.out; omega
    have D2 : Hid (Blk w3 z2 22 [sl.val]) := Lib.hid (BB2.out.turn t3 hz2n)
    have D3 : Hid (Blk w3 z3 3 [.int .i64 k1]) := Lib.hid (Blk.turn BB3.out t3 hz3n)
    have BEL3 : Hid (Below w.heap.size w w3) := Lib.hid (BEL1.out.trans (t3.below (by have := HZ.out; omega) (fun b hb h => by have := hz b h; have := HZ.out; omega)))
    have KB3 : Hid (Below w.heap.size W w3) := Lib.hid (KB1.out.trans (t3.below (by have := HZ.out; omega) (fun b hb h => by have := hz b h; have := HZ.out; omega)))
    have K3 : Hid (KeepsOthers W w3) := Lib.hid (K1.out.trans (keeps_of_turn t3 (fun b hb => (G1.out.mine hb).2)))
    have hbs3 : z2 + 3 ≤ w3.heap.size := Nat.le_trans hbs1 t3.size
    have HOK := Lib.hid hok
    have HNO := Lib.hid hno
    clear t3 hok hno hz hz2n hz3n c2' c3 f3 B2 B3 BB2 BB3 G1 BEL BEL1 CA K1 KB1 hbs hbs1
    have c2 := D2.out.c 0 rfl
    have f2 := D2.out.fr 0
    have D2s := Lib.hid (D2.out.set 0 (.slice sao slen scap))
    have D3s := Lib.hid (D3.out.far (p := ⟨z2, 0, none⟩) hne23.symm (.slice sao slen scap))
    have BEL4 : Hid (Below w.heap.size w (w3.setCell ⟨z2, 0, none⟩ (.slice sao slen scap))) := Lib.hid (BEL3.out.setCell (p := ⟨z2, 0, none⟩) (by have := HZ.out; show w.heap.size ≤ z2; omega) _)
    have KB4 : Hid (Below w.heap.size W (w3.setCell ⟨z2, 0, none⟩ (.slice sao slen scap))) := Lib.hid (KB3.out.setCell (p := ⟨z2, 0, none⟩) (by have := HZ.out; show w.heap.size ≤ z2; omega) _)
    have K4 := Lib.hid (K3.out.trans (KeepsOthers.setCell w3 ⟨z2, 0, none⟩ (.slice sao slen scap)))
    have hbs4 : z2 + 3 ≤ (w3.setCell ⟨z2, 0, none⟩ (.slice sao slen scap)).heap.size := by rw [World.size_setCell]; exact hbs3
    have notz : ∀ b, b = z2 → ∃ cur e', e' ≠ 40 ∧ e' ≠ 25 ∧ e' ≠ 41 ∧ w3.heap[b]? = some (.cells cur e' (0, 0)) := fun b hb => by
      subst hb
      exact ⟨_, 22, by decide, by decide, by decide, D2.out⟩
    have TS := Lib.hid (set_turn w3 z2 0 (.slice sao slen scap))
    have G4 : Hid (ok = true → addV p x = some q ∧ PG (w3.setCell ⟨z2, 0, none⟩ (.slice sao slen scap)) 40 25 41 (z2 + 3) ⟨sao, slen, scap⟩ V' q) := Lib.hid fun h => ⟨(HOK.out h).1, (HOK.out h).2.keep TS.out (fun b _ hb => by obtain ⟨cur, e', h1, h2, h3, h4⟩ := notz b hb; exact ⟨cur, e', h1, h4⟩) (fun b _ hb => by obtain ⟨cur, e', h1, h2, h3, h4⟩ := notz b hb; exact ⟨cur, e', h2, h4⟩) (fun b _ hb => by obtain ⟨cur, e', h1, h2, h3, h4⟩ := notz b hb; exact ⟨cur, e', h3, h4⟩)⟩
    clear notz TS hbs3
    have HLEN := Lib.hid (show (pre ++ [(⟨(x, e), hxl⟩ : LineA)]).length = k1 by rw [List.length_append, List.length_singleton, HCS.out.1, HCS.out.2])
    have D2s : Hid (Blk (w3.setCell ⟨z2, 0, none⟩ (.slice sao slen scap)) z2 22 [.slice sao slen scap]) := D2s
    cases ok
    · gi_wp2_with fail
      generalize w3.setCell ⟨z2, 0, none⟩ (.slice sao slen scap) = w4 at D2s D3s BEL4 KB4 K4 hbs4 G4 ⊢
      have TD := (Turn.refl (fun _ => False) w4).drew
      have E2 := Lib.hid (D2s.out.new TD)
      have E3 := Lib.hid (D3s.out.new TD)
      have d3 := E3.out.c 0 rfl
      have d2 := E2.out.c 0 rfl
      have e2 := E2.out.fr 0
      have e3 := E3.out.fr 0
      have e3' : (w4.drew.setCell ⟨z2, 0, none⟩ (.slice none 0 0)).frozen? ⟨z3, 0, none⟩ = false := by rw [World.frozen?_setCell]; exact e3
      have d3' : (w4.drew.setCell ⟨z2, 0, none⟩ (.slice none 0 0)).cell? ⟨z3, 0, none⟩ = some (.int .i64 k1) := (E3.out.far (p := ⟨z2, 0, none⟩) hne23.symm _).c 0 rfl
      have HFIN : Hid (KeepsOthers W ((w4.drew.setCell ⟨z2, 0, none⟩ (.slice none 0 0)).setCell ⟨z3, 0, none⟩ (.int .i64 k1)) ∧ LeftL w z2 z3 .ret (pre ++ [(⟨(x, e), hxl⟩ : LineA)]) ((w4.drew.setCell ⟨z2, 0, none⟩ (.slice none 0 0)).setCell ⟨z3, 0, none⟩ (.int .i64 k1))) := Lib.hid (by
        refine ⟨((K4.out.trans (show KeepsOthers w4 w4.drew from ⟨Nat.le_refl _, fun _ _ h _ => h⟩)).trans (KeepsOthers.setCell _ _ _)).trans (KeepsOthers.setCell _ _ _), rfl, fun rest => ?_, ⟨(E2.out.set 0 (.slice none 0 0)).far (p := ⟨z3, 0, none⟩) hne23 _, ?_, ((BEL4.out.trans (TD.below (by have := hbel.size; omega) (fun _ _ => id))).setCell (p := ⟨z2, 0, none⟩) (by have := HZ.out; show w.heap.size ≤ z2; omega) _).setCell (p := ⟨z3, 0, none⟩) (by have := HZ.out; show w.heap.size ≤ z3; omega) _⟩⟩
        · have hf := HR.out.fail (l := x) (e := e) (by first | exact Or.inl (HNO.out trivial) | exact Or.inl (HNO.out rfl) | exact Or.inr rfl) rest
          rw [unA_snoc, hf]
          simp [unA_len]
        · rw [HLEN.out]
          exact (E3.out.far (p := ⟨z2, 0, none⟩) hne23.symm (.slice none 0 0)).set 0 (.int .i64 k1))
      clear D2s D3s BEL4 KB4 hbs4 G4 c2 f2 D2 D3 BEL3 KB3 K3 HOK HNO
      refine wpIn_region_any (by kernel_rfl) ?_
      change wpAnyIn _ _ _ _ _ _ _ _ _ (World.drew _)
      generalize w4.drew = wd at HFIN d2 d3 e2 e3 e3' d3' ⊢
      refine wpAnyIn_ready (rs := [0, 1]) (by kernel_rfl) (by simp) ?_
      refine AllReadyIn.cons rfl (fun K hK => ?_) (AllReadyIn.cons rfl (fun K hK => ?_) AllReadyIn.nil)
      · go_simp
        refine hK _ _ ?_
        clear hK K
        refine wpAnyIn_ready (rs := [1]) (by kernel_rfl) (by simp) ?_
        refine AllReadyIn.cons rfl (fun K hK => ?_) AllReadyIn.nil
        go_simp
        refine hK _ _ ?_
        clear hK K
        refine wpAnyIn_ready (rs := [2]) (by kernel_rfl) (by simp) ?_
        refine AllReadyIn.cons rfl (fun K hK => ?_) AllReadyIn.nil
        go_simp
        refine hK _ _ ?_
        clear hK K
        refine wpAnyIn_done (by kernel_rfl) ?_ _
        gi_wp2
        exact HFIN.out
      · go_simp
        refine hK _ _ ?_
        clear hK K
        refine wpAnyIn_ready (rs := [0]) (by kernel_rfl) (by simp) ?_
        refine AllReadyIn.cons rfl (fun K hK => ?_) AllReadyIn.nil
        go_simp
        refine hK _ _ ?_
        clear hK K
        refine wpAnyIn_ready (rs := [2]) (by kernel_rfl) (by simp) ?_
        refine AllReadyIn.cons rfl (fun K hK => ?_) AllReadyIn.nil
        go_simp
        refine hK _ _ ?_
        clear hK K
        refine wpAnyIn_done (by kernel_rfl) ?_ _
        gi_wp2
        exact HFIN.out
    · cases e
      · gi_wp2_with fail
        generalize w3.setCell ⟨z2, 0, none⟩ (.slice sao slen scap) = w4 at D2s D3s BEL4 KB4 K4 hbs4 G4 ⊢
        have TD := (Turn.refl (fun _ => False) w4).drew
        have E2 := Lib.hid (D2s.out.new TD)
        have E3 := Lib.hid (D3s.out.new TD)
        have d3 := E3.out.c 0 rfl
        have d2 := E2.out.c 0 rfl
        have e2 := E2.out.fr 0
        have e3 := E3.out.fr 0
        have e3' : (w4.drew.setCell ⟨z2, 0, none⟩ (.slice none 0 0)).frozen? ⟨z3, 0, none⟩ = false := by rw [World.frozen?_setCell]; exact e3
        have d3' : (w4.drew.setCell ⟨z2, 0, none⟩ (.slice none 0 0)).cell? ⟨z3, 0, none⟩ = some (.int .i64 k1) := (E3.out.far (p := ⟨z2, 0, none⟩) hne23.symm _).c 0 rfl
        have HFIN : Hid (KeepsOthers W ((w4.drew.setCell ⟨z2, 0, none⟩ (.slice none 0 0)).setCell ⟨z3, 0, none⟩ (.int .i64 k1)) ∧ LeftL w z2 z3 .ret (pre ++ [(⟨(x, false), hxl⟩ : LineA)]) ((w4.drew.setCell ⟨z2, 0, none⟩ (.slice none 0 0)).setCell ⟨z3, 0, none⟩ (.int .i64 k1))) := Lib.hid (by
          refine ⟨((K4.out.trans (show KeepsOthers w4 w4.drew from ⟨Nat.le_refl _, fun _ _ h _ => h⟩)).trans (KeepsOthers.setCell _ _ _)).trans (KeepsOthers.setCell _ _ _), rfl, fun rest => ?_, ⟨(E2.out.set 0 (.slice none 0 0)).far (p := ⟨z3, 0, none⟩) hne23 _, ?_, ((BEL4.out.trans (TD.below (by have := hbel.size; omega) (fun _ _ => id))).setCell (p := ⟨z2, 0, none⟩) (by have := HZ.out; show w.heap.size ≤ z2; omega) _).setCell (p := ⟨z3, 0, none⟩) (by have := HZ.out; show w.heap.size ≤ z3; omega) _⟩⟩
          · have hf := HR.out.fail (l := x) (e := false) (by first | exact Or.inl (HNO.out trivial) | exact Or.inl (HNO.out rfl) | exact Or.inr rfl) rest
            rw [unA_snoc, hf]
            simp [unA_len]
          · rw [HLEN.out]
            exact (E3.out.far (p := ⟨z2, 0, none⟩) hne23.symm (.slice none 0 0)).set 0 (.int .i64 k1))
        clear D2s D3s BEL4 KB4 hbs4 G4 c2 f2 D2 D3 BEL3 KB3 K3 HOK HNO
        refine wpIn_region_any (by kernel_rfl) ?_
        change wpAnyIn _ _ _ _ _ _ _ _ _ (World.drew _)
        generalize w4.drew = wd at HFIN d2 d3 e2 e3 e3' d3' ⊢
        refine wpAnyIn_ready (rs := [0, 1]) (by kernel_rfl) (by simp) ?_
        refine AllReadyIn.cons rfl (fun K hK => ?_) (AllReadyIn.cons rfl (fun K hK => ?_) AllReadyIn.nil)
        · go_simp
          refine hK _ _ ?_
          clear hK K
          refine wpAnyIn_ready (rs := [1]) (by kernel_rfl) (by simp) ?_
          refine AllReadyIn.cons rfl (fun K hK => ?_) AllReadyIn.nil
          go_simp
          refine hK _ _ ?_
          clear hK K
          refine wpAnyIn_ready (rs := [2]) (by kernel_rfl) (by simp) ?_
          refine AllReadyIn.cons rfl (fun K hK => ?_) AllReadyIn.nil
          go_simp
          refine hK _ _ ?_
          clear hK K
          refine wpAnyIn_done (by kernel_rfl) ?_ _
          gi_wp2
          exact HFIN.out
        · go_simp
          refine hK _ _ ?_
          clear hK K
          refine wpAnyIn_ready (rs := [0]) (by kernel_rfl) (by simp) ?_
          refine AllReadyIn.cons rfl (fun K hK => ?_) AllReadyIn.nil
          go_simp
          refine hK _ _ ?_
          clear hK K
          refine wpAnyIn_ready (rs := [2]) (by kernel_rfl) (by simp) ?_
          refine AllReadyIn.cons rfl (fun K hK => ?_) AllReadyIn.nil
          go_simp
          refine hK _ _ ?_
          clear hK K
          refine wpAnyIn_done (by kernel_rfl) ?_ _
          gi_wp2
          exact HFIN.out
      · gi_wp2_with fail
        obtain ⟨ha, hp⟩ := G4.out trivial
        refine ⟨K4.out, KB4.out, q, ⟨sao, slen, scap⟩, V', ?_, hp, ⟨D2s.out, ?_, BEL4.out⟩, hbs4⟩
        · rw [unA_snoc]
          exact HR.out.more ha
        · rw [HLEN.out]
          exact D3s.out
  case done =>
    rintro D ys W hD hys ⟨p, ⟨sao, slen, scap⟩, V, hr, hg, hm, hbs⟩ hK
    have hrun : parseC (marksT s) 0 [] = (p, 0) := by
      have := hr.run []
      rw [List.append_nil, hys] at this
      rw [this]
      rfl
    rw [hrun]
    have hne23 : z2 ≠ z3 := by have := HZ.out; omega
    have B2 : Blk W z2 22 [.slice sao slen scap] := hm.c2
    have B3 : Blk W z3 3 [.int .i64 ys.length] := hm.c3
    have c2 := B2.c 0 rfl
    have f2 := B2.fr 0
    have f3 : (W.setCell ⟨z2, 0, none⟩ (.slice sao slen scap)).frozen? ⟨z3, 0, none⟩ = false := by rw [World.frozen?_setCell]; exact B3.fr 0
    have c3 : (W.setCell ⟨z2, 0, none⟩ (.slice sao slen scap)).cell? ⟨z3, 0, none⟩ = some (.int .i64 ys.length) := (B3.far (p := ⟨z2, 0, none⟩) hne23.symm _).c 0 rfl
    have notz : ∀ b, b = z2 ∨ b = z3 → ∃ cur e', e' ≠ 40 ∧ e' ≠ 25 ∧ e' ≠ 41 ∧ W.heap[b]? = some (.cells cur e' (0, 0)) := fun b hb => by
      rcases hb with rfl | rfl
      · exact ⟨_, 22, by decide, by decide, by decide, B2⟩
      · exact ⟨_, 3, by decide, by decide, by decide, B3⟩
    have TS : Turn (fun b => b = z2 ∨ b = z3) W ((W.setCell ⟨z2, 0, none⟩ (.slice sao slen scap)).setCell ⟨z3, 0, none⟩ (.int .i64 0)) := ((set_turn W z2 0 (.slice sao slen scap)).mono fun _ _ e => Or.inl e).trans ((set_turn _ z3 0 (.int .i64 0)).mono fun _ _ e => Or.inr e)
    have G5 := hg.keep TS (fun b _ hb => by obtain ⟨cur, e', h1, h2, h3, h4⟩ := notz b hb; exact ⟨cur, e', h1, h4⟩) (fun b _ hb => by obtain ⟨cur, e', h1, h2, h3, h4⟩ := notz b hb; exact ⟨cur, e', h2, h4⟩) (fun b _ hb => by obtain ⟨cur, e', h1, h2, h3, h4⟩ := notz b hb; exact ⟨cur, e', h3, h4⟩)
    have M5 : Mid2 w z2 z3 ((W.setCell ⟨z2, 0, none⟩ (.slice sao slen scap)).setCell ⟨z3, 0, none⟩ (.int .i64 0)) (.slice sao slen scap) 0 := ⟨(B2.set 0 (.slice sao slen scap)).far (p := ⟨z3, 0, none⟩) hne23 _, (B3.far (p := ⟨z2, 0, none⟩) hne23.symm (.slice sao slen scap)).set 0 (.int .i64 0), (hm.below.setCell (p := ⟨z2, 0, none⟩) (by have := HZ.out; show w.heap.size ≤ z2; omega) _).setCell (p := ⟨z3, 0, none⟩) (by have := HZ.out; show w.heap.size ≤ z3; omega) _⟩
    have hK5 := (KeepsOthers.setCell (W.setCell ⟨z2, 0, none⟩ (.slice sao slen scap)) ⟨z3, 0, none⟩ (.int .i64 0)).same D _ ((KeepsOthers.setCell W ⟨z2, 0, none⟩ (.slice sao slen scap)).same D _ hK rfl) rfl
    clear notz TS
    gi_wp2_with fail
    rw [hrun]
    clear c2 f2 f3 c3
    generalize (W.setCell ⟨z2, 0, none⟩ (.slice sao slen scap)).setCell ⟨z3, 0, none⟩ (.int .i64 0) = W5 at G5 M5 hK5 ⊢
    have nc : ∀ b, some D = some b → ∃ o : Obj, W5.heap[b]? = some o ∧ ∀ cs t f, o ≠ .cells cs t f := fun b hb => by
      cases hb
      exact ⟨_, hK5, fun cs t f e => by cases e⟩
    have M6 := M5.aside (grown_turn (grownBy_putObj' W5 D (.deferred none))) (fun b hb => ⟨by cases hb; exact Nat.le_trans hbel.size hD, nc b hb⟩)
    have k2 := (show Blk _ z2 22 [(.slice sao slen scap)] from M6.c2).c 0 rfl
    have k3 := (show Blk _ z3 3 [.int .i64 (0 : Nat)] from M6.c3).c 0 rfl
    refine ⟨by simp, .inl ⟨_, _, rfl, run_takeDeferred hK5, ?_⟩⟩
    refine ⟨.tuple #[(.slice sao slen scap), .int .i64 (0 : Nat)], by simp [results, Tryd.results14, go_sem, k2, k3], gives_l (sl := ⟨sao, slen, scap⟩) (n := 0) (turn_of_below M6.below) rfl ?_⟩
    exact (G5.aside (grown_turn (grownBy_putObj' W5 D (.deferred none))) nc).plan.reads
  case stop =>
    rintro D c pre W5 hD hpre ⟨rfl, hrun, M5⟩ hK5
    obtain ⟨rest, hrest⟩ := hpre
    have hrun : parseC (marksT s) 0 [] = ([], pre.length) := by rw [← hrest]; exact hrun rest
    gi_wp2_with fail
    rw [hrun]
    have nc : ∀ b, some D = some b → ∃ o : Obj, W5.heap[b]? = some o ∧ ∀ cs t f, o ≠ .cells cs t f := fun b hb => by
      cases hb
      exact ⟨_, hK5, fun cs t f e => by cases e⟩
    have M6 := M5.aside (grown_turn (grownBy_putObj' W5 D (.deferred none))) (fun b hb => ⟨by cases hb; exact Nat.le_trans hbel.size hD, nc b hb⟩)
    have k2 := (show Blk _ z2 22 [(.slice none 0 0)] from M6.c2).c 0 rfl
    have k3 := (show Blk _ z3 3 [.int .i64 (pre.length : Nat)] from M6.c3).c 0 rfl
    refine ⟨by simp, .inl ⟨_, _, rfl, run_takeDeferred hK5, ?_⟩⟩
    refine ⟨.tuple #[(.slice none 0 0), .int .i64 (pre.length : Nat)], by simp [results, Tryd.results14, go_sem, k2, k3], gives_l (sl := ⟨none, 0, 0⟩) (n := pre.length) (turn_of_below M6.below) rfl ?_⟩
    exact rplan_nil _
end Go.Proofs.YtfghabjpcjcllaaDoor
