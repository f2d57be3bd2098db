/- New; poolAlive. -/
import Derived.Test.YtmjenbkhmhpleaaGive
import Derived.Test.YtmjenbkhmhpleaaGMake
namespace Go.Proofs.Ytmjenbkhmhpleaa
open Go.RowKit
set_option linter.unusedVariables false

theorem info_ints : (Try.prog.info? 23).map (fun i => (i.zero, i.size, i.bytes)) = some (some (.slice none 0 0), 1, 24) := by kernel_rfl
theorem cells_nil : (Value.slice none 0 0).cells = #[.slice none 0 0] := rfl

def newS (n size most : Nat) : St := ⟨n, size, most, 0, fun _ => []⟩
theorem tot_nil (v : Int) (n : Nat) : tot (fun _ => []) v n = 0 := by
  induction n with
  | zero => rfl
  | succ n ih => unfold tot; rw [ih]; simp
theorem len_nil (n : Nat) : len (fun _ => []) n = 0 := by
  induction n with
  | zero => rfl
  | succ n ih => unfold len; rw [ih]; simp
theorem newS_good {n size most : Nat} (hn : n ≤ 8) (hs : size ≤ 64) (hm : 1 ≤ most ∧ most ≤ 16) : Good (newS n size most) :=
  ⟨hn, hs, hm, Nat.zero_le _, fun _ _ => Nat.zero_le _, fun v => by unfold St.tot; show Go.Proofs.Ytmjenbkhmhpleaa.tot (fun _ => []) v _ ≤ 1; rw [tot_nil]; omega, fun v hv => by
    have : Go.Proofs.Ytmjenbkhmhpleaa.tot (fun _ => []) v (n + 1) = 0 := tot_nil v (n + 1)
    have hv' : 0 < Go.Proofs.Ytmjenbkhmhpleaa.tot (fun _ => []) v (n + 1) := hv
    omega⟩
theorem newS_cnt (n size most : Nat) : cnt (newS n size most) = 0 := by
  unfold cnt St.len
  show ((0 : Nat) : Int) - ((Go.Proofs.Ytmjenbkhmhpleaa.len (fun _ => []) (n + 1) : Nat) : Int) = 0
  rw [len_nil]; rfl
theorem newS_live (n size most : Nat) (x : Int) : liveB (newS n size most) x = false := decide_eq_false fun e => by
  have h1 := e.1
  have h2 : x < ((0 : Nat) : Int) := e.2.1
  omega

theorem new_bad {a b c : Int} (w : World) (h : a < 0 ∨ 64 < a ∨ b < 0 ∨ 8 < b ∨ c < 1 ∨ 16 < c) :
    Calls Try.prog 8 #[.int .i64 a, .int .i64 b, .int .i64 c] w fun e w' => e = .returned (.tuple #[.pointer none, .int .i64 1]) ∧ w = w' := by
  by_cases h1 : a < 0
  · clear h
    go_enter Try.func8, Try.ntmps8
    go_wp2_with fail
    go_ret2
    exact ⟨rfl, rfl⟩
  by_cases h2 : 64 < a
  · clear h
    go_enter Try.func8, Try.ntmps8
    go_wp2_with fail
    go_ret2
    exact ⟨rfl, rfl⟩
  by_cases h3 : b < 0
  · clear h
    go_enter Try.func8, Try.ntmps8
    go_wp2_with fail
    go_ret2
    exact ⟨rfl, rfl⟩
  by_cases h4 : 8 < b
  · clear h
    go_enter Try.func8, Try.ntmps8
    go_wp2_with fail
    go_ret2
    exact ⟨rfl, rfl⟩
  by_cases h5 : c < 1
  · clear h
    go_enter Try.func8, Try.ntmps8
    go_wp2_with fail
    go_ret2
    exact ⟨rfl, rfl⟩
  have h6 : 16 < c := by omega
  clear h
  go_enter Try.func8, Try.ntmps8
  go_wp2_with fail
  go_ret2
  exact ⟨rfl, rfl⟩

def R0 : Nat → Rw := fun _ => ⟨none, 0, []⟩
def NewPost (n size most : Nat) (w : World) (e : Ending) (w' : World) : Prop :=
  ∃ p q, e = .returned (.tuple #[.pointer (some ⟨p, 0, none⟩), .int .i64 0]) ∧ w.heap.size ≤ p ∧ w.heap.size ≤ q ∧ IsPool w' w.heap.size p q (newS n size most) R0 ∧ Turn (fun _ => False) w w'
theorem new_good {n size most : Nat} (w : World) (hn : n ≤ 8) (hs : size ≤ 64) (hm : 1 ≤ most ∧ most ≤ 16) :
    Calls Try.prog 8 #[.int .i64 size, .int .i64 n, .int .i64 most] w (NewPost n size most w) := by
  have hm1 := hm.1
  have hm2 := hm.2
  have hm3 : ¬ (most : Int) < 1 := by omega
  clear hm
  go_enter Try.func8, Try.ntmps8
  go_wp2_with (with_reducible refine wpList_make_zeros cells_nil Try.underlying22 info_ints (by decide) rfl (.tmp 32) (.tmp 32) rfl n rfl rfl (by omega) ?_; intro w1 Z1 T1)
  go_ret2
  have hlt := Z1.out.lt
  have TA := (Turn.refl (fun _ => False) w1).alloc (.cells #[.int .i64 size, .int .i64 most, .slice (some ⟨w.heap.size, 0, none⟩) n n, .slice none 0 0, .int .i64 0] 59)
  refine ⟨w1.heap.size, w.heap.size, rfl, T1.out.size, Nat.le_refl _, ?_, T1.out.trans TA⟩
  have far : ∀ i k, (R0 i).v.ownBlock ≠ some k := fun i k e => by cases e
  refine ⟨⟨fun i _ => ⟨rfl, .inl ⟨rfl, rfl⟩⟩, fun i j k _ _ _ e => absurd e (far i k), fun i k _ e => absurd e (far i k)⟩, ⟨heap_alloc_new _ _, (List.replicate n (Value.slice none 0 0)).toArray, TA.heap id Z1.out, fun i hi => Zeros.at_ (z := Value.slice none 0 0) hi⟩, fun i _ => rfl, by omega, T1.out.size, Nat.le_refl _⟩

/-- The pool within a call that began at w0. -/
structure In (w0 wx : World) (p q : Nat) (s : St) (R : Nat → Rw) : Prop where
  pool : IsPool wx w0.heap.size p q s R
  good : Good s
  t : Turn (fun _ => False) w0 wx
theorem In.kept {w0 wx w' : World} {p q : Nat} {s s' : St} {R : Nat → Rw} (h : In w0 wx p q s R) (hG : Good s') (k : Kept wx w' w0.heap.size p q s.n R s') : ∃ R', In w0 w' p q s' R' := by
  obtain ⟨R', h1, t1, _⟩ := k
  exact ⟨R', h1, hG, h.t.and t1 (fun i hi e => by have := (h.pool.blocks e).1; omega)⟩
theorem In.new {w0 wx w' : World} {p q : Nat} {s : St} {R : Nat → Rw} (h : In w0 wx p q s R) (t : Turn (fun _ => False) wx w') : In w0 w' p q s R := ⟨h.pool.new t, h.good, h.t.trans t⟩
theorem In.drewN {w0 wx : World} {p q : Nat} {s : St} {R : Nat → Rw} (h : In w0 wx p q s R) (k : Nat) : In w0 (wx.drewN k) p q s R := h.new ((Turn.refl _ _).drewN k)

theorem take_at {base p q : Nat} {s : St} {R : Nat → Rw} {g x : Int} {b : Bool} (w : World) (h : IsPool w base p q s R) (hG : Good s) (hx : takeX s g = x) (hb : takeB s g = b) :
    Calls Try.prog 17 #[.pointer (some ⟨p, 0, none⟩), .int .i64 g] w fun e w' => e = .returned (.tuple #[.int .i64 x, .bool b]) ∧ Kept w w' base p q s.n R (takeS s g) := by
  subst hx
  subst hb
  exact take_any g w h hG
theorem give_at {base p q : Nat} {s : St} {R : Nat → Rw} {g x : Int} {b : Bool} (w : World) (h : IsPool w base p q s R) (hG : Good s) (hb : giveB s g x = b) :
    Calls Try.prog 19 #[.pointer (some ⟨p, 0, none⟩), .int .i64 g, .int .i64 x] w fun e w' => e = .returned (.bool b) ∧ Kept w w' base p q s.n R (giveS s g x) := by
  subst hb
  exact give_any g x w h hG
theorem cache_at {base p q k nm : Nat} {s : St} {R : Nat → Rw} {g : Int} {L : List Int} (w : World) (h : IsPool w base p q s R) (hk : g = (k : Int)) (hg : k < s.n) (hL : s.M k = L) (hn : L.length = nm) (hl : nm ≤ 1000) :
    Calls Try.prog 23 #[.pointer (some ⟨p, 0, none⟩), .int .i64 g] w (New L nm w) := by
  subst hk
  subst hL
  exact cache_yes w h hg hn hl

def s1 : St := newS 2 1 2
def s2 : St := takeS s1 0
def s3 : St := takeS s2 1
def s4 : St := giveS s3 1 0
def s5 : St := takeS s4 0
theorem s1_good : Good s1 := newS_good (by decide) (by decide) (by decide)
theorem s2_good : Good s2 := take_good s1_good 0
theorem s3_good : Good s3 := take_good s2_good 1
theorem s4_good : Good s4 := give_good s3_good 1 0
theorem s5_good : Good s5 := take_good s4_good 0
theorem f1 : takeX s1 0 = 0 := by decide
theorem f2 : takeB s1 0 = true := by decide
theorem f3 : takeX s2 1 = 0 := by decide
theorem f4 : takeB s2 1 = false := by decide
theorem f5 : giveB s3 1 0 = true := by decide
theorem f6 : takeX s4 0 = 0 := by decide
theorem f7 : takeB s4 0 = false := by decide
theorem f8 : s5.M 1 = [0] := by decide
theorem n5 : s5.n = 2 := by decide

theorem new_first (w : World) : Calls Try.prog 8 #[.int .i64 1, .int .i64 2, .int .i64 2] w (NewPost 2 1 2 w) := new_good (n := 2) (size := 1) (most := 2) w (by decide) (by decide) (by decide)
theorem ints_of1 (w : World) (a : Int) : Ints .i64 (w.alloc (.cells #[.int .i64 a] 3)) (some ⟨w.heap.size, 0, none⟩) [a] := by
  intro j hj
  refine ⟨_, rfl, ?_⟩
  match j, hj with
  | 0, _ => simp [go_sem]

set_option maxHeartbeats 1000000 in
theorem alive_any (w : World) : Calls Try.prog 7 #[] w fun e w' => e = .returned (.bool true) ∧ Turn (fun _ => False) w w' := by
  go_enter Try.func7, Try.ntmps7
  go_wp2_with fail
  refine (new_first w).mono ?_
  rintro e w1 ⟨p, q, rfl, hp, hq, h1, t1⟩
  have H1 := Lib.hid (show In w w1 p q s1 R0 from ⟨h1, s1_good, t1⟩)
  clear h1 t1
  go_wp2_with fail
  refine (take_at w1 H1.out.pool s1_good f1 f2).mono ?_
  rintro e w2 ⟨rfl, k2⟩
  obtain ⟨R2, h2⟩ := H1.out.kept (s' := s2) s2_good k2
  have H2 := Lib.hid h2
  clear h2 k2 H1
  go_wp2_with fail
  refine (take_at w2 H2.out.pool s2_good f3 f4).mono ?_
  rintro e w3 ⟨rfl, k3⟩
  obtain ⟨R3, h3⟩ := H2.out.kept (s' := s3) s3_good k3
  have H3 := Lib.hid h3
  clear h3 k3 H2
  go_wp2_with fail
  refine (give_at w3 H3.out.pool s3_good f5).mono ?_
  rintro e w4 ⟨rfl, k4⟩
  obtain ⟨R4, h4⟩ := H3.out.kept (s' := s4) s4_good k4
  have H4 := Lib.hid h4
  clear h4 k4 H3
  go_wp2_with fail
  refine (take_at w4 H4.out.pool s4_good f6 f7).mono ?_
  rintro e w5 ⟨rfl, k5⟩
  obtain ⟨R5, h5⟩ := H4.out.kept (s' := s5) s5_good k5
  have H5 := Lib.hid h5
  clear h5 k5 H4
  go_wp2_with fail
  refine (cache_at (k := 1) w5 H5.out.pool rfl (by rw [n5]; decide) f8 rfl (by decide)).mono ?_
  rintro e w6 ⟨rfl, r6, t6⟩
  have R6 := Lib.hid r6
  have T6 := Lib.hid (H5.out.t.trans t6)
  clear r6 t6
  go_wp2_with fail
  refine (same_eq (L := [0]) _ (R6.out.ints.turn ((Turn.refl (fun _ => False) w6).alloc _) (fun _ _ => id)) (ints_of1 w6 0) rfl (by decide)).mono ?_
  rintro e w7 ⟨rfl, k, rfl⟩
  go_wp2_with fail
  go_ret
  exact ⟨rfl, (T6.out.alloc _).drewN _⟩

end Go.Proofs.Ytmjenbkhmhpleaa
