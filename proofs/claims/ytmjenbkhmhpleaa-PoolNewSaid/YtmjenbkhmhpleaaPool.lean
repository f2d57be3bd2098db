/- The pool in memory; what only looks: taker, half, Fresh, Count, Middle, Cache, Live. -/
import Derived.Test.YtmjenbkhmhpleaaSmall
namespace Go.Proofs.Ytmjenbkhmhpleaa
open Go.RowKit
set_option linter.unusedVariables false

/-- A row as it lies: where, its capacity, its things. -/
structure Rw where
  a : Option Addr
  c : Nat
  l : List Int
def Rw.v (r : Rw) : Value := .slice r.a r.l.length r.c
def Rw.own (w : World) (base : Nat) (r : Rw) : Prop := w.ownsRow base 3 1 r.v r.l.length (r.l.map (Value.int .i64))
def setR (R : Nat → Rw) (i : Nat) (r : Rw) : Nat → Rw := fun k => if k = i then r else R k
theorem setR_same (R : Nat → Rw) (i : Nat) (r : Rw) : setR R i r i = r := if_pos rfl
theorem setR_other (R : Nat → Rw) {i k : Nat} (r : Rw) (h : k ≠ i) : setR R i r k = R k := if_neg h

/-- Lie of the call's own, apart from each other and from the blocks p and q. -/
structure Lie (w : World) (base p q n : Nat) (R : Nat → Rw) : Prop where
  own : ∀ i, i ≤ n → (R i).own w base
  apart : ∀ i j k, i ≤ n → j ≤ n → i ≠ j → (R i).v.ownBlock = some k → (R j).v.ownBlock ≠ some k
  far : ∀ i k, i ≤ n → (R i).v.ownBlock = some k → k ≠ p ∧ k ≠ q
/-- The pool's own cells, and the row of its caches. -/
structure PCells (w : World) (p q size most n fresh : Nat) (R : Nat → Rw) : Prop where
  box : w.heap[p]? = some (.cells #[.int .i64 size, .int .i64 most, .slice (some ⟨q, 0, none⟩) n n, (R n).v, .int .i64 fresh] 59 (0, 0))
  row : ∃ arr : Array Value, w.heap[q]? = some (.cells arr 23 (0, 0)) ∧ ∀ i, i < n → arr[i]? = some (R i).v
structure IsPool (w : World) (base p q : Nat) (s : St) (R : Nat → Rw) : Prop where
  rows : Lie w base p q s.n R
  cells : PCells w p q s.size s.most s.n s.fresh R
  m : ∀ i, i ≤ s.n → (R i).l = s.M i
  ne : p ≠ q
  bp : base ≤ p
  bq : base ≤ q
/-- The pool's blocks. -/
def PB (p q n : Nat) (R : Nat → Rw) (i : Nat) : Prop := i = p ∨ i = q ∨ ∃ k, k ≤ n ∧ (R k).v.ownBlock = some i

section
variable {w w' : World} {base p q size most n fresh : Nat} {R : Nat → Rw} {s : St} {S : Nat → Prop}
theorem PCells.c0 (h : PCells w p q size most n fresh R) : w.cell? ⟨p, 0, none⟩ = some (.int .i64 size) := by simp [World.cell?, h.box]
theorem PCells.c1 (h : PCells w p q size most n fresh R) : w.cell? ⟨p, 1, none⟩ = some (.int .i64 most) := by simp [World.cell?, h.box]
theorem PCells.c2 (h : PCells w p q size most n fresh R) : w.cell? ⟨p, 2, none⟩ = some (.slice (some ⟨q, 0, none⟩) n n) := by simp [World.cell?, h.box]
theorem PCells.c3 (h : PCells w p q size most n fresh R) : w.cell? ⟨p, 3, none⟩ = some (.slice (R n).a (R n).l.length (R n).c) := by
  have : w.cell? ⟨p, 3, none⟩ = some (R n).v := by simp [World.cell?, h.box]
  exact this
theorem PCells.c4 (h : PCells w p q size most n fresh R) : w.cell? ⟨p, 4, none⟩ = some (.int .i64 fresh) := by simp [World.cell?, h.box]
theorem PCells.f (h : PCells w p q size most n fresh R) (i : Nat) : w.frozen? ⟨p, i, none⟩ = false := by simp [World.frozen?, h.box]
theorem PCells.fq (h : PCells w p q size most n fresh R) (i : Nat) : w.frozen? ⟨q, i, none⟩ = false := by
  obtain ⟨arr, h1, _⟩ := h.row
  simp [World.frozen?, h1]
theorem PCells.rc (h : PCells w p q size most n fresh R) {g : Nat} (hg : g < n) : w.cell? ⟨q, g, none⟩ = some (.slice (R g).a (R g).l.length (R g).c) := by
  obtain ⟨arr, h1, h2⟩ := h.row
  have : w.cell? ⟨q, g, none⟩ = some (R g).v := by simp [World.cell?, h1, h2 g hg]
  exact this
theorem PCells.ltp (h : PCells w p q size most n fresh R) : p < w.heap.size := (Array.getElem?_eq_some_iff.1 h.box).1
theorem PCells.ltq (h : PCells w p q size most n fresh R) : q < w.heap.size := by
  obtain ⟨arr, h1, _⟩ := h.row
  exact (Array.getElem?_eq_some_iff.1 h1).1
theorem PCells.turn (h : PCells w p q size most n fresh R) (t : Turn S w w') (hp : ¬ S p) (hq : ¬ S q) : PCells w' p q size most n fresh R := by
  obtain ⟨arr, h1, h2⟩ := h.row
  exact ⟨t.heap hp h.box, arr, t.heap hq h1, h2⟩
theorem Lie.turn (h : Lie w base p q n R) (t : Turn S w w') (hs : ∀ i k, i ≤ n → (R i).v.ownBlock = some k → ¬ S k) : Lie w' base p q n R :=
  ⟨fun i hi => own_turn (h.own i hi) t (fun k hk => hs i k hi hk), h.apart, h.far⟩
theorem IsPool.turn (h : IsPool w base p q s R) (t : Turn S w w') (hs : ∀ i, PB p q s.n R i → ¬ S i) : IsPool w' base p q s R :=
  ⟨h.rows.turn t (fun i k hi hk => hs k (Or.inr (Or.inr ⟨i, hi, hk⟩))), h.cells.turn t (hs p (Or.inl rfl)) (hs q (Or.inr (Or.inl rfl))), h.m, h.ne, h.bp, h.bq⟩
theorem IsPool.new (h : IsPool w base p q s R) (t : Turn (fun _ => False) w w') : IsPool w' base p q s R := h.turn t (fun _ _ => id)
theorem IsPool.drewN (h : IsPool w base p q s R) (k : Nat) : IsPool (w.drewN k) base p q s R := h.new ((Turn.refl _ _).drewN _)
theorem IsPool.blocks (h : IsPool w base p q s R) {i : Nat} (hi : PB p q s.n R i) : base ≤ i ∧ i < w.heap.size := by
  rcases hi with rfl | rfl | ⟨k, hk, hb⟩
  · exact ⟨h.bp, h.cells.ltp⟩
  · exact ⟨h.bq, h.cells.ltq⟩
  · exact (h.rows.own k hk).lt i hb
theorem IsPool.ints (h : IsPool w base p q s R) {i : Nat} (hi : i ≤ s.n) : Ints .i64 w (R i).a (R i).l := (own_reads (h.rows.own i hi)).2.1
theorem IsPool.nil (h : IsPool w base p q s R) {i : Nat} (hi : i ≤ s.n) : (R i).a = none → (R i).c = 0 := (own_reads (h.rows.own i hi)).2.2.2
theorem IsPool.cap (h : IsPool w base p q s R) {i : Nat} (hi : i ≤ s.n) : (R i).l.length ≤ (R i).c := (own_reads (h.rows.own i hi)).2.2.1
theorem IsPool.less {base' : Nat} (h : IsPool w base p q s R) (hb : base' ≤ base) : IsPool w base' p q s R :=
  ⟨⟨fun i hi => own_less (h.rows.own i hi) hb, h.rows.apart, h.rows.far⟩, h.cells, h.m, h.ne, Nat.le_trans hb h.bp, Nat.le_trans hb h.bq⟩
end

theorem taker_no {base p q : Nat} {s : St} {R : Nat → Rw} {g : Int} (w : World) (h : IsPool w base p q s R) (hg : g < 0 ∨ (s.n : Int) ≤ g) :
    Calls Try.prog 32 #[.pointer (some ⟨p, 0, none⟩), .int .i64 g] w fun e w' => e = .returned (.bool false) ∧ w = w' := by
  have c2 := h.cells.c2
  clear h
  by_cases h0 : 0 ≤ g
  · have h1 := Lib.hid (show decide (g < (s.n : Int)) = false from decide_eq_false (by omega))
    clear hg
    go_enter Try.func32, Try.ntmps32
    go_wp2
    go_ret
    exact ⟨ret_bool h1.out, rfl⟩
  · clear hg
    go_enter Try.func32, Try.ntmps32
    go_wp2
    go_ret
    exact ⟨rfl, rfl⟩
theorem taker_yes {base p q g : Nat} {s : St} {R : Nat → Rw} (w : World) (h : IsPool w base p q s R) (hg : g < s.n) :
    Calls Try.prog 32 #[.pointer (some ⟨p, 0, none⟩), .int .i64 g] w fun e w' => e = .returned (.bool true) ∧ w = w' := by
  have c2 := h.cells.c2
  clear h
  go_enter Try.func32, Try.ntmps32
  go_wp2
  go_ret
  exact ⟨rfl, rfl⟩
theorem half_any {base p q hf : Nat} {s : St} {R : Nat → Rw} (w : World) (h : IsPool w base p q s R) (hm : s.most ≤ 16) (hh : s.most / 2 = hf) :
    Calls Try.prog 37 #[.pointer (some ⟨p, 0, none⟩)] w fun e w' => e = .returned (.int .i64 hf) ∧ w = w' := by
  have c1 := h.cells.c1
  have HH := Lib.hid hh
  clear h hh
  go_enter Try.func37, Try.ntmps37
  go_wp2
  go_ret
  exact ⟨ret_int (by rw [← HH.out]; omega), rfl⟩
theorem fresh_any {base p q : Nat} {s : St} {R : Nat → Rw} (w : World) (h : IsPool w base p q s R) :
    Calls Try.prog 13 #[.pointer (some ⟨p, 0, none⟩)] w fun e w' => e = .returned (.int .i64 s.fresh) ∧ w = w' := by
  have c4 := h.cells.c4
  clear h
  go_enter Try.func13, Try.ntmps13
  go_wp2
  go_ret
  exact ⟨rfl, rfl⟩

/-- A slice L that is new. -/
def New (L : List Int) (n : Nat) (w : World) (e : Ending) (w' : World) : Prop := e = .returned (.slice (some ⟨w.heap.size, 0, none⟩) n n) ∧ Row .i64 3 w' w.heap.size L ∧ Turn (fun _ => False) w w'
theorem middle_any {base p q nm : Nat} {s : St} {R : Nat → Rw} (w : World) (h : IsPool w base p q s R) (hn : (s.M s.n).length = nm) (hl : nm ≤ 1000) :
    Calls Try.prog 22 #[.pointer (some ⟨p, 0, none⟩)] w (New (s.M s.n) nm w) := by
  have c3 := h.cells.c3
  have HI := Lib.hid (h.ints (Nat.le_refl s.n))
  rw [h.m s.n (Nat.le_refl _)] at c3 HI
  have HN := Lib.hid hn
  clear h hn
  go_enter Try.func22, Try.ntmps22
  go_wp2_with fail
  refine (copied_any w HI.out (by rw [HN.out]; exact hl)).mono ?_
  rintro e w1 ⟨rfl, r1, t1⟩
  have R1 := Lib.hid r1
  have T1 := Lib.hid t1
  clear r1 t1
  go_wp2
  go_ret
  exact ⟨by rw [HN.out]; rfl, R1.out, T1.out⟩
theorem cache_no {base p q : Nat} {s : St} {R : Nat → Rw} {g : Int} (w : World) (h : IsPool w base p q s R) (hg : g < 0 ∨ (s.n : Int) ≤ g) :
    Calls Try.prog 23 #[.pointer (some ⟨p, 0, none⟩), .int .i64 g] w fun e w' => e = .returned (.slice none 0 0) ∧ w = w' := by
  have H := Lib.hid h
  have HG := Lib.hid hg
  clear h hg
  go_enter Try.func23, Try.ntmps23
  go_wp2_with fail
  refine (taker_no w H.out HG.out).mono ?_
  rintro e w1 ⟨rfl, rfl⟩
  go_wp2
  go_ret
  exact ⟨rfl, rfl⟩
theorem cache_yes {base p q g nm : Nat} {s : St} {R : Nat → Rw} (w : World) (h : IsPool w base p q s R) (hg : g < s.n) (hn : (s.M g).length = nm) (hl : nm ≤ 1000) :
    Calls Try.prog 23 #[.pointer (some ⟨p, 0, none⟩), .int .i64 g] w (New (s.M g) nm w) := by
  have H := Lib.hid h
  have HN := Lib.hid hn
  have c2 := h.cells.c2
  have rc := h.cells.rc hg
  have HI := Lib.hid (h.ints (Nat.le_of_lt hg))
  rw [h.m g (Nat.le_of_lt hg)] at rc HI
  clear h hn
  go_enter Try.func23, Try.ntmps23
  go_wp2_with fail
  refine (taker_yes w H.out hg).mono ?_
  rintro e w1 ⟨rfl, rfl⟩
  go_wp2_with fail
  refine (copied_any w HI.out (by rw [HN.out]; exact hl)).mono ?_
  rintro e w1 ⟨rfl, r1, t1⟩
  have R1 := Lib.hid r1
  have T1 := Lib.hid t1
  clear r1 t1
  go_wp2
  go_ret
  exact ⟨by rw [HN.out]; rfl, R1.out, T1.out⟩

def IsInt (x : Int) (w : World) (e : Ending) (w' : World) : Prop := e = .returned (.int .i64 x) ∧ ∃ k, w' = w.drewN k
theorem count_any {base p q : Nat} {s : St} {R : Nat → Rw} (w : World) (h : IsPool w base p q s R) (hG : Good s) :
    Calls Try.prog 12 #[.pointer (some ⟨p, 0, none⟩)] w (IsInt (cnt s) w) := by
  have c2 := h.cells.c2
  have c3 := h.cells.c3
  have c4 := h.cells.c4
  have hf : s.fresh ≤ 64 := Nat.le_trans hG.fresh hG.size
  have hn := hG.n
  have hm := hG.row (Nat.le_refl s.n)
  have HL := Lib.hid (show ∀ k, k ≤ s.n → len s.M k ≤ 8 * 64 by
    intro k hk
    have : ∀ k, k ≤ s.n → len s.M k ≤ k * 64 := by
      intro k
      induction k with
      | zero => intro _; exact Nat.le_refl _
      | succ k ih =>
        intro hk
        have h1 := ih (by omega)
        have h2 := hG.row (i := k) (by omega)
        unfold len
        omega
    have := this k hk
    omega)
  have HC := Lib.hid (show ∀ k, k < s.n → w.cell? ⟨q, k, none⟩ = some (.slice (R k).a (s.M k).length (R k).c) ∧ (s.M k).length ≤ 64 by
    intro k hk
    have h1 := h.cells.rc hk
    rw [h.m k (Nat.le_of_lt hk)] at h1
    exact ⟨h1, hG.row (Nat.le_of_lt hk)⟩)
  have HE := Lib.hid (show (s.fresh : Int) - ((s.M s.n).length : Int) - (len s.M s.n : Int) = cnt s by
    unfold cnt St.len
    show _ = (s.fresh : Int) - ((len s.M s.n + (s.M s.n).length : Nat) : Int)
    omega)
  rw [h.m s.n (Nat.le_refl _)] at c3
  clear h hG
  go_enter Try.func12, Try.ntmps12
  go_wp2
  go_quiet (fail)
  go_wp2
  go_loop [3, 21] (fun c i => ∃ (k : Nat) (z : Int), k ≤ s.n ∧ i = .int .i64 k ∧ c = .int .i64 z ∧ Hid ((s.fresh : Int) - ((s.M s.n).length : Int) - (len s.M k : Int) = z)) (fun _ i => s.n - (intOf i).toNat)
  case atStart => exact ⟨0, _, Nat.zero_le _, rfl, rfl, Lib.hid (by show _ - (0 : Int) = _; omega)⟩
  case round =>
    obtain ⟨k, z, hk, rfl, rfl, HZ⟩ := hrel
    have hz : -1000 ≤ z ∧ z ≤ 1000 := by
      have h1 := HL.out k hk
      have h2 := HZ.out
      omega
    obtain ⟨hz1, hz2⟩ := hz
    by_cases hlt : k < s.n
    · obtain ⟨rc, hlen⟩ := HC.out k hlt
      have HZ2 := Lib.hid (show (s.fresh : Int) - ((s.M s.n).length : Int) - (len s.M (k + 1) : Int) = z - ((s.M k).length : Int) by
        show _ - ((len s.M k + (s.M k).length : Nat) : Int) = _
        have := HZ.out
        omega)
      generalize (s.M k).length = m at rc hlen HZ2
      go_wp2
      go_round
      case rel => exact ⟨k + 1, _, by omega, by go_num, rfl, HZ2⟩
      case measure => simp [intOf]; omega
    · obtain rfl : k = s.n := by omega
      have HZ2 := Lib.hid (HZ.out.symm.trans HE.out)
      go_wp2
      go_ret
      exact ⟨ret_int HZ2.out, _, rfl⟩

theorem live_any {base p q : Nat} {s : St} {R : Nat → Rw} (x : Int) (w : World) (h : IsPool w base p q s R) (hG : Good s) :
    Calls Try.prog 20 #[.pointer (some ⟨p, 0, none⟩), .int .i64 x] w fun e w' => e = .returned (.bool (liveB s x)) ∧ w = w' := by
  have c2 := h.cells.c2
  have c3 := h.cells.c3
  have c4 := h.cells.c4
  have hn := hG.n
  have hm := hG.row (Nat.le_refl s.n)
  have HM := Lib.hid (h.ints (Nat.le_refl s.n))
  have HC := Lib.hid (show ∀ k, k < s.n → w.cell? ⟨q, k, none⟩ = some (.slice (R k).a (s.M k).length (R k).c) ∧ (s.M k).length ≤ 64 ∧ Ints .i64 w (R k).a (s.M k) by
    intro k hk
    have h1 := h.cells.rc hk
    have h2 := h.ints (Nat.le_of_lt hk)
    rw [h.m k (Nat.le_of_lt hk)] at h1 h2
    exact ⟨h1, hG.row (Nat.le_of_lt hk), h2⟩)
  rw [h.m s.n (Nat.le_refl _)] at c3 HM
  clear h hG
  obtain ⟨b, hb⟩ : ∃ b, b = liveB s x := ⟨_, rfl⟩
  have HB := Lib.hid hb
  rw [← hb]
  clear hb
  by_cases h0 : x < 0
  · obtain rfl : b = false := by rw [HB.out]; exact decide_eq_false (by omega)
    go_enter Try.func20, Try.ntmps20
    go_wp2
    go_ret
    exact ⟨rfl, rfl⟩
  · by_cases h1 : (s.fresh : Int) ≤ x
    · obtain rfl : b = false := by rw [HB.out]; exact decide_eq_false (by omega)
      go_enter Try.func20, Try.ntmps20
      go_wp2
      go_ret
      exact ⟨rfl, rfl⟩
    · rcases Nat.eq_zero_or_pos ((s.M s.n).count x) with h2 | h2
      · have H2 := Lib.hid h2
        clear h2
        go_enter Try.func20, Try.ntmps20
        go_wp2_with fail
        refine (contains_no w HM.out rfl (by omega) H2.out).mono ?_
        rintro e w1 ⟨rfl, rfl⟩
        go_wp2_with fail
        go_loop [30] (fun i => ∃ k : Nat, k ≤ s.n ∧ i = .int .i64 k ∧ Hid (tot s.M x k = 0)) (fun i => s.n - (intOf i).toNat)
        case atStart => exact ⟨0, Nat.zero_le _, rfl, Lib.hid rfl⟩
        case round =>
          obtain ⟨k, hk, rfl, HT⟩ := hrel
          by_cases hlt : k < s.n
          · obtain ⟨rc, hlen, hi⟩ := HC.out k hlt
            have HI := Lib.hid hi
            clear hi
            rcases Nat.eq_zero_or_pos ((s.M k).count x) with h3 | h3
            · have H3 := Lib.hid h3
              have HT2 := Lib.hid (show tot s.M x (k + 1) = 0 by show tot s.M x k + (s.M k).count x = 0; have := HT.out; omega)
              clear h3
              go_wp2_with fail
              refine (contains_no w HI.out rfl (by omega) H3.out).mono ?_
              rintro e w1 ⟨rfl, rfl⟩
              go_wp2_with fail
              go_round
              case rel => exact ⟨k + 1, by omega, by go_num, HT2⟩
              case measure => simp [intOf]; omega
            · have H3 := Lib.hid h3
              obtain rfl : b = false := by
                rw [HB.out]
                refine decide_eq_false fun e => ?_
                have h4 := tot_row s.M x (s.n + 1) k (by omega)
                have h5 : tot s.M x (s.n + 1) = 0 := e.2.2
                omega
              clear h3
              go_wp2_with fail
              refine (contains_yes w HI.out rfl (by omega) H3.out).mono ?_
              rintro e w1 ⟨rfl, rfl⟩
              go_wp2_with fail
              go_ret
              exact ⟨rfl, rfl⟩
          · obtain rfl : k = s.n := by omega
            obtain rfl : b = true := by
              rw [HB.out]
              refine decide_eq_true ⟨by omega, by omega, ?_⟩
              show tot s.M x s.n + (s.M s.n).count x = 0
              have := HT.out
              have := H2.out
              omega
            go_wp2_with fail
            go_ret
            exact ⟨rfl, rfl⟩
      · have H2 := Lib.hid h2
        obtain rfl : b = false := by
          rw [HB.out]
          refine decide_eq_false fun e => ?_
          have h5 : tot s.M x s.n + (s.M s.n).count x = 0 := e.2.2
          omega
        clear h2
        go_enter Try.func20, Try.ntmps20
        go_wp2_with fail
        refine (contains_yes w HM.out rfl (by omega) H2.out).mono ?_
        rintro e w1 ⟨rfl, rfl⟩
        go_wp2_with fail
        go_ret
        exact ⟨rfl, rfl⟩

end Go.Proofs.Ytmjenbkhmhpleaa
