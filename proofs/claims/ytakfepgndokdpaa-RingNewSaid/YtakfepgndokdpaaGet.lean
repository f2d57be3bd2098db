/- Get, Pass, Of of the ring. -/
import Derived.Test.YtakfepgndokdpaaPut
namespace Go.Proofs.Ytakfepgndokdpaa
open Go.RowKit
set_option linter.unusedVariables false

theorem get_none {base p room c : Nat} {ao : Option Addr} (w : World) (h : IsRing w base p room ao c []) :
    Calls Try.prog 18 #[.pointer (some ⟨p, 0, none⟩)] w fun e w' => e = .returned (.tuple #[.int .i64 0, .bool false]) ∧ Kept w w' base p room ao [] := by
  have H := Lib.hid h
  clear h
  go_enter Try.func18, Try.ntmps18
  go_wp2_with fail
  refine (len_any w H.out).mono ?_
  rintro e w1 ⟨rfl, rfl⟩
  go_wp2
  go_ret2
  exact ⟨rfl, ao, c, H.out, Turn.refl _ _, fun _ => Or.inl⟩

/-- A row of which the first k are moved up by one. -/
def moved (L : List Int) (k : Nat) : List Int := (L.drop 1).take k ++ L.drop k
theorem moved_zero (L : List Int) : moved L 0 = L := by simp [moved]
theorem moved_length (L : List Int) (k : Nat) (h : k < L.length) : (moved L k).length = L.length := by simp [moved]; omega
theorem moved_next (L : List Int) (k : Nat) (h : k + 1 < L.length) : (moved L k).set k (L.getD (k + 1) 0) = moved L (k + 1) := by
  unfold moved
  rw [List.set_append_right _ _ (by simp; omega)]
  have e1 : ((L.drop 1).take k).length = k := by simp; omega
  rw [e1, Nat.sub_self, List.drop_eq_getElem_cons (show k < L.length by omega), List.set_cons_zero]
  rw [List.take_succ_eq_append_getElem (show k < (L.drop 1).length by simp; omega), List.append_assoc]
  simp [h]
theorem moved_at (L : List Int) (k : Nat) (h : k + 1 < L.length) : (moved L k).getD (k + 1) 0 = L.getD (k + 1) 0 := by
  unfold moved
  have e1 : ((L.drop 1).take k).length = k := by simp; omega
  rw [List.getD_eq_getElem?_getD, List.getElem?_append_right (by omega), e1]
  rw [show k + 1 - k = 1 by omega, List.getElem?_drop]
  simp
theorem moved_all (L : List Int) (m : Nat) (h : L.length = m + 1) : (moved L m).take m = L.drop 1 := by
  unfold moved
  rw [List.take_append_of_le_length (by simp; omega), List.take_take, Nat.min_self]
  exact List.take_of_length_le (by simp; omega)

theorem own_cut {k : IntKind} {w : World} {base n m c : Nat} {e : TypeId} {ao : Option Addr} {L M : List Int} (h : w.ownsRow base e 1 (.slice ao n c) n (L.map (Value.int k))) (hm : m ≤ n) (hM : L.take m = M) :
    w.ownsRow base e 1 (.slice ao m c) m (M.map (Value.int k)) := by
  have hl : L.length = n := by have := h.1; simpa using this
  refine ⟨by rw [← hM]; simp; omega, ?_⟩
  rcases h.2 with ⟨h1, h0⟩ | ⟨g, cap, cur, h1, hb, hh, hc, hx, hs, ht⟩
  · cases h1
    left
    exact ⟨by rw [show m = 0 by omega], by omega⟩
  · cases h1
    right
    refine ⟨g, _, cur, rfl, hb, hh, by omega, hx, hs, ?_⟩
    rw [← hM, List.map_take, ← ht, List.take_take, Nat.mul_one, Nat.mul_one, Nat.min_eq_left hm]

theorem ring_cells {w : World} {base p room c g : Nat} {L : List Int} (h : IsRing w base p room (some ⟨g, 0, none⟩) c L) {j : Nat} (hj : j < L.length) :
    w.cell? ⟨g, j, none⟩ = some (.int .i64 (L.getD j 0)) ∧ w.frozen? ⟨g, j, none⟩ = false := own_cells h.own hj

theorem ring_put {w : World} {base p room c g : Nat} {L M : List Int} (h : IsRing w base p room (some ⟨g, 0, none⟩) c L) (j : Nat) (x : Int) (hM : L.set j x = M) :
    IsRing (w.setCell ⟨g, j, none⟩ (.int .i64 x)) base p room (some ⟨g, 0, none⟩) c M := by
  have hl : M.length = L.length := by rw [← hM]; simp
  have t := (Turn.refl (fun i => i = g) w).setCell (p := ⟨g, j, none⟩) (Or.inl rfl) (Value.int .i64 x)
  have ho := own_put h.own j x hM
  refine ⟨?_, ?_, h.far, h.base, by rw [hl]; exact h.le, h.room⟩
  · rw [hl]; exact t.heap (fun e => h.far ⟨g, 0, none⟩ rfl e.symm) h.box
  · rw [hl]; exact ho

set_option maxHeartbeats 1000000 in
theorem get_some {base p room c : Nat} {ao : Option Addr} {L : List Int} (w : World) (h : IsRing w base p room ao c L) (hl : 0 < L.length) :
    Calls Try.prog 18 #[.pointer (some ⟨p, 0, none⟩)] w fun e w' => e = .returned (.tuple #[.int .i64 (L.getD 0 0), .bool true]) ∧ Kept w w' base p room ao (L.drop 1) := by
  obtain ⟨g, c', he, _, hcc, _⟩ := own_form h.own hl
  cases he
  have hr := h.room
  have hle := h.le
  have hlc : L.length ≤ c := hcc
  have H := Lib.hid h
  have c1 := h.c1
  obtain ⟨cx, _⟩ := ring_cells h (j := 0) hl
  obtain ⟨x, hx⟩ : ∃ x, x = L.getD 0 0 := ⟨_, rfl⟩
  rw [← hx] at cx ⊢
  obtain ⟨m, hm⟩ : ∃ m, L.length = m + 1 := ⟨L.length - 1, by omega⟩
  have hm1 : (L.length : Int) - 1 = (m : Int) := by omega
  have HM := Lib.hid hm
  have hne : ((L.length : Int) == 0) = false := by rw [beq_eq_false_iff_ne]; omega
  clear h hx hm hcc
  go_enter Try.func18, Try.ntmps18
  go_wp2_with (go_at_call 11; refine (len_any w H.out).mono ?_; rintro e w1 ⟨rfl, rfl⟩)
  have hmc : m ≤ c := by have := HM.out; omega
  have hmL : m < L.length := by have := HM.out; omega
  clear hm1 hne c1 cx
  go_loopw [20] (fun i wr => ∃ k : Nat, k ≤ m ∧ i = .int .i64 k ∧ Hid (IsRing wr base p room (some ⟨g, 0, none⟩) c (moved L k)) ∧ Turn (RB p (some ⟨g, 0, none⟩)) w wr) (fun i _ => m - (intOf i).toNat)
  case atStart => exact ⟨0, Nat.zero_le _, rfl, Lib.hid (by rw [moved_zero]; exact H.out), Turn.refl _ _⟩
  case round =>
    obtain ⟨k, hk, rfl, HR, ht⟩ := hrel
    have HT := Lib.hid ht
    clear ht
    have hml := moved_length L k (by omega)
    have d1 := HR.out.c1
    rw [hml] at d1
    by_cases hlt : k < m
    · have HN := Lib.hid (ring_put HR.out k (L.getD (k + 1) 0) (moved_next L k (by omega)))
      obtain ⟨ca, _⟩ := ring_cells HR.out (j := k + 1) (by omega)
      rw [moved_at L k (by omega)] at ca
      obtain ⟨cb, fb⟩ := ring_cells HR.out (j := k) (by omega)
      obtain ⟨y, hy⟩ : ∃ y, y = L.getD (k + 1) 0 := ⟨_, rfl⟩
      rw [← hy] at ca HN
      obtain ⟨z, hz⟩ : ∃ z, z = (moved L k).getD k 0 := ⟨_, rfl⟩
      rw [← hz] at cb
      obtain ⟨j, hj⟩ : ∃ j : Nat, (k : Int) + 1 = (j : Int) := ⟨k + 1, by omega⟩
      rw [show k + 1 = j by omega] at ca
      have hjl : j < L.length := by omega
      have hw : IntKind.i64.wrap ((k : Int) + 1) = (j : Int) := by rw [IntWalk.i64_in _ (by omega)]; exact hj
      have hkl : k < L.length := by omega
      clear hy hz hml
      go_wp2
      go_region
      all_goals
        clear hw
        go_wp2
        go_roundw
        case rel => exact ⟨k + 1, by omega, by go_num, Lib.hid (HN.out.drewN 1), (HT.out.setCell (p := ⟨g, k, none⟩) (Or.inl (Or.inr ⟨_, rfl, rfl⟩)) _).drew⟩
        case measure => simp [intOf]; omega
    · obtain rfl : k = m := by omega
      have f1 := HR.out.f1
      have HC := Lib.hid (own_cut (m := k) (M := L.drop 1) (by have := HR.out.own; rw [hml] at this; exact this) (by omega) (moved_all L k HM.out))
      have HD := Lib.hid (show (L.drop 1).length = k by have := HM.out; simp; omega)
      have HB := Lib.hid HR.out.box
      clear hml
      go_wp2
      go_ret2
      refine ⟨rfl, some ⟨g, 0, none⟩, c, ?_, HT.out.setCell (Or.inl (Or.inl rfl)) _, fun _ => Or.inl⟩
      have := ring_store (base := base) (p := p) (room := room) (L' := L.drop 1) (ao' := some ⟨g, 0, none⟩) (c' := c) HB.out (by rw [HD.out]; exact HC.out) HR.out.far HR.out.base (by rw [HD.out]; omega) hr
      rwa [HD.out] at this

/-- What comes out first, and whether there is one. -/
def outV (L : List Int) : Int := L.getD 0 0
def outL (L : List Int) : List Int := L.drop 1
def outB (L : List Int) : Bool := decide (0 < L.length)
theorem get_any {base p room c : Nat} {ao : Option Addr} {L : List Int} (w : World) (h : IsRing w base p room ao c L) :
    Calls Try.prog 18 #[.pointer (some ⟨p, 0, none⟩)] w fun e w' => e = .returned (.tuple #[.int .i64 (outV L), .bool (outB L)]) ∧ Kept w w' base p room ao (outL L) := by
  cases L with
  | nil => exact get_none w h
  | cons x T => exact get_some w h (by simp)

/-- Put and Pass: what they answer, and what is then in it. -/
def putB (room : Nat) (L : List Int) : Bool := decide (L.length < room)
def putL (room : Nat) (L : List Int) (x : Int) : List Int := if L.length < room then L ++ [x] else L
theorem put_any {base p room c : Nat} {ao : Option Addr} {L : List Int} (x : Int) (w : World) (h : IsRing w base p room ao c L) :
    Calls Try.prog 16 #[.pointer (some ⟨p, 0, none⟩), .int .i64 x] w fun e w' => e = .returned (.bool (putB room L)) ∧ Kept w w' base p room ao (putL room L x) := by
  unfold putB putL
  by_cases hl : L.length < room
  · rw [decide_eq_true hl, if_pos hl]
    exact put_yes x w h hl
  · rw [decide_eq_false hl, if_neg hl]
    exact put_no x w h (by have := h.le; omega)

def passB (room : Nat) (L : List Int) : Bool := decide (room ≤ L.length ∧ 0 < L.length)
def passV (room : Nat) (L : List Int) : Int := if room ≤ L.length ∧ 0 < L.length then L.getD 0 0 else 0
def passL (room : Nat) (L : List Int) (x : Int) : List Int := if room ≤ L.length ∧ 0 < L.length then outL L ++ [x] else L

theorem Kept.and {w w1 w2 : World} {base p room : Nat} {ao ao1 : Option Addr} {L2 : List Int} (t1 : Turn (RB p ao) w w1) (b1 : ∀ i, RB p ao1 i → RB p ao i ∨ w.heap.size ≤ i) (k : Kept w1 w2 base p room ao1 L2) : Kept w w2 base p room ao L2 := by
  obtain ⟨ao2, c2, h2, t2, b2⟩ := k
  refine ⟨ao2, c2, h2, t1.and t2 (fun i hi e => ?_), fun i hi => ?_⟩
  · rcases b1 i e with h | h
    · exact h
    · omega
  · rcases b2 i hi with h | h
    · exact b1 i h
    · right; have := t1.size; omega

theorem pass_no {base p room c : Nat} {ao : Option Addr} {L : List Int} (x : Int) (w : World) (h : IsRing w base p room ao c L) (hl : L.length < room) :
    Calls Try.prog 20 #[.pointer (some ⟨p, 0, none⟩), .int .i64 x] w fun e w' => e = .returned (.tuple #[.int .i64 0, .bool false]) ∧ Kept w w' base p room ao L := by
  have H := Lib.hid h
  clear h
  go_enter Try.func20, Try.ntmps20
  go_wp2_with fail
  refine (full_no w H.out hl).mono ?_
  rintro e w1 ⟨rfl, n, rfl⟩
  go_wp2
  go_ret2
  exact ⟨rfl, ao, c, H.out.drewN _, (Turn.refl _ _).drewN _, fun _ => Or.inl⟩

theorem pass_full {base p room c : Nat} {ao : Option Addr} {L : List Int} (x : Int) (w : World) (h : IsRing w base p room ao c L) (hl : L.length = room) :
    Calls Try.prog 20 #[.pointer (some ⟨p, 0, none⟩), .int .i64 x] w fun e w' => e = .returned (.tuple #[.int .i64 (outV L), .bool (outB L)]) ∧ Kept w w' base p room ao (putL room (outL L) x) := by
  have H := Lib.hid h
  have HL := Lib.hid hl
  clear h hl
  go_enter Try.func20, Try.ntmps20
  go_wp2_with fail
  refine (full_yes w H.out HL.out).mono ?_
  rintro e w1 ⟨rfl, n, rfl⟩
  go_wp2_with fail
  refine (get_any _ (H.out.drewN n)).mono ?_
  rintro e w1 ⟨rfl, ao1, c1, h1, t1, b1⟩
  have H1 := Lib.hid h1
  have T1 := Lib.hid (((Turn.refl (RB p ao) w).drewN n).trans t1)
  have B1 := Lib.hid b1
  clear h1 t1 b1
  go_wp2_with fail
  refine (put_any x w1 H1.out).mono ?_
  rintro e w2 ⟨rfl, k⟩
  have K := Lib.hid k
  clear k
  go_wp2
  go_ret2
  exact ⟨rfl, K.out.and T1.out B1.out⟩

theorem pass_any {base p room c : Nat} {ao : Option Addr} {L : List Int} (x : Int) (w : World) (h : IsRing w base p room ao c L) :
    Calls Try.prog 20 #[.pointer (some ⟨p, 0, none⟩), .int .i64 x] w fun e w' => e = .returned (.tuple #[.int .i64 (passV room L), .bool (passB room L)]) ∧ Kept w w' base p room ao (passL room L x) := by
  have hle := h.le
  unfold passV passB passL
  by_cases hl : L.length < room
  · have hn : ¬ (room ≤ L.length ∧ 0 < L.length) := by omega
    rw [if_neg hn, if_neg hn, decide_eq_false hn]
    exact pass_no x w h hl
  · have hf := pass_full x w h (by omega)
    cases L with
    | nil =>
      have hn : ¬ (room ≤ ([] : List Int).length ∧ 0 < ([] : List Int).length) := by simp
      rw [if_neg hn, if_neg hn, decide_eq_false hn]
      have e : putL room (outL ([] : List Int)) x = [] := if_neg (by simpa [outL] using hl)
      rwa [e] at hf
    | cons y T =>
      have hp : room ≤ (y :: T).length ∧ 0 < (y :: T).length := ⟨by omega, by simp⟩
      rw [if_pos hp, if_pos hp, decide_eq_true hp]
      have e : putL room (outL (y :: T)) x = outL (y :: T) ++ [x] := if_pos (by simp [outL] at hle hp ⊢; omega)
      rwa [e] at hf

/-- Of. -/
theorem of_bad {ao : Option Addr} {cap n : Nat} (r : Int) (w : World) (h : r < 0 ∨ 64 < r) :
    Calls Try.prog 8 #[.int .i64 r, .slice ao n cap] w fun e w' => e = .returned (.tuple #[.pointer none, .int .i64 1]) ∧ w = w' := by
  go_enter Try.func8, Try.ntmps8
  go_wp2_with fail
  refine (new_bad r w h).mono ?_
  rintro e w1 ⟨rfl, rfl⟩
  go_wp2
  go_ret2
  exact ⟨rfl, rfl⟩
theorem of_many {ao : Option Addr} {cap n room : Nat} (w : World) (h : room ≤ 64) (hn : room < n) :
    Calls Try.prog 8 #[.int .i64 room, .slice ao n cap] w fun e w' => e = .returned (.tuple #[.pointer none, .int .i64 1]) ∧ Turn (fun _ => False) w w' := by
  go_enter Try.func8, Try.ntmps8
  go_wp2_with fail
  refine (new_good room w h).mono ?_
  rintro e w1 ⟨rfl, h1, t1⟩
  have T1 := Lib.hid t1
  clear h1 t1
  go_wp2
  go_ret2
  exact ⟨rfl, T1.out⟩
theorem of_good {ao : Option Addr} {cap room : Nat} {L : List Int} (w : World) (h : room ≤ 64) (hn : L.length ≤ room) (hr : Ints .i64 w ao L) :
    Calls Try.prog 8 #[.int .i64 room, .slice ao L.length cap] w fun e w' => e = .returned (.tuple #[.pointer (some ⟨w.heap.size, 0, none⟩), .int .i64 0]) ∧ (∃ ao' c', IsRing w' w.heap.size w.heap.size room ao' c' L) ∧ Turn (fun _ => False) w w' := by
  have HR := Lib.hid hr
  clear hr
  go_enter Try.func8, Try.ntmps8
  go_wp2_with fail
  refine (new_good room w h).mono ?_
  rintro e w1 ⟨rfl, h1, t1⟩
  have T1 := Lib.hid t1
  have H1 := Lib.hid h1
  clear h1 t1
  go_wp2_with fail
  refine (copied_any w1 (HR.out.turn T1.out (fun _ _ => id)) (by omega)).mono ?_
  rintro e w2 ⟨v, rfl, f⟩
  obtain ⟨ao2, c2, rfl, _⟩ := f.ints
  have H2 := Lib.hid (H1.out.new f.2)
  have hs := H1.out.lt
  have HF := Lib.hid (fun a (e : ao2 = some a) => (show a.block ≠ w.heap.size by
    subst e
    have := (f.1.lt a.block (by rw [own_block]; rfl)).1
    omega))
  have HO := Lib.hid (own_less f.1 (Nat.le_of_lt hs))
  have T2 := Lib.hid (T1.out.trans f.2)
  have d1 := H2.out.c1
  have f1 := H2.out.f1
  clear f hs
  go_wp2
  go_ret2
  exact ⟨rfl, ⟨ao2, c2, ring_store H2.out.box HO.out HF.out (Nat.le_refl _) hn h⟩, T2.out.setCell (Or.inr (Nat.le_refl _)) _⟩

end Go.Proofs.Ytakfepgndokdpaa
