/- The bench in memory; what only looks: Len, has, Status, Token, runs. -/
import Derived.Test.YtkgjibglnnagdaaMath
import Derived.BigQuiet
import Derived.Deep.QuietTactic
import Derived.Outline
import Derived.RegionTactic
import Derived.ChangeAlike
namespace Go.Proofs.Ytkgjibglnnagdaa
open Go.RowKit
set_option linter.unusedVariables false

theorem info_int : (Try.prog.info? 3).map (fun i => (i.zero, i.size, i.bytes)) = some (some (.int .i64 0), 1, 8) := by kernel_rfl
def zeroO : Value := .agg #[.int .i64 0, .bool false]
theorem info_doing : (Try.prog.info? 48).map (fun i => (i.zero, i.size, i.bytes)) = some (some zeroO, 2, 16) := by kernel_rfl
theorem info_seat : (Try.prog.info? 40).map (fun i => (i.zero, i.size, i.bytes)) = some (some zeroO, 2, 16) := by kernel_rfl

/-- Block p is a bench whose ones are L; v is their slice. -/
structure IsB (w : World) (base p : Nat) (v : Value) (L : List One) : Prop where
  box : w.heap[p]? = some (.cells #[v] 46 (0, 0))
  own : w.ownsRow base 48 2 v L.length (flat encO L)
  ne : v.ownBlock ≠ some p
  b : base ≤ p
  len : L.length ≤ 4096
/-- Their blocks. -/
def QB (p : Nat) (v : Value) (i : Nat) : Prop := i = p ∨ v.ownBlock = some i
section
variable {w w' : World} {base p : Nat} {v : Value} {L : List One} {S : Nat → Prop}
theorem IsB.turn (h : IsB w base p v L) (t : Turn S w w') (hs : ∀ i, QB p v i → ¬ S i) : IsB w' base p v L :=
  ⟨t.heap (hs p (Or.inl rfl)) h.box, own_turn h.own t (fun k hk => hs k (Or.inr hk)), h.ne, h.b, h.len⟩
theorem IsB.new (h : IsB w base p v L) (t : Turn (fun _ => False) w w') : IsB w' base p v L := h.turn t (fun _ _ => id)
theorem IsB.less {base' : Nat} (h : IsB w base p v L) (hb : base' ≤ base) : IsB w base' p v L := ⟨h.box, own_less h.own hb, h.ne, Nat.le_trans hb h.b, h.len⟩
theorem IsB.blocks (h : IsB w base p v L) {i : Nat} (hi : QB p v i) : base ≤ i ∧ i < w.heap.size := by
  rcases hi with e | e
  · subst e
    exact ⟨h.b, (Array.getElem?_eq_some_iff.1 h.box).1⟩
  · exact h.own.lt i e
theorem IsB.c0 (h : IsB w base p v L) : w.cell? ⟨p, 0, none⟩ = some v := by simp [World.cell?, h.box]
theorem IsB.frozen (h : IsB w base p v L) : w.frozen? ⟨p, 0, none⟩ = false := by simp [World.frozen?, h.box]
theorem IsB.slice (h : IsB w base p v L) : ∃ bo c, v = .slice bo L.length c := by
  obtain ⟨bo, c, e, _⟩ := own_slice h.own
  exact ⟨bo, c, e⟩
theorem IsB.form (h : IsB w base p v L) (hl : 0 < L.length) : ∃ g c, v = .slice (some ⟨g, 0, none⟩) L.length c := by
  obtain ⟨g, c, e, _⟩ := own_form h.own hl
  exact ⟨g, c, e⟩
theorem IsB.cells {g n c : Nat} (h : IsB w base p (.slice (some ⟨g, 0, none⟩) n c) L) {k : Nat} {x : One} (hx : L[k]? = some x) :
    w.cell? ⟨g, k * 2, none⟩ = some (.int .i64 x.1) ∧ w.frozen? ⟨g, k * 2, none⟩ = false ∧ w.cell? ⟨g, k * 2 + 1, none⟩ = some (.bool x.2) ∧ w.frozen? ⟨g, k * 2 + 1, none⟩ = false := by
  obtain ⟨h0, h1⟩ := own_at enc_o (own_n h.own) hx (i := 0) (u := .int .i64 x.1) rfl
  obtain ⟨h2, h3⟩ := own_at enc_o (own_n h.own) hx (i := 1) (u := .bool x.2) rfl
  exact ⟨h0, h1, h2, h3⟩
end

theorem len_any {base p n : Nat} {v : Value} {L : List One} (w : World) (h : IsB w base p v L) (hn : L.length = n) :
    Calls Try.prog 8 #[.pointer (some ⟨p, 0, none⟩)] w fun e w' => e = .returned (.int .i64 n) ∧ w = w' := by
  obtain ⟨bo, c, rfl⟩ := h.slice
  have c0 := h.c0
  rw [hn] at c0
  have hl := h.len
  rw [hn] at hl
  clear h hn
  go_enter Try.func8, Try.ntmps8
  go_wp2
  go_ret
  exact ⟨rfl, rfl⟩
theorem has_any {base p : Nat} {v : Value} {L : List One} {l : Int} {b : Bool} (w : World) (h : IsB w base p v L) (hb : hasB L l = b) :
    Calls Try.prog 23 #[.pointer (some ⟨p, 0, none⟩), .int .i64 l] w fun e w' => e = .returned (.bool b) ∧ w = w' := by
  have H := Lib.hid h
  have hl := h.len
  unfold hasB at hb
  obtain ⟨n, hn⟩ : ∃ n, L.length = n := ⟨_, rfl⟩
  rw [hn] at hl hb
  have HN := Lib.hid hn
  have HB := Lib.hid hb
  clear h hb hn
  by_cases h0 : 0 ≤ l
  · have HD := Lib.hid (show decide (l < (n : Int)) = b by rw [← HB.out]; simp [h0])
    go_enter Try.func23, Try.ntmps23
    go_wp2_with fail
    refine (len_any w H.out HN.out).mono ?_
    rintro e w1 ⟨rfl, rfl⟩
    go_wp2_with fail
    go_ret
    exact ⟨ret_bool HD.out, rfl⟩
  · have HD := Lib.hid (show false = b by rw [← HB.out]; simp [h0])
    go_enter Try.func23, Try.ntmps23
    go_wp2_with fail
    go_ret
    exact ⟨ret_bool HD.out, rfl⟩
theorem status_any {base p : Nat} {v : Value} {L : List One} {l x : Int} (w : World) (h : IsB w base p v L) (hx : stV L l = x) :
    Calls Try.prog 17 #[.pointer (some ⟨p, 0, none⟩), .int .i64 l] w fun e w' => e = .returned (.int .i64 x) ∧ w = w' := by
  have H := Lib.hid h
  have hl := h.len
  cases hb : at_ L l with
  | none =>
    have e1 : x = 2 := by rw [← hx]; unfold stV; rw [hb]; rfl
    subst e1
    have HB := Lib.hid (at_none hb)
    clear h hx hb
    go_enter Try.func17, Try.ntmps17
    go_wp2_with fail
    refine (has_any w H.out HB.out).mono ?_
    rintro e w1 ⟨rfl, rfl⟩
    go_wp2_with fail
    go_ret
    exact ⟨rfl, rfl⟩
  | some y =>
    obtain ⟨k, rfl, hk, hlt⟩ := at_some hb
    have e1 : y.1 = x := by rw [← hx]; unfold stV; rw [hb]; rfl
    obtain ⟨g, c, rfl⟩ := h.form (by omega)
    have c0 := h.c0
    obtain ⟨c1, _⟩ := h.cells hk
    rw [e1] at c1
    have HB := Lib.hid (has_some hlt)
    obtain ⟨n, hn⟩ : ∃ n, L.length = n := ⟨_, rfl⟩
    rw [hn] at c0 hlt hl
    clear h hx hb e1 hn hk
    go_enter Try.func17, Try.ntmps17
    go_wp2_with fail
    refine (has_any w H.out HB.out).mono ?_
    rintro e w1 ⟨rfl, rfl⟩
    go_wp2_with fail
    go_ret
    exact ⟨rfl, rfl⟩
theorem token_any {base p : Nat} {v : Value} {L : List One} {l : Int} {b : Bool} (w : World) (h : IsB w base p v L) (hx : tkB L l = b) :
    Calls Try.prog 18 #[.pointer (some ⟨p, 0, none⟩), .int .i64 l] w fun e w' => e = .returned (.bool b) ∧ w = w' := by
  have H := Lib.hid h
  have hl := h.len
  cases hb : at_ L l with
  | none =>
    have e1 : b = false := by rw [← hx]; unfold tkB; rw [hb]; rfl
    subst e1
    have HB := Lib.hid (at_none hb)
    clear h hx hb
    go_enter Try.func18, Try.ntmps18
    go_wp2_with fail
    refine (has_any w H.out HB.out).mono ?_
    rintro e w1 ⟨rfl, rfl⟩
    go_wp2_with fail
    go_ret
    exact ⟨rfl, rfl⟩
  | some y =>
    obtain ⟨k, rfl, hk, hlt⟩ := at_some hb
    have e1 : y.2 = b := by rw [← hx]; unfold tkB; rw [hb]; rfl
    obtain ⟨g, c, rfl⟩ := h.form (by omega)
    have c0 := h.c0
    obtain ⟨_, _, c1, _⟩ := h.cells hk
    rw [e1] at c1
    have HB := Lib.hid (has_some hlt)
    obtain ⟨n, hn⟩ : ∃ n, L.length = n := ⟨_, rfl⟩
    rw [hn] at c0 hlt hl
    clear h hx hb e1 hn hk
    go_enter Try.func18, Try.ntmps18
    go_wp2_with fail
    refine (has_any w H.out HB.out).mono ?_
    rintro e w1 ⟨rfl, rfl⟩
    go_wp2_with fail
    go_ret
    exact ⟨rfl, rfl⟩
theorem runs_any {base p : Nat} {v : Value} {L : List One} {l : Int} {b : Bool} (w : World) (h : IsB w base p v L) (hb : decide (stV L l = 0) = b) :
    Calls Try.prog 22 #[.pointer (some ⟨p, 0, none⟩), .int .i64 l] w fun e w' => e = .returned (.bool b) ∧ w = w' := by
  have H := Lib.hid h
  obtain ⟨x, hx⟩ : ∃ x, stV L l = x := ⟨_, rfl⟩
  rw [hx] at hb
  have HX := Lib.hid hx
  have HB := Lib.hid (show (x == 0) = b by rw [← hb]; rfl)
  clear h hx hb
  go_enter Try.func22, Try.ntmps22
  go_wp2_with fail
  refine (status_any w H.out HX.out).mono ?_
  rintro e w1 ⟨rfl, rfl⟩
  go_wp2_with fail
  go_ret
  exact ⟨ret_bool HB.out, rfl⟩

end Go.Proofs.Ytkgjibglnnagdaa
