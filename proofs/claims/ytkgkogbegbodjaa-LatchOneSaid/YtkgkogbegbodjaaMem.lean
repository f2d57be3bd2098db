/- The locks in memory; what only looks: Len, lock, Owner. -/
import Derived.Test.YtkgkogbegbodjaaMath
import Derived.BigQuiet
import Derived.Deep.QuietTactic
import Derived.Outline
import Derived.RegionTactic
import Derived.ChangeAlike
namespace Go.Proofs.Ytkgkogbegbodjaa
open Go.RowKit
set_option linter.unusedVariables false

theorem info_int : (Try.prog.info? 3).map (fun i => (i.zero, i.size, i.bytes)) = some (some (.int .i64 0), 1, 8) := by kernel_rfl

/-- Block p is locks whose owners are L; v is their slice. -/
structure IsL (w : World) (base p : Nat) (v : Value) (L : List Int) : Prop where
  box : w.heap[p]? = some (.cells #[v] 41 (0, 0))
  own : w.ownsRow base 3 1 v L.length (L.map (Value.int .i64))
  ne : v.ownBlock ≠ some p
  b : base ≤ p
  len : L.length ≤ 4096
/-- Their blocks. -/
def QL (p : Nat) (v : Value) (i : Nat) : Prop := i = p ∨ v.ownBlock = some i
section
variable {w w' : World} {base p : Nat} {v : Value} {L : List Int} {S : Nat → Prop}
theorem IsL.turn (h : IsL w base p v L) (t : Turn S w w') (hs : ∀ i, QL p v i → ¬ S i) : IsL w' base p v L :=
  ⟨t.heap (hs p (Or.inl rfl)) h.box, own_turn h.own t (fun k hk => hs k (Or.inr hk)), h.ne, h.b, h.len⟩
theorem IsL.new (h : IsL w base p v L) (t : Turn (fun _ => False) w w') : IsL w' base p v L := h.turn t (fun _ _ => id)
theorem IsL.less {base' : Nat} (h : IsL w base p v L) (hb : base' ≤ base) : IsL w base' p v L := ⟨h.box, own_less h.own hb, h.ne, Nat.le_trans hb h.b, h.len⟩
theorem IsL.blocks (h : IsL w base p v L) {i : Nat} (hi : QL p v i) : base ≤ i ∧ i < w.heap.size := by
  rcases hi with e | e
  · subst e
    exact ⟨h.b, (Array.getElem?_eq_some_iff.1 h.box).1⟩
  · exact h.own.lt i e
theorem IsL.c0 (h : IsL w base p v L) : w.cell? ⟨p, 0, none⟩ = some v := by simp [World.cell?, h.box]
theorem IsL.frozen (h : IsL w base p v L) : w.frozen? ⟨p, 0, none⟩ = false := by simp [World.frozen?, h.box]
theorem IsL.slice (h : IsL w base p v L) : ∃ bo c, v = .slice bo L.length c := by
  obtain ⟨bo, c, e, _⟩ := own_slice h.own
  exact ⟨bo, c, e⟩
theorem IsL.form (h : IsL w base p v L) (hl : 0 < L.length) : ∃ g c, v = .slice (some ⟨g, 0, none⟩) L.length c := by
  obtain ⟨g, c, e, _⟩ := own_form h.own hl
  exact ⟨g, c, e⟩
end

theorem len_any {base p n : Nat} {v : Value} {L : List Int} (w : World) (h : IsL w base p v L) (hn : L.length = n) :
    Calls Try.prog 13 #[.pointer (some ⟨p, 0, none⟩)] w fun e w' => e = .returned (.int .i64 n) ∧ w = w' := by
  obtain ⟨bo, c, rfl⟩ := h.slice
  have c0 := h.c0
  rw [hn] at c0
  have hl := h.len
  rw [hn] at hl
  clear h hn
  go_enter Try.func13, Try.ntmps13
  go_wp2
  go_ret
  exact ⟨rfl, rfl⟩
theorem lock_any {base p : Nat} {v : Value} {L : List Int} {l : Int} {b : Bool} (w : World) (h : IsL w base p v L) (hb : isL L l = b) :
    Calls Try.prog 20 #[.pointer (some ⟨p, 0, none⟩), .int .i64 l] w fun e w' => e = .returned (.bool b) ∧ w = w' := by
  have H := Lib.hid h
  have hl := h.len
  unfold isL at hb
  obtain ⟨n, hn⟩ : ∃ n, L.length = n := ⟨_, rfl⟩
  rw [hn] at hl hb
  have HN := Lib.hid hn
  have HB := Lib.hid hb
  clear h hb hn
  by_cases h0 : 0 ≤ l
  · have HD := Lib.hid (show decide (l < (n : Int)) = b by rw [← HB.out]; simp [h0])
    go_enter Try.func20, Try.ntmps20
    go_wp2_with fail
    refine (len_any w H.out HN.out).mono ?_
    rintro e w1 ⟨rfl, rfl⟩
    go_wp2_with fail
    go_ret
    exact ⟨ret_bool HD.out, rfl⟩
  · have HD := Lib.hid (show false = b by rw [← HB.out]; simp [h0])
    go_enter Try.func20, Try.ntmps20
    go_wp2_with fail
    go_ret
    exact ⟨ret_bool HD.out, rfl⟩
theorem owner_any {base p : Nat} {v : Value} {L : List Int} {l x : Int} (w : World) (h : IsL w base p v L) (hx : ownL L l = x) :
    Calls Try.prog 14 #[.pointer (some ⟨p, 0, none⟩), .int .i64 l] w fun e w' => e = .returned (.int .i64 x) ∧ w = w' := by
  have H := Lib.hid h
  have hl := h.len
  cases hb : isL L l with
  | false =>
    have e1 : x = -1 := by rw [← hx]; unfold ownL; rw [hb]; rfl
    subst e1
    have HB := Lib.hid hb
    clear h hx hb
    go_enter Try.func14, Try.ntmps14
    go_wp2_with fail
    refine (lock_any w H.out HB.out).mono ?_
    rintro e w1 ⟨rfl, rfl⟩
    go_wp2_with fail
    go_ret
    exact ⟨rfl, rfl⟩
  | true =>
    obtain ⟨k, rfl, hk⟩ := isL_yes hb
    obtain ⟨g, c, rfl⟩ := h.form (by omega)
    have c0 := h.c0
    obtain ⟨c1, _⟩ := own_cells h.own hk
    have e1 : L.getD k 0 = x := by rw [← hx]; unfold ownL; rw [if_pos hb]; unfold at_; rw [Int.toNat_natCast]
    rw [e1] at c1
    obtain ⟨n, hn⟩ : ∃ n, L.length = n := ⟨_, rfl⟩
    rw [hn] at c0 hk hl
    have HB := Lib.hid hb
    clear h hx hb e1 hn
    go_enter Try.func14, Try.ntmps14
    go_wp2_with fail
    refine (lock_any w H.out HB.out).mono ?_
    rintro e w1 ⟨rfl, rfl⟩
    go_wp2_with fail
    go_ret
    exact ⟨rfl, rfl⟩

end Go.Proofs.Ytkgkogbegbodjaa
