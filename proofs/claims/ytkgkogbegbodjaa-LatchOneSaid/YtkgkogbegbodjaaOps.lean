/- What changes the locks: Try, Free, Add. -/
import Derived.Test.YtkgkogbegbodjaaMem
namespace Go.Proofs.Ytkgkogbegbodjaa
open Go.RowKit
set_option linter.unusedVariables false

section
variable {w w' : World} {base p g n c : Nat} {v : Value} {L : List Int} {S : Nat → Prop}
/-- One more owner in place of one. -/
theorem IsL.put (h : IsL w base p (.slice (some ⟨g, 0, none⟩) n c) L) (hn : L.length = n) (k : Nat) (x : Int) : IsL (w.setCell ⟨g, k, none⟩ (.int .i64 x)) base p (.slice (some ⟨g, 0, none⟩) n c) (L.set k x) ∧ Turn (QL p (.slice (some ⟨g, 0, none⟩) n c)) w (w.setCell ⟨g, k, none⟩ (.int .i64 x)) := by
  subst hn
  refine ⟨⟨(Below.heap_setCell _ _ _ _ ?_).trans h.box, ?_, h.ne, h.b, by rw [List.length_set]; exact h.len⟩, (Turn.refl _ _).setCell (p := ⟨g, k, none⟩) (Or.inl (Or.inr rfl)) _⟩
  · intro e
    exact h.ne (congrArg some e.symm)
  · rw [List.length_set]
    exact own_put h.own k x rfl
end

/-- What Try and Free give back: the same blocks, the owners L'. -/
def Kept (base p : Nat) (v : Value) (L' : List Int) (w w' : World) : Prop := IsL w' base p v L' ∧ Turn (QL p v) w w'
theorem Kept.refl {w : World} {base p : Nat} {v : Value} {L : List Int} (h : IsL w base p v L) : Kept base p v L w w := ⟨h, Turn.refl _ _⟩

theorem try_any {base p : Nat} {v : Value} {L : List Int} {l who : Int} {b : Bool} (w : World) (h : IsL w base p v L) (hb : tryB L l who = b) :
    Calls Try.prog 9 #[.pointer (some ⟨p, 0, none⟩), .int .i64 l, .int .i64 who] w fun e w' => e = .returned (.bool b) ∧ Kept base p v (tryL L l who) w w' := by
  have H := Lib.hid h
  have hl := h.len
  cases hi : isL L l with
  | false =>
    have e1 : tryB L l who = false := by unfold tryB; rw [hi]; rfl
    rw [e1] at hb
    subst hb
    rw [tryB_no e1]
    have HI := Lib.hid hi
    clear h hi e1
    go_enter Try.func9, Try.ntmps9
    go_wp2_with fail
    refine (lock_any w H.out HI.out).mono ?_
    rintro e w1 ⟨rfl, rfl⟩
    go_wp2_with fail
    go_ret
    exact ⟨rfl, Kept.refl H.out⟩
  | true =>
    obtain ⟨k, rfl, hk⟩ := isL_yes hi
    obtain ⟨g, c, rfl⟩ := h.form (by omega)
    have c0 := h.c0
    obtain ⟨c1, f1⟩ := own_cells h.own hk
    obtain ⟨n, hn⟩ : ∃ n, L.length = n := ⟨_, rfl⟩
    have e3 : at_ L k = L.getD k 0 := by unfold at_; rw [Int.toNat_natCast]
    by_cases hw : 0 ≤ who
    · by_cases hx : L.getD k 0 = -1
      · have e1 : tryB L k who = true := by unfold tryB; rw [hi, e3, hx]; simp [hw]
        have e2 : tryL L k who = L.set k who := by unfold tryL; rw [if_pos e1, Int.toNat_natCast]
        rw [e1] at hb
        subst hb
        rw [e2]
        rw [hx] at c1
        rw [hn] at c0 hk hl H ⊢
        have HN := Lib.hid hn
        have HI := Lib.hid hi
        clear h hi e1 e2 e3 hx hn
        go_enter Try.func9, Try.ntmps9
        go_wp2_with fail
        refine (lock_any w H.out HI.out).mono ?_
        rintro e w1 ⟨rfl, rfl⟩
        go_wp2_with fail
        go_ret
        exact ⟨rfl, H.out.put HN.out k who⟩
      · have e1 : tryB L k who = false := by unfold tryB; rw [e3, decide_eq_false hx, Bool.and_false]
        rw [e1] at hb
        subst hb
        rw [tryB_no e1]
        have hne : (L.getD k 0 != -1) = true := by simpa using hx
        generalize L.getD k 0 = x at c1 hne
        rw [hn] at c0 hk hl H ⊢
        have HI := Lib.hid hi
        clear h hi e1 e3 hx hn
        go_enter Try.func9, Try.ntmps9
        go_wp2_with fail
        refine (lock_any w H.out HI.out).mono ?_
        rintro e w1 ⟨rfl, rfl⟩
        go_wp2_with fail
        go_ret
        exact ⟨rfl, Kept.refl H.out⟩
    · have e1 : tryB L k who = false := by unfold tryB; simp [hw]
      rw [e1] at hb
      subst hb
      rw [tryB_no e1]
      rw [hn] at c0 hk hl H ⊢
      have HI := Lib.hid hi
      clear h hi e1 e3 hn c1 f1
      go_enter Try.func9, Try.ntmps9
      go_wp2_with fail
      refine (lock_any w H.out HI.out).mono ?_
      rintro e w1 ⟨rfl, rfl⟩
      go_wp2_with fail
      go_ret
      exact ⟨rfl, Kept.refl H.out⟩

theorem free_any {base p : Nat} {v : Value} {L : List Int} {l who : Int} {b : Bool} (w : World) (h : IsL w base p v L) (hb : freeB L l who = b) :
    Calls Try.prog 11 #[.pointer (some ⟨p, 0, none⟩), .int .i64 l, .int .i64 who] w fun e w' => e = .returned (.bool b) ∧ Kept base p v (freeL L l who) w w' := by
  have H := Lib.hid h
  have hl := h.len
  by_cases hw : 0 ≤ who
  · by_cases hx : ownL L l = who
    · have hi : isL L l = true := by
        cases e : isL L l with
        | true => rfl
        | false =>
          unfold ownL at hx
          rw [e] at hx
          have hx' : (-1 : Int) = who := hx
          omega
      obtain ⟨k, rfl, hk⟩ := isL_yes hi
      obtain ⟨g, c, rfl⟩ := h.form (by omega)
      have c0 := h.c0
      obtain ⟨c1, f1⟩ := own_cells h.own hk
      obtain ⟨n, hn⟩ : ∃ n, L.length = n := ⟨_, rfl⟩
      have e3 : at_ L k = who := by rw [← hx]; unfold ownL; rw [if_pos hi]
      have e1 : freeB L k who = true := by unfold freeB; rw [hi, e3]; simp [hw]
      have e2 : freeL L k who = L.set k (-1) := by unfold freeL; rw [if_pos e1, Int.toNat_natCast]
      rw [e1] at hb
      subst hb
      rw [e2]
      generalize L.getD k 0 = x at c1
      rw [hn] at c0 hk hl H ⊢
      have HN := Lib.hid hn
      have HX := Lib.hid hx
      clear h hi e1 e2 e3 hx hn
      go_enter Try.func11, Try.ntmps11
      go_wp2_with fail
      refine (owner_any w H.out HX.out).mono ?_
      rintro e w1 ⟨rfl, rfl⟩
      go_wp2_with fail
      go_ret
      exact ⟨rfl, H.out.put HN.out k (-1)⟩
    · have e1 : freeB L l who = false := by
        cases e : freeB L l who with
        | false => rfl
        | true => exact absurd (freeB_yes e).1 hx
      rw [e1] at hb
      subst hb
      rw [freeB_no e1]
      obtain ⟨x, hx'⟩ : ∃ x, ownL L l = x := ⟨_, rfl⟩
      rw [hx'] at hx
      have hne : (x != who) = true := by simpa using hx
      have HX := Lib.hid hx'
      clear h e1 hx hx'
      go_enter Try.func11, Try.ntmps11
      go_wp2_with fail
      refine (owner_any w H.out HX.out).mono ?_
      rintro e w1 ⟨rfl, rfl⟩
      go_wp2_with fail
      go_ret
      exact ⟨rfl, Kept.refl H.out⟩
  · have e1 : freeB L l who = false := by unfold freeB; simp [hw]
    rw [e1] at hb
    subst hb
    rw [freeB_no e1]
    clear h e1
    go_enter Try.func11, Try.ntmps11
    go_wp2_with fail
    go_ret
    exact ⟨rfl, Kept.refl H.out⟩

/-- What Add gives back: the owners L'; their row may be a new one. -/
def Grown (base p : Nat) (v : Value) (L' : List Int) (w w' : World) (v' : Value) : Prop := IsL w' base p v' L' ∧ Turn (QL p v) w w' ∧ ∀ i, QL p v' i → QL p v i ∨ w.heap.size ≤ i

set_option maxRecDepth 100000 in
theorem add_any {base p : Nat} {v : Value} {L : List Int} {x : Int} (w : World) (h : IsL w base p v L) (hx : addV L = x) :
    Calls Try.prog 12 #[.pointer (some ⟨p, 0, none⟩)] w fun e w' => e = .returned (.int .i64 x) ∧ ∃ v', Grown base p v (addL L) w w' v' := by
  have H := Lib.hid h
  have hl := h.len
  obtain ⟨n, hn⟩ : ∃ n, L.length = n := ⟨_, rfl⟩
  by_cases h1 : L.length < 4096
  · have e1 : addV L = (n : Int) := by unfold addV; rw [if_pos h1, hn]
    have e2 : addL L = L ++ [-1] := by unfold addL; rw [if_pos h1]
    rw [e1] at hx
    subst hx
    rw [e2]
    obtain ⟨bo, c, rfl⟩ := h.slice
    have c0 := h.c0
    have f0 := h.frozen
    rw [hn] at c0 hl H h1 ⊢
    have hb := (h.blocks (Or.inl rfl))
    have HO : Hid (w.ownsRow base 3 1 (.slice bo n c) n (L.map (Value.int .i64))) := Lib.hid (by have := h.own; rw [hn] at this; exact this)
    obtain ⟨n1, hn1⟩ : ∃ n1, n + 1 = n1 := ⟨_, rfl⟩
    have HN := Lib.hid hn
    have HN1 := Lib.hid hn1
    clear h e1 e2 hn hn1
    go_enter Try.func12, Try.ntmps12
    go_wp2_with fail
    refine (len_any w H.out HN.out).mono ?_
    rintro e w1 ⟨rfl, rfl⟩
    go_wp2_with (at_builtin; refine wpList_append_one_n (w0 := w) Try.underlying26 info_int (by decide) rfl (.tmp 12) (.tmp 13) rfl base (.slice bo n c) L n (-1) rfl HO.out n1 HN1.out rfl (by omega) (by omega) ?_; intro g4 c4 w4 hg4 h4 t4 b4; have H4 : Hid (w4.heap[p]? = some (.cells #[.slice bo n c] 41 (0, 0))) := Lib.hid (t4.out.heap H.out.ne H.out.box); have f4 : w4.frozen? ⟨p, 0, none⟩ = false := (by simp [World.frozen?, H4.out]); have d4 : w4.cell? ⟨p, 0, none⟩ = some (.slice bo n c) := (by simp [World.cell?, H4.out]))
    go_ret
    have hp : g4 ≠ p := by
      rcases b4.out with e | e
      · intro e'; subst e'; exact H.out.ne e
      · omega
    have hs := (Array.getElem?_eq_some_iff.1 H4.out).1
    have t5 : Turn (fun i => i = p) w4 (w4.setCell ⟨p, 0, none⟩ (.slice (some ⟨g4, 0, none⟩) n1 c4)) := (Turn.refl (fun i => i = p) w4).setCell (p := ⟨p, 0, none⟩) (Or.inl rfl) _
    refine ⟨rfl, .slice (some ⟨g4, 0, none⟩) n1 c4, ⟨?_, ?_, ?_, H.out.b, ?_⟩, ?_, ?_⟩
    · rw [heap_setCell_at H4.out]
      rfl
    · have e : (L ++ [(-1 : Int)]).length = n1 := by rw [List.length_append, HN.out, ← HN1.out]; rfl
      rw [e]
      exact own_turn h4.out t5 (fun k hk e => hp (by have hk' : some g4 = some k := hk; have e' : k = p := e; rw [← e']; exact Option.some.inj hk'))
    · intro e
      exact hp (Option.some.inj e)
    · rw [List.length_append, HN.out]
      simp
      omega
    · exact (t4.out.mono (fun i _ e => Or.inr e)).and t5 (fun i _ e => Or.inl e)
    · intro i hi
      rcases hi with e | e
      · exact Or.inl (Or.inl e)
      · have e' : g4 = i := Option.some.inj e
        subst e'
        rcases b4.out with e | e
        · exact Or.inl (Or.inr e)
        · exact Or.inr e
  · have e1 : addV L = -1 := by unfold addV; rw [if_neg h1]
    have e2 : addL L = L := by unfold addL; rw [if_neg h1]
    rw [e1] at hx
    subst hx
    rw [e2]
    have h2 : 4096 ≤ n := by omega
    rw [hn] at hl
    have HN := Lib.hid hn
    clear h e1 e2 hn h1
    go_enter Try.func12, Try.ntmps12
    go_wp2_with fail
    refine (len_any w H.out HN.out).mono ?_
    rintro e w1 ⟨rfl, rfl⟩
    go_wp2_with fail
    go_ret
    exact ⟨rfl, v, H.out, Turn.refl _ _, fun i hi => Or.inl hi⟩

end Go.Proofs.Ytkgkogbegbodjaa
