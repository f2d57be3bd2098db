/- What changes a bench: Park, Ready, End, Set. -/
import Derived.Test.YtkgjibglnnagdaaMem
namespace Go.Proofs.Ytkgjibglnnagdaa
open Go.RowKit
set_option linter.unusedVariables false

/-- What each call gives back: the same blocks, the ones L'. -/
def Kept (base p : Nat) (v : Value) (L' : List One) (w w' : World) : Prop := IsB w' base p v L' ∧ Turn (QB p v) w w'
theorem Kept.refl {w : World} {base p : Nat} {v : Value} {L : List One} (h : IsB w base p v L) : Kept base p v L w w := ⟨h, Turn.refl _ _⟩
section
variable {w w' w'' : World} {base p g n c : Nat} {v : Value} {L : List One} {S : Nat → Prop}
theorem IsB.put (h : IsB w base p (.slice (some ⟨g, 0, none⟩) n c) L) {k : Nat} {x y : One} (hx : L[k]? = some x) {i : Nat} (hi : i < 2) {u : Value} (hy : encO y = (encO x).set i u) : Kept base p (.slice (some ⟨g, 0, none⟩) n c) (L.set k y) w (w.setCell ⟨g, k * 2 + i, none⟩ u) := by
  refine ⟨⟨(Below.heap_setCell _ _ _ _ ?_).trans h.box, ?_, h.ne, h.b, by rw [List.length_set]; exact h.len⟩, (Turn.refl _ _).setCell (p := ⟨g, k * 2 + i, none⟩) (Or.inl (Or.inr rfl)) _⟩
  · intro e
    exact h.ne (congrArg some e.symm)
  · have hn : L.length = n := own_len enc_o (by decide) (own_n h.own)
    have ho := own_n h.own
    rw [List.length_set, hn]
    exact own_set enc_o ho hx hi hy rfl
theorem IsB.put0 (h : IsB w base p (.slice (some ⟨g, 0, none⟩) n c) L) {k : Nat} {x : One} (hx : L[k]? = some x) (s : Int) : Kept base p (.slice (some ⟨g, 0, none⟩) n c) (L.set k (s, x.2)) w (w.setCell ⟨g, k * 2, none⟩ (.int .i64 s)) :=
  h.put hx (i := 0) (by decide) rfl
theorem IsB.put1 (h : IsB w base p (.slice (some ⟨g, 0, none⟩) n c) L) {k : Nat} {x : One} (hx : L[k]? = some x) (t : Bool) : Kept base p (.slice (some ⟨g, 0, none⟩) n c) (L.set k (x.1, t)) w (w.setCell ⟨g, k * 2 + 1, none⟩ (.bool t)) :=
  h.put hx (i := 1) (by decide) rfl
theorem IsB.put2 (h : IsB w base p (.slice (some ⟨g, 0, none⟩) n c) L) {k : Nat} {x : One} (hx : L[k]? = some x) (s : Int) (t : Bool) : Kept base p (.slice (some ⟨g, 0, none⟩) n c) (L.set k (s, t)) w ((w.setCell ⟨g, k * 2, none⟩ (.int .i64 s)).setCell ⟨g, k * 2 + 1, none⟩ (.bool t)) := by
  have h1 := h.put0 hx s
  have hk := (List.getElem?_eq_some_iff.1 hx).1
  have h2 := h1.1.put1 (k := k) (x := (s, x.2)) (by simp [hk]) t
  rw [List.set_set] at h2
  exact ⟨h2.1, h1.2.trans h2.2⟩
end

theorem st_of {L : List One} {k : Nat} {x : One} (h : L[k]? = some x) : stV L k = x.1 := by
  unfold stV
  rw [at_nat, h]
  rfl
theorem st_none {L : List One} {g : Int} (h : at_ L g = none) : stV L g = 2 := by
  unfold stV
  rw [h]
  rfl

theorem park_any {base p : Nat} {v : Value} {L : List One} {l : Int} {b : Bool} (w : World) (h : IsB w base p v L) (hb : doB parkF L l = b) :
    Calls Try.prog 10 #[.pointer (some ⟨p, 0, none⟩), .int .i64 l] w fun e w' => e = .returned (.bool b) ∧ Kept base p v (doL parkF L l) w w' := by
  have H := Lib.hid h
  have hl := h.len
  cases ha : at_ L l with
  | none =>
    obtain ⟨e1, e2⟩ := do_none (f := parkF) ha
    rw [e1] at hb
    subst hb
    rw [e2]
    have HR := Lib.hid (show decide (stV L l = 0) = false by rw [st_none ha]; rfl)
    clear h ha e1 e2
    go_enter Try.func10, Try.ntmps10
    go_wp2_with fail
    refine (runs_any w H.out HR.out).mono ?_
    rintro e w1 ⟨rfl, rfl⟩
    go_wp2_with fail
    go_ret
    exact ⟨rfl, Kept.refl H.out⟩
  | some y =>
    obtain ⟨k, rfl, hk, hlt⟩ := at_some ha
    obtain ⟨s, t⟩ := y
    by_cases hs : s = 0
    · subst hs
      have HR := Lib.hid (show decide (stV L k = 0) = true by rw [st_of hk]; rfl)
      have HK := Lib.hid hk
      obtain ⟨g, c, rfl⟩ := h.form (by omega)
      have c0 := h.c0
      obtain ⟨c1, f1, c2, f2⟩ := h.cells hk
      obtain ⟨n, hn⟩ : ∃ n, L.length = n := ⟨_, rfl⟩
      cases t with
      | true =>
        obtain ⟨e1, e2⟩ := do_some (f := parkF) (y := (0, false)) (b := false) hk (by simp [parkF])
        rw [e1] at hb
        subst hb
        rw [e2]
        rw [hn] at c0 hlt hl H ⊢
        clear h ha e1 e2 hn hk
        go_enter Try.func10, Try.ntmps10
        go_wp2_with fail
        refine (runs_any w H.out HR.out).mono ?_
        rintro e w1 ⟨rfl, rfl⟩
        go_wp2_with fail
        go_ret
        exact ⟨rfl, H.out.put1 HK.out false⟩
      | false =>
        obtain ⟨e1, e2⟩ := do_some (f := parkF) (y := (1, false)) (b := true) hk (by simp [parkF])
        rw [e1] at hb
        subst hb
        rw [e2]
        rw [hn] at c0 hlt hl H ⊢
        clear h ha e1 e2 hn hk
        go_enter Try.func10, Try.ntmps10
        go_wp2_with fail
        refine (runs_any w H.out HR.out).mono ?_
        rintro e w1 ⟨rfl, rfl⟩
        go_wp2_with fail
        go_ret
        exact ⟨rfl, H.out.put0 HK.out 1⟩
    · obtain ⟨e1, e2⟩ := do_same (f := parkF) (b := false) hk (by simp [parkF, hs])
      rw [e1] at hb
      subst hb
      rw [e2]
      have HR := Lib.hid (show decide (stV L k = 0) = false by rw [st_of hk]; simpa using hs)
      clear h ha e1 e2 hk hs
      go_enter Try.func10, Try.ntmps10
      go_wp2_with fail
      refine (runs_any w H.out HR.out).mono ?_
      rintro e w1 ⟨rfl, rfl⟩
      go_wp2_with fail
      go_ret
      exact ⟨rfl, Kept.refl H.out⟩

theorem end_any {base p : Nat} {v : Value} {L : List One} {l : Int} {b : Bool} (w : World) (h : IsB w base p v L) (hb : doB endF L l = b) :
    Calls Try.prog 14 #[.pointer (some ⟨p, 0, none⟩), .int .i64 l] w fun e w' => e = .returned (.bool b) ∧ Kept base p v (doL endF L l) w w' := by
  have H := Lib.hid h
  have hl := h.len
  cases ha : at_ L l with
  | none =>
    obtain ⟨e1, e2⟩ := do_none (f := endF) ha
    rw [e1] at hb
    subst hb
    rw [e2]
    have HR := Lib.hid (show decide (stV L l = 0) = false by rw [st_none ha]; rfl)
    clear h ha e1 e2
    go_enter Try.func14, Try.ntmps14
    go_wp2_with fail
    refine (runs_any w H.out HR.out).mono ?_
    rintro e w1 ⟨rfl, rfl⟩
    go_wp2_with fail
    go_ret
    exact ⟨rfl, Kept.refl H.out⟩
  | some y =>
    obtain ⟨k, rfl, hk, hlt⟩ := at_some ha
    obtain ⟨s, t⟩ := y
    by_cases hs : s = 0
    · subst hs
      have HR := Lib.hid (show decide (stV L k = 0) = true by rw [st_of hk]; rfl)
      have HK := Lib.hid hk
      obtain ⟨g, c, rfl⟩ := h.form (by omega)
      have c0 := h.c0
      obtain ⟨c1, f1, c2, f2⟩ := h.cells hk
      obtain ⟨n, hn⟩ : ∃ n, L.length = n := ⟨_, rfl⟩
      obtain ⟨e1, e2⟩ := do_some (f := endF) (y := (2, false)) (b := true) hk (by simp [endF])
      rw [e1] at hb
      subst hb
      rw [e2]
      rw [hn] at c0 hlt hl H ⊢
      clear h ha e1 e2 hn hk
      go_enter Try.func14, Try.ntmps14
      go_wp2_with fail
      refine (runs_any w H.out HR.out).mono ?_
      rintro e w1 ⟨rfl, rfl⟩
      go_wp2_with fail
      go_ret
      exact ⟨rfl, H.out.put2 HK.out 2 false⟩
    · obtain ⟨e1, e2⟩ := do_same (f := endF) (b := false) hk (by simp [endF, hs])
      rw [e1] at hb
      subst hb
      rw [e2]
      have HR := Lib.hid (show decide (stV L k = 0) = false by rw [st_of hk]; simpa using hs)
      clear h ha e1 e2 hk hs
      go_enter Try.func14, Try.ntmps14
      go_wp2_with fail
      refine (runs_any w H.out HR.out).mono ?_
      rintro e w1 ⟨rfl, rfl⟩
      go_wp2_with fail
      go_ret
      exact ⟨rfl, Kept.refl H.out⟩

theorem ready_any {base p : Nat} {v : Value} {L : List One} {l : Int} {b : Bool} (w : World) (h : IsB w base p v L) (hb : doB readyF L l = b) :
    Calls Try.prog 12 #[.pointer (some ⟨p, 0, none⟩), .int .i64 l] w fun e w' => e = .returned (.bool b) ∧ Kept base p v (doL readyF L l) w w' := by
  have H := Lib.hid h
  have hl := h.len
  cases ha : at_ L l with
  | none =>
    obtain ⟨e1, e2⟩ := do_none (f := readyF) ha
    rw [e1] at hb
    subst hb
    rw [e2]
    have HR := Lib.hid (st_none ha)
    clear h ha e1 e2
    go_enter Try.func12, Try.ntmps12
    go_wp2_with fail
    refine (status_any w H.out HR.out).mono ?_
    rintro e w1 ⟨rfl, rfl⟩
    go_wp2_with fail
    go_ret
    exact ⟨rfl, Kept.refl H.out⟩
  | some y =>
    obtain ⟨k, rfl, hk, hlt⟩ := at_some ha
    obtain ⟨s, t⟩ := y
    have HR := Lib.hid (st_of hk)
    have HK := Lib.hid hk
    obtain ⟨g, c, rfl⟩ := h.form (by omega)
    have c0 := h.c0
    obtain ⟨c1, f1, c2, f2⟩ := h.cells hk
    obtain ⟨n, hn⟩ : ∃ n, L.length = n := ⟨_, rfl⟩
    by_cases h1 : s = 1
    · subst h1
      obtain ⟨e1, e2⟩ := do_some (f := readyF) (y := (0, t)) (b := true) hk (by simp [readyF])
      rw [e1] at hb
      subst hb
      rw [e2]
      rw [hn] at c0 hlt hl H ⊢
      clear h ha e1 e2 hn hk
      go_enter Try.func12, Try.ntmps12
      go_wp2_with fail
      refine (status_any w H.out HR.out).mono ?_
      rintro e w1 ⟨rfl, rfl⟩
      go_wp2_with fail
      go_ret
      exact ⟨rfl, H.out.put0 HK.out 0⟩
    · have n1 : (s == 1) = false := by simpa using h1
      by_cases h0 : s = 0
      · subst h0
        cases t with
        | true =>
          obtain ⟨e1, e2⟩ := do_same (f := readyF) (b := false) hk (by simp [readyF])
          rw [e1] at hb
          subst hb
          rw [e2]
          rw [hn] at c0 hlt hl H ⊢
          clear h ha e1 e2 hn hk n1 h1
          go_enter Try.func12, Try.ntmps12
          go_wp2_with fail
          refine (status_any w H.out HR.out).mono ?_
          rintro e w1 ⟨rfl, rfl⟩
          go_wp2_with fail
          go_ret
          exact ⟨rfl, Kept.refl H.out⟩
        | false =>
          obtain ⟨e1, e2⟩ := do_some (f := readyF) (y := (0, true)) (b := true) hk (by simp [readyF])
          rw [e1] at hb
          subst hb
          rw [e2]
          rw [hn] at c0 hlt hl H ⊢
          clear h ha e1 e2 hn hk n1 h1
          go_enter Try.func12, Try.ntmps12
          go_wp2_with fail
          refine (status_any w H.out HR.out).mono ?_
          rintro e w1 ⟨rfl, rfl⟩
          go_wp2_with fail
          go_ret
          exact ⟨rfl, H.out.put1 HK.out true⟩
      · obtain ⟨e1, e2⟩ := do_same (f := readyF) (b := false) hk (by simp [readyF, h0, h1])
        rw [e1] at hb
        subst hb
        rw [e2]
        have n0 : (s == 0) = false := by simpa using h0
        rw [hn] at c0 hlt hl H ⊢
        clear h ha e1 e2 hn hk h1 h0 c1
        go_enter Try.func12, Try.ntmps12
        go_wp2_with fail
        refine (status_any w H.out HR.out).mono ?_
        rintro e w1 ⟨rfl, rfl⟩
        go_wp2_with fail
        go_ret
        exact ⟨rfl, Kept.refl H.out⟩

theorem set_any {base p : Nat} {v : Value} {L : List One} {l s : Int} {t : Bool} {b : Bool} (w : World) (h : IsB w base p v L) (hb : doB (setF s t) L l = b) :
    Calls Try.prog 16 #[.pointer (some ⟨p, 0, none⟩), .int .i64 l, .int .i64 s, .bool t] w fun e w' => e = .returned (.bool b) ∧ Kept base p v (doL (setF s t) L l) w w' := by
  have H := Lib.hid h
  have hl := h.len
  cases ha : at_ L l with
  | none =>
    obtain ⟨e1, e2⟩ := do_none (f := setF s t) ha
    rw [e1] at hb
    subst hb
    rw [e2]
    have HR := Lib.hid (at_none ha)
    clear h ha e1 e2
    go_enter Try.func16, Try.ntmps16
    go_wp2_with fail
    refine (has_any w H.out HR.out).mono ?_
    rintro e w1 ⟨rfl, rfl⟩
    go_wp2_with fail
    go_ret
    exact ⟨rfl, Kept.refl H.out⟩
  | some y =>
    obtain ⟨k, rfl, hk, hlt⟩ := at_some ha
    have HR := Lib.hid (has_some hlt)
    have HK := Lib.hid hk
    obtain ⟨g, c, rfl⟩ := h.form (by omega)
    have c0 := h.c0
    obtain ⟨c1, f1, c2, f2⟩ := h.cells hk
    obtain ⟨n, hn⟩ : ∃ n, L.length = n := ⟨_, rfl⟩
    by_cases h0 : 0 ≤ s
    · by_cases h2 : s ≤ 2
      · obtain ⟨e1, e2⟩ := do_some (f := setF s t) (y := (s, t)) (b := true) hk (by simp [setF, h0, h2])
        rw [e1] at hb
        subst hb
        rw [e2]
        rw [hn] at c0 hlt hl H ⊢
        clear h ha e1 e2 hn hk
        go_enter Try.func16, Try.ntmps16
        go_wp2_with fail
        refine (has_any w H.out HR.out).mono ?_
        rintro e w1 ⟨rfl, rfl⟩
        go_wp2_with fail
        go_ret
        exact ⟨rfl, H.out.put2 HK.out s t⟩
      · obtain ⟨e1, e2⟩ := do_same (f := setF s t) (b := false) hk (by simp [setF, h2])
        rw [e1] at hb
        subst hb
        rw [e2]
        rw [hn] at c0 hlt hl H ⊢
        clear h ha e1 e2 hn hk
        go_enter Try.func16, Try.ntmps16
        go_wp2_with fail
        refine (has_any w H.out HR.out).mono ?_
        rintro e w1 ⟨rfl, rfl⟩
        go_wp2_with fail
        go_ret
        exact ⟨rfl, Kept.refl H.out⟩
    · obtain ⟨e1, e2⟩ := do_same (f := setF s t) (b := false) hk (by simp [setF, h0])
      rw [e1] at hb
      subst hb
      rw [e2]
      rw [hn] at c0 hlt hl H ⊢
      clear h ha e1 e2 hn hk
      go_enter Try.func16, Try.ntmps16
      go_wp2_with fail
      refine (has_any w H.out HR.out).mono ?_
      rintro e w1 ⟨rfl, rfl⟩
      go_wp2_with fail
      go_ret
      exact ⟨rfl, Kept.refl H.out⟩

end Go.Proofs.Ytkgjibglnnagdaa
