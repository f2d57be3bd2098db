/- The document's Park, Ready, End, Set. -/
import Derived.Test.YtkgjibglnnagdaaRef
namespace Go.Proofs.Ytkgjibglnnagdaa
open Go.RowKit
set_option linter.unusedVariables false

/-- What each gives back: a list, and whether it was done. -/
def RPair (n : Nat) (M : List One) (b : Bool) (D : Nat → Prop) (w : World) (e : Ending) (w' : World) : Prop := ∃ bo c, e = .returned (.tuple #[.slice bo n c, .bool b]) ∧ RS w' bo c n M (Dn D w w') ∧ Turn (fun _ => False) w w'
theorem RPair.same {n : Nat} {M : List One} {b : Bool} {D : Nat → Prop} {w : World} {bo : Option Addr} {c : Nat} (h : RS w bo c n M D) : RPair n M b D w (.returned (.tuple #[.slice bo n c, .bool b])) w := ⟨bo, c, rfl, h.kept (Turn.refl _ _), Turn.refl _ _⟩
theorem RPair.fresh {n : Nat} {M : List One} {b : Bool} {D : Nat → Prop} {w w' : World} {bo : Option Addr} {c : Nat} (h : RS w' bo c n M (fun i => w.heap.size ≤ i ∧ i < w'.heap.size)) (t : Turn (fun _ => False) w w') : RPair n M b D w (.returned (.tuple #[.slice bo n c, .bool b])) w' := ⟨bo, c, rfl, h.mono (fun _ => Or.inr), t⟩


theorem rpark_any {bo : Option Addr} {c n : Nat} {L : List One} {D : Nat → Prop} {l : Int} {b : Bool} (w : World) (h : RS w bo c n L D) (hb : doB parkF L l = b) :
    Calls Try.prog 9 #[.slice bo n c, .int .i64 l] w (RPair n (doL parkF L l) b D w) := by
  have hl := h.len
  have H := Lib.hid h
  cases ha : at_ L l with
  | none =>
    obtain ⟨e1, e2⟩ := do_none (f := parkF) ha
    rw [e1] at hb
    subst hb
    rw [e2]
    have HI := Lib.hid (is_none (s := 0) ha)
    clear h ha e1 e2
    go_enter Try.func9, Try.ntmps9
    go_wp2_with fail
    refine (ris_any w H.out HI.out).mono ?_
    rintro e w1 ⟨rfl, rfl⟩
    go_wp2_with fail
    go_ret2
    exact RPair.same H.out
  | some y =>
    obtain ⟨k, rfl, hk, hlt⟩ := at_some ha
    obtain ⟨ad, rfl, c1, c2, hkn⟩ := h.cells hk
    obtain ⟨s, t⟩ := y
    by_cases hs : s = 0
    · subst hs
      have HI := Lib.hid (is_some (s := 0) (b := true) hk rfl)
      cases t with
      | true =>
        obtain ⟨e1, e2⟩ := do_some (f := parkF) (y := (0, false)) (b := false) hk (by simp [parkF])
        rw [e1] at hb
        subst hb
        rw [e2]
        clear h ha e1 e2 hk hlt
        go_enter Try.func9, Try.ntmps9
        go_wp2_with fail
        refine (ris_any w H.out HI.out).mono ?_
        rintro e w1 ⟨rfl, rfl⟩
        go_wp2_with fail
        refine (rwith_any w H.out hkn rfl).mono ?_
        rintro e w1 ⟨b1, c1, rfl, h1, t1⟩
        have H1 := Lib.hid h1
        have T1 := Lib.hid t1
        clear h1 t1
        go_wp2_with fail
        go_ret2
        exact RPair.fresh H1.out T1.out
      | false =>
        obtain ⟨e1, e2⟩ := do_some (f := parkF) (y := (1, false)) (b := true) hk (by simp [parkF])
        rw [e1] at hb
        subst hb
        rw [e2]
        clear h ha e1 e2 hk hlt
        go_enter Try.func9, Try.ntmps9
        go_wp2_with fail
        refine (ris_any w H.out HI.out).mono ?_
        rintro e w1 ⟨rfl, rfl⟩
        go_wp2_with fail
        refine (rwith_any w H.out hkn rfl).mono ?_
        rintro e w1 ⟨b1, c1, rfl, h1, t1⟩
        have H1 := Lib.hid h1
        have T1 := Lib.hid t1
        clear h1 t1
        go_wp2_with fail
        go_ret2
        exact RPair.fresh H1.out T1.out
    · obtain ⟨e1, e2⟩ := do_same (f := parkF) (b := false) hk (by simp [parkF, hs])
      rw [e1] at hb
      subst hb
      rw [e2]
      have HI := Lib.hid (is_some (s := 0) (b := false) hk (by simpa using hs))
      clear h ha e1 e2 hk hlt hs c1 c2
      go_enter Try.func9, Try.ntmps9
      go_wp2_with fail
      refine (ris_any w H.out HI.out).mono ?_
      rintro e w1 ⟨rfl, rfl⟩
      go_wp2_with fail
      go_ret2
      exact RPair.same H.out

theorem rend_any {bo : Option Addr} {c n : Nat} {L : List One} {D : Nat → Prop} {l : Int} {b : Bool} (w : World) (h : RS w bo c n L D) (hb : doB endF L l = b) :
    Calls Try.prog 13 #[.slice bo n c, .int .i64 l] w (RPair n (doL endF L l) b D w) := by
  have hl := h.len
  have H := Lib.hid h
  cases ha : at_ L l with
  | none =>
    obtain ⟨e1, e2⟩ := do_none (f := endF) ha
    rw [e1] at hb
    subst hb
    rw [e2]
    have HI := Lib.hid (is_none (s := 0) ha)
    clear h ha e1 e2
    go_enter Try.func13, Try.ntmps13
    go_wp2_with fail
    refine (ris_any w H.out HI.out).mono ?_
    rintro e w1 ⟨rfl, rfl⟩
    go_wp2_with fail
    go_ret2
    exact RPair.same H.out
  | some y =>
    obtain ⟨k, rfl, hk, hlt⟩ := at_some ha
    obtain ⟨ad, rfl, c1, c2, hkn⟩ := h.cells hk
    obtain ⟨s, t⟩ := y
    by_cases hs : s = 0
    · subst hs
      have HI := Lib.hid (is_some (s := 0) (b := true) hk rfl)
      obtain ⟨e1, e2⟩ := do_some (f := endF) (y := (2, false)) (b := true) hk (by simp [endF])
      rw [e1] at hb
      subst hb
      rw [e2]
      clear h ha e1 e2 hk hlt c1 c2
      go_enter Try.func13, Try.ntmps13
      go_wp2_with fail
      refine (ris_any w H.out HI.out).mono ?_
      rintro e w1 ⟨rfl, rfl⟩
      go_wp2_with fail
      refine (rwith_any w H.out hkn rfl).mono ?_
      rintro e w1 ⟨b1, c1, rfl, h1, t1⟩
      have H1 := Lib.hid h1
      have T1 := Lib.hid t1
      clear h1 t1
      go_wp2_with fail
      go_ret2
      exact RPair.fresh H1.out T1.out
    · obtain ⟨e1, e2⟩ := do_same (f := endF) (b := false) hk (by simp [endF, hs])
      rw [e1] at hb
      subst hb
      rw [e2]
      have HI := Lib.hid (is_some (s := 0) (b := false) hk (by simpa using hs))
      clear h ha e1 e2 hk hlt hs c1 c2
      go_enter Try.func13, Try.ntmps13
      go_wp2_with fail
      refine (ris_any w H.out HI.out).mono ?_
      rintro e w1 ⟨rfl, rfl⟩
      go_wp2_with fail
      go_ret2
      exact RPair.same H.out

theorem rready_any {bo : Option Addr} {c n : Nat} {L : List One} {D : Nat → Prop} {l : Int} {b : Bool} (w : World) (h : RS w bo c n L D) (hb : doB readyF L l = b) :
    Calls Try.prog 11 #[.slice bo n c, .int .i64 l] w (RPair n (doL readyF L l) b D w) := by
  have hl := h.len
  have H := Lib.hid h
  cases ha : at_ L l with
  | none =>
    obtain ⟨e1, e2⟩ := do_none (f := readyF) ha
    rw [e1] at hb
    subst hb
    rw [e2]
    have HI := Lib.hid (is_none (s := 0) ha)
    have HJ := Lib.hid (is_none (s := 1) ha)
    clear h ha e1 e2
    go_enter Try.func11, Try.ntmps11
    go_wp2_with fail
    refine (ris_any w H.out HJ.out).mono ?_
    rintro e w1 ⟨rfl, rfl⟩
    go_wp2_with fail
    refine (ris_any w H.out HI.out).mono ?_
    rintro e w1 ⟨rfl, rfl⟩
    go_wp2_with fail
    go_ret2
    exact RPair.same H.out
  | some y =>
    obtain ⟨k, rfl, hk, hlt⟩ := at_some ha
    obtain ⟨ad, rfl, c1, c2, hkn⟩ := h.cells hk
    obtain ⟨s, t⟩ := y
    by_cases h1 : s = 1
    · subst h1
      have HJ := Lib.hid (is_some (s := 1) (b := true) hk rfl)
      obtain ⟨e1, e2⟩ := do_some (f := readyF) (y := (0, t)) (b := true) hk (by simp [readyF])
      rw [e1] at hb
      subst hb
      rw [e2]
      clear h ha e1 e2 hk hlt
      go_enter Try.func11, Try.ntmps11
      go_wp2_with fail
      refine (ris_any w H.out HJ.out).mono ?_
      rintro e w1 ⟨rfl, rfl⟩
      go_wp2_with fail
      refine (rwith_any w H.out hkn rfl).mono ?_
      rintro e w1 ⟨b1, c1, rfl, h1, t1⟩
      have H1 := Lib.hid h1
      have T1 := Lib.hid t1
      clear h1 t1
      go_wp2_with fail
      go_ret2
      exact RPair.fresh H1.out T1.out
    · have HJ := Lib.hid (is_some (s := 1) (b := false) hk (by simpa using h1))
      by_cases h0 : s = 0
      · subst h0
        have HI := Lib.hid (is_some (s := 0) (b := true) hk rfl)
        cases t with
        | true =>
          obtain ⟨e1, e2⟩ := do_same (f := readyF) (b := false) hk (by simp [readyF])
          rw [e1] at hb
          subst hb
          rw [e2]
          clear h ha e1 e2 hk hlt h1 c1
          go_enter Try.func11, Try.ntmps11
          go_wp2_with fail
          refine (ris_any w H.out HJ.out).mono ?_
          rintro e w1 ⟨rfl, rfl⟩
          go_wp2_with fail
          refine (ris_any w H.out HI.out).mono ?_
          rintro e w1 ⟨rfl, rfl⟩
          go_wp2_with fail
          go_ret2
          exact RPair.same H.out
        | false =>
          obtain ⟨e1, e2⟩ := do_some (f := readyF) (y := (0, true)) (b := true) hk (by simp [readyF])
          rw [e1] at hb
          subst hb
          rw [e2]
          clear h ha e1 e2 hk hlt h1 c1
          go_enter Try.func11, Try.ntmps11
          go_wp2_with fail
          refine (ris_any w H.out HJ.out).mono ?_
          rintro e w1 ⟨rfl, rfl⟩
          go_wp2_with fail
          refine (ris_any w H.out HI.out).mono ?_
          rintro e w1 ⟨rfl, rfl⟩
          go_wp2_with fail
          refine (rwith_any w H.out hkn rfl).mono ?_
          rintro e w1 ⟨b1, c1, rfl, h1, t1⟩
          have H1 := Lib.hid h1
          have T1 := Lib.hid t1
          clear h1 t1
          go_wp2_with fail
          go_ret2
          exact RPair.fresh H1.out T1.out
      · obtain ⟨e1, e2⟩ := do_same (f := readyF) (b := false) hk (by simp [readyF, h0, h1])
        rw [e1] at hb
        subst hb
        rw [e2]
        have HI := Lib.hid (is_some (s := 0) (b := false) hk (by simpa using h0))
        clear h ha e1 e2 hk hlt h1 h0 c1 c2
        go_enter Try.func11, Try.ntmps11
        go_wp2_with fail
        refine (ris_any w H.out HJ.out).mono ?_
        rintro e w1 ⟨rfl, rfl⟩
        go_wp2_with fail
        refine (ris_any w H.out HI.out).mono ?_
        rintro e w1 ⟨rfl, rfl⟩
        go_wp2_with fail
        go_ret2
        exact RPair.same H.out

theorem rset_any {bo : Option Addr} {c n : Nat} {L : List One} {D : Nat → Prop} {l s : Int} {t : Bool} {b : Bool} (w : World) (h : RS w bo c n L D) (hb : doB (setF s t) L l = b) :
    Calls Try.prog 15 #[.slice bo n c, .int .i64 l, .int .i64 s, .bool t] w (RPair n (doL (setF s t) L l) b D w) := by
  have hl := h.len
  have hn := h.nn
  have H := Lib.hid h
  cases ha : at_ L l with
  | none =>
    obtain ⟨e1, e2⟩ := do_none (f := setF s t) ha
    rw [e1] at hb
    subst hb
    rw [e2]
    have hd : ¬ (0 ≤ l ∧ l < (n : Int)) := by rw [← hn]; exact of_decide_eq_false (at_none ha)
    clear h ha e1 e2 hn
    by_cases h0 : l < 0
    · clear hd
      go_enter Try.func15, Try.ntmps15
      go_wp2_with fail
      go_ret2
      exact RPair.same H.out
    · have h1 : (n : Int) ≤ l := by omega
      clear hd
      go_enter Try.func15, Try.ntmps15
      go_wp2_with fail
      go_ret2
      exact RPair.same H.out
  | some y =>
    obtain ⟨k, rfl, hk, hlt⟩ := at_some ha
    rw [hn] at hlt
    have hkn := hlt
    by_cases h0 : s < 0
    · obtain ⟨e1, e2⟩ := do_same (f := setF s t) (b := false) hk (by unfold setF; rw [if_neg (by omega)])
      rw [e1] at hb
      subst hb
      rw [e2]
      clear h ha e1 e2 hn hk
      go_enter Try.func15, Try.ntmps15
      go_wp2_with fail
      go_ret2
      exact RPair.same H.out
    · by_cases h2 : 2 < s
      · obtain ⟨e1, e2⟩ := do_same (f := setF s t) (b := false) hk (by unfold setF; rw [if_neg (by omega)])
        rw [e1] at hb
        subst hb
        rw [e2]
        clear h ha e1 e2 hn hk
        go_enter Try.func15, Try.ntmps15
        go_wp2_with fail
        go_ret2
        exact RPair.same H.out
      · obtain ⟨e1, e2⟩ := do_some (f := setF s t) (y := (s, t)) (b := true) hk (by unfold setF; rw [if_pos (by omega)])
        rw [e1] at hb
        subst hb
        rw [e2]
        clear h ha e1 e2 hn hk
        go_enter Try.func15, Try.ntmps15
        go_wp2_with fail
        refine (rwith_any w H.out hkn rfl).mono ?_
        rintro e w1 ⟨b1, c1, rfl, h1, t1⟩
        have H1 := Lib.hid h1
        have T1 := Lib.hid t1
        clear h1 t1
        go_wp2_with fail
        go_ret2
        exact RPair.fresh H1.out T1.out

end Go.Proofs.Ytkgjibglnnagdaa
