/- Taken from s8: Math Mem Ops New. Made by pullk.py. -/
import Derived.Test.YtenbafkgfdlfpaaGFlat
import Derived.BigQuiet
import Derived.Deep.QuietTactic
import Derived.Outline
import Derived.RegionTactic
import Derived.ChangeAlike
import Derived.Deep.CutBlock
import Derived.Deep.DeepCutAuto
namespace Go.Proofs.Ytenbafkgfdlfpaa.C8
open Go.RowKit
set_option linter.unusedVariables false

/-- What one does: its status, and whether it has a token. -/
abbrev One := Int × Bool
def encO (x : One) : List Value := [.int .i64 x.1, .bool x.2]
theorem enc_o : Enc encO 2 := ⟨fun _ => rfl, fun x u hu => by
  simp [encO] at hu
  rcases hu with rfl | rfl <;> rfl⟩
def at_ (L : List One) (g : Int) : Option One := if 0 ≤ g then L[g.toNat]? else none
def stO : Option One → Int
  | some x => x.1
  | none => 2
def tkO : Option One → Bool
  | some x => x.2
  | none => false
def stV (L : List One) (g : Int) : Int := stO (at_ L g)
def tkB (L : List One) (g : Int) : Bool := tkO (at_ L g)
def hasB (L : List One) (g : Int) : Bool := decide (0 ≤ g ∧ g < (L.length : Int))
theorem at_nat (L : List One) (k : Nat) : at_ L k = L[k]? := by
  unfold at_
  rw [if_pos (by omega), Int.toNat_natCast]
theorem at_some {L : List One} {g : Int} {x : One} (h : at_ L g = some x) : ∃ k : Nat, g = k ∧ L[k]? = some x ∧ k < L.length := by
  unfold at_ at h
  by_cases h0 : 0 ≤ g
  · rw [if_pos h0] at h
    exact ⟨g.toNat, by omega, h, (List.getElem?_eq_some_iff.1 h).1⟩
  · rw [if_neg h0] at h
    cases h
theorem at_none {L : List One} {g : Int} (h : at_ L g = none) : hasB L g = false := by
  unfold hasB
  rw [decide_eq_false_iff_not]
  intro ⟨h0, h1⟩
  unfold at_ at h
  rw [if_pos h0, List.getElem?_eq_none_iff] at h
  omega
theorem has_some {L : List One} {k : Nat} (h : k < L.length) : hasB L k = true := decide_eq_true ⟨by omega, by omega⟩
/-- Something done to one. -/
def doB (f : One → One × Bool) (L : List One) (g : Int) : Bool := match at_ L g with
  | some x => (f x).2
  | none => false
def doL (f : One → One × Bool) (L : List One) (g : Int) : List One := match at_ L g with
  | some x => L.set g.toNat (f x).1
  | none => L
theorem do_none {f : One → One × Bool} {L : List One} {g : Int} (h : at_ L g = none) : doB f L g = false ∧ doL f L g = L := by
  unfold doB doL
  rw [h]
  exact ⟨rfl, rfl⟩
theorem do_some {f : One → One × Bool} {L : List One} {k : Nat} {x y : One} {b : Bool} (h : L[k]? = some x) (hf : f x = (y, b)) : doB f L k = b ∧ doL f L k = L.set k y := by
  unfold doB doL
  rw [at_nat, h]
  dsimp only
  rw [hf, Int.toNat_natCast]
  exact ⟨rfl, rfl⟩
theorem set_same {L : List One} {k : Nat} {x : One} (h : L[k]? = some x) : L.set k x = L := by
  apply List.ext_getElem?
  intro j
  rw [List.getElem?_set]
  by_cases e : k = j
  · subst e
    rw [if_pos rfl, if_pos (List.getElem?_eq_some_iff.1 h).1, h]
  · rw [if_neg e]
theorem do_same {f : One → One × Bool} {L : List One} {k : Nat} {x : One} {b : Bool} (h : L[k]? = some x) (hf : f x = (x, b)) : doB f L k = b ∧ doL f L k = L := by
  obtain ⟨h1, h2⟩ := do_some h hf
  exact ⟨h1, by rw [h2, set_same h]⟩
def setF (s : Int) (t : Bool) (x : One) : One × Bool := if 0 ≤ s ∧ s ≤ 2 then ((s, t), true) else (x, false)

def zeroO : Value := .agg #[.int .i64 0, .bool false]
theorem info_doing : (Try.prog.info? 110).map (fun i => (i.zero, i.size, i.bytes)) = some (some zeroO, 2, 16) := by kernel_rfl
/-- Block p is a bench whose ones are L; v is their slice. -/
structure IsB (w : World) (base p : Nat) (v : Value) (L : List One) : Prop where
  box : w.heap[p]? = some (.cells #[v] 113 (0, 0))
  own : w.ownsRow base 110 2 v L.length (flat encO L)
  ne : v.ownBlock ≠ some p
  b : base ≤ p
  len : L.length ≤ 4096
/-- Their blocks. -/
def QB (p : Nat) (v : Value) (i : Nat) : Prop := i = p ∨ v.ownBlock = some i
section
variable {w w' : World} {base p : Nat} {v : Value} {L : List One} {S : Nat → Prop}
theorem IsB.turn (h : IsB w base p v L) (t : Turn S w w') (hs : ∀ i, QB p v i → ¬ S i) : IsB w' base p v L :=
  ⟨t.heap (hs p (Or.inl rfl)) h.box, own_turn h.own t (fun k hk => hs k (Or.inr hk)), h.ne, h.b, h.len⟩

end
section
variable {w w' : World} {base p : Nat} {v : Value} {L : List One} {S : Nat → Prop}
theorem IsB.new (h : IsB w base p v L) (t : Turn (fun _ => False) w w') : IsB w' base p v L := h.turn t (fun _ _ => id)

end
section
variable {w w' : World} {base p : Nat} {v : Value} {L : List One} {S : Nat → Prop}
theorem IsB.less {base' : Nat} (h : IsB w base p v L) (hb : base' ≤ base) : IsB w base' p v L := ⟨h.box, own_less h.own hb, h.ne, Nat.le_trans hb h.b, h.len⟩

end
section
variable {w w' : World} {base p : Nat} {v : Value} {L : List One} {S : Nat → Prop}
theorem IsB.blocks (h : IsB w base p v L) {i : Nat} (hi : QB p v i) : base ≤ i ∧ i < w.heap.size := by
  rcases hi with e | e
  · subst e
    exact ⟨h.b, (Array.getElem?_eq_some_iff.1 h.box).1⟩
  · exact h.own.lt i e

end
section
variable {w w' : World} {base p : Nat} {v : Value} {L : List One} {S : Nat → Prop}
theorem IsB.c0 (h : IsB w base p v L) : w.cell? ⟨p, 0, none⟩ = some v := by simp [World.cell?, h.box]

end
section
variable {w w' : World} {base p : Nat} {v : Value} {L : List One} {S : Nat → Prop}
theorem IsB.frozen (h : IsB w base p v L) : w.frozen? ⟨p, 0, none⟩ = false := by simp [World.frozen?, h.box]

end
section
variable {w w' : World} {base p : Nat} {v : Value} {L : List One} {S : Nat → Prop}
theorem IsB.slice (h : IsB w base p v L) : ∃ bo c, v = .slice bo L.length c := by
  obtain ⟨bo, c, e, _⟩ := own_slice h.own
  exact ⟨bo, c, e⟩

end
section
variable {w w' : World} {base p : Nat} {v : Value} {L : List One} {S : Nat → Prop}
theorem IsB.form (h : IsB w base p v L) (hl : 0 < L.length) : ∃ g c, v = .slice (some ⟨g, 0, none⟩) L.length c := by
  obtain ⟨g, c, e, _⟩ := own_form h.own hl
  exact ⟨g, c, e⟩

end
section
variable {w w' : World} {base p : Nat} {v : Value} {L : List One} {S : Nat → Prop}
theorem IsB.cells {g n c : Nat} (h : IsB w base p (.slice (some ⟨g, 0, none⟩) n c) L) {k : Nat} {x : One} (hx : L[k]? = some x) :
    w.cell? ⟨g, k * 2, none⟩ = some (.int .i64 x.1) ∧ w.frozen? ⟨g, k * 2, none⟩ = false ∧ w.cell? ⟨g, k * 2 + 1, none⟩ = some (.bool x.2) ∧ w.frozen? ⟨g, k * 2 + 1, none⟩ = false := by
  obtain ⟨h0, h1⟩ := own_at enc_o (own_n h.own) hx (i := 0) (u := .int .i64 x.1) rfl
  obtain ⟨h2, h3⟩ := own_at enc_o (own_n h.own) hx (i := 1) (u := .bool x.2) rfl
  exact ⟨h0, h1, h2, h3⟩

end
theorem len_any {base p n : Nat} {v : Value} {L : List One} (w : World) (h : IsB w base p v L) (hn : L.length = n) :
    Calls Try.prog 76 #[.pointer (some ⟨p, 0, none⟩)] w fun e w' => e = .returned (.int .i64 n) ∧ w = w' := by
  obtain ⟨bo, c, rfl⟩ := h.slice
  have c0 := h.c0
  rw [hn] at c0
  have hl := h.len
  rw [hn] at hl
  clear h hn
  go_enter Try.func76, Try.ntmps76
  go_wp2
  go_ret
  exact ⟨rfl, rfl⟩
theorem has_any {base p : Nat} {v : Value} {L : List One} {l : Int} {b : Bool} (w : World) (h : IsB w base p v L) (hb : hasB L l = b) :
    Calls Try.prog 47 #[.pointer (some ⟨p, 0, none⟩), .int .i64 l] w fun e w' => e = .returned (.bool b) ∧ w = w' := by
  have H := Lib.hid h
  have hl := h.len
  unfold hasB at hb
  obtain ⟨n, hn⟩ : ∃ n, L.length = n := ⟨_, rfl⟩
  rw [hn] at hl hb
  have HN := Lib.hid hn
  have HB := Lib.hid hb
  clear h hb hn
  by_cases h0 : 0 ≤ l
  · have HD := Lib.hid (show decide (l < (n : Int)) = b by rw [← HB.out]; simp [h0])
    go_enter Try.func47, Try.ntmps47
    go_wp2_with fail
    refine (len_any w H.out HN.out).mono ?_
    rintro e w1 ⟨rfl, rfl⟩
    go_wp2_with fail
    go_ret
    exact ⟨ret_bool HD.out, rfl⟩
  · have HD := Lib.hid (show false = b by rw [← HB.out]; simp [h0])
    go_enter Try.func47, Try.ntmps47
    go_wp2_with fail
    go_ret
    exact ⟨ret_bool HD.out, rfl⟩
theorem status_any {base p : Nat} {v : Value} {L : List One} {l x : Int} (w : World) (h : IsB w base p v L) (hx : stV L l = x) :
    Calls Try.prog 25 #[.pointer (some ⟨p, 0, none⟩), .int .i64 l] w fun e w' => e = .returned (.int .i64 x) ∧ w = w' := by
  have H := Lib.hid h
  have hl := h.len
  cases hb : at_ L l with
  | none =>
    have e1 : x = 2 := by rw [← hx]; unfold stV; rw [hb]; rfl
    subst e1
    have HB := Lib.hid (at_none hb)
    clear h hx hb
    go_enter Try.func25, Try.ntmps25
    go_wp2_with fail
    refine (has_any w H.out HB.out).mono ?_
    rintro e w1 ⟨rfl, rfl⟩
    go_wp2_with fail
    go_ret
    exact ⟨rfl, rfl⟩
  | some y =>
    obtain ⟨k, rfl, hk, hlt⟩ := at_some hb
    have e1 : y.1 = x := by rw [← hx]; unfold stV; rw [hb]; rfl
    obtain ⟨g, c, rfl⟩ := h.form (by omega)
    have c0 := h.c0
    obtain ⟨c1, _⟩ := h.cells hk
    rw [e1] at c1
    have HB := Lib.hid (has_some hlt)
    obtain ⟨n, hn⟩ : ∃ n, L.length = n := ⟨_, rfl⟩
    rw [hn] at c0 hlt hl
    clear h hx hb e1 hn hk
    go_enter Try.func25, Try.ntmps25
    go_wp2_with fail
    refine (has_any w H.out HB.out).mono ?_
    rintro e w1 ⟨rfl, rfl⟩
    go_wp2_with fail
    go_ret
    exact ⟨rfl, rfl⟩
theorem token_any {base p : Nat} {v : Value} {L : List One} {l : Int} {b : Bool} (w : World) (h : IsB w base p v L) (hx : tkB L l = b) :
    Calls Try.prog 26 #[.pointer (some ⟨p, 0, none⟩), .int .i64 l] w fun e w' => e = .returned (.bool b) ∧ w = w' := by
  have H := Lib.hid h
  have hl := h.len
  cases hb : at_ L l with
  | none =>
    have e1 : b = false := by rw [← hx]; unfold tkB; rw [hb]; rfl
    subst e1
    have HB := Lib.hid (at_none hb)
    clear h hx hb
    go_enter Try.func26, Try.ntmps26
    go_wp2_with fail
    refine (has_any w H.out HB.out).mono ?_
    rintro e w1 ⟨rfl, rfl⟩
    go_wp2_with fail
    go_ret
    exact ⟨rfl, rfl⟩
  | some y =>
    obtain ⟨k, rfl, hk, hlt⟩ := at_some hb
    have e1 : y.2 = b := by rw [← hx]; unfold tkB; rw [hb]; rfl
    obtain ⟨g, c, rfl⟩ := h.form (by omega)
    have c0 := h.c0
    obtain ⟨_, _, c1, _⟩ := h.cells hk
    rw [e1] at c1
    have HB := Lib.hid (has_some hlt)
    obtain ⟨n, hn⟩ : ∃ n, L.length = n := ⟨_, rfl⟩
    rw [hn] at c0 hlt hl
    clear h hx hb e1 hn hk
    go_enter Try.func26, Try.ntmps26
    go_wp2_with fail
    refine (has_any w H.out HB.out).mono ?_
    rintro e w1 ⟨rfl, rfl⟩
    go_wp2_with fail
    go_ret
    exact ⟨rfl, rfl⟩
/-- What each call gives back: the same blocks, the ones L'. -/
def Kept (base p : Nat) (v : Value) (L' : List One) (w w' : World) : Prop := IsB w' base p v L' ∧ Turn (QB p v) w w'
theorem Kept.refl {w : World} {base p : Nat} {v : Value} {L : List One} (h : IsB w base p v L) : Kept base p v L w w := ⟨h, Turn.refl _ _⟩
section
variable {w w' w'' : World} {base p g n c : Nat} {v : Value} {L : List One} {S : Nat → Prop}
theorem IsB.put (h : IsB w base p (.slice (some ⟨g, 0, none⟩) n c) L) {k : Nat} {x y : One} (hx : L[k]? = some x) {i : Nat} (hi : i < 2) {u : Value} (hy : encO y = (encO x).set i u) : Kept base p (.slice (some ⟨g, 0, none⟩) n c) (L.set k y) w (w.setCell ⟨g, k * 2 + i, none⟩ u) := by
  refine ⟨⟨(Below.heap_setCell _ _ _ _ ?_).trans h.box, ?_, h.ne, h.b, by rw [List.length_set]; exact h.len⟩, (Turn.refl _ _).setCell (p := ⟨g, k * 2 + i, none⟩) (Or.inl (Or.inr rfl)) _⟩
  · intro e
    exact h.ne (congrArg some e.symm)
  · have hn : L.length = n := own_len enc_o (by decide) (own_n h.own)
    have ho := own_n h.own
    rw [List.length_set, hn]
    exact own_set enc_o ho hx hi hy rfl

end
section
variable {w w' w'' : World} {base p g n c : Nat} {v : Value} {L : List One} {S : Nat → Prop}
theorem IsB.put0 (h : IsB w base p (.slice (some ⟨g, 0, none⟩) n c) L) {k : Nat} {x : One} (hx : L[k]? = some x) (s : Int) : Kept base p (.slice (some ⟨g, 0, none⟩) n c) (L.set k (s, x.2)) w (w.setCell ⟨g, k * 2, none⟩ (.int .i64 s)) :=
  h.put hx (i := 0) (by decide) rfl

end
section
variable {w w' w'' : World} {base p g n c : Nat} {v : Value} {L : List One} {S : Nat → Prop}
theorem IsB.put1 (h : IsB w base p (.slice (some ⟨g, 0, none⟩) n c) L) {k : Nat} {x : One} (hx : L[k]? = some x) (t : Bool) : Kept base p (.slice (some ⟨g, 0, none⟩) n c) (L.set k (x.1, t)) w (w.setCell ⟨g, k * 2 + 1, none⟩ (.bool t)) :=
  h.put hx (i := 1) (by decide) rfl

end
section
variable {w w' w'' : World} {base p g n c : Nat} {v : Value} {L : List One} {S : Nat → Prop}
theorem IsB.put2 (h : IsB w base p (.slice (some ⟨g, 0, none⟩) n c) L) {k : Nat} {x : One} (hx : L[k]? = some x) (s : Int) (t : Bool) : Kept base p (.slice (some ⟨g, 0, none⟩) n c) (L.set k (s, t)) w ((w.setCell ⟨g, k * 2, none⟩ (.int .i64 s)).setCell ⟨g, k * 2 + 1, none⟩ (.bool t)) := by
  have h1 := h.put0 hx s
  have hk := (List.getElem?_eq_some_iff.1 hx).1
  have h2 := h1.1.put1 (k := k) (x := (s, x.2)) (by simp [hk]) t
  rw [List.set_set] at h2
  exact ⟨h2.1, h1.2.trans h2.2⟩

end
theorem set_any {base p : Nat} {v : Value} {L : List One} {l s : Int} {t : Bool} {b : Bool} (w : World) (h : IsB w base p v L) (hb : doB (setF s t) L l = b) :
    Calls Try.prog 35 #[.pointer (some ⟨p, 0, none⟩), .int .i64 l, .int .i64 s, .bool t] w fun e w' => e = .returned (.bool b) ∧ Kept base p v (doL (setF s t) L l) w w' := by
  have H := Lib.hid h
  have hl := h.len
  cases ha : at_ L l with
  | none =>
    obtain ⟨e1, e2⟩ := do_none (f := setF s t) ha
    rw [e1] at hb
    subst hb
    rw [e2]
    have HR := Lib.hid (at_none ha)
    clear h ha e1 e2
    go_enter Try.func35, Try.ntmps35
    go_wp2_with fail
    refine (has_any w H.out HR.out).mono ?_
    rintro e w1 ⟨rfl, rfl⟩
    go_wp2_with fail
    go_ret
    exact ⟨rfl, Kept.refl H.out⟩
  | some y =>
    obtain ⟨k, rfl, hk, hlt⟩ := at_some ha
    have HR := Lib.hid (has_some hlt)
    have HK := Lib.hid hk
    obtain ⟨g, c, rfl⟩ := h.form (by omega)
    have c0 := h.c0
    obtain ⟨c1, f1, c2, f2⟩ := h.cells hk
    obtain ⟨n, hn⟩ : ∃ n, L.length = n := ⟨_, rfl⟩
    by_cases h0 : 0 ≤ s
    · by_cases h2 : s ≤ 2
      · obtain ⟨e1, e2⟩ := do_some (f := setF s t) (y := (s, t)) (b := true) hk (by simp [setF, h0, h2])
        rw [e1] at hb
        subst hb
        rw [e2]
        rw [hn] at c0 hlt hl H ⊢
        clear h ha e1 e2 hn hk
        go_enter Try.func35, Try.ntmps35
        go_wp2_with fail
        refine (has_any w H.out HR.out).mono ?_
        rintro e w1 ⟨rfl, rfl⟩
        go_wp2_with fail
        go_ret
        exact ⟨rfl, H.out.put2 HK.out s t⟩
      · obtain ⟨e1, e2⟩ := do_same (f := setF s t) (b := false) hk (by simp [setF, h2])
        rw [e1] at hb
        subst hb
        rw [e2]
        rw [hn] at c0 hlt hl H ⊢
        clear h ha e1 e2 hn hk
        go_enter Try.func35, Try.ntmps35
        go_wp2_with fail
        refine (has_any w H.out HR.out).mono ?_
        rintro e w1 ⟨rfl, rfl⟩
        go_wp2_with fail
        go_ret
        exact ⟨rfl, Kept.refl H.out⟩
    · obtain ⟨e1, e2⟩ := do_same (f := setF s t) (b := false) hk (by simp [setF, h0])
      rw [e1] at hb
      subst hb
      rw [e2]
      rw [hn] at c0 hlt hl H ⊢
      clear h ha e1 e2 hn hk
      go_enter Try.func35, Try.ntmps35
      go_wp2_with fail
      refine (has_any w H.out HR.out).mono ?_
      rintro e w1 ⟨rfl, rfl⟩
      go_wp2_with fail
      go_ret
      exact ⟨rfl, Kept.refl H.out⟩

/-- So many New makes. -/
def newN (k : Int) : Nat := (min k 4096).toNat
theorem newN_le (k : Int) : newN k ≤ 4096 := by unfold newN; omega
def allRun (n : Nat) : List One := List.replicate n (0, false)
theorem allRun_length (n : Nat) : (allRun n).length = n := by simp [allRun]
theorem allRun_more (n : Nat) : allRun n ++ [(0, false)] = allRun (n + 1) := by unfold allRun; rw [← List.replicate_succ']

/-- What New gives back. -/
def NewPost (k : Int) (w : World) (e : Ending) (w' : World) : Prop := ∃ p v, e = .returned (.pointer (some ⟨p, 0, none⟩)) ∧ IsB w' w.heap.size p v (allRun (newN k)) ∧ Turn (fun _ => False) w w'

/-- The bench as New builds it. -/
structure Bld (w wr : World) (i : Nat) (v : Value) : Prop where
  b : IsB wr w.heap.size w.heap.size v (allRun i)
  t : Turn (fun _ => False) w wr
theorem Bld.grow {w wr w4 : World} {i c4 g4 n1 : Nat} {v : Value} (h : Bld w wr i v) (hn1 : i + 1 = n1) (hn : n1 ≤ 4096) (h4 : w4.ownsRow w.heap.size 110 2 (.slice (some ⟨g4, 0, none⟩) n1 c4) n1 (flat encO (allRun i ++ [(0, false)]))) (t4 : Turn (fun i => v.ownBlock = some i) wr w4) (b4 : v.ownBlock = some g4 ∨ wr.heap.size ≤ g4) :
    Bld w (w4.setCell ⟨w.heap.size, 0, none⟩ (.slice (some ⟨g4, 0, none⟩) n1 c4)) n1 (.slice (some ⟨g4, 0, none⟩) n1 c4) := by
  have hp : g4 ≠ w.heap.size := by
    rcases b4 with e | e
    · intro e'
      rw [e'] at e
      exact h.b.ne e
    · have := (h.b.blocks (Or.inl rfl)).2
      omega
  have h5 := t4.heap h.b.ne h.b.box
  have t5 : Turn (fun i => i = w.heap.size) w4 (w4.setCell ⟨w.heap.size, 0, none⟩ (.slice (some ⟨g4, 0, none⟩) n1 c4)) := (Turn.refl (fun i => i = w.heap.size) w4).setCell (p := ⟨w.heap.size, 0, none⟩) (Or.inl rfl) _
  rw [allRun_more, hn1] at h4
  refine ⟨⟨?_, ?_, ?_, Nat.le_refl _, by rw [allRun_length]; exact hn⟩, ?_⟩
  · rw [heap_setCell_at h5]
    rfl
  · rw [allRun_length]
    exact own_turn h4 t5 (fun k hk e => hp (by have hk' : some g4 = some k := hk; have e' : k = w.heap.size := e; rw [← e']; exact Option.some.inj hk'))
  · intro e
    exact hp (Option.some.inj e)
  · exact h.t.and ((t4.mono (S' := QB w.heap.size v) (fun i _ e => Or.inr e)).and t5 (fun i _ e => Or.inl e)) (fun i hi e => by have := (h.b.blocks e).1; omega)

set_option maxRecDepth 100000 in
theorem new_any {k : Int} (w : World) (hk : -9223372036854775808 ≤ k ∧ k ≤ 9223372036854775807) : Calls Try.prog 32 #[.int .i64 k] w (NewPost k w) := by
  obtain ⟨n, hn⟩ : ∃ n, newN k = n := ⟨_, rfl⟩
  have hn4 : n ≤ 4096 := hn ▸ newN_le k
  have HS : Hid (Bld w (w.alloc (.cells #[.slice none 0 0] 113)) 0 (.slice none 0 0)) := Lib.hid ⟨⟨heap_alloc_new w _, ⟨rfl, .inl ⟨rfl, rfl⟩⟩, (by intro e; cases e), Nat.le_refl _, Nat.zero_le _⟩, (Turn.refl (fun _ => False) w).alloc _⟩
  by_cases h1 : k ≤ 4096
  · by_cases h0 : 0 ≤ k
    · obtain rfl : k = (n : Int) := by unfold newN at hn; omega
      have HN := Lib.hid hn
      clear hn
      go_enter Try.func32, Try.ntmps32
      go_upto_region 3 with fail
      go_loopw [8] (fun s8 wr => ∃ (i : Nat) (v : Value), i ≤ n ∧ s8 = .int .i64 i ∧ Hid (Bld w wr i v)) (fun s8 _ => n - (intOf s8).toNat)
      case atStart => exact ⟨0, _, Nat.zero_le _, rfl, HS⟩
      case round =>
        clear HS
        obtain ⟨i, v, hi, rfl, HA⟩ := hrel
        by_cases hlt : i < n
        · skip
          have HB1 := HA.out.b
          have c0 := HB1.c0
          have f0 := HB1.frozen
          obtain ⟨bo, c, rfl⟩ := HB1.slice
          rw [allRun_length] at c0
          have HO : Hid (wr.ownsRow w.heap.size 110 2 (.slice bo (allRun i).length c) i (flat encO (allRun i))) := Lib.hid (by have := HB1.own; rwa [allRun_length] at this ⊢)
          rw [allRun_length] at HO
          have hbb := HB1.blocks (Or.inl rfl)
          have HP := Lib.hid HB1
          rw [allRun_length] at HP HA
          clear HB1
          obtain ⟨n1, hn1⟩ : ∃ n1, i + 1 = n1 := ⟨_, rfl⟩
          have HN1 := Lib.hid hn1
          have hle : n1 ≤ 4096 := by omega
          go_wp2_with (at_builtin; refine wpList_append_flat_one (w0 := wr) enc_o (by decide) Try.underlying111 info_doing rfl (by decide) rfl (.tmp 14) (.tmp 16) rfl w.heap.size (.slice bo i c) (allRun i) i (0, false) rfl rfl HO.out rfl n1 HN1.out (by omega) (by omega) ?_; intro g4 c4 w4 hg4 h4 t4 b4; have H4 : Hid (w4.heap[w.heap.size]? = some (.cells #[.slice bo i c] 113 (0, 0))) := Lib.hid (t4.out.heap HP.out.ne HP.out.box); have f4 : w4.frozen? ⟨w.heap.size, 0, none⟩ = false := (by simp [World.frozen?, H4.out]); have d4 : w4.cell? ⟨w.heap.size, 0, none⟩ = some (.slice bo i c) := (by simp [World.cell?, H4.out]))
          have HG := Lib.hid (HA.out.grow HN1.out hle h4.out t4.out b4.out)
          go_roundw
          case rel => exact ⟨n1, _, by omega, by go_num, HG⟩
          case measure => simp [intOf]; omega
        · obtain rfl : i = n := by omega
          go_wp2_with fail
          go_ret
          exact ⟨w.heap.size, v, rfl, by rw [HN.out]; exact HA.out.b, HA.out.t⟩
    · obtain rfl : n = 0 := by unfold newN at hn; omega
      have HN := Lib.hid hn
      clear hn
      go_enter Try.func32, Try.ntmps32
      go_upto_region 3 with fail
      go_loopw [8] (fun s8 wr => s8 = .int .i64 0 ∧ wr = w.alloc (.cells #[.slice none 0 0] 113)) (fun s8 _ => 0)
      case atStart => exact ⟨rfl, rfl⟩
      case round =>
        obtain ⟨rfl, rfl⟩ := hrel
        go_wp2_with fail
        go_ret
        exact ⟨w.heap.size, _, rfl, by rw [HN.out]; exact HS.out.b, HS.out.t⟩
  · obtain rfl : n = 4096 := by unfold newN at hn; omega
    have HN := Lib.hid hn
    clear hn hn4
    go_enter Try.func32, Try.ntmps32
    go_upto_region 3 with fail
    go_loopw [8] (fun s8 wr => ∃ (i : Nat) (v : Value), i ≤ 4096 ∧ s8 = .int .i64 i ∧ Hid (Bld w wr i v)) (fun s8 _ => 4096 - (intOf s8).toNat)
    case atStart => exact ⟨0, _, Nat.zero_le _, rfl, HS⟩
    case round =>
      clear HS
      obtain ⟨i, v, hi, rfl, HA⟩ := hrel
      by_cases hlt : i < 4096
      · skip
        have HB1 := HA.out.b
        have c0 := HB1.c0
        have f0 := HB1.frozen
        obtain ⟨bo, c, rfl⟩ := HB1.slice
        rw [allRun_length] at c0
        have HO : Hid (wr.ownsRow w.heap.size 110 2 (.slice bo (allRun i).length c) i (flat encO (allRun i))) := Lib.hid (by have := HB1.own; rwa [allRun_length] at this ⊢)
        rw [allRun_length] at HO
        have hbb := HB1.blocks (Or.inl rfl)
        have HP := Lib.hid HB1
        rw [allRun_length] at HP HA
        clear HB1
        obtain ⟨n1, hn1⟩ : ∃ n1, i + 1 = n1 := ⟨_, rfl⟩
        have HN1 := Lib.hid hn1
        have hle : n1 ≤ 4096 := by omega
        go_wp2_with (at_builtin; refine wpList_append_flat_one (w0 := wr) enc_o (by decide) Try.underlying111 info_doing rfl (by decide) rfl (.tmp 14) (.tmp 16) rfl w.heap.size (.slice bo i c) (allRun i) i (0, false) rfl rfl HO.out rfl n1 HN1.out (by omega) (by omega) ?_; intro g4 c4 w4 hg4 h4 t4 b4; have H4 : Hid (w4.heap[w.heap.size]? = some (.cells #[.slice bo i c] 113 (0, 0))) := Lib.hid (t4.out.heap HP.out.ne HP.out.box); have f4 : w4.frozen? ⟨w.heap.size, 0, none⟩ = false := (by simp [World.frozen?, H4.out]); have d4 : w4.cell? ⟨w.heap.size, 0, none⟩ = some (.slice bo i c) := (by simp [World.cell?, H4.out]))
        have HG := Lib.hid (HA.out.grow HN1.out hle h4.out t4.out b4.out)
        go_roundw
        case rel => exact ⟨n1, _, by omega, by go_num, HG⟩
        case measure => simp [intOf]; omega
      · have hi2 : i = 4096 := by omega
        have HI := Lib.hid hi2
        clear hi2
        go_wp2_with fail
        go_ret
        exact ⟨w.heap.size, v, rfl, by rw [HN.out, ← HI.out]; exact HA.out.b, HA.out.t⟩

end Go.Proofs.Ytenbafkgfdlfpaa.C8
