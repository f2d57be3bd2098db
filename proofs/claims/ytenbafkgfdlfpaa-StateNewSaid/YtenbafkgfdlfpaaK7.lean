/- Taken from s7: Math Mem Ops List New. Made by pullk.py. -/
import Derived.Test.YtenbafkgfdlfpaaGAny
import Derived.BigQuiet
import Derived.Deep.QuietTactic
import Derived.Outline
import Derived.RegionTactic
import Derived.ChangeAlike
import Derived.Deep.CutBlock
import Derived.Deep.DeepCutAuto
namespace Go.Proofs.Ytenbafkgfdlfpaa.C7
open Go.RowKit
set_option linter.unusedVariables false

/-- Is there that lock? -/
def isL (L : List Int) (l : Int) : Bool := decide (0 ≤ l ∧ l < (L.length : Int))
def at_ (L : List Int) (l : Int) : Int := L.getD l.toNat 0
def ownL (L : List Int) (l : Int) : Int := if isL L l = true then at_ L l else -1
def tryB (L : List Int) (l who : Int) : Bool := isL L l && decide (0 ≤ who) && decide (at_ L l = -1)
def tryL (L : List Int) (l who : Int) : List Int := if tryB L l who = true then L.set l.toNat who else L
def addV (L : List Int) : Int := if L.length < 4096 then (L.length : Int) else -1
def addL (L : List Int) : List Int := if L.length < 4096 then L ++ [-1] else L
theorem isL_yes {L : List Int} {l : Int} (h : isL L l = true) : ∃ k : Nat, l = k ∧ k < L.length := by
  have := of_decide_eq_true h
  exact ⟨l.toNat, by omega, by omega⟩
theorem tryB_no {L : List Int} {l who : Int} (h : tryB L l who = false) : tryL L l who = L := by
  unfold tryL
  rw [h]
  rfl
theorem info_int : (Try.prog.info? 3).map (fun i => (i.zero, i.size, i.bytes)) = some (some (.int .i64 0), 1, 8) := by kernel_rfl

/-- Block p is locks whose owners are L; v is their slice. -/
structure IsL (w : World) (base p : Nat) (v : Value) (L : List Int) : Prop where
  box : w.heap[p]? = some (.cells #[v] 123 (0, 0))
  own : w.ownsRow base 3 1 v L.length (L.map (Value.int .i64))
  ne : v.ownBlock ≠ some p
  b : base ≤ p
  len : L.length ≤ 4096
/-- Their blocks. -/
def QL (p : Nat) (v : Value) (i : Nat) : Prop := i = p ∨ v.ownBlock = some i
section
variable {w w' : World} {base p : Nat} {v : Value} {L : List Int} {S : Nat → Prop}
theorem IsL.turn (h : IsL w base p v L) (t : Turn S w w') (hs : ∀ i, QL p v i → ¬ S i) : IsL w' base p v L :=
  ⟨t.heap (hs p (Or.inl rfl)) h.box, own_turn h.own t (fun k hk => hs k (Or.inr hk)), h.ne, h.b, h.len⟩

end
section
variable {w w' : World} {base p : Nat} {v : Value} {L : List Int} {S : Nat → Prop}
theorem IsL.new (h : IsL w base p v L) (t : Turn (fun _ => False) w w') : IsL w' base p v L := h.turn t (fun _ _ => id)

end
section
variable {w w' : World} {base p : Nat} {v : Value} {L : List Int} {S : Nat → Prop}
theorem IsL.less {base' : Nat} (h : IsL w base p v L) (hb : base' ≤ base) : IsL w base' p v L := ⟨h.box, own_less h.own hb, h.ne, Nat.le_trans hb h.b, h.len⟩

end
section
variable {w w' : World} {base p : Nat} {v : Value} {L : List Int} {S : Nat → Prop}
theorem IsL.blocks (h : IsL w base p v L) {i : Nat} (hi : QL p v i) : base ≤ i ∧ i < w.heap.size := by
  rcases hi with e | e
  · subst e
    exact ⟨h.b, (Array.getElem?_eq_some_iff.1 h.box).1⟩
  · exact h.own.lt i e

end
section
variable {w w' : World} {base p : Nat} {v : Value} {L : List Int} {S : Nat → Prop}
theorem IsL.c0 (h : IsL w base p v L) : w.cell? ⟨p, 0, none⟩ = some v := by simp [World.cell?, h.box]

end
section
variable {w w' : World} {base p : Nat} {v : Value} {L : List Int} {S : Nat → Prop}
theorem IsL.frozen (h : IsL w base p v L) : w.frozen? ⟨p, 0, none⟩ = false := by simp [World.frozen?, h.box]

end
section
variable {w w' : World} {base p : Nat} {v : Value} {L : List Int} {S : Nat → Prop}
theorem IsL.slice (h : IsL w base p v L) : ∃ bo c, v = .slice bo L.length c := by
  obtain ⟨bo, c, e, _⟩ := own_slice h.own
  exact ⟨bo, c, e⟩

end
section
variable {w w' : World} {base p : Nat} {v : Value} {L : List Int} {S : Nat → Prop}
theorem IsL.form (h : IsL w base p v L) (hl : 0 < L.length) : ∃ g c, v = .slice (some ⟨g, 0, none⟩) L.length c := by
  obtain ⟨g, c, e, _⟩ := own_form h.own hl
  exact ⟨g, c, e⟩

end
theorem len_any {base p n : Nat} {v : Value} {L : List Int} (w : World) (h : IsL w base p v L) (hn : L.length = n) :
    Calls Try.prog 81 #[.pointer (some ⟨p, 0, none⟩)] w fun e w' => e = .returned (.int .i64 n) ∧ w = w' := by
  obtain ⟨bo, c, rfl⟩ := h.slice
  have c0 := h.c0
  rw [hn] at c0
  have hl := h.len
  rw [hn] at hl
  clear h hn
  go_enter Try.func81, Try.ntmps81
  go_wp2
  go_ret
  exact ⟨rfl, rfl⟩
theorem lock_any {base p : Nat} {v : Value} {L : List Int} {l : Int} {b : Bool} (w : World) (h : IsL w base p v L) (hb : isL L l = b) :
    Calls Try.prog 78 #[.pointer (some ⟨p, 0, none⟩), .int .i64 l] w fun e w' => e = .returned (.bool b) ∧ w = w' := by
  have H := Lib.hid h
  have hl := h.len
  unfold isL at hb
  obtain ⟨n, hn⟩ : ∃ n, L.length = n := ⟨_, rfl⟩
  rw [hn] at hl hb
  have HN := Lib.hid hn
  have HB := Lib.hid hb
  clear h hb hn
  by_cases h0 : 0 ≤ l
  · have HD := Lib.hid (show decide (l < (n : Int)) = b by rw [← HB.out]; simp [h0])
    go_enter Try.func78, Try.ntmps78
    go_wp2_with fail
    refine (len_any w H.out HN.out).mono ?_
    rintro e w1 ⟨rfl, rfl⟩
    go_wp2_with fail
    go_ret
    exact ⟨ret_bool HD.out, rfl⟩
  · have HD := Lib.hid (show false = b by rw [← HB.out]; simp [h0])
    go_enter Try.func78, Try.ntmps78
    go_wp2_with fail
    go_ret
    exact ⟨ret_bool HD.out, rfl⟩
theorem owner_any {base p : Nat} {v : Value} {L : List Int} {l x : Int} (w : World) (h : IsL w base p v L) (hx : ownL L l = x) :
    Calls Try.prog 51 #[.pointer (some ⟨p, 0, none⟩), .int .i64 l] w fun e w' => e = .returned (.int .i64 x) ∧ w = w' := by
  have H := Lib.hid h
  have hl := h.len
  cases hb : isL L l with
  | false =>
    have e1 : x = -1 := by rw [← hx]; unfold ownL; rw [hb]; rfl
    subst e1
    have HB := Lib.hid hb
    clear h hx hb
    go_enter Try.func51, Try.ntmps51
    go_wp2_with fail
    refine (lock_any w H.out HB.out).mono ?_
    rintro e w1 ⟨rfl, rfl⟩
    go_wp2_with fail
    go_ret
    exact ⟨rfl, rfl⟩
  | true =>
    obtain ⟨k, rfl, hk⟩ := isL_yes hb
    obtain ⟨g, c, rfl⟩ := h.form (by omega)
    have c0 := h.c0
    obtain ⟨c1, _⟩ := own_cells h.own hk
    have e1 : L.getD k 0 = x := by rw [← hx]; unfold ownL; rw [if_pos hb]; unfold at_; rw [Int.toNat_natCast]
    rw [e1] at c1
    obtain ⟨n, hn⟩ : ∃ n, L.length = n := ⟨_, rfl⟩
    rw [hn] at c0 hk hl
    have HB := Lib.hid hb
    clear h hx hb e1 hn
    go_enter Try.func51, Try.ntmps51
    go_wp2_with fail
    refine (lock_any w H.out HB.out).mono ?_
    rintro e w1 ⟨rfl, rfl⟩
    go_wp2_with fail
    go_ret
    exact ⟨rfl, rfl⟩

section
variable {w w' : World} {base p g n c : Nat} {v : Value} {L : List Int} {S : Nat → Prop}
/-- One more owner in place of one. -/
theorem IsL.put (h : IsL w base p (.slice (some ⟨g, 0, none⟩) n c) L) (hn : L.length = n) (k : Nat) (x : Int) : IsL (w.setCell ⟨g, k, none⟩ (.int .i64 x)) base p (.slice (some ⟨g, 0, none⟩) n c) (L.set k x) ∧ Turn (QL p (.slice (some ⟨g, 0, none⟩) n c)) w (w.setCell ⟨g, k, none⟩ (.int .i64 x)) := by
  subst hn
  refine ⟨⟨(Below.heap_setCell _ _ _ _ ?_).trans h.box, ?_, h.ne, h.b, by rw [List.length_set]; exact h.len⟩, (Turn.refl _ _).setCell (p := ⟨g, k, none⟩) (Or.inl (Or.inr rfl)) _⟩
  · intro e
    exact h.ne (congrArg some e.symm)
  · rw [List.length_set]
    exact own_put h.own k x rfl

end
/-- What Try and Free give back: the same blocks, the owners L'. -/
def Kept (base p : Nat) (v : Value) (L' : List Int) (w w' : World) : Prop := IsL w' base p v L' ∧ Turn (QL p v) w w'
theorem Kept.refl {w : World} {base p : Nat} {v : Value} {L : List Int} (h : IsL w base p v L) : Kept base p v L w w := ⟨h, Turn.refl _ _⟩

theorem try_any {base p : Nat} {v : Value} {L : List Int} {l who : Int} {b : Bool} (w : World) (h : IsL w base p v L) (hb : tryB L l who = b) :
    Calls Try.prog 70 #[.pointer (some ⟨p, 0, none⟩), .int .i64 l, .int .i64 who] w fun e w' => e = .returned (.bool b) ∧ Kept base p v (tryL L l who) w w' := by
  have H := Lib.hid h
  have hl := h.len
  cases hi : isL L l with
  | false =>
    have e1 : tryB L l who = false := by unfold tryB; rw [hi]; rfl
    rw [e1] at hb
    subst hb
    rw [tryB_no e1]
    have HI := Lib.hid hi
    clear h hi e1
    go_enter Try.func70, Try.ntmps70
    go_wp2_with fail
    refine (lock_any w H.out HI.out).mono ?_
    rintro e w1 ⟨rfl, rfl⟩
    go_wp2_with fail
    go_ret
    exact ⟨rfl, Kept.refl H.out⟩
  | true =>
    obtain ⟨k, rfl, hk⟩ := isL_yes hi
    obtain ⟨g, c, rfl⟩ := h.form (by omega)
    have c0 := h.c0
    obtain ⟨c1, f1⟩ := own_cells h.own hk
    obtain ⟨n, hn⟩ : ∃ n, L.length = n := ⟨_, rfl⟩
    have e3 : at_ L k = L.getD k 0 := by unfold at_; rw [Int.toNat_natCast]
    by_cases hw : 0 ≤ who
    · by_cases hx : L.getD k 0 = -1
      · have e1 : tryB L k who = true := by unfold tryB; rw [hi, e3, hx]; simp [hw]
        have e2 : tryL L k who = L.set k who := by unfold tryL; rw [if_pos e1, Int.toNat_natCast]
        rw [e1] at hb
        subst hb
        rw [e2]
        rw [hx] at c1
        rw [hn] at c0 hk hl H ⊢
        have HN := Lib.hid hn
        have HI := Lib.hid hi
        clear h hi e1 e2 e3 hx hn
        go_enter Try.func70, Try.ntmps70
        go_wp2_with fail
        refine (lock_any w H.out HI.out).mono ?_
        rintro e w1 ⟨rfl, rfl⟩
        go_wp2_with fail
        go_ret
        exact ⟨rfl, H.out.put HN.out k who⟩
      · have e1 : tryB L k who = false := by unfold tryB; rw [e3, decide_eq_false hx, Bool.and_false]
        rw [e1] at hb
        subst hb
        rw [tryB_no e1]
        have hne : (L.getD k 0 != -1) = true := by simpa using hx
        generalize L.getD k 0 = x at c1 hne
        rw [hn] at c0 hk hl H ⊢
        have HI := Lib.hid hi
        clear h hi e1 e3 hx hn
        go_enter Try.func70, Try.ntmps70
        go_wp2_with fail
        refine (lock_any w H.out HI.out).mono ?_
        rintro e w1 ⟨rfl, rfl⟩
        go_wp2_with fail
        go_ret
        exact ⟨rfl, Kept.refl H.out⟩
    · have e1 : tryB L k who = false := by unfold tryB; simp [hw]
      rw [e1] at hb
      subst hb
      rw [tryB_no e1]
      rw [hn] at c0 hk hl H ⊢
      have HI := Lib.hid hi
      clear h hi e1 e3 hn c1 f1
      go_enter Try.func70, Try.ntmps70
      go_wp2_with fail
      refine (lock_any w H.out HI.out).mono ?_
      rintro e w1 ⟨rfl, rfl⟩
      go_wp2_with fail
      go_ret
      exact ⟨rfl, Kept.refl H.out⟩

/-- What Add gives back: the owners L'; their row may be a new one. -/
def Grown (base p : Nat) (v : Value) (L' : List Int) (w w' : World) (v' : Value) : Prop := IsL w' base p v' L' ∧ Turn (QL p v) w w' ∧ ∀ i, QL p v' i → QL p v i ∨ w.heap.size ≤ i

set_option maxRecDepth 100000 in
theorem add_any {base p : Nat} {v : Value} {L : List Int} {x : Int} (w : World) (h : IsL w base p v L) (hx : addV L = x) :
    Calls Try.prog 63 #[.pointer (some ⟨p, 0, none⟩)] w fun e w' => e = .returned (.int .i64 x) ∧ ∃ v', Grown base p v (addL L) w w' v' := by
  have H := Lib.hid h
  have hl := h.len
  obtain ⟨n, hn⟩ : ∃ n, L.length = n := ⟨_, rfl⟩
  by_cases h1 : L.length < 4096
  · have e1 : addV L = (n : Int) := by unfold addV; rw [if_pos h1, hn]
    have e2 : addL L = L ++ [-1] := by unfold addL; rw [if_pos h1]
    rw [e1] at hx
    subst hx
    rw [e2]
    obtain ⟨bo, c, rfl⟩ := h.slice
    have c0 := h.c0
    have f0 := h.frozen
    rw [hn] at c0 hl H h1 ⊢
    have hb := (h.blocks (Or.inl rfl))
    have HO : Hid (w.ownsRow base 3 1 (.slice bo n c) n (L.map (Value.int .i64))) := Lib.hid (by have := h.own; rw [hn] at this; exact this)
    obtain ⟨n1, hn1⟩ : ∃ n1, n + 1 = n1 := ⟨_, rfl⟩
    have HN := Lib.hid hn
    have HN1 := Lib.hid hn1
    clear h e1 e2 hn hn1
    go_enter Try.func63, Try.ntmps63
    go_wp2_with fail
    refine (len_any w H.out HN.out).mono ?_
    rintro e w1 ⟨rfl, rfl⟩
    go_wp2_with (at_builtin; refine wpList_append_one_n (w0 := w) Try.underlying38 info_int (by decide) rfl (.tmp 12) (.tmp 13) rfl base (.slice bo n c) L n (-1) rfl HO.out n1 HN1.out rfl (by omega) (by omega) ?_; intro g4 c4 w4 hg4 h4 t4 b4; have H4 : Hid (w4.heap[p]? = some (.cells #[.slice bo n c] 123 (0, 0))) := Lib.hid (t4.out.heap H.out.ne H.out.box); have f4 : w4.frozen? ⟨p, 0, none⟩ = false := (by simp [World.frozen?, H4.out]); have d4 : w4.cell? ⟨p, 0, none⟩ = some (.slice bo n c) := (by simp [World.cell?, H4.out]))
    go_ret
    have hp : g4 ≠ p := by
      rcases b4.out with e | e
      · intro e'; subst e'; exact H.out.ne e
      · omega
    have hs := (Array.getElem?_eq_some_iff.1 H4.out).1
    have t5 : Turn (fun i => i = p) w4 (w4.setCell ⟨p, 0, none⟩ (.slice (some ⟨g4, 0, none⟩) n1 c4)) := (Turn.refl (fun i => i = p) w4).setCell (p := ⟨p, 0, none⟩) (Or.inl rfl) _
    refine ⟨rfl, .slice (some ⟨g4, 0, none⟩) n1 c4, ⟨?_, ?_, ?_, H.out.b, ?_⟩, ?_, ?_⟩
    · rw [heap_setCell_at H4.out]
      rfl
    · have e : (L ++ [(-1 : Int)]).length = n1 := by rw [List.length_append, HN.out, ← HN1.out]; rfl
      rw [e]
      exact own_turn h4.out t5 (fun k hk e => hp (by have hk' : some g4 = some k := hk; have e' : k = p := e; rw [← e']; exact Option.some.inj hk'))
    · intro e
      exact hp (Option.some.inj e)
    · rw [List.length_append, HN.out]
      simp
      omega
    · exact (t4.out.mono (fun i _ e => Or.inr e)).and t5 (fun i _ e => Or.inl e)
    · intro i hi
      rcases hi with e | e
      · exact Or.inl (Or.inl e)
      · have e' : g4 = i := Option.some.inj e
        subst e'
        rcases b4.out with e | e
        · exact Or.inl (Or.inr e)
        · exact Or.inr e
  · have e1 : addV L = -1 := by unfold addV; rw [if_neg h1]
    have e2 : addL L = L := by unfold addL; rw [if_neg h1]
    rw [e1] at hx
    subst hx
    rw [e2]
    have h2 : 4096 ≤ n := by omega
    rw [hn] at hl
    have HN := Lib.hid hn
    clear h e1 e2 hn h1
    go_enter Try.func63, Try.ntmps63
    go_wp2_with fail
    refine (len_any w H.out HN.out).mono ?_
    rintro e w1 ⟨rfl, rfl⟩
    go_wp2_with fail
    go_ret
    exact ⟨rfl, v, H.out, Turn.refl _ _, fun i hi => Or.inl hi⟩

/-- So many locks New makes. -/
def newN (k : Int) : Nat := (min k 4096).toNat
theorem newN_le (k : Int) : newN k ≤ 4096 := by unfold newN; omega
theorem add_none {i : Nat} (h : i < 4096) : addL (List.replicate i (-1)) = List.replicate (i + 1) (-1) := by
  unfold addL
  rw [if_pos (by rw [List.length_replicate]; exact h), List.replicate_succ']

/-- What New gives back. -/
def NewPost (k : Int) (w : World) (e : Ending) (w' : World) : Prop := ∃ p v, e = .returned (.pointer (some ⟨p, 0, none⟩)) ∧ IsL w' w.heap.size p v (List.replicate (newN k) (-1)) ∧ Turn (fun _ => False) w w'

theorem IsL.grown {w0 w w' : World} {p : Nat} {v v' : Value} {L L' : List Int} (h : IsL w w0.heap.size p v L) (t : Turn (fun _ => False) w0 w) (k : Grown w0.heap.size p v L' w w' v') : Turn (fun _ => False) w0 w' :=
  t.and k.2.1 (fun i hi e => by have := (h.blocks e).1; omega)

set_option maxRecDepth 100000 in
theorem new_any {k : Int} (w : World) (hk : -9223372036854775808 ≤ k ∧ k ≤ 9223372036854775807) : Calls Try.prog 33 #[.int .i64 k] w (NewPost k w) := by
  obtain ⟨n, hn⟩ : ∃ n, newN k = n := ⟨_, rfl⟩
  have hn4 : n ≤ 4096 := hn ▸ newN_le k
  have HS : Hid (IsL (w.alloc (.cells #[.slice none 0 0] 123)) w.heap.size w.heap.size (.slice none 0 0) (List.replicate 0 (-1))) := Lib.hid ⟨heap_alloc_new w _, ⟨rfl, .inl ⟨rfl, rfl⟩⟩, (by intro e; cases e), Nat.le_refl _, Nat.zero_le _⟩
  have HT := Lib.hid ((Turn.refl (fun _ => False) w).alloc (.cells #[.slice none 0 0] 123))
  by_cases h1 : k ≤ 4096
  · by_cases h0 : 0 ≤ k
    · obtain rfl : k = (n : Int) := by unfold newN at hn; omega
      have HN := Lib.hid hn
      clear hn
      go_enter Try.func33, Try.ntmps33
      go_upto_region 3 with fail
      go_loopw [8] (fun s8 wr => ∃ (i : Nat) (v : Value), i ≤ n ∧ s8 = .int .i64 i ∧ Hid (IsL wr w.heap.size w.heap.size v (List.replicate i (-1))) ∧ Hid (Turn (fun _ => False) w wr)) (fun s8 _ => n - (intOf s8).toNat)
      case atStart => exact ⟨0, _, Nat.zero_le _, rfl, HS, HT⟩
      case round =>
        clear HS HT
        obtain ⟨i, v, hi, rfl, HA, HB⟩ := hrel
        by_cases hlt : i < n
        · have HE := Lib.hid (add_none (i := i) (by omega))
          go_wp2_with fail
          refine (add_any wr HA.out rfl).mono ?_
          rintro e w1 ⟨rfl, v1, g1⟩
          rw [HE.out] at g1
          have HB1 := Lib.hid (HA.out.grown HB.out g1)
          have HA1 := Lib.hid g1.1
          clear g1
          go_wp2_with fail
          go_roundw
          case rel => exact ⟨i + 1, v1, by omega, by go_num, HA1, HB1⟩
          case measure => simp [intOf]; omega
        · obtain rfl : i = n := by omega
          go_wp2_with fail
          go_ret
          exact ⟨w.heap.size, v, rfl, by rw [HN.out]; exact HA.out, HB.out⟩
    · obtain rfl : n = 0 := by unfold newN at hn; omega
      have HN := Lib.hid hn
      clear hn
      go_enter Try.func33, Try.ntmps33
      go_upto_region 3 with fail
      go_loopw [8] (fun s8 wr => s8 = .int .i64 0 ∧ wr = w.alloc (.cells #[.slice none 0 0] 123)) (fun s8 _ => 0)
      case atStart => exact ⟨rfl, rfl⟩
      case round =>
        obtain ⟨rfl, rfl⟩ := hrel
        go_wp2_with fail
        go_ret
        exact ⟨w.heap.size, _, rfl, by rw [HN.out]; exact HS.out, HT.out⟩
  · obtain rfl : n = 4096 := by unfold newN at hn; omega
    have HN := Lib.hid hn
    clear hn hn4
    go_enter Try.func33, Try.ntmps33
    go_upto_region 3 with fail
    go_loopw [8] (fun s8 wr => ∃ (i : Nat) (v : Value), i ≤ 4096 ∧ s8 = .int .i64 i ∧ Hid (IsL wr w.heap.size w.heap.size v (List.replicate i (-1))) ∧ Hid (Turn (fun _ => False) w wr)) (fun s8 _ => 4096 - (intOf s8).toNat)
    case atStart => exact ⟨0, _, Nat.zero_le _, rfl, HS, HT⟩
    case round =>
      clear HS HT
      obtain ⟨i, v, hi, rfl, HA, HB⟩ := hrel
      by_cases hlt : i < 4096
      · have HE := Lib.hid (add_none (i := i) (by omega))
        go_wp2_with fail
        refine (add_any wr HA.out rfl).mono ?_
        rintro e w1 ⟨rfl, v1, g1⟩
        rw [HE.out] at g1
        have HB1 := Lib.hid (HA.out.grown HB.out g1)
        have HA1 := Lib.hid g1.1
        clear g1
        go_wp2_with fail
        go_roundw
        case rel => exact ⟨i + 1, v1, by omega, by go_num, HA1, HB1⟩
        case measure => simp [intOf]; omega
      · have hi2 : i = 4096 := by omega
        have HI := Lib.hid hi2
        clear hi2
        go_wp2_with fail
        go_ret
        exact ⟨w.heap.size, v, rfl, by rw [HN.out, ← HI.out]; exact HA.out, HB.out⟩

end Go.Proofs.Ytenbafkgfdlfpaa.C7
