/- The document's locks: a list of owners. -/
import Derived.Test.YtkgkogbegbodjaaNew
namespace Go.Proofs.Ytkgkogbegbodjaa
open Go.RowKit
set_option linter.unusedVariables false

/-- The document's list: where it lies; its block is of D. -/
structure RS (w : World) (bo : Option Addr) (c n : Nat) (L : List Int) (D : Nat → Prop) : Prop where
  ints : Ints .i64 w bo L
  nn : L.length = n
  nil : bo = none → c = 0
  far : ∀ ad, bo = some ad → D ad.block
  len : n ≤ 4096
def Dn (D : Nat → Prop) (w w' : World) (i : Nat) : Prop := D i ∨ (w.heap.size ≤ i ∧ i < w'.heap.size)
section
variable {w w' : World} {bo : Option Addr} {c n : Nat} {L : List Int} {D D' S : Nat → Prop}
theorem RS.turn (h : RS w bo c n L D) (t : Turn S w w') (hs : ∀ i, D i → ¬ S i) : RS w' bo c n L D := ⟨h.ints.turn t (fun ad e => hs _ (h.far ad e)), h.nn, h.nil, h.far, h.len⟩
theorem RS.new (h : RS w bo c n L D) (t : Turn (fun _ => False) w w') : RS w' bo c n L D := h.turn t (fun _ _ => id)
theorem RS.mono (h : RS w bo c n L D) (hd : ∀ i, D i → D' i) : RS w bo c n L D' := ⟨h.ints, h.nn, h.nil, fun ad e => hd _ (h.far ad e), h.len⟩
theorem RS.kept (h : RS w bo c n L D) (t : Turn (fun _ => False) w w') : RS w' bo c n L (Dn D w w') := (h.new t).mono (fun _ => Or.inl)
end
/-- A list that is new. -/
def RNewP (n : Nat) (L : List Int) (w : World) (e : Ending) (w' : World) : Prop := ∃ bo c, e = .returned (.slice bo n c) ∧ RS w' bo c n L (fun i => w.heap.size ≤ i ∧ i < w'.heap.size) ∧ Turn (fun _ => False) w w'
theorem rs_own {w w' : World} {bo : Option Addr} {n c : Nat} {L : List Int} (ho : w'.ownsRow w.heap.size 3 1 (.slice bo n c) n (L.map (Value.int .i64))) (hl : n ≤ 4096) : RS w' bo c n L (fun i => w.heap.size ≤ i ∧ i < w'.heap.size) := by
  obtain ⟨h1, h2, h3, h4⟩ := own_reads ho
  exact ⟨h2, h1, h4, fun ad e => by
    subst e
    exact ho.lt ad.block (by rw [own_block]; rfl), hl⟩

/-- The list of New, as it is built. -/
structure Mk (w wr : World) (i : Nat) (bo : Option Addr) (co : Nat) : Prop where
  own : wr.ownsRow w.heap.size 3 1 (.slice bo i co) i ((List.replicate i (-1)).map (Value.int .i64))
  t : Turn (fun _ => False) w wr

set_option maxRecDepth 100000 in
theorem rnew_any {k : Int} {n : Nat} (w : World) (hk : -9223372036854775808 ≤ k ∧ k ≤ 9223372036854775807) (hn : newN k = n) : Calls Try.prog 7 #[.int .i64 k] w (RNewP n (List.replicate n (-1)) w) := by
  have hn4 : n ≤ 4096 := hn ▸ newN_le k
  have hlt : ∀ i : Nat, (i < n ↔ ((i : Int) < k ∧ i < 4096)) := by intro i; unfold newN at hn; omega
  have HLT := Lib.hid hlt
  have HS : Hid (Mk w (w.alloc (.cells #[] 3)) 0 (some ⟨w.heap.size, 0, none⟩) 0) := Lib.hid ⟨own_empty (heap_alloc_new w _) (Nat.le_refl _), (Turn.refl (fun _ => False) w).alloc _⟩
  clear hn hlt
  go_enter Try.func7, Try.ntmps7
  go_upto_region 3 with fail
  go_loopw [3, 4] (fun s3 s4 wr => ∃ (i co : Nat) (bo : Option Addr), i ≤ n ∧ s4 = .int .i64 i ∧ s3 = .slice bo i co ∧ Hid (Mk w wr i bo co)) (fun _ s4 _ => n - (intOf s4).toNat)
  case atStart => exact ⟨0, 0, _, Nat.zero_le _, rfl, rfl, HS⟩
  case round =>
    clear HS
    obtain ⟨i, co, bo, hi, rfl, rfl, HA⟩ := hrel
    by_cases hlt : i < n
    · have hx := (HLT.out i).1 hlt
      obtain ⟨hx1, hx2⟩ := hx
      have HT2 := Lib.hid (show List.replicate i (-1 : Int) ++ [-1] = List.replicate (i + 1) (-1) by rw [← List.replicate_succ'])
      obtain ⟨i1, hi1⟩ : ∃ i1, i + 1 = i1 := ⟨_, rfl⟩
      have HI1 := Lib.hid hi1
      have hle : i1 ≤ n := by omega
      rw [hi1] at HT2
      have hq : n - i1 < n - i := by omega
      clear hi1
      go_wp2_with (at_builtin; refine wpList_append_one_n (w0 := wr) Try.underlying26 info_int (by decide) rfl (.tmp 15) (.tmp 16) rfl w.heap.size (.slice bo i co) (List.replicate i (-1)) i (-1) rfl HA.out.own i1 HI1.out rfl (by omega) HA.out.t.size ?_; intro g4 c4 w4 hg4 h4 t4 b4)
      go_roundw
      case rel => exact ⟨i1, c4, _, hle, by rw [← HI1.out]; go_num, rfl, Lib.hid ⟨by rw [← HT2.out]; exact h4.out, HA.out.t.and t4.out (fun j hj e => by have := (HA.out.own.lt j e).1; omega)⟩⟩
      case measure => rw [← HI1.out] at hq; simpa [intOf] using hq
    · have hx := fun h => hlt ((HLT.out i).2 h)
      have hin : i = n := by omega
      have HIN := Lib.hid hin
      by_cases hx1 : (i : Int) < k
      · have hx2 : ¬ i < 4096 := fun e => hx ⟨hx1, e⟩
        clear hx hin
        go_wp2_with fail
        go_ret
        rw [← HIN.out]
        exact ⟨bo, co, rfl, rs_own HA.out.own (by omega), HA.out.t⟩
      · clear hx hin
        go_wp2_with fail
        go_ret
        rw [← HIN.out]
        exact ⟨bo, co, rfl, rs_own HA.out.own (by omega), HA.out.t⟩

theorem rowner_any {bo : Option Addr} {c n : Nat} {L : List Int} {D : Nat → Prop} {l x : Int} (w : World) (h : RS w bo c n L D) (hx : ownL L l = x) :
    Calls Try.prog 15 #[.slice bo n c, .int .i64 l] w fun e w' => e = .returned (.int .i64 x) ∧ w = w' := by
  have hl := h.len
  have hn := h.nn
  cases hb : isL L l with
  | false =>
    have e1 : x = -1 := by rw [← hx]; unfold ownL; rw [hb]; rfl
    subst e1
    have hd : ¬ (0 ≤ l ∧ l < (n : Int)) := by rw [← hn]; exact of_decide_eq_false hb
    clear hb hx h hn
    by_cases h0 : l < 0
    · clear hd
      go_enter Try.func15, Try.ntmps15
      go_wp2
      go_ret
      exact ⟨rfl, rfl⟩
    · have h1 : (n : Int) ≤ l := by omega
      clear hd
      go_enter Try.func15, Try.ntmps15
      go_wp2
      go_ret
      exact ⟨rfl, rfl⟩
  | true =>
    obtain ⟨k, rfl, hk⟩ := isL_yes hb
    obtain ⟨ad, ha, hc⟩ := h.ints k hk
    subst ha
    have e1 : L.getD k 0 = x := by rw [← hx]; unfold ownL; rw [if_pos hb]; unfold at_; rw [Int.toNat_natCast]
    rw [e1] at hc
    rw [hn] at hk
    clear hb hx h hn e1
    go_enter Try.func15, Try.ntmps15
    go_wp2
    go_ret
    exact ⟨rfl, rfl⟩

theorem rset_any {bo : Option Addr} {c n k : Nat} {L M : List Int} {D : Nat → Prop} {x : Int} (w : World) (h : RS w bo c n L D) (hk : k < n) (hM : L.set k x = M) :
    Calls Try.prog 19 #[.slice bo n c, .int .i64 k, .int .i64 x] w (RNewP n M w) := by
  have hl := h.len
  have H := Lib.hid h
  have HM := Lib.hid hM
  have TA := Lib.hid ((Turn.refl (fun _ => False) w).alloc (.cells #[] 3))
  clear h hM
  go_enter Try.func19, Try.ntmps19
  go_wp2_with (at_builtin; refine wpList_append_ints_at Try.underlying26 info_int (by decide) rfl (.tmp 8) (.tmp 9) rfl w.heap.size (.slice (some ⟨w.heap.size, 0, none⟩) 0 0) [] 0 rfl (own_empty (heap_alloc_new w _) (Nat.le_refl _)) bo L n c H.out.nn rfl H.out.nil (H.out.ints.turn TA.out (fun _ _ => id)) (by omega) (by simp) ?_; intro v3 w3 O3 T3 B3; rw [Nat.zero_add, List.nil_append] at O3; obtain ⟨g3, c3, rfl, hg3, _⟩ := own_form O3.out (by omega); obtain ⟨d3, f3⟩ := own_cells O3.out hk)
  go_ret
  have ho := own_put O3.out k x HM.out
  refine ⟨_, _, rfl, ?_, ?_⟩
  · exact rs_own ho hl
  · have t3 := TA.out.and T3.out (fun i hi e => by have e' : w.heap.size = i := Option.some.inj e; omega)
    exact t3.and ((Turn.refl (fun i => i = g3) w3).setCell (p := ⟨g3, k, none⟩) (Or.inl rfl) _) (fun i hi e => by omega)

/-- What Try and Free give back: a list, and whether it was done. -/
def RPair (n : Nat) (M : List Int) (b : Bool) (D : Nat → Prop) (w : World) (e : Ending) (w' : World) : Prop := ∃ bo c, e = .returned (.tuple #[.slice bo n c, .bool b]) ∧ RS w' bo c n M (Dn D w w') ∧ Turn (fun _ => False) w w'

theorem rtry_any {bo : Option Addr} {c n : Nat} {L : List Int} {D : Nat → Prop} {l who : Int} {b : Bool} (w : World) (h : RS w bo c n L D) (hb : tryB L l who = b) :
    Calls Try.prog 8 #[.slice bo n c, .int .i64 l, .int .i64 who] w (RPair n (tryL L l who) b D w) := by
  have hl := h.len
  have hn := h.nn
  have H := Lib.hid h
  cases hi : isL L l with
  | false =>
    have e1 : tryB L l who = false := by unfold tryB; rw [hi]; rfl
    rw [e1] at hb
    subst hb
    rw [tryB_no e1]
    have hd : ¬ (0 ≤ l ∧ l < (n : Int)) := by rw [← hn]; exact of_decide_eq_false hi
    clear h hi hn e1
    by_cases h0 : l < 0
    · clear hd
      go_enter Try.func8, Try.ntmps8
      go_wp2
      go_ret2
      exact ⟨bo, c, rfl, H.out.kept (Turn.refl _ _), Turn.refl _ _⟩
    · have h1 : (n : Int) ≤ l := by omega
      clear hd
      go_enter Try.func8, Try.ntmps8
      go_wp2
      go_ret2
      exact ⟨bo, c, rfl, H.out.kept (Turn.refl _ _), Turn.refl _ _⟩
  | true =>
    obtain ⟨k, rfl, hk⟩ := isL_yes hi
    obtain ⟨ad, ha, hc⟩ := h.ints k hk
    subst ha
    have e3 : at_ L k = L.getD k 0 := by unfold at_; rw [Int.toNat_natCast]
    by_cases hw : 0 ≤ who
    · by_cases hx : L.getD k 0 = -1
      · have e1 : tryB L k who = true := by unfold tryB; rw [hi, e3, hx]; simp [hw]
        have e2 : tryL L k who = L.set k who := by unfold tryL; rw [if_pos e1, Int.toNat_natCast]
        rw [e1] at hb
        subst hb
        rw [e2]
        rw [hx] at hc
        rw [hn] at hk
        clear h hi hn e1 e2 e3 hx
        go_enter Try.func8, Try.ntmps8
        go_wp2_with fail
        refine (rset_any w H.out hk rfl).mono ?_
        rintro e w1 ⟨b1, c1, rfl, h1, t1⟩
        have H1 := Lib.hid h1
        have T1 := Lib.hid t1
        clear h1 t1
        go_wp2_with fail
        go_ret2
        exact ⟨b1, c1, rfl, H1.out.mono (fun _ => Or.inr), T1.out⟩
      · have e1 : tryB L k who = false := by unfold tryB; rw [e3, decide_eq_false hx, Bool.and_false]
        rw [e1] at hb
        subst hb
        rw [tryB_no e1]
        have hne : (L.getD k 0 != -1) = true := by simpa using hx
        generalize L.getD k 0 = x at hc hne
        rw [hn] at hk
        clear h hi hn e1 e3 hx
        go_enter Try.func8, Try.ntmps8
        go_wp2_with fail
        go_ret2
        exact ⟨_, c, rfl, H.out.kept (Turn.refl _ _), Turn.refl _ _⟩
    · have e1 : tryB L k who = false := by unfold tryB; simp [hw]
      rw [e1] at hb
      subst hb
      rw [tryB_no e1]
      rw [hn] at hk
      clear h hi hn e1 e3 hc
      go_enter Try.func8, Try.ntmps8
      go_wp2_with fail
      go_ret2
      exact ⟨_, c, rfl, H.out.kept (Turn.refl _ _), Turn.refl _ _⟩

theorem rfree_any {bo : Option Addr} {c n : Nat} {L : List Int} {D : Nat → Prop} {l who : Int} {b : Bool} (w : World) (h : RS w bo c n L D) (hb : freeB L l who = b) :
    Calls Try.prog 10 #[.slice bo n c, .int .i64 l, .int .i64 who] w (RPair n (freeL L l who) b D w) := by
  have hl := h.len
  have hn := h.nn
  have H := Lib.hid h
  cases hi : isL L l with
  | false =>
    have e1 : freeB L l who = false := by unfold freeB; rw [hi]; rfl
    rw [e1] at hb
    subst hb
    rw [freeB_no e1]
    have hd : ¬ (0 ≤ l ∧ l < (n : Int)) := by rw [← hn]; exact of_decide_eq_false hi
    clear h hi hn e1
    by_cases h0 : l < 0
    · clear hd
      go_enter Try.func10, Try.ntmps10
      go_wp2
      go_ret2
      exact ⟨bo, c, rfl, H.out.kept (Turn.refl _ _), Turn.refl _ _⟩
    · have h1 : (n : Int) ≤ l := by omega
      clear hd
      go_enter Try.func10, Try.ntmps10
      go_wp2
      go_ret2
      exact ⟨bo, c, rfl, H.out.kept (Turn.refl _ _), Turn.refl _ _⟩
  | true =>
    obtain ⟨k, rfl, hk⟩ := isL_yes hi
    obtain ⟨ad, ha, hc⟩ := h.ints k hk
    subst ha
    have e3 : at_ L k = L.getD k 0 := by unfold at_; rw [Int.toNat_natCast]
    by_cases hw : 0 ≤ who
    · by_cases hx : L.getD k 0 = who
      · have e1 : freeB L k who = true := by unfold freeB; rw [hi, e3, hx]; simp [hw]
        have e2 : freeL L k who = L.set k (-1) := by unfold freeL; rw [if_pos e1, Int.toNat_natCast]
        rw [e1] at hb
        subst hb
        rw [e2]
        rw [hx] at hc
        rw [hn] at hk
        clear h hi hn e1 e2 e3 hx
        go_enter Try.func10, Try.ntmps10
        go_wp2_with fail
        refine (rset_any w H.out hk rfl).mono ?_
        rintro e w1 ⟨b1, c1, rfl, h1, t1⟩
        have H1 := Lib.hid h1
        have T1 := Lib.hid t1
        clear h1 t1
        go_wp2_with fail
        go_ret2
        exact ⟨b1, c1, rfl, H1.out.mono (fun _ => Or.inr), T1.out⟩
      · have e1 : freeB L k who = false := by unfold freeB; rw [e3, decide_eq_false hx, Bool.and_false]
        rw [e1] at hb
        subst hb
        rw [freeB_no e1]
        have hne : (L.getD k 0 != who) = true := by simpa using hx
        generalize L.getD k 0 = x at hc hne
        rw [hn] at hk
        clear h hi hn e1 e3 hx
        go_enter Try.func10, Try.ntmps10
        go_wp2_with fail
        go_ret2
        exact ⟨_, c, rfl, H.out.kept (Turn.refl _ _), Turn.refl _ _⟩
    · have e1 : freeB L k who = false := by unfold freeB; simp [hw]
      rw [e1] at hb
      subst hb
      rw [freeB_no e1]
      rw [hn] at hk
      clear h hi hn e1 e3 hc
      go_enter Try.func10, Try.ntmps10
      go_wp2_with fail
      go_ret2
      exact ⟨_, c, rfl, H.out.kept (Turn.refl _ _), Turn.refl _ _⟩

theorem rheld_any {bo : Option Addr} {c n nh : Nat} {L H : List Int} {D : Nat → Prop} {who : Int} (w : World) (h : RS w bo c n L D) (hH : heldL L who = H) (hn : H.length = nh) :
    Calls Try.prog 18 #[.slice bo n c, .int .i64 who] w (Reads .i64 nh H w) := by
  have hl := h.len
  have HR := Lib.hid h
  have HLN := Lib.hid h.nn
  have HH := Lib.hid hH
  have HN := Lib.hid hn
  have HS : Hid (Hld w (w.alloc (.cells #[] 3)) L who 0 (some ⟨w.heap.size, 0, none⟩) 0 0) := Lib.hid ⟨own_empty (heap_alloc_new w _) (Nat.le_refl _), (Turn.refl (fun _ => False) w).alloc _⟩
  clear h hH hn
  go_enter Try.func18, Try.ntmps18
  go_upto_region 3 with fail
  go_loopw [5, 11] (fun s5 s11 wr => ∃ (k m co : Nat) (ao : Option Addr), k ≤ n ∧ m ≤ k ∧ s11 = .int .i64 k ∧ s5 = .slice ao m co ∧ Hid (Hld w wr L who k ao m co)) (fun _ s11 _ => n - (intOf s11).toNat)
  case atStart => exact ⟨0, 0, 0, _, Nat.zero_le _, Nat.le_refl _, rfl, rfl, HS⟩
  case round =>
    clear HS
    obtain ⟨k, m, co, ao, hk, hm, rfl, rfl, HA⟩ := hrel
    by_cases hlt : k < n
    · obtain ⟨ad, ha, hc⟩ := (HR.out.ints.turn HA.out.t (fun _ _ => id)) k (by rw [HLN.out]; exact hlt)
      subst ha
      by_cases he : L.getD k 0 = who
      · rw [he] at hc
        by_cases hw : 0 ≤ who
        · have HT2 := Lib.hid (heldK_yes hw he)
          clear he
          obtain ⟨m1, hm1⟩ : ∃ m1, m + 1 = m1 := ⟨_, rfl⟩
          have HM1 := Lib.hid hm1
          have hle : m1 ≤ k + 1 := by omega
          clear hm1
          go_wp2_with (at_builtin; refine wpList_append_one_n (w0 := wr) Try.underlying26 info_int (by decide) rfl (.tmp 23) (.tmp 25) rfl w.heap.size (.slice ao m co) (heldK L who k) m k rfl HA.out.own m1 HM1.out rfl (by omega) HA.out.t.size ?_; intro g4 c4 w4 hg4 h4 t4 b4)
          go_roundw
          case rel => exact ⟨k + 1, m1, c4, _, by omega, hle, by go_num, rfl, Lib.hid ⟨by rw [← HT2.out]; exact h4.out, HA.out.t.and t4.out (fun j hj e => by have := (HA.out.own.lt j e).1; omega)⟩⟩
          case measure => simp [intOf]; omega
        · have HT2 := Lib.hid (heldK_no (L := L) (who := who) (k := k) (fun e => hw e.1))
          clear he
          go_wp2_with fail
          go_roundw
          case rel => exact ⟨k + 1, m, co, ao, by omega, by omega, by go_num, rfl, Lib.hid ⟨by rw [← HT2.out]; exact HA.out.own, HA.out.t⟩⟩
          case measure => simp [intOf]; omega
      · have HT2 := Lib.hid (heldK_no (L := L) (who := who) (k := k) (fun e => he e.2))
        have hne : (L.getD k 0 == who) = false := beq_eq_false_iff_ne.2 he
        generalize L.getD k 0 = y at hc hne
        clear he
        go_wp2_with fail
        go_roundw
        case rel => exact ⟨k + 1, m, co, ao, by omega, by omega, by go_num, rfl, Lib.hid ⟨by rw [← HT2.out]; exact HA.out.own, HA.out.t⟩⟩
        case measure => simp [intOf]; omega
    · have hkn : k = n := by omega
      have HK := Lib.hid hkn
      clear hkn
      go_wp2_with fail
      go_ret
      exact HA.out.reads (HLN.out.trans HK.out.symm) HH.out HN.out

end Go.Proofs.Ytkgkogbegbodjaa
