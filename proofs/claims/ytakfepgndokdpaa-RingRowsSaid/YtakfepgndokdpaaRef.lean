/- The document's own Right, Put, Get, Pass. -/
import Derived.Test.YtakfepgndokdpaaGet
import Derived.Test.YtakfepgndokdpaaGStep
namespace Go.Proofs.Ytakfepgndokdpaa
open Go.RowKit
set_option linter.unusedVariables false
attribute [local go_sem ↓] Go.wp_at_zero Go.wp_at_succ

def rightB (r : Int) (n : Nat) : Bool := decide (0 ≤ r ∧ r ≤ 64 ∧ (n : Int) ≤ r)
theorem right_any (r : Int) (n : Nat) (hn : n ≤ 9223372036854775807) (w : World) : Calls Try.prog 9 #[.int .i64 r, .int .i64 n] w fun e w' => e = .returned (.bool (rightB r n)) ∧ w = w' := by
  by_cases h1 : 0 ≤ r
  · by_cases h2 : r ≤ 64
    · by_cases h3 : (n : Int) ≤ r
      · have e : rightB r n = true := decide_eq_true ⟨h1, h2, h3⟩
        rw [e]
        clear e
        go_enter Try.func9, Try.ntmps9
        go_wp2
        go_ret
        exact ⟨rfl, rfl⟩
      · have e : rightB r n = false := decide_eq_false fun h => h3 h.2.2
        rw [e]
        clear e
        go_enter Try.func9, Try.ntmps9
        go_wp2
        go_ret
        exact ⟨rfl, rfl⟩
    · have e : rightB r n = false := decide_eq_false fun h => h2 h.2.1
      rw [e]
      clear e
      go_enter Try.func9, Try.ntmps9
      go_wp2
      go_ret
      exact ⟨rfl, rfl⟩
  · have e : rightB r n = false := decide_eq_false fun h => h1 h.1
    rw [e]
    clear e
    go_enter Try.func9, Try.ntmps9
    go_wp2
    go_ret
    exact ⟨rfl, rfl⟩

/-- What such a function answers: a row of the call's own, M: the one that was given, or a new one. -/
def Ref (w w' : World) (base : Nat) (wo bo : Option Addr) (bc : Nat) (M : List Int) : Prop :=
  w'.ownsRow base 2 1 (.slice bo M.length bc) M.length (M.map (Value.int .i64)) ∧ (∀ a, bo = some a → bo = wo ∨ w.heap.size ≤ a.block) ∧ Turn (fun _ => False) w w'

theorem ret_sb {a : Option Addr} {n m c : Nat} {b : Bool} (h : n = m) : Ending.returned (.tuple #[.slice a n c, .bool b]) = .returned (.tuple #[.slice a m c, .bool b]) := by rw [h]
theorem ret_sib {a : Option Addr} {n m c : Nat} {x : Int} {b : Bool} (h : n = m) : Ending.returned (.tuple #[.slice a n c, .int .i64 x, .bool b]) = .returned (.tuple #[.slice a m c, .int .i64 x, .bool b]) := by rw [h]

def RPutPost (w : World) (base : Nat) (wo : Option Addr) (M : List Int) (b : Bool) (e : Ending) (w' : World) : Prop := ∃ bo bc, e = .returned (.tuple #[.slice bo M.length bc, .bool b]) ∧ Ref w w' base wo bo bc M
theorem rput_no {base room wc : Nat} {wo : Option Addr} {L : List Int} (x : Int) (w : World) (h : w.ownsRow base 2 1 (.slice wo L.length wc) L.length (L.map (Value.int .i64))) (hl : room ≤ L.length) (hL : L.length ≤ 300) :
    Calls Try.prog 15 #[.slice wo L.length wc, .int .i64 room, .int .i64 x] w (RPutPost w base wo L false) := by
  have H := Lib.hid h
  clear h
  go_enter Try.func15, Try.ntmps15
  go_wp2
  go_ret2
  exact ⟨wo, wc, rfl, H.out, fun _ _ => Or.inl rfl, Turn.refl _ _⟩
set_option maxHeartbeats 1000000 in
theorem rput_yes {base room wc : Nat} {wo : Option Addr} {L : List Int} (x : Int) (w : World) (h : w.ownsRow base 2 1 (.slice wo L.length wc) L.length (L.map (Value.int .i64))) (hl : L.length < room) (hb : base ≤ w.heap.size) (hL : L.length ≤ 300) :
    Calls Try.prog 15 #[.slice wo L.length wc, .int .i64 room, .int .i64 x] w (RPutPost w base wo (L ++ [x]) true) := by
  obtain ⟨_, hi, _, hn⟩ := own_reads h
  have HI := Lib.hid hi
  have HN := Lib.hid hn
  have HLen := Lib.hid (show (L ++ [x]).length = L.length + 1 by simp)
  obtain ⟨i0, hi0, hz0, hz1, hz2⟩ := info_parts info_int
  have HInf := Lib.hid (And.intro hi0 (And.intro hz0 (And.intro hz1 hz2)))
  clear h hi hn hi0 hz0 hz1 hz2
  go_enter Try.func15, Try.ntmps15
  go_wp2_with (first
    | (at_builtin; refine wpList_append_ints rfl (.tmp 13) (.tmp 14) 22 rfl w.heap.size 2 i0 (.int .i64 0) 8 Try.underlying22 HInf.out.1 HInf.out.2.1 HInf.out.2.2.1 HInf.out.2.2.2 rfl _ 0 [] rfl (World.ownsRow_made w #[] 0 (Nat.le_refl _) (Nat.zero_le _) rfl) .i64 wo wc L rfl HN.out (HI.out.turn ((Turn.refl (fun _ => False) w).alloc _) (fun _ _ => id)) (by unfold maxLen; omega) (by omega) (by simp) ?_; intro v2 w2 h2 hgrow; rw [Nat.zero_add, List.nil_append] at h2; have T2 := Lib.hid (((Turn.refl (fun _ => False) w).alloc _).grown hgrow (fun k hk => Or.inr (by cases hk; exact Nat.le_refl _))); have O2 := Lib.hid h2; clear h2 hgrow)
    | (at_builtin; refine wpList_append_one (w0 := w2) Try.underlying22 info_int (by decide) rfl (.tmp 15) (.tmp 17) rfl w.heap.size v2 L L.length x rfl O2.out rfl rfl (by omega) T2.out.size ?_; intro g c3 w3 hg H3 T3 B3))
  go_ret2
  refine ⟨some ⟨g, 0, none⟩, c3, ret_sb HLen.out.symm, by rw [HLen.out]; exact own_less H3.out hb, fun a e => ?_, T2.out.and T3.out (fun i hi e => ?_)⟩
  · cases e
    exact Or.inr hg
  · have := (O2.out.lt i e).1
    omega
theorem rput_any {base room wc : Nat} {wo : Option Addr} {L : List Int} (x : Int) (w : World) (h : w.ownsRow base 2 1 (.slice wo L.length wc) L.length (L.map (Value.int .i64))) (hb : base ≤ w.heap.size) (hL : L.length ≤ 300) :
    Calls Try.prog 15 #[.slice wo L.length wc, .int .i64 room, .int .i64 x] w (RPutPost w base wo (putL room L x) (putB room L)) := by
  unfold putL putB
  by_cases hl : L.length < room
  · rw [if_pos hl, decide_eq_true hl]
    exact rput_yes x w h hl hb hL
  · rw [if_neg hl, decide_eq_false hl]
    exact rput_no x w h (by omega) hL

def RGetPost (w : World) (base : Nat) (wo : Option Addr) (M : List Int) (x : Int) (b : Bool) (e : Ending) (w' : World) : Prop := ∃ bo bc, e = .returned (.tuple #[.slice bo M.length bc, .int .i64 x, .bool b]) ∧ Ref w w' base wo bo bc M
theorem rget_none {base wc : Nat} {wo : Option Addr} (w : World) (h : w.ownsRow base 2 1 (.slice wo 0 wc) 0 []) :
    Calls Try.prog 17 #[.slice wo 0 wc] w (RGetPost w base wo [] 0 false) := by
  have H := Lib.hid h
  clear h
  go_enter Try.func17, Try.ntmps17
  go_wp2
  refine bodyPost_ret (results_tmp3 rfl _ _ _) rfl ?_
  exact ⟨wo, wc, rfl, H.out, fun _ _ => Or.inl rfl, Turn.refl _ _⟩

theorem ints_rest {w : World} {g wc : Nat} {L : List Int} (hi : Ints .i64 w (some ⟨g, 0, none⟩) L) (hc : L.length ≤ wc) {ad : Addr} (hif : (if wc = 1 then some (⟨g, 0, none⟩ : Addr) else some ⟨g, 1, none⟩) = some ad) : Ints .i64 w (some ad) (outL L) := by
  unfold outL
  by_cases h : wc = 1
  · intro j hj
    simp at hj
    omega
  · rw [if_neg h] at hif
    cases hif
    exact ints_drop hi 1

theorem far_new {n g : Nat} (h : g < n) : ¬ (Value.slice (some ⟨n, 0, none⟩) 0 0).ownBlock = some g := fun e => by
  have : n = g := Option.some.inj e
  omega

set_option maxHeartbeats 1000000 in
theorem rget_some {base wc g : Nat} {L : List Int} (w : World) (h : w.ownsRow base 2 1 (.slice (some ⟨g, 0, none⟩) L.length wc) L.length (L.map (Value.int .i64))) (hl : 0 < L.length) (hb : base ≤ w.heap.size) (hL : L.length ≤ 300) :
    Calls Try.prog 17 #[.slice (some ⟨g, 0, none⟩) L.length wc] w (RGetPost w base (some ⟨g, 0, none⟩) (outL L) (L.getD 0 0) true) := by
  obtain ⟨_, hi, hcw, _⟩ := own_reads h
  obtain ⟨ad, hif⟩ : ∃ ad, (if wc = 1 then some (⟨g, 0, none⟩ : Addr) else some ⟨g, 1, none⟩) = some ad := by by_cases h : wc = 1 <;> simp [h]
  have HIF := Lib.hid hif
  have HI := Lib.hid (ints_rest hi hcw hif)
  have HD := Lib.hid (show (outL L).length = L.length - 1 by unfold outL; simp)
  obtain ⟨c0, _⟩ := own_cells h (j := 0) (by omega)
  have hgw := World.block_lt_of_cell? w _ c0
  obtain ⟨x, hx⟩ : ∃ x, x = L.getD 0 0 := ⟨_, rfl⟩
  rw [← hx] at c0 ⊢
  have h0 : (0 : Int) < (L.length : Int) := by omega
  have h1 : (1 : Int) ≤ (L.length : Int) := by omega
  have h2 : (L.length : Int) ≤ (wc : Int) := by omega
  have hne : ((L.length : Int) == 0) = false := by rw [beq_eq_false_iff_ne]; omega
  clear h hi hx hif
  go_enter Try.func17, Try.ntmps17
  go_wp2_with fail
  go_region_held3 (fun w' => w'.cell? ⟨g, 0, none⟩ = some (.int .i64 x))
    (first
      | go_keep
      | exact T2.out.cell (far_new hgw) (by assumption))
    ((refine step_append_ints Try.underlying22 info_int (by decide) (by rfl) _ _ (by rfl) w.heap.size (.slice (some ⟨w.heap.size, 0, none⟩) 0 0) [] 0 (by rfl) (own_empty (heap_alloc_new w _) (Nat.le_refl _)) ad (outL L) (L.length - 1) (wc - 1) HD.out (by rw [← HIF.out]; rfl) (HI.out.turn (((Turn.refl (fun _ => False) w).alloc _).drewN 1) (fun _ _ => id)) (by omega) (by simp) ?_; intro v2 w2 O2 T2 B2))
  go_wp2
  all_goals
    have HO := O2.out
    rw [Nat.zero_add, ← HD.out, List.nil_append] at HO
    obtain ⟨bo, bc, rfl, _⟩ := own_slice HO
    go_ret3
    refine ⟨bo, bc, rfl, own_less HO hb, fun a e => ?_, ((Turn.refl (fun _ => False) w).alloc _).drew.and T2.out (fun i hi e => far_new hi e)⟩
    subst e
    exact Or.inr (HO.lt a.block (by rw [own_block]; rfl)).1

theorem rget_any {base wc : Nat} {wo : Option Addr} {L : List Int} (w : World) (h : w.ownsRow base 2 1 (.slice wo L.length wc) L.length (L.map (Value.int .i64))) (hb : base ≤ w.heap.size) (hL : L.length ≤ 300) :
    Calls Try.prog 17 #[.slice wo L.length wc] w (RGetPost w base wo (outL L) (outV L) (outB L)) := by
  cases L with
  | nil => exact rget_none w h
  | cons x T =>
    have hl : 0 < (x :: T).length := by simp
    obtain ⟨g, c, he, _⟩ := own_form h hl
    cases he
    have e : outB (x :: T) = true := decide_eq_true hl
    rw [e]
    exact rget_some w h hl hb hL

def RPassPost (w : World) (base : Nat) (wo : Option Addr) (M : List Int) (x : Int) (b : Bool) (e : Ending) (w' : World) : Prop := ∃ bo bc, e = .returned (.tuple #[.slice bo M.length bc, .int .i64 x, .bool b]) ∧ Ref w w' base wo bo bc M
theorem rpass_no {base room wc : Nat} {wo : Option Addr} {L : List Int} (x : Int) (w : World) (h : w.ownsRow base 2 1 (.slice wo L.length wc) L.length (L.map (Value.int .i64))) (hl : L.length < room ∨ L.length = 0) (hL : L.length ≤ 300) :
    Calls Try.prog 19 #[.slice wo L.length wc, .int .i64 room, .int .i64 x] w (RPassPost w base wo L 0 false) := by
  have H := Lib.hid h
  clear h
  by_cases h1 : L.length < room
  · clear hl
    go_enter Try.func19, Try.ntmps19
    go_wp2
    go_ret3
    exact ⟨wo, wc, rfl, H.out, fun _ _ => Or.inl rfl, Turn.refl _ _⟩
  · have hz : ((L.length : Int) == 0) = true := by rw [beq_iff_eq]; omega
    clear hl
    go_enter Try.func19, Try.ntmps19
    go_wp2
    go_ret3
    exact ⟨wo, wc, rfl, H.out, fun _ _ => Or.inl rfl, Turn.refl _ _⟩

set_option maxHeartbeats 2000000 in
theorem rpass_yes {base room wc g : Nat} {L : List Int} (y : Int) (w : World) (h : w.ownsRow base 2 1 (.slice (some ⟨g, 0, none⟩) L.length wc) L.length (L.map (Value.int .i64))) (hl : 0 < L.length) (hr : room ≤ L.length) (hb : base ≤ w.heap.size) (hL : L.length ≤ 300) :
    Calls Try.prog 19 #[.slice (some ⟨g, 0, none⟩) L.length wc, .int .i64 room, .int .i64 y] w (RPassPost w base (some ⟨g, 0, none⟩) (outL L ++ [y]) (L.getD 0 0) true) := by
  obtain ⟨_, hi, hcw, _⟩ := own_reads h
  obtain ⟨ad, hif⟩ : ∃ ad, (if wc = 1 then some (⟨g, 0, none⟩ : Addr) else some ⟨g, 1, none⟩) = some ad := by by_cases h : wc = 1 <;> simp [h]
  have HIF := Lib.hid hif
  have HI := Lib.hid (ints_rest hi hcw hif)
  have HD := Lib.hid (show (outL L).length = L.length - 1 by unfold outL; simp)
  obtain ⟨c0, _⟩ := own_cells h (j := 0) (by omega)
  have hgw := World.block_lt_of_cell? w _ c0
  obtain ⟨x, hx⟩ : ∃ x, x = L.getD 0 0 := ⟨_, rfl⟩
  rw [← hx] at c0 ⊢
  have h0 : (0 : Int) < (L.length : Int) := by omega
  have h1 : (1 : Int) ≤ (L.length : Int) := by omega
  have h2 : (L.length : Int) ≤ (wc : Int) := by omega
  have hne : ((L.length : Int) == 0) = false := by rw [beq_eq_false_iff_ne]; omega
  clear h hi hx hif
  go_enter Try.func19, Try.ntmps19
  go_wp2_with fail
  go_region_held3 (fun w' => w'.cell? ⟨g, 0, none⟩ = some (.int .i64 x))
    (first
      | go_keep
      | exact T3.out.cell (fun e => absurd (O2.out.lt _ e).1 (by simpa using hgw)) (by assumption)
      | exact U2.out.cell id c0)
    (first
      | (refine step_append_ints Try.underlying22 info_int (by decide) (by rfl) (.tmp 19) (.tmp 21) (by rfl) w.heap.size (.slice (some ⟨w.heap.size, 0, none⟩) 0 0) [] 0 (by rfl) (own_empty (heap_alloc_new w _) (Nat.le_refl _)) ad (outL L) (L.length - 1) (wc - 1) HD.out (by rw [← HIF.out]; rfl) (HI.out.turn (((Turn.refl (fun _ => False) w).alloc _).drewN 1) (fun _ _ => id)) (by omega) (by simp) ?_; intro v2 w2 O2 T2 B2; have U2 := Lib.hid (((Turn.refl (fun _ => False) w).alloc _).drew.and T2.out (fun i hi e => far_new hi e)))
      | (refine step_append_ints Try.underlying22 info_int (by decide) (by rfl) (.tmp 19) (.tmp 21) (by rfl) w.heap.size (.slice (some ⟨w.heap.size, 0, none⟩) 0 0) [] 0 (by rfl) (own_empty (new2 w _ _) (Nat.le_refl _)) ad (outL L) (L.length - 1) (wc - 1) HD.out (by rw [← HIF.out]; rfl) (HI.out.turn ((((Turn.refl (fun _ => False) w).alloc _).alloc _).drewN 1) (fun _ _ => id)) (by omega) (size2 w _ _) ?_; intro v2 w2 O2 T2 B2; have U2 := Lib.hid ((((Turn.refl (fun _ => False) w).alloc _).alloc _).drew.and T2.out (fun i hi e => far_new hi e)); have X2 := Lib.hid (T2.out.heap (i := w.heap.size + 1) (o := .cells #[.int .i64 y] 2) (fun e => by have : w.heap.size = w.heap.size + 1 := Option.some.inj e; omega) (new2' w _ _)))
      | (refine step_append_ints Try.underlying22 info_int (by decide) (by rfl) (.tmp 19) (.tmp 21) (by rfl) w.heap.size (.slice (some ⟨w.heap.size + 1, 0, none⟩) 0 0) [] 0 (by rfl) (own_empty (new2' w _ _) (Nat.le_succ _)) ad (outL L) (L.length - 1) (wc - 1) HD.out (by rw [← HIF.out]; rfl) (HI.out.turn ((((Turn.refl (fun _ => False) w).alloc _).alloc _).drewN 1) (fun _ _ => id)) (by omega) (size2 w _ _) ?_; intro v2 w2 O2 T2 B2; have U2 := Lib.hid ((((Turn.refl (fun _ => False) w).alloc _).alloc _).drew.and T2.out (fun i hi e => far_new (Nat.lt_succ_of_lt hi) e)); have X2 := Lib.hid (T2.out.heap (i := w.heap.size) (o := .cells #[.int .i64 y] 2) (far_new (Nat.lt_succ_self _)) (new2 w _ _)))
      | (refine step_append_one Try.underlying22 info_int (by decide) (by rfl) (.tmp 22) (.tmp 24) (by rfl) w.heap.size v2 (outL L) (L.length - 1) (by rfl) (by have := O2.out; rw [Nat.zero_add, List.nil_append] at this; exact this.alloc _) w2.heap.size y (by rfl) (heap_alloc_new w2 _) (by omega) (by have := U2.out.size; simp; omega) ?_; intro g3 c3 w3 hg H3 T3 B3)
      | (refine step_append_one Try.underlying22 info_int (by decide) (by rfl) (.tmp 22) (.tmp 24) (by rfl) w.heap.size v2 (outL L) (L.length - 1) (by rfl) (by have := O2.out; rw [Nat.zero_add, List.nil_append] at this; exact this) _ y (by rfl) X2.out (by omega) U2.out.size ?_; intro g3 c3 w3 hg H3 T3 B3))
  go_wp2
  all_goals
    have hlen : L.length - 1 + 1 = (outL L ++ [y]).length := by rw [List.length_append, HD.out]; rfl
    have HO := H3.out
    rw [hlen] at HO
    go_ret3
    refine ⟨_, _, ret_sib hlen, own_less HO hb, fun a e => ?_, ?_⟩
    · cases e
      exact Or.inr hg
    · first
        | exact (U2.out.alloc _).and T3.out (fun i hi e => absurd (O2.out.lt _ e).1 (by omega))
        | exact U2.out.and T3.out (fun i hi e => absurd (O2.out.lt _ e).1 (by omega))

theorem rpass_any {base room wc : Nat} {wo : Option Addr} {L : List Int} (x : Int) (w : World) (h : w.ownsRow base 2 1 (.slice wo L.length wc) L.length (L.map (Value.int .i64))) (hb : base ≤ w.heap.size) (hL : L.length ≤ 300) :
    Calls Try.prog 19 #[.slice wo L.length wc, .int .i64 room, .int .i64 x] w (RPassPost w base wo (passL room L x) (passV room L) (passB room L)) := by
  unfold passL passV passB
  by_cases hp : room ≤ L.length ∧ 0 < L.length
  · obtain ⟨g, c, he, _⟩ := own_form h hp.2
    cases he
    rw [if_pos hp, if_pos hp, decide_eq_true hp]
    exact rpass_yes x w h hp.2 hp.1 hb hL
  · rw [if_neg hp, if_neg hp, decide_eq_false hp]
    exact rpass_no x w h (by omega) hL

end Go.Proofs.Ytakfepgndokdpaa
