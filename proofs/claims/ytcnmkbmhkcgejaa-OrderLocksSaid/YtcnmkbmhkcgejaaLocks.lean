/- The contracts of Locks and the document's own. -/
import Derived.Test.YtcnmkbmhkcgejaaRSort
namespace Go.Proofs.Ytcnmkbmhkcgejaa
open Go.RowKit
set_option linter.unusedVariables false

/-- A slice of n integers S that is new. -/
def Reads (n : Nat) (S : List Int) (w : World) (e : Ending) (w' : World) : Prop :=
  ∃ bo bc, e = .returned (.slice bo n bc) ∧ S.length = n ∧ Ints .i64 w' bo S ∧ (∀ ad, bo = some ad → w.heap.size ≤ ad.block ∧ ad.block < w'.heap.size) ∧ n ≤ bc ∧ Turn (fun _ => False) w w'
theorem reads_of {n : Nat} {S : List Int} {w w' : World} {e : Ending} (hn : S.length = n) (h : ∃ v, e = .returned v ∧ Fresh .i64 3 w w' v S) : Reads n S w e w' := by
  obtain ⟨v, rfl, f⟩ := h
  subst hn
  obtain ⟨bo, bc, rfl, hi, hb, hc, _⟩ := f.ints
  refine ⟨bo, bc, rfl, rfl, hi, fun ad e => ⟨hb ad e, ?_⟩, hc, f.2⟩
  subst e
  exact (f.1.lt ad.block (by rw [own_block]; rfl)).2
theorem sort_reads {ao : Option Addr} {n cap : Nat} {L : List Int} (w : World) (hr : Ints .i64 w ao L) (hn : L.length = n) (hl : n ≤ 1000) : Calls Try.prog 8 #[.slice ao n cap] w (Reads n (sortL L) w) := by
  subst hn
  exact (sort_any w hr hl).mono fun _ _ h => reads_of (sortL_length L) h
theorem rsort_reads {ao : Option Addr} {n cap : Nat} {L : List Int} (w : World) (hr : Ints .i64 w ao L) (hn : L.length = n) (hl : n ≤ 1000) : Calls Try.prog 9 #[.slice ao n cap] w (Reads n (sortL L) w) := by
  subst hn
  exact (rsort_any w hr hl).mono fun _ _ h => reads_of (sortL_length L) h
theorem turned_reads {ao : Option Addr} {n cap : Nat} {L : List Int} (w : World) (hr : Ints .i64 w ao L) (hn : L.length = n) (hl : n ≤ 1000) : Calls Try.prog 12 #[.slice ao n cap] w (Reads n L.reverse w) := by
  subst hn
  exact (turned_any w hr hl).mono fun _ _ h => reads_of (by simp) h
theorem rturned_reads {ao : Option Addr} {n cap : Nat} {L : List Int} (w : World) (hr : Ints .i64 w ao L) (hn : L.length = n) (hl : n ≤ 1000) : Calls Try.prog 13 #[.slice ao n cap] w (Reads n L.reverse w) := by
  subst hn
  exact (rturned_any w hr hl).mono fun _ _ h => reads_of (by simp) h

/-- What stands at the loop's head: A of the sorted ones S is in the call's own row. -/
structure LockAt (w : World) (bo : Option Addr) (S : List Int) (wr : World) (g m c : Nat) (A : List Int) : Prop where
  len : A.length = m
  own : wr.ownsRow w.heap.size 3 1 (.slice (some ⟨g, 0, none⟩) m c) m (A.map (Value.int .i64))
  ints : Ints .i64 wr bo S
  far : ∀ ad, bo = some ad → g ≠ ad.block ∧ ad.block < wr.heap.size
  turn : Turn (fun _ => False) w wr
theorem LockAt.push {w wr w2 : World} {bo : Option Addr} {S A : List Int} {g m c g2 c2 : Nat} {x : Int} (h : LockAt w bo S wr g m c A)
    (H : w2.ownsRow w.heap.size 3 1 (.slice (some ⟨g2, 0, none⟩) (m + 1) c2) (m + 1) ((A ++ [x]).map (Value.int .i64))) (T : Turn (fun i => (Value.slice (some ⟨g, 0, none⟩) m c).ownBlock = some i) wr w2)
    (B : (Value.slice (some ⟨g, 0, none⟩) m c).ownBlock = some g2 ∨ g2 = wr.heap.size + 1) : LockAt w bo S w2 g2 (m + 1) c2 (A ++ [x]) := by
  refine ⟨by simp [h.len], H, h.ints.turn T (fun ad e e' => ?_), fun ad e => ?_, h.turn.and T (fun i hi e => ?_)⟩
  · rw [own_block] at e'
    injection e' with e'
    exact (h.far ad e).1 e'
  · have h1 := h.far ad e
    have h2 := T.size
    refine ⟨?_, by omega⟩
    rcases B with B | B
    · rw [own_block] at B
      injection B with B
      rw [← B]; exact h1.1
    · omega
  · have := (h.own.lt i e).1
    omega

theorem lock_no {A : List Int} {x : Int} (h : ¬ 0 < x) : lockStep A x = A := if_neg (fun e => h e.1)
theorem lock_old {A : List Int} {x : Int} {m : Nat} (hl : A.length = m) (hm : 0 < m) (h : gt A (m - 1) = x) : lockStep A x = A := if_neg (fun e => by
  rcases e.2 with e | e
  · omega
  · rw [hl] at e; exact e h)
theorem lock_new {A : List Int} {x : Int} {m : Nat} (hl : A.length = m) (h0 : 0 < x) (h : m = 0 ∨ gt A (m - 1) ≠ x) : lockStep A x = A ++ [x] := if_pos ⟨h0, by rw [hl]; exact h⟩

set_option maxHeartbeats 2000000 in
theorem locks_any {ao : Option Addr} {cap : Nat} {L : List Int} (w : World) (hr : Ints .i64 w ao L) (hl : L.length ≤ 1000) :
    Calls Try.prog 14 #[.slice ao L.length cap] w fun e w' => ∃ v, e = .returned v ∧ Fresh .i64 3 w w' v (locksL L) := by
  have HR := Lib.hid hr
  clear hr
  obtain ⟨i0, hi0, hz0, hz1, hz2⟩ := info_parts info_int
  have HInf := Lib.hid (And.intro hi0 (And.intro hz0 (And.intro hz1 hz2)))
  clear hi0 hz0 hz1 hz2
  go_enter Try.func14, Try.ntmps14
  go_wp2_with (first
    | (with_reducible refine wpList_make_own _ rfl (.const (.int .i64 0)) (.tmp 7) 22 rfl w.heap.size 3 i0 (.int .i64 0) 1 Try.underlying22 HInf.out.1 HInf.out.2.1 HInf.out.2.2.1 .i64 .i64 L.length L.length rfl rfl rfl (by rw [HInf.out.2.2.2]; omega) (by unfold maxLen; omega) (Nat.le_refl _) ?_; intro w1 m1 g1; have M1 := Lib.hid m1; have T1 := Lib.hid ((Turn.refl (fun _ => False) w).grown g1 (by simp)); clear m1 g1)
    | (go_at_call 8; refine (sort_reads _ (HR.out.turn T1.out (fun _ _ => id)) rfl hl).mono ?_; rintro e w2 ⟨bo, bc, rfl, h1, h2, h3, h4, h5⟩; have I2 := Lib.hid h2; have F2 := Lib.hid h3; have T2 := Lib.hid h5; have HSL := Lib.hid h1; clear h1 h2 h3 h4 h5))
  have HS0 : Hid (LockAt w bo (sortL L) w2 w.heap.size 0 L.length (lockPart (sortL L) 0)) := Lib.hid ⟨rfl, own_turn M1.out T2.out (fun _ _ => id), I2.out, fun ad e => by
    have h1 := F2.out ad e
    have h2 := (M1.out.lt w.heap.size rfl).2
    omega, T1.out.trans T2.out⟩
  have HAll := Lib.hid (lockPart_all L)
  obtain ⟨S, hS⟩ : ∃ S, S = sortL L := ⟨_, rfl⟩
  rw [← hS] at HS0 HSL HAll
  clear hS M1 T1 I2 F2 T2
  go_loopw [3, 12] (fun o i wr => ∃ k g m c : Nat, k ≤ L.length ∧ m ≤ k ∧ i = .int .i64 k ∧ o = .slice (some ⟨g, 0, none⟩) m c ∧ Hid (LockAt w bo S wr g m c (lockPart S k))) (fun _ i _ => L.length - (intOf i).toNat)
  case atStart => exact ⟨0, _, 0, _, Nat.zero_le _, Nat.zero_le _, rfl, rfl, HS0⟩
  case round =>
    obtain ⟨k, g, m, c, hk, hmk, rfl, rfl, HA⟩ := hrel
    clear HS0
    by_cases hlt : k < L.length
    · obtain ⟨bd, hbo, hc⟩ := HA.out.ints k (by rw [HSL.out]; exact hlt)
      subst hbo
      have HN := Lib.hid (lockPart_next S k (by rw [HSL.out]; exact hlt))
      obtain ⟨A, hA⟩ : ∃ A, A = lockPart S k := ⟨_, rfl⟩
      rw [← hA] at HA HN
      obtain ⟨x, hx⟩ : ∃ x, x = S.getD k 0 := ⟨_, rfl⟩
      rw [show gt S k = S.getD k 0 from rfl, ← hx] at HN
      rw [← hx] at hc
      clear hx hA
      by_cases h0 : 0 < x
      · by_cases hm : 0 < m
        · obtain ⟨j, hj⟩ : ∃ j : Nat, (m : Int) - 1 = j := ⟨m - 1, by omega⟩
          have hjm : j < m := by omega
          have hm0 : ((m : Int) == 0) = false := by rw [beq_eq_false_iff_ne]; omega
          have cj := (own_cells HA.out.own (j := j) hjm).1
          have hj2 : j = m - 1 := by omega
          by_cases he : gt A j = x
          · have HE := Lib.hid (HN.out.trans (lock_old HA.out.len hm (by rw [← hj2]; exact he)))
            rw [show A.getD j 0 = x from he] at cj
            clear he hj2
            go_wp2
            go_roundw
            case rel => exact ⟨k + 1, g, m, c, by omega, by omega, by go_num, rfl, by rw [HE.out]; exact HA⟩
            case measure => simp [intOf]; omega
          · have HE := Lib.hid (HN.out.trans (lock_new HA.out.len h0 (Or.inr (by rw [← hj2]; exact he))))
            obtain ⟨y, hy⟩ : ∃ y, y = A.getD j 0 := ⟨_, rfl⟩
            rw [show gt A j = A.getD j 0 from rfl, ← hy] at he
            rw [← hy] at cj
            have hne : (y != x) = true := by simpa using he
            clear hy hj2 he
            go_wp2_with (at_builtin; refine wpList_append_one Try.underlying22 info_int (by decide) rfl (.tmp 33) (.tmp 35) rfl w.heap.size _ A m x rfl (by rw [HA.out.len]; exact HA.out.own) HA.out.len rfl (by omega) HA.out.turn.size ?_; intro g2 c2 w3 hg2 H2 T2 B2)
            go_roundw
            case rel => exact ⟨k + 1, g2, m + 1, c2, by omega, by omega, by go_num, rfl, by rw [HE.out]; exact Lib.hid (HA.out.push H2.out T2.out B2.out)⟩
            case measure => simp [intOf]; omega
        · have HE := Lib.hid (HN.out.trans (lock_new HA.out.len h0 (Or.inl (by omega))))
          have hm0 : ((m : Int) == 0) = true := by rw [beq_iff_eq]; omega
          go_wp2_with (at_builtin; refine wpList_append_one Try.underlying22 info_int (by decide) rfl (.tmp 33) (.tmp 35) rfl w.heap.size _ A m x rfl (by rw [HA.out.len]; exact HA.out.own) HA.out.len rfl (by omega) HA.out.turn.size ?_; intro g2 c2 w3 hg2 H2 T2 B2)
          go_roundw
          case rel => exact ⟨k + 1, g2, m + 1, c2, by omega, by omega, by go_num, rfl, by rw [HE.out]; exact Lib.hid (HA.out.push H2.out T2.out B2.out)⟩
          case measure => simp [intOf]; omega
      · have HE := Lib.hid (HN.out.trans (lock_no h0))
        go_wp2
        go_roundw
        case rel => exact ⟨k + 1, g, m, c, by omega, by omega, by go_num, rfl, by rw [HE.out]; exact HA⟩
        case measure => simp [intOf]; omega
    · obtain rfl : k = L.length := by omega
      have HZ : Hid (LockAt w bo S wr g m c (locksL L)) := Lib.hid (by have := HA.out; rwa [← HSL.out, HAll.out] at this)
      go_wp2
      go_ret
      exact ⟨_, rfl, by rw [HZ.out.len]; exact HZ.out.own, HZ.out.turn⟩

set_option maxHeartbeats 2000000 in
theorem rlocks_any {ao : Option Addr} {cap : Nat} {L : List Int} (w : World) (hr : Ints .i64 w ao L) (hl : L.length ≤ 1000) :
    Calls Try.prog 15 #[.slice ao L.length cap] w fun e w' => ∃ v, e = .returned v ∧ Fresh .i64 3 w w' v (locksL L) := by
  have HR := Lib.hid hr
  clear hr
  go_enter Try.func15, Try.ntmps15
  go_wp2_with (go_at_call 9; refine (rsort_reads _ (HR.out.turn ((Turn.refl (fun _ => False) w).alloc _) (fun _ _ => id)) rfl hl).mono ?_; rintro e w2 ⟨bo, bc, rfl, h1, h2, h3, h4, h5⟩; have I2 := Lib.hid h2; have F2 := Lib.hid h3; have T2 := Lib.hid h5; have HSL := Lib.hid h1; clear h1 h2 h3 h4 h5)
  have HS0 : Hid (LockAt w bo (sortL L) w2 w.heap.size 0 0 (lockPart (sortL L) 0)) := Lib.hid ⟨rfl, own_turn (fresh_empty .i64 3 w).1 T2.out (fun _ _ => id), I2.out, fun ad e => by
    have h1 := F2.out ad e
    have h2 := World.size_alloc (w := w) (o := .cells #[] 3)
    omega, (fresh_empty .i64 3 w).2.trans T2.out⟩
  have HAll := Lib.hid (lockPart_all L)
  obtain ⟨S, hS⟩ : ∃ S, S = sortL L := ⟨_, rfl⟩
  rw [← hS] at HS0 HSL HAll
  clear hS I2 F2 T2
  go_loopw [3, 10] (fun o i wr => ∃ k g m c : Nat, k ≤ L.length ∧ m ≤ k ∧ i = .int .i64 k ∧ o = .slice (some ⟨g, 0, none⟩) m c ∧ Hid (LockAt w bo S wr g m c (lockPart S k))) (fun _ i _ => L.length - (intOf i).toNat)
  case atStart => exact ⟨0, _, 0, _, Nat.zero_le _, Nat.zero_le _, rfl, rfl, HS0⟩
  case round =>
    obtain ⟨k, g, m, c, hk, hmk, rfl, rfl, HA⟩ := hrel
    clear HS0
    by_cases hlt : k < L.length
    · obtain ⟨bd, hbo, hc⟩ := HA.out.ints k (by rw [HSL.out]; exact hlt)
      subst hbo
      have HN := Lib.hid (lockPart_next S k (by rw [HSL.out]; exact hlt))
      obtain ⟨A, hA⟩ : ∃ A, A = lockPart S k := ⟨_, rfl⟩
      rw [← hA] at HA HN
      obtain ⟨x, hx⟩ : ∃ x, x = S.getD k 0 := ⟨_, rfl⟩
      rw [show gt S k = S.getD k 0 from rfl, ← hx] at HN
      rw [← hx] at hc
      clear hx hA
      by_cases h0 : 0 < x
      · by_cases hm : 0 < m
        · obtain ⟨j, hj⟩ : ∃ j : Nat, (m : Int) - 1 = j := ⟨m - 1, by omega⟩
          have hjm : j < m := by omega
          have cj := (own_cells HA.out.own (j := j) hjm).1
          have hj2 : j = m - 1 := by omega
          by_cases he : gt A j = x
          · have HE := Lib.hid (HN.out.trans (lock_old HA.out.len hm (by rw [← hj2]; exact he)))
            rw [show A.getD j 0 = x from he] at cj
            clear he hj2
            go_wp2
            go_roundw
            case rel => exact ⟨k + 1, g, m, c, by omega, by omega, by go_num, rfl, by rw [HE.out]; exact HA⟩
            case measure => simp [intOf]; omega
          · have HE := Lib.hid (HN.out.trans (lock_new HA.out.len h0 (Or.inr (by rw [← hj2]; exact he))))
            obtain ⟨y, hy⟩ : ∃ y, y = A.getD j 0 := ⟨_, rfl⟩
            rw [show gt A j = A.getD j 0 from rfl, ← hy] at he
            rw [← hy] at cj
            have hne : (y == x) = false := by simpa using he
            clear hy hj2 he
            go_wp2_with (at_builtin; refine wpList_append_one Try.underlying22 info_int (by decide) rfl (.tmp 31) (.tmp 33) rfl w.heap.size _ A m x rfl (by rw [HA.out.len]; exact HA.out.own) HA.out.len rfl (by omega) HA.out.turn.size ?_; intro g2 c2 w3 hg2 H2 T2 B2)
            go_roundw
            case rel => exact ⟨k + 1, g2, m + 1, c2, by omega, by omega, by go_num, rfl, by rw [HE.out]; exact Lib.hid (HA.out.push H2.out T2.out B2.out)⟩
            case measure => simp [intOf]; omega
        · have HE := Lib.hid (HN.out.trans (lock_new HA.out.len h0 (Or.inl (by omega))))
          go_wp2_with (at_builtin; refine wpList_append_one Try.underlying22 info_int (by decide) rfl (.tmp 31) (.tmp 33) rfl w.heap.size _ A m x rfl (by rw [HA.out.len]; exact HA.out.own) HA.out.len rfl (by omega) HA.out.turn.size ?_; intro g2 c2 w3 hg2 H2 T2 B2)
          go_roundw
          case rel => exact ⟨k + 1, g2, m + 1, c2, by omega, by omega, by go_num, rfl, by rw [HE.out]; exact Lib.hid (HA.out.push H2.out T2.out B2.out)⟩
          case measure => simp [intOf]; omega
      · have HE := Lib.hid (HN.out.trans (lock_no h0))
        go_wp2
        go_roundw
        case rel => exact ⟨k + 1, g, m, c, by omega, by omega, by go_num, rfl, by rw [HE.out]; exact HA⟩
        case measure => simp [intOf]; omega
    · obtain rfl : k = L.length := by omega
      have HZ : Hid (LockAt w bo S wr g m c (locksL L)) := Lib.hid (by have := HA.out; rwa [← HSL.out, HAll.out] at this)
      go_wp2
      go_ret
      exact ⟨_, rfl, by rw [HZ.out.len]; exact HZ.out.own, HZ.out.turn⟩

/-- What both answer, with its length named. -/
def LReads (L : List Int) (w : World) (e : Ending) (w' : World) : Prop := ∃ m, m ≤ L.length ∧ Reads m (locksL L) w e w'
theorem locks_reads {ao : Option Addr} {n cap : Nat} {L : List Int} (w : World) (hr : Ints .i64 w ao L) (hn : L.length = n) (hl : n ≤ 1000) : Calls Try.prog 14 #[.slice ao n cap] w (LReads L w) := by
  subst hn
  exact (locks_any w hr hl).mono fun _ _ h => ⟨_, locksL_length L, reads_of rfl h⟩
theorem rlocks_reads {ao : Option Addr} {n cap : Nat} {L : List Int} (w : World) (hr : Ints .i64 w ao L) (hn : L.length = n) (hl : n ≤ 1000) : Calls Try.prog 15 #[.slice ao n cap] w (LReads L w) := by
  subst hn
  exact (rlocks_any w hr hl).mono fun _ _ h => ⟨_, locksL_length L, reads_of rfl h⟩

end Go.Proofs.Ytcnmkbmhkcgejaa
