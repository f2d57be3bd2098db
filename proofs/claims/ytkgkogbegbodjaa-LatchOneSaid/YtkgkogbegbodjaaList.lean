/- The contract of Same; the locks that one has; New. -/
import Derived.Test.YtkgkogbegbodjaaOps
namespace Go.Proofs.Ytkgkogbegbodjaa
open Go.RowKit
set_option linter.unusedVariables false

theorem take_next {L M : List Int} {k : Nat} (hl : k < L.length) (hm : k < M.length) (h : L.take k = M.take k) (e : L.getD k 0 = M.getD k 0) : L.take (k + 1) = M.take (k + 1) := by
  rw [List.take_succ_eq_append_getElem hl, List.take_succ_eq_append_getElem hm, h]
  simp [List.getD, hl, hm] at e
  rw [e]

theorem same_any {ao bo : Option Addr} {ca cb : Nat} {L M : List Int} (w : World) (hr : Ints .i64 w ao L) (hq : Ints .i64 w bo M) (hl : L.length ≤ 1000000) (hm : M.length ≤ 1000000) :
    Calls Try.prog 16 #[.slice ao L.length ca, .slice bo M.length cb] w fun e w' => e = .returned (.bool (decide (L = M))) ∧ ∃ n, w' = w.drewN n := by
  by_cases hlen : L.length = M.length
  · have HR := Lib.hid hr
    have HQ := Lib.hid hq
    clear hr hq
    have HL := Lib.hid hlen
    rw [← hlen] at hm ⊢
    clear hlen
    go_enter Try.func16, Try.ntmps16
    go_wp2
    go_loopw [13] (fun i wr => ∃ k n : Nat, k ≤ L.length ∧ i = .int .i64 k ∧ L.take k = M.take k ∧ wr = w.drewN n) (fun i _ => L.length - (intOf i).toNat)
    case atStart => exact ⟨0, 0, Nat.zero_le _, rfl, by simp, rfl⟩
    case round =>
      obtain ⟨k, n, hk, rfl, ht, rfl⟩ := hrel
      have HT := Lib.hid ht
      clear ht
      by_cases hlt : k < L.length
      · obtain ⟨ad, ha, hc⟩ := HR.out k hlt
        obtain ⟨bd, hb, hd⟩ := HQ.out k (by rw [← HL.out]; exact hlt)
        subst ha
        subst hb
        by_cases he : L.getD k 0 = M.getD k 0
        · have HN := Lib.hid (take_next hlt (by rw [← HL.out]; exact hlt) HT.out he)
          rw [← he] at hd
          obtain ⟨x, hx⟩ : ∃ x, x = L.getD k 0 := ⟨_, rfl⟩
          rw [← hx] at hc hd
          clear hx he
          go_wp2
          go_quiet (fail)
          go_wp2
          go_roundw
          case rel => exact ⟨k + 1, _, by omega, by go_num, HN.out, rfl⟩
          case measure => simp [intOf]; omega
        · have HE := Lib.hid (show decide (L = M) = false by rw [decide_eq_false_iff_not]; intro e; exact he (by rw [e]))
          obtain ⟨x, hx⟩ : ∃ x, x = L.getD k 0 := ⟨_, rfl⟩
          obtain ⟨y, hy⟩ : ∃ y, y = M.getD k 0 := ⟨_, rfl⟩
          rw [← hx, ← hy] at he
          rw [← hx] at hc
          rw [← hy] at hd
          clear hx hy
          have hne : (x != y) = true := by simpa using he
          go_wp2
          go_quiet (fail)
          go_wp2
          go_ret
          exact ⟨ret_bool HE.out.symm, n + nq, by simp⟩
      · obtain rfl : k = L.length := by omega
        have HE := Lib.hid (show L = M by have := HT.out; rwa [List.take_length, HL.out, List.take_length] at this)
        go_wp2
        go_ret
        exact ⟨ret_bool (by simp [HE.out]), _, rfl⟩
  · have he : decide (L = M) = false := by
      rw [decide_eq_false_iff_not]; intro e; exact hlen (by rw [e])
    rw [he]
    clear he
    have hne : ((L.length : Int) != (M.length : Int)) = true := by
      simp; omega
    go_enter Try.func16, Try.ntmps16
    go_wp2
    go_ret
    exact ⟨rfl, 0, rfl⟩
theorem same_eq {ao bo : Option Addr} {ca cb n : Nat} {L : List Int} (w : World) (hr : Ints .i64 w ao L) (hq : Ints .i64 w bo L) (hn : L.length = n) (hl : n ≤ 1000000) :
    Calls Try.prog 16 #[.slice ao n ca, .slice bo n cb] w fun e w' => e = .returned (.bool true) ∧ ∃ k, w' = w.drewN k := by
  subst hn
  refine (same_any w hr hq hl hl).mono ?_
  rintro e w' ⟨rfl, k, rfl⟩
  exact ⟨ret_bool (by simp), k, rfl⟩



theorem slice_own {w : World} {base n : Nat} {e : TypeId} {v : Value} {xs : List Value} (h : w.ownsRow base e 1 v n xs) : ∃ ao c, v = .slice ao n c := by
  obtain ⟨ao, c, e, _⟩ := own_slice h
  exact ⟨ao, c, e⟩

/-- What has been listed: its row is the call's own. -/
structure Hld (w wr : World) (L : List Int) (who : Int) (k : Nat) (bo : Option Addr) (m co : Nat) : Prop where
  own : wr.ownsRow w.heap.size 3 1 (.slice bo m co) m ((heldK L who k).map (Value.int .i64))
  t : Turn (fun _ => False) w wr
theorem Hld.reads {w wr : World} {L : List Int} {who : Int} {n m co nh : Nat} {bo : Option Addr} {H : List Int} (h : Hld w wr L who n bo m co) (hn : L.length = n) (hH : heldL L who = H) (hh : H.length = nh) : Reads .i64 nh H w (.returned (.slice bo m co)) wr := by
  subst hn
  subst hH
  obtain ⟨h1, h2, h3, h4⟩ := own_reads h.own
  have e : m = nh := h1.symm.trans hh
  subst e
  exact ⟨bo, co, rfl, hh, h2, fun ad e => by
    subst e
    exact h.own.lt ad.block (by rw [own_block]; rfl), h3, h4, h.t⟩
theorem reads_nil {k : IntKind} {w : World} : Reads k 0 [] w (.returned (.slice none 0 0)) w :=
  ⟨none, 0, rfl, rfl, fun j hj => (by cases hj), fun ad e => (by cases e), Nat.le_refl _, fun _ => rfl, Turn.refl _ _⟩

theorem held_any {base p nh : Nat} {v : Value} {L H : List Int} {who : Int} (w : World) (h : IsL w base p v L) (hH : heldL L who = H) (hn : H.length = nh) :
    Calls Try.prog 17 #[.pointer (some ⟨p, 0, none⟩), .int .i64 who] w (Reads .i64 nh H w) := by
  by_cases hw : 0 ≤ who
  · obtain ⟨bo, c, rfl⟩ := h.slice
    have c0 := h.c0
    have hl := h.len
    have HR := Lib.hid (own_reads h.own).2.1
    obtain ⟨n, hLn⟩ : ∃ n, L.length = n := ⟨_, rfl⟩
    rw [hLn] at c0 hl
    have HLN := Lib.hid hLn
    have HH := Lib.hid hH
    have HN := Lib.hid hn
    have HS := Lib.hid (show Hld w w L who 0 none 0 0 from ⟨⟨rfl, .inl ⟨rfl, rfl⟩⟩, Turn.refl _ _⟩)
    clear h hH hn hLn
    go_enter Try.func17, Try.ntmps17
    go_wp2_with fail
    clear c0
    go_loopw [5, 15] (fun s5 s15 wr => ∃ (k m co : Nat) (ao : Option Addr), k ≤ n ∧ m ≤ k ∧ s15 = .int .i64 k ∧ s5 = .slice ao m co ∧ Hid (Hld w wr L who k ao m co)) (fun _ s15 _ => n - (intOf s15).toNat)
    case atStart => exact ⟨0, 0, 0, none, Nat.zero_le _, Nat.le_refl _, rfl, rfl, HS⟩
    case round =>
      clear HS
      obtain ⟨k, m, co, ao, hk, hm, rfl, rfl, HA⟩ := hrel
      by_cases hlt : k < n
      · obtain ⟨ad, ha, hc⟩ := (HR.out.turn HA.out.t (fun _ _ => id)) k (by rw [HLN.out]; exact hlt)
        subst ha
        by_cases he : L.getD k 0 = who
        · have HT2 := Lib.hid (heldK_yes hw he)
          rw [he] at hc
          clear he
          obtain ⟨m1, hm1⟩ : ∃ m1, m + 1 = m1 := ⟨_, rfl⟩
          have HM1 := Lib.hid hm1
          have hle : m1 ≤ k + 1 := by omega
          clear hm1
          go_wp2_with (at_builtin; refine wpList_append_one_n (w0 := wr) Try.underlying26 info_int (by decide) rfl (.tmp 23) (.tmp 25) rfl w.heap.size (.slice ao m co) (heldK L who k) m k rfl HA.out.own m1 HM1.out rfl (by omega) HA.out.t.size ?_; intro g4 c4 w4 hg4 h4 t4 b4)
          go_roundw
          case rel => exact ⟨k + 1, m1, c4, _, by omega, hle, by go_num, rfl, Lib.hid ⟨by rw [← HT2.out]; exact h4.out, HA.out.t.and t4.out (fun j hj e => by have := (HA.out.own.lt j e).1; omega)⟩⟩
          case measure => simp [intOf]; omega
        · have HT2 := Lib.hid (heldK_no (L := L) (who := who) (k := k) (fun e => he e.2))
          have hne : (L.getD k 0 == who) = false := beq_eq_false_iff_ne.2 he
          generalize L.getD k 0 = y at hc hne
          clear he
          go_wp2_with fail
          go_roundw
          case rel => exact ⟨k + 1, m, co, ao, by omega, by omega, by go_num, rfl, Lib.hid ⟨by rw [← HT2.out]; exact HA.out.own, HA.out.t⟩⟩
          case measure => simp [intOf]; omega
      · have hkn : k = n := by omega
        have HK := Lib.hid hkn
        clear hkn
        go_wp2_with fail
        go_ret
        exact HA.out.reads (HLN.out.trans HK.out.symm) HH.out HN.out
  · have e : H = [] := by rw [← hH]; exact heldK_below (by omega) _
    subst e
    subst hn
    clear h hH
    go_enter Try.func17, Try.ntmps17
    go_wp2_with fail
    go_ret
    exact reads_nil

end Go.Proofs.Ytkgkogbegbodjaa
