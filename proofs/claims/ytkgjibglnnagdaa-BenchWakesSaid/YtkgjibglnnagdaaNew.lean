/- Running; New; the chapter's example. -/
import Derived.Test.YtkgjibglnnagdaaOps
import Derived.Deep.DeepCutAuto
import Derived.Deep.CutBlock
namespace Go.Proofs.Ytkgjibglnnagdaa
open Go.RowKit
set_option linter.unusedVariables false

/-- What has been listed: its row is the call's own. -/
structure Rng (w wr : World) (L : List One) (k : Nat) (bo : Option Addr) (m co : Nat) : Prop where
  own : wr.ownsRow w.heap.size 3 1 (.slice bo m co) m ((runK L k).map (Value.int .i64))
  t : Turn (fun _ => False) w wr
theorem Rng.reads {w wr : World} {L : List One} {n m co nh : Nat} {bo : Option Addr} (h : Rng w wr L n bo m co) (hh : (runK L n).length = nh) : Reads .i64 nh (runK L n) w (.returned (.slice bo m co)) wr := by
  obtain ⟨h1, h2, h3, h4⟩ := own_reads h.own
  have e : m = nh := h1.symm.trans hh
  subst e
  exact ⟨bo, co, rfl, hh, h2, fun ad e => by
    subst e
    exact h.own.lt ad.block (by rw [own_block]; rfl), h3, h4, h.t⟩

theorem running_any {base p n nh : Nat} {v : Value} {L : List One} (w : World) (h : IsB w base p v L) (hn : L.length = n) (hh : (runK L n).length = nh) :
    Calls Try.prog 19 #[.pointer (some ⟨p, 0, none⟩)] w (Reads .i64 nh (runK L n) w) := by
  obtain ⟨bo, c, rfl⟩ := h.slice
  have H := Lib.hid h
  have c0 := h.c0
  have hl := h.len
  rw [hn] at c0 hl H
  have HH := Lib.hid hh
  have HS := Lib.hid (show Rng w w L 0 none 0 0 from ⟨⟨rfl, .inl ⟨rfl, rfl⟩⟩, Turn.refl _ _⟩)
  clear h hn hh
  go_enter Try.func19, Try.ntmps19
  go_wp2_with fail
  clear c0
  go_loopw [3, 10] (fun s3 s10 wr => ∃ (k m co : Nat) (ao : Option Addr), k ≤ n ∧ m ≤ k ∧ s10 = .int .i64 k ∧ s3 = .slice ao m co ∧ Hid (Rng w wr L k ao m co)) (fun _ s10 _ => n - (intOf s10).toNat)
  case atStart => exact ⟨0, 0, 0, none, Nat.zero_le _, Nat.le_refl _, rfl, rfl, HS⟩
  case round =>
    clear HS
    obtain ⟨k, m, co, ao, hk, hm, rfl, rfl, HA⟩ := hrel
    by_cases hlt : k < n
    · have HW := Lib.hid (H.out.new HA.out.t)
      by_cases he : stV L k = 0
      · have HT2 := Lib.hid (runK_yes he)
        have HR := Lib.hid (show decide (stV L k = 0) = true by rw [he]; rfl)
        clear he
        obtain ⟨m1, hm1⟩ : ∃ m1, m + 1 = m1 := ⟨_, rfl⟩
        have HM1 := Lib.hid hm1
        have hle : m1 ≤ k + 1 := by omega
        clear hm1
        go_wp2_with fail
        refine (runs_any wr HW.out HR.out).mono ?_
        rintro e w1 ⟨rfl, rfl⟩
        go_wp2_with (at_builtin; refine wpList_append_one_n (w0 := wr) Try.underlying37 info_int (by decide) rfl (.tmp 16) (.tmp 18) rfl w.heap.size (.slice ao m co) (runK L k) m k rfl HA.out.own m1 HM1.out rfl (by omega) HA.out.t.size ?_; intro g4 c4 w4 hg4 h4 t4 b4)
        go_roundw
        case rel => exact ⟨k + 1, m1, c4, _, by omega, hle, by go_num, rfl, Lib.hid ⟨by rw [← HT2.out]; exact h4.out, HA.out.t.and t4.out (fun j hj e => by have := (HA.out.own.lt j e).1; omega)⟩⟩
        case measure => simp [intOf]; omega
      · have HT2 := Lib.hid (runK_no he)
        have HR := Lib.hid (show decide (stV L k = 0) = false from decide_eq_false he)
        clear he
        go_wp2_with fail
        refine (runs_any wr HW.out HR.out).mono ?_
        rintro e w1 ⟨rfl, rfl⟩
        go_wp2_with fail
        go_roundw
        case rel => exact ⟨k + 1, m, co, ao, by omega, by omega, by go_num, rfl, Lib.hid ⟨by rw [← HT2.out]; exact HA.out.own, HA.out.t⟩⟩
        case measure => simp [intOf]; omega
    · have hkn : k = n := by omega
      have HK := Lib.hid hkn
      clear hkn
      go_wp2_with fail
      go_ret
      rw [HK.out] at HA
      exact HA.out.reads HH.out

/-- So many New makes. -/
def newN (k : Int) : Nat := (min k 4096).toNat
theorem newN_le (k : Int) : newN k ≤ 4096 := by unfold newN; omega
def allRun (n : Nat) : List One := List.replicate n (0, false)
theorem allRun_length (n : Nat) : (allRun n).length = n := by simp [allRun]
theorem allRun_more (n : Nat) : allRun n ++ [(0, false)] = allRun (n + 1) := by unfold allRun; rw [← List.replicate_succ']

/-- What Add gives back: the ones L'; their row may be a new one. -/
def Grown (base p : Nat) (v : Value) (L' : List One) (w w' : World) (v' : Value) : Prop := IsB w' base p v' L' ∧ Turn (QB p v) w w' ∧ ∀ i, QB p v' i → QB p v i ∨ w.heap.size ≤ i
/-- What New gives back. -/
def NewPost (k : Int) (w : World) (e : Ending) (w' : World) : Prop := ∃ p v, e = .returned (.pointer (some ⟨p, 0, none⟩)) ∧ IsB w' w.heap.size p v (allRun (newN k)) ∧ Turn (fun _ => False) w w'

/-- The bench as New builds it. -/
structure Bld (w wr : World) (i : Nat) (v : Value) : Prop where
  b : IsB wr w.heap.size w.heap.size v (allRun i)
  t : Turn (fun _ => False) w wr
theorem Bld.grow {w wr w4 : World} {i c4 g4 n1 : Nat} {v : Value} (h : Bld w wr i v) (hn1 : i + 1 = n1) (hn : n1 ≤ 4096) (h4 : w4.ownsRow w.heap.size 48 2 (.slice (some ⟨g4, 0, none⟩) n1 c4) n1 (flat encO (allRun i ++ [(0, false)]))) (t4 : Turn (fun i => v.ownBlock = some i) wr w4) (b4 : v.ownBlock = some g4 ∨ wr.heap.size ≤ g4) :
    Bld w (w4.setCell ⟨w.heap.size, 0, none⟩ (.slice (some ⟨g4, 0, none⟩) n1 c4)) n1 (.slice (some ⟨g4, 0, none⟩) n1 c4) := by
  have hp : g4 ≠ w.heap.size := by
    rcases b4 with e | e
    · intro e'
      rw [e'] at e
      exact h.b.ne e
    · have := (h.b.blocks (Or.inl rfl)).2
      omega
  have h5 := t4.heap h.b.ne h.b.box
  have t5 : Turn (fun i => i = w.heap.size) w4 (w4.setCell ⟨w.heap.size, 0, none⟩ (.slice (some ⟨g4, 0, none⟩) n1 c4)) := (Turn.refl (fun i => i = w.heap.size) w4).setCell (p := ⟨w.heap.size, 0, none⟩) (Or.inl rfl) _
  rw [allRun_more, hn1] at h4
  refine ⟨⟨?_, ?_, ?_, Nat.le_refl _, by rw [allRun_length]; exact hn⟩, ?_⟩
  · rw [heap_setCell_at h5]
    rfl
  · rw [allRun_length]
    exact own_turn h4 t5 (fun k hk e => hp (by have hk' : some g4 = some k := hk; have e' : k = w.heap.size := e; rw [← e']; exact Option.some.inj hk'))
  · intro e
    exact hp (Option.some.inj e)
  · exact h.t.and ((t4.mono (S' := QB w.heap.size v) (fun i _ e => Or.inr e)).and t5 (fun i _ e => Or.inl e)) (fun i hi e => by have := (h.b.blocks e).1; omega)


set_option maxRecDepth 100000 in
theorem new_any {k : Int} (w : World) (hk : -9223372036854775808 ≤ k ∧ k ≤ 9223372036854775807) : Calls Try.prog 6 #[.int .i64 k] w (NewPost k w) := by
  obtain ⟨n, hn⟩ : ∃ n, newN k = n := ⟨_, rfl⟩
  have hn4 : n ≤ 4096 := hn ▸ newN_le k
  have HS : Hid (Bld w (w.alloc (.cells #[.slice none 0 0] 46)) 0 (.slice none 0 0)) := Lib.hid ⟨⟨heap_alloc_new w _, ⟨rfl, .inl ⟨rfl, rfl⟩⟩, (by intro e; cases e), Nat.le_refl _, Nat.zero_le _⟩, (Turn.refl (fun _ => False) w).alloc _⟩
  by_cases h1 : k ≤ 4096
  · by_cases h0 : 0 ≤ k
    · obtain rfl : k = (n : Int) := by unfold newN at hn; omega
      have HN := Lib.hid hn
      clear hn
      go_enter Try.func6, Try.ntmps6
      go_upto_region 3 with fail
      go_loopw [8] (fun s8 wr => ∃ (i : Nat) (v : Value), i ≤ n ∧ s8 = .int .i64 i ∧ Hid (Bld w wr i v)) (fun s8 _ => n - (intOf s8).toNat)
      case atStart => exact ⟨0, _, Nat.zero_le _, rfl, HS⟩
      case round =>
        clear HS
        obtain ⟨i, v, hi, rfl, HA⟩ := hrel
        by_cases hlt : i < n
        · skip
          have HB1 := HA.out.b
          have c0 := HB1.c0
          have f0 := HB1.frozen
          obtain ⟨bo, c, rfl⟩ := HB1.slice
          rw [allRun_length] at c0
          have HO : Hid (wr.ownsRow w.heap.size 48 2 (.slice bo (allRun i).length c) i (flat encO (allRun i))) := Lib.hid (by have := HB1.own; rwa [allRun_length] at this ⊢)
          rw [allRun_length] at HO
          have hbb := HB1.blocks (Or.inl rfl)
          have HP := Lib.hid HB1
          rw [allRun_length] at HP HA
          clear HB1
          obtain ⟨n1, hn1⟩ : ∃ n1, i + 1 = n1 := ⟨_, rfl⟩
          have HN1 := Lib.hid hn1
          have hle : n1 ≤ 4096 := by omega
          go_wp2_with (at_builtin; refine wpList_append_flat_one (w0 := wr) enc_o (by decide) Try.underlying44 info_doing rfl (by decide) rfl (.tmp 14) (.tmp 16) rfl w.heap.size (.slice bo i c) (allRun i) i (0, false) rfl rfl HO.out rfl n1 HN1.out (by omega) (by omega) ?_; intro g4 c4 w4 hg4 h4 t4 b4; have H4 : Hid (w4.heap[w.heap.size]? = some (.cells #[.slice bo i c] 46 (0, 0))) := Lib.hid (t4.out.heap HP.out.ne HP.out.box); have f4 : w4.frozen? ⟨w.heap.size, 0, none⟩ = false := (by simp [World.frozen?, H4.out]); have d4 : w4.cell? ⟨w.heap.size, 0, none⟩ = some (.slice bo i c) := (by simp [World.cell?, H4.out]))
          have HG := Lib.hid (HA.out.grow HN1.out hle h4.out t4.out b4.out)
          go_roundw
          case rel => exact ⟨n1, _, by omega, by go_num, HG⟩
          case measure => simp [intOf]; omega
        · obtain rfl : i = n := by omega
          go_wp2_with fail
          go_ret
          exact ⟨w.heap.size, v, rfl, by rw [HN.out]; exact HA.out.b, HA.out.t⟩
    · obtain rfl : n = 0 := by unfold newN at hn; omega
      have HN := Lib.hid hn
      clear hn
      go_enter Try.func6, Try.ntmps6
      go_upto_region 3 with fail
      go_loopw [8] (fun s8 wr => s8 = .int .i64 0 ∧ wr = w.alloc (.cells #[.slice none 0 0] 46)) (fun s8 _ => 0)
      case atStart => exact ⟨rfl, rfl⟩
      case round =>
        obtain ⟨rfl, rfl⟩ := hrel
        go_wp2_with fail
        go_ret
        exact ⟨w.heap.size, _, rfl, by rw [HN.out]; exact HS.out.b, HS.out.t⟩
  · obtain rfl : n = 4096 := by unfold newN at hn; omega
    have HN := Lib.hid hn
    clear hn hn4
    go_enter Try.func6, Try.ntmps6
    go_upto_region 3 with fail
    go_loopw [8] (fun s8 wr => ∃ (i : Nat) (v : Value), i ≤ 4096 ∧ s8 = .int .i64 i ∧ Hid (Bld w wr i v)) (fun s8 _ => 4096 - (intOf s8).toNat)
    case atStart => exact ⟨0, _, Nat.zero_le _, rfl, HS⟩
    case round =>
      clear HS
      obtain ⟨i, v, hi, rfl, HA⟩ := hrel
      by_cases hlt : i < 4096
      · skip
        have HB1 := HA.out.b
        have c0 := HB1.c0
        have f0 := HB1.frozen
        obtain ⟨bo, c, rfl⟩ := HB1.slice
        rw [allRun_length] at c0
        have HO : Hid (wr.ownsRow w.heap.size 48 2 (.slice bo (allRun i).length c) i (flat encO (allRun i))) := Lib.hid (by have := HB1.own; rwa [allRun_length] at this ⊢)
        rw [allRun_length] at HO
        have hbb := HB1.blocks (Or.inl rfl)
        have HP := Lib.hid HB1
        rw [allRun_length] at HP HA
        clear HB1
        obtain ⟨n1, hn1⟩ : ∃ n1, i + 1 = n1 := ⟨_, rfl⟩
        have HN1 := Lib.hid hn1
        have hle : n1 ≤ 4096 := by omega
        go_wp2_with (at_builtin; refine wpList_append_flat_one (w0 := wr) enc_o (by decide) Try.underlying44 info_doing rfl (by decide) rfl (.tmp 14) (.tmp 16) rfl w.heap.size (.slice bo i c) (allRun i) i (0, false) rfl rfl HO.out rfl n1 HN1.out (by omega) (by omega) ?_; intro g4 c4 w4 hg4 h4 t4 b4; have H4 : Hid (w4.heap[w.heap.size]? = some (.cells #[.slice bo i c] 46 (0, 0))) := Lib.hid (t4.out.heap HP.out.ne HP.out.box); have f4 : w4.frozen? ⟨w.heap.size, 0, none⟩ = false := (by simp [World.frozen?, H4.out]); have d4 : w4.cell? ⟨w.heap.size, 0, none⟩ = some (.slice bo i c) := (by simp [World.cell?, H4.out]))
        have HG := Lib.hid (HA.out.grow HN1.out hle h4.out t4.out b4.out)
        go_roundw
        case rel => exact ⟨n1, _, by omega, by go_num, HG⟩
        case measure => simp [intOf]; omega
      · have hi2 : i = 4096 := by omega
        have HI := Lib.hid hi2
        clear hi2
        go_wp2_with fail
        go_ret
        exact ⟨w.heap.size, v, rfl, by rw [HN.out, ← HI.out]; exact HA.out.b, HA.out.t⟩

/-- The chapter's example. -/
theorem alive_any (w : World) : Calls Try.prog 5 #[] w fun e w' => e = .returned (.bool true) ∧ Turn (fun _ => False) w w' := by
  go_enter Try.func5, Try.ntmps5
  go_wp2_with fail
  refine (new_any w (by decide)).mono ?_
  rintro e w1 ⟨p, v, rfl, h1, t1⟩
  have e1 : allRun (newN 2) = [(0, false), (0, false)] := by decide
  rw [e1] at h1
  have H1 := Lib.hid h1
  have T1 := Lib.hid t1
  clear h1 t1 e1
  go_wp2_with fail
  refine (ready_any (b := true) w1 H1.out (by decide)).mono ?_
  rintro e w2 ⟨rfl, k2⟩
  have T2 := Lib.hid (T1.out.and k2.2 (fun i hi e => by have := (H1.out.blocks e).1; omega))
  have H2 := Lib.hid k2.1
  clear k2
  go_wp2_with fail
  refine (park_any (b := false) w2 H2.out (by decide)).mono ?_
  rintro e w3 ⟨rfl, k3⟩
  have T3 := Lib.hid (T2.out.and k3.2 (fun i hi e => by have := (H2.out.blocks e).1; omega))
  have H3 := Lib.hid k3.1
  clear k3
  go_wp2_with fail
  refine (status_any (x := 0) w3 H3.out (by decide)).mono ?_
  rintro e w' ⟨rfl, rfl⟩
  go_wp2_with fail
  refine (park_any (b := true) w3 H3.out (by decide)).mono ?_
  rintro e w4 ⟨rfl, k4⟩
  have T4 := Lib.hid (T3.out.and k4.2 (fun i hi e => by have := (H3.out.blocks e).1; omega))
  have H4 := Lib.hid k4.1
  clear k4
  go_wp2_with fail
  refine (status_any (x := 1) w4 H4.out (by decide)).mono ?_
  rintro e w' ⟨rfl, rfl⟩
  go_wp2_with fail
  refine (ready_any (b := true) w4 H4.out (by decide)).mono ?_
  rintro e w5 ⟨rfl, k5⟩
  have T5 := Lib.hid (T4.out.and k5.2 (fun i hi e => by have := (H4.out.blocks e).1; omega))
  have H5 := Lib.hid k5.1
  clear k5
  go_wp2_with fail
  refine (status_any (x := 0) w5 H5.out (by decide)).mono ?_
  rintro e w' ⟨rfl, rfl⟩
  go_wp2_with fail
  go_ret
  exact ⟨rfl, T5.out⟩

end Go.Proofs.Ytkgjibglnnagdaa
