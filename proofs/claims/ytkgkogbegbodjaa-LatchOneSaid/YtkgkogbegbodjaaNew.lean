/- New: the code's. -/
import Derived.Test.YtkgkogbegbodjaaList
import Derived.Deep.DeepCutAuto
import Derived.Deep.CutBlock
namespace Go.Proofs.Ytkgkogbegbodjaa
open Go.RowKit
set_option linter.unusedVariables false

/-- So many locks New makes. -/
def newN (k : Int) : Nat := (min k 4096).toNat
theorem newN_le (k : Int) : newN k ≤ 4096 := by unfold newN; omega
theorem add_none {i : Nat} (h : i < 4096) : addL (List.replicate i (-1)) = List.replicate (i + 1) (-1) := by
  unfold addL
  rw [if_pos (by rw [List.length_replicate]; exact h), List.replicate_succ']

/-- What New gives back. -/
def NewPost (k : Int) (w : World) (e : Ending) (w' : World) : Prop := ∃ p v, e = .returned (.pointer (some ⟨p, 0, none⟩)) ∧ IsL w' w.heap.size p v (List.replicate (newN k) (-1)) ∧ Turn (fun _ => False) w w'

theorem IsL.grown {w0 w w' : World} {p : Nat} {v v' : Value} {L L' : List Int} (h : IsL w w0.heap.size p v L) (t : Turn (fun _ => False) w0 w) (k : Grown w0.heap.size p v L' w w' v') : Turn (fun _ => False) w0 w' :=
  t.and k.2.1 (fun i hi e => by have := (h.blocks e).1; omega)

theorem min_yes {k : Int} (h : k < 4096) : min k 4096 = k := by omega
set_option maxRecDepth 100000 in
theorem new_any {k : Int} (w : World) (hk : -9223372036854775808 ≤ k ∧ k ≤ 9223372036854775807) : Calls Try.prog 6 #[.int .i64 k] w (NewPost k w) := by
  obtain ⟨n, hn⟩ : ∃ n, newN k = n := ⟨_, rfl⟩
  have hn4 : n ≤ 4096 := hn ▸ newN_le k
  have HS : Hid (IsL (w.alloc (.cells #[.slice none 0 0] 41)) w.heap.size w.heap.size (.slice none 0 0) (List.replicate 0 (-1))) := Lib.hid ⟨heap_alloc_new w _, ⟨rfl, .inl ⟨rfl, rfl⟩⟩, (by intro e; cases e), Nat.le_refl _, Nat.zero_le _⟩
  have HT := Lib.hid ((Turn.refl (fun _ => False) w).alloc (.cells #[.slice none 0 0] 41))
  by_cases h1 : k ≤ 4096
  · by_cases h0 : 0 ≤ k
    · obtain rfl : k = (n : Int) := by unfold newN at hn; omega
      have HN := Lib.hid hn
      clear hn
      go_enter Try.func6, Try.ntmps6
      go_upto_region 3 with fail
      go_loopw [8] (fun s8 wr => ∃ (i : Nat) (v : Value), i ≤ n ∧ s8 = .int .i64 i ∧ Hid (IsL wr w.heap.size w.heap.size v (List.replicate i (-1))) ∧ Hid (Turn (fun _ => False) w wr)) (fun s8 _ => n - (intOf s8).toNat)
      case atStart => exact ⟨0, _, Nat.zero_le _, rfl, HS, HT⟩
      case round =>
        clear HS HT
        obtain ⟨i, v, hi, rfl, HA, HB⟩ := hrel
        by_cases hlt : i < n
        · have HE := Lib.hid (add_none (i := i) (by omega))
          go_wp2_with fail
          refine (add_any wr HA.out rfl).mono ?_
          rintro e w1 ⟨rfl, v1, g1⟩
          rw [HE.out] at g1
          have HB1 := Lib.hid (HA.out.grown HB.out g1)
          have HA1 := Lib.hid g1.1
          clear g1
          go_wp2_with fail
          go_roundw
          case rel => exact ⟨i + 1, v1, by omega, by go_num, HA1, HB1⟩
          case measure => simp [intOf]; omega
        · obtain rfl : i = n := by omega
          go_wp2_with fail
          go_ret
          exact ⟨w.heap.size, v, rfl, by rw [HN.out]; exact HA.out, HB.out⟩
    · obtain rfl : n = 0 := by unfold newN at hn; omega
      have HN := Lib.hid hn
      clear hn
      go_enter Try.func6, Try.ntmps6
      go_upto_region 3 with fail
      go_loopw [8] (fun s8 wr => s8 = .int .i64 0 ∧ wr = w.alloc (.cells #[.slice none 0 0] 41)) (fun s8 _ => 0)
      case atStart => exact ⟨rfl, rfl⟩
      case round =>
        obtain ⟨rfl, rfl⟩ := hrel
        go_wp2_with fail
        go_ret
        exact ⟨w.heap.size, _, rfl, by rw [HN.out]; exact HS.out, HT.out⟩
  · obtain rfl : n = 4096 := by unfold newN at hn; omega
    have HN := Lib.hid hn
    clear hn hn4
    go_enter Try.func6, Try.ntmps6
    go_upto_region 3 with fail
    go_loopw [8] (fun s8 wr => ∃ (i : Nat) (v : Value), i ≤ 4096 ∧ s8 = .int .i64 i ∧ Hid (IsL wr w.heap.size w.heap.size v (List.replicate i (-1))) ∧ Hid (Turn (fun _ => False) w wr)) (fun s8 _ => 4096 - (intOf s8).toNat)
    case atStart => exact ⟨0, _, Nat.zero_le _, rfl, HS, HT⟩
    case round =>
      clear HS HT
      obtain ⟨i, v, hi, rfl, HA, HB⟩ := hrel
      by_cases hlt : i < 4096
      · have HE := Lib.hid (add_none (i := i) (by omega))
        go_wp2_with fail
        refine (add_any wr HA.out rfl).mono ?_
        rintro e w1 ⟨rfl, v1, g1⟩
        rw [HE.out] at g1
        have HB1 := Lib.hid (HA.out.grown HB.out g1)
        have HA1 := Lib.hid g1.1
        clear g1
        go_wp2_with fail
        go_roundw
        case rel => exact ⟨i + 1, v1, by omega, by go_num, HA1, HB1⟩
        case measure => simp [intOf]; omega
      · have hi2 : i = 4096 := by omega
        have HI := Lib.hid hi2
        clear hi2
        go_wp2_with fail
        go_ret
        exact ⟨w.heap.size, v, rfl, by rw [HN.out, ← HI.out]; exact HA.out, HB.out⟩

/-- The chapter's example. -/
theorem alive_any (w : World) : Calls Try.prog 5 #[] w fun e w' => e = .returned (.bool true) ∧ Turn (fun _ => False) w w' := by
  go_enter Try.func5, Try.ntmps5
  go_wp2_with fail
  refine (new_any w (by decide)).mono ?_
  rintro e w1 ⟨p, v, rfl, h1, t1⟩
  have e1 : newN 1 = 1 := by decide
  rw [e1] at h1
  have H1 := Lib.hid h1
  have T1 := Lib.hid t1
  clear h1 t1 e1
  go_wp2_with fail
  refine (try_any (b := true) w1 H1.out (by decide)).mono ?_
  rintro e w2 ⟨rfl, k2⟩
  have T2 := Lib.hid (T1.out.and k2.2 (fun i hi e => by have := (H1.out.blocks e).1; omega))
  have H2 := Lib.hid k2.1
  clear k2
  go_wp2_with fail
  refine (try_any (b := false) w2 H2.out (by decide)).mono ?_
  rintro e w3 ⟨rfl, k3⟩
  have T3 := Lib.hid (T2.out.and k3.2 (fun i hi e => by have := (H2.out.blocks e).1; omega))
  have H3 := Lib.hid k3.1
  clear k3
  go_wp2_with fail
  refine (free_any (b := true) w3 H3.out (by decide)).mono ?_
  rintro e w4 ⟨rfl, k4⟩
  have T4 := Lib.hid (T3.out.and k4.2 (fun i hi e => by have := (H3.out.blocks e).1; omega))
  clear k4
  go_wp2_with fail
  go_ret
  exact ⟨rfl, T4.out⟩

end Go.Proofs.Ytkgkogbegbodjaa
