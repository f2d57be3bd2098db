/- The code's lines of a text, gone through by a function. -/
import Derived.Test.YtfghabjpcjcllaaDoorMGuess
import Derived.Test.YtfghabjpcjcllaaDoorMGMath
import Derived.Test.YtfghabjpcjcllaaDoorOneW
import Derived.RangeFuncNested
import Derived.RangeFuncBound
import Derived.RangeFuncCalls
import Derived.RangeFuncLeaves
import Derived.Shelf.Abstract
import Derived.Shelf.RegionOpen
import Derived.OwnWalkIn
import Derived.TacticsInMore
import Derived.LoopNIn
import Derived.LoopIn
namespace Go.Proofs.YtfghabjpcjcllaaDoor
open Go.RowKit Go.Shelf
set_option linter.unusedVariables false
attribute [local go_sem] Oper.semAt_some

theorem grown_of_turn {w w' : World} (t : Turn (fun _ => False) w w') : w.grownBy w' none := ⟨t.os, t.tape, t.output, t.size, fun k hk _ => t.block k hk id⟩
theorem first_of {c : UInt8} : ∀ {t : Tx}, c ∈ t → ∃ a b, t = a ++ c :: b ∧ c ∉ a
  | [], h => by simp at h
  | x :: t, h => by
    by_cases e : x = c
    · exact ⟨[], t, by rw [e]; rfl, by simp⟩
    · have : c ∈ t := by
        rcases List.mem_cons.1 h with h | h
        · exact absurd h.symm e
        · exact h
      obtain ⟨a, b, h1, h2⟩ := first_of this
      refine ⟨x :: a, b, by rw [h1]; rfl, ?_⟩
      intro h
      rcases List.mem_cons.1 h with h | h
      · exact e h.symm
      · exact h2 h
/-- One line more. -/
theorem marks_step {r : Tx} (h : r ≠ []) : marksT r = ((Lib.cut r [10]).1, (Lib.cut r [10]).2.2) :: marksT (Lib.cut r [10]).2.1 ∧ (Lib.cut r [10]).2.1.length < r.length := by
  by_cases hm : (10 : UInt8) ∈ r
  · obtain ⟨a, b, rfl, ha⟩ := first_of hm
    rw [cut_at ha, marks_at ha]
    exact ⟨rfl, by simp; omega⟩
  · rw [cut_no hm, marks_no hm h]
    refine ⟨rfl, ?_⟩
    cases r with
    | nil => exact absurd rfl h
    | cons x r => simp
def txLen : Value → Nat
  | .string b => b.size
  | _ => 0
/-- A line that isn't longer than texts are, and whether it has its end. -/
abbrev LineA := { x : Tx × Bool // x.1.length ≤ 100000 }
def encM (x : LineA) : Array Value := #[.string (bs x.1.1), .bool x.1.2]
def unA (xs : List LineA) : List (Tx × Bool) := xs.map Subtype.val
theorem unA_snoc (xs : List LineA) (x : LineA) : unA (xs ++ [x]) = unA xs ++ [x.1] := by simp [unA]
theorem unA_len (xs : List LineA) : (unA xs).length = xs.length := by simp [unA]

set_option maxRecDepth 100000 in
set_option maxHeartbeats 1000000 in
theorem lines_any (s : Tx) (w : World) : Calls Tryd.prog 30 #[.string (bs s)] w fun e w' => e = .returned (.func (.func 48) #[] #[.pointer (some ⟨w.heap.size, 0, none⟩)]) ∧ w' = w.alloc (.cells #[.string (bs s)] 9) := by
  obtain ⟨S, hS⟩ : ∃ x, bs s = x := ⟨_, rfl⟩
  rw [hS]
  clear hS
  go_enter Tryd.func30, Tryd.ntmps30
  go_wp2
  go_ret
  exact ⟨rfl, rfl⟩

set_option maxRecDepth 100000 in
set_option maxHeartbeats 2000000 in
theorem lines_stops (n : Nat) (s : Tx) (b1 n₀ : Nat) (w0 w : World) (hl : s.length ≤ 100000) (hG : Gl w0) (h0 : w0.heap.size = n₀) (hb0 : Below n₀ w0 w) (hn : n₀ ≤ w.heap.size) (hb1 : b1 < w.heap.size) (hc : w.cell? ⟨b1, 0, none⟩ = some (.string (bs s))) :
    SeqStopsK Fence.wide n Tryd.prog 48 #[.pointer (some ⟨b1, 0, none⟩)] encM (Below n₀) (fun xs => unA xs = marksT s) (fun pre => unA pre <+: marksT s) (marksT s).length w := fun l J Jx W hW hJ hJx hY hJ0 => by
  have hcW : W.cell? ⟨b1, 0, none⟩ = some (.string (bs s)) := (hW.cell (p := ⟨b1, 0, none⟩) hb1).trans hc
  have GL : ∀ w', Below n₀ w0 w' → Gl w' := fun w' b => hG.new (turn_of_below (h0 ▸ b))
  have hbW : Below n₀ w0 W := hb0.trans (hW.mono hn)
  refine callsIn_of_wp Tryd.func48 rfl trivial ?_ rfl
  simp only [Tryd.ntmps48, List.size_toArray, List.length_cons, List.length_nil, Nat.reduceAdd, Nat.reduceSub, Array.replicate_succ, Array.replicate_zero, List.push_toArray, List.append_toArray, List.nil_append, List.cons_append]
  gi_wp2
  gi_loopw [3] (fun p wr => ∃ (pre : List LineA) (r : Tx), p = .string (bs r) ∧ r.length ≤ 100000 ∧ marksT s = unA pre ++ marksT r ∧ J pre wr ∧ Below n₀ w0 wr ∧ W.heap.size ≤ wr.heap.size) (fun p wr => txLen p)
  case atStart =>
    exact ⟨[], s, rfl, hl, rfl, hJ0, hbW, Nat.le_refl _⟩
  case round =>
    obtain ⟨pre, r, rfl, hrl, hmk, hJp, hbr, hsz⟩ := hrel
    obtain ⟨eb, heb⟩ : ∃ b, decide (r = []) = b := ⟨_, rfl⟩
    have hq := lit_text r [] heb
    obtain ⟨SR, hSR⟩ : ∃ x, bs r = x := ⟨_, rfl⟩
    have HMS : txLen (.string SR) = r.length := by rw [← hSR]; exact bs_size r
    have CC := Lib.hid (fun w hG => cut_any r [10] ⟨#[10]⟩ rfl w hrl hG)
    rw [hSR] at hq CC ⊢
    cases eb
    · have hr : r ≠ [] := of_decide_eq_false heb
      obtain ⟨h1, h2⟩ := marks_step hr
      have h3 : (Lib.cut r [10]).2.1.length ≤ 100000 := by omega
      have h4 : (Lib.cut r [10]).1.length ≤ 100000 := by have := cut1_len r [10]; omega
      obtain ⟨c1, hc1⟩ : ∃ x, (Lib.cut r [10]).1 = x := ⟨_, rfl⟩
      obtain ⟨c2, hc2⟩ : ∃ x, (Lib.cut r [10]).2.1 = x := ⟨_, rfl⟩
      obtain ⟨c3, hc3⟩ : ∃ x, (Lib.cut r [10]).2.2 = x := ⟨_, rfl⟩
      rw [hc1, hc2, hc3] at CC
      rw [hc1, hc2, hc3] at h1
      rw [hc2] at h2 h3
      rw [hc1] at h4
      have H4 := Lib.hid h4
      have H1 := Lib.hid h1
      have H2 := Lib.hid h2
      have H3 := Lib.hid h3
      have HMK := Lib.hid hmk
      have HSR := Lib.hid hSR
      have HM := Lib.hid HMS
      obtain ⟨S1, hS1⟩ : ∃ x, bs c1 = x := ⟨_, rfl⟩
      obtain ⟨S2, hS2⟩ : ∃ x, bs c2 = x := ⟨_, rfl⟩
      rw [hS1, hS2] at CC
      have HS1 := Lib.hid hS1
      have HS2 := Lib.hid hS2
      clear h1 h2 h3 h4 hmk hSR HMS hS1 hS2 hc1 hc2 hc3 heb hr hrl
      gi_wp2_with fail
      refine ⟨trivial, fun h => by simp [Fence.wide] at h, ?_⟩
      refine (callsIn_wide.2 (CC.out _ (GL _ hbr))).mono ?_
      rintro e w2 ⟨rfl, t2⟩
      have hb2 : Below n₀ w0 w2 := hbr.trans (t2.below (by have := hbr.size; omega) (fun _ _ => id))
      have hJ2 : J pre w2 := hJ pre wr w2 none hJp (grown_of_turn t2) (fun r e => by cases e)
      have hlen : pre.length < (marksT s).length := by rw [HMK.out, H1.out, List.length_append, unA_len]; simp
      obtain ⟨fn, tmps, assign, body, hy, hR⟩ := hY pre ⟨(c1, c3), H4.out⟩ w2 hJ2 hlen
      have hs2 : W.heap.size ≤ w2.heap.size := Nat.le_trans hsz t2.size
      unfold encM at hy
      dsimp only at hy
      rw [HS1.out] at hy
      clear hlen
      gi_wp2
      refine ⟨fun h => by simp [Fence.wide] at h, ?_⟩
      refine hR.mono ?_
      rintro e w3 (⟨rfl, hJ3, hk3⟩ | ⟨rfl, hJx3⟩)
      · gi_wp2
        go_roundw
        case rel => exact ⟨pre ++ [⟨(c1, c3), H4.out⟩], c2, by rw [HS2.out], H3.out, by rw [HMK.out, H1.out, unA_snoc]; simp, hJ3, hb2.trans hk3, Nat.le_trans hs2 hk3.size⟩
        case measure => rw [← HS2.out]; show (bs c2).size < txLen (.string SR); rw [HM.out, bs_size]; exact H2.out
      · gi_wp2
        refine bodyPost_ret (results_none rfl _ _ _) rfl ?_
        exact ⟨⟨_, rfl⟩, .inr ⟨pre ++ [⟨(c1, c3), H4.out⟩], ⟨marksT c2, by rw [HMK.out, H1.out, unA_snoc]; simp⟩, hJx3⟩⟩
    · have hr : r = [] := of_decide_eq_true heb
      subst hr
      gi_wp2
      go_end0
      exact ⟨⟨_, rfl⟩, .inl ⟨pre, by rw [marks_nil, List.append_nil], hJp⟩⟩
end Go.Proofs.YtfghabjpcjcllaaDoor
