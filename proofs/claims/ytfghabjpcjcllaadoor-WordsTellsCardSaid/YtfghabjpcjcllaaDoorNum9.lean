/- The document's digits, and a number's text. -/
import Derived.Test.YtfghabjpcjcllaaDoorTxt
import Derived.Laws.BytesString
import Derived.Laws.Strings
import Derived.Laws.Concat
import Derived.Laws.IdiomStrings
namespace Go.Proofs.YtfghabjpcjcllaaDoor
open Go.RowKit

theorem dec_length : ∀ (k u : Nat), u < 10 ^ (k + 1) → (Lib.decDigits u).length ≤ k + 1
  | 0, u, h => by rw [dec_small (by simpa using h)]; simp
  | k + 1, u, h => by
    by_cases h10 : u < 10
    · rw [dec_small h10]; simp
    · rw [dec_great (by omega), List.length_append]
      have := dec_length k (u / 10) (by rw [Nat.pow_succ] at h; omega)
      simp only [List.length_singleton]
      omega
theorem itoa_length (n : Int) (h0 : -9223372036854775808 ≤ n) (h1 : n ≤ 9223372036854775807) : (Lib.itoa n).length ≤ 20 := by
  unfold Lib.itoa
  split
  · rw [List.length_cons]
    have := dec_length 18 n.natAbs (by omega)
    omega
  · have := dec_length 18 n.toNat (by omega)
    omega

theorem bytes_add (l m : List UInt8) : ((⟨l.toArray⟩ : ByteArray) ++ ⟨m.toArray⟩) = ⟨(l ++ m).toArray⟩ := by
  apply ByteArray.ext
  simp
theorem add_str (l m : List UInt8) (h : l.length + m.length ≤ 100000) (w : World) : (Op.stringOp BinOp.add ⟨l.toArray⟩ ⟨m.toArray⟩).run Tryd.prog w = .ok (.string ⟨(l ++ m).toArray⟩) w := by
  rw [run_string_add_sum w _ _ (by show l.toArray.size + m.toArray.size ≤ _; simp; omega), bytes_add]

theorem u64_wrap (x : Int) (h0 : 0 ≤ x) (h1 : x < 18446744073709551616) : IntKind.u64.wrap x = x := by
  unfold IntKind.wrap
  simp only [IntKind.signed, IntKind.bits]
  simp
  omega
theorem byte_digit (u : Nat) (h : u < 10) : (((dig u).toNat : Nat) : Int) = 48 + (u : Int) := by
  rw [dig_nat h]; simp

set_option maxHeartbeats 1000000 in
set_option maxRecDepth 100000 in
theorem digits_of (w : World) (u : Nat) (n : Int) (hn : n.toNat = u) (h0 : 0 ≤ n) (h1 : n < 18446744073709551616) :
    Calls Tryd.prog 45 #[.int .u64 n] w fun e w' => e = .returned (.string ⟨(Lib.decDigits n.toNat).toArray⟩) ∧ Turn (fun _ => False) w w' := by
  induction u using Nat.strongRecOn generalizing w n with
  | _ u ih =>
  have HI := Lib.hid ih
  have HN := Lib.hid hn
  clear ih hn
  by_cases h : n < 10
  · have hd : Lib.decDigits n.toNat = [dig n.toNat] := dec_small (by omega)
    obtain ⟨ds, hds⟩ : ∃ ds : ByteArray, (⟨(Lib.decDigits n.toNat).toArray⟩ : ByteArray) = ds := ⟨_, rfl⟩
    have hc : (convert 43 9 (.slice (some ⟨w.heap.size, 0, none⟩) 1 1)).run Tryd.prog (w.alloc (.cells #[.int .u8 (48 + n)] 5)) = .ok (.string ds) (w.alloc (.cells #[.int .u8 (48 + n)] 5)) := by
      rw [← hds, hd]
      refine run_convert_bytes_back (P := Tryd.prog) _ 43 9 5 ⟨w.heap.size, 0, none⟩ 1 [dig n.toNat] Tryd.underlying43 Tryd.underlying5 Tryd.underlying9 (fun j hj => ?_)
      have hj0 : j = 0 := by simpa using hj
      subst hj0
      simp only [List.getElem_cons_zero]
      rw [byte_digit _ (by omega), show (48 : Int) + (n.toNat : Int) = 48 + n by omega]
      exact cell_of_row _ w.heap.size 0 _ _ _ (heap_alloc_new w _)
    rw [hds]
    clear hds hd h1
    go_enter Tryd.func45, Tryd.ntmps45
    go_wp2
    go_ret
    exact ⟨rfl, (Turn.refl _ _).alloc _⟩
  · have hd := dec_great (u := n.toNat) (by omega)
    have e1 : n.toNat / 10 = (n / 10).toNat := by omega
    have e2 : n.toNat % 10 = (n % 10).toNat := by omega
    have hd2 := dec_small (u := (n % 10).toNat) (by omega)
    rw [e1, e2, ← hd2] at hd
    have HD := Lib.hid hd
    have hw1 : IntKind.u64.wrap (n.tdiv 10) = n / 10 := by rw [Int.tdiv_eq_ediv_of_nonneg h0]; exact u64_wrap (n / 10) (by omega) (by omega)
    have hw2 : IntKind.u64.wrap (n.tmod 10) = n % 10 := by rw [Int.tmod_eq_emod_of_nonneg h0]; exact u64_wrap (n % 10) (by omega) (by omega)
    have hu := HN.out
    have C1 := Lib.hid (show ∀ w, Calls Tryd.prog 45 #[.int .u64 (n / 10)] w fun e w' => e = .returned (.string ⟨(Lib.decDigits (n / 10).toNat).toArray⟩) ∧ Turn (fun _ => False) w w' from fun w => HI.out (n / 10).toNat (by omega) w (n / 10) rfl (by omega) (by omega))
    have C2 := Lib.hid (show ∀ w, Calls Tryd.prog 45 #[.int .u64 (n % 10)] w fun e w' => e = .returned (.string ⟨(Lib.decDigits (n % 10).toNat).toArray⟩) ∧ Turn (fun _ => False) w w' from fun w => HI.out (n % 10).toNat (by omega) w (n % 10) rfl (by omega) (by omega))
    have hl1 := dec_length 19 (n / 10).toNat (by omega)
    have hl2 := dec_length 19 (n % 10).toNat (by omega)
    have hadd := add_str (Lib.decDigits (n / 10).toNat) (Lib.decDigits (n % 10).toNat) (by omega)
    rw [← hd] at hadd
    clear hd hd2 e1 e2 h1 hu HI HN hl1 hl2
    go_enter Tryd.func45, Tryd.ntmps45
    go_wp2_with fail
    refine (C1.out _).mono ?_
    rintro e w1 ⟨rfl, t1⟩
    have T1 := Lib.hid t1
    clear t1
    go_wp2_with fail
    refine (C2.out _).mono ?_
    rintro e w2 ⟨rfl, t2⟩
    have T2 := Lib.hid t2
    clear t2
    go_wp2_with fail
    go_ret
    exact ⟨rfl, T1.out.trans T2.out⟩
theorem digits_any (w : World) (n : Int) (h0 : 0 ≤ n) (h1 : n < 18446744073709551616) :
    Calls Tryd.prog 45 #[.int .u64 n] w fun e w' => e = .returned (.string ⟨(Lib.decDigits n.toNat).toArray⟩) ∧ Turn (fun _ => False) w w' := digits_of w _ n rfl h0 h1

theorem tdiv_neg {n : Int} (h : n ≤ 0) : n.tdiv 10 = -((n.natAbs / 10 : Nat) : Int) := by
  obtain ⟨m, rfl⟩ : ∃ m : Nat, n = -(m : Int) := ⟨n.natAbs, by omega⟩
  rw [Int.neg_tdiv, Int.natAbs_neg, Int.natAbs_natCast, Int.tdiv_eq_ediv_of_nonneg (by omega)]
  simp
theorem tmod_neg {n : Int} (h : n ≤ 0) : n.tmod 10 = -((n.natAbs % 10 : Nat) : Int) := by
  obtain ⟨m, rfl⟩ : ∃ m : Nat, n = -(m : Int) := ⟨n.natAbs, by omega⟩
  rw [Int.neg_tmod, Int.natAbs_neg, Int.natAbs_natCast, Int.tmod_eq_emod_of_nonneg (by omega)]
  simp
theorem num_neg (n : Int) (h : n ≤ -10) : Lib.itoa n = [45] ++ Lib.decDigits (-(n.tdiv 10)).toNat ++ Lib.decDigits (-(n.tmod 10)).toNat := by
  rw [tdiv_neg (by omega), tmod_neg (by omega)]
  unfold Lib.itoa
  rw [if_pos (by omega), dec_great (by omega)]
  have a1 : (- -((n.natAbs / 10 : Nat) : Int)).toNat = n.natAbs / 10 := by omega
  have a2 : (- -((n.natAbs % 10 : Nat) : Int)).toNat = n.natAbs % 10 := by omega
  rw [a1, a2, dec_small (u := n.natAbs % 10) (by omega)]
  rfl

end Go.Proofs.YtfghabjpcjcllaaDoor
