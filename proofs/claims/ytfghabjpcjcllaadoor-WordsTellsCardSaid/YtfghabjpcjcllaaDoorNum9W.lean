/- The document's Num: stage 9's half. -/
import Derived.Test.YtfghabjpcjcllaaDoorNum9
namespace Go.Proofs.YtfghabjpcjcllaaDoor
open Go.RowKit

set_option maxHeartbeats 1000000 in
set_option maxRecDepth 100000 in
theorem num_any (w : World) (n : Int) (h0 : -9223372036854775808 ≤ n) (hm : n ≤ 9223372036854775807) :
    Calls Tryd.prog 27 #[.int .i64 n] w fun e w' => e = .returned (.string ⟨(Lib.itoa n).toArray⟩) ∧ Turn (fun _ => False) w w' := by
  by_cases hn : 0 ≤ n
  · have C := Lib.hid (fun w => digits_any w n hn (by omega))
    have hi : Lib.itoa n = Lib.decDigits n.toNat := by unfold Lib.itoa; rw [if_neg (by omega)]
    rw [hi]
    have hw := u64_wrap n hn (by omega)
    clear hi h0 hm
    go_enter Tryd.func27, Tryd.ntmps27
    go_wp2_with fail
    refine (C.out _).mono ?_
    rintro e w1 ⟨rfl, t1⟩
    have T1 := Lib.hid t1
    clear t1
    go_wp2_with fail
    go_ret
    exact ⟨rfl, T1.out⟩
  · by_cases hs : n > -10
    · have C := Lib.hid (fun w => digits_any w (-n) (by omega) (by omega))
      have hi : Lib.itoa n = [45] ++ Lib.decDigits (-n).toNat := by unfold Lib.itoa; rw [if_pos (by omega), show n.natAbs = (-n).toNat by omega]; rfl
      have hl := dec_length 19 (-n).toNat (by omega)
      have hadd := add_str [45] (Lib.decDigits (-n).toNat) (by simp; omega)
      rw [← hi] at hadd
      have hw := u64_wrap (-n) (by omega) (by omega)
      clear hi h0 hm hl
      go_enter Tryd.func27, Tryd.ntmps27
      go_wp2_with fail
      refine (C.out _).mono ?_
      rintro e w1 ⟨rfl, t1⟩
      have T1 := Lib.hid t1
      clear t1
      go_wp2_with fail
      go_ret
      exact ⟨rfl, T1.out⟩
    · have hb1 : 0 ≤ -(n.tdiv 10) ∧ -(n.tdiv 10) < 1000000000000000000 := by rw [tdiv_neg (by omega)]; omega
      have hb2 : 0 ≤ -(n.tmod 10) ∧ -(n.tmod 10) < 10 := by rw [tmod_neg (by omega)]; omega
      have C1 := Lib.hid (fun w => digits_any w (-(n.tdiv 10)) hb1.1 (by omega))
      have C2 := Lib.hid (fun w => digits_any w (-(n.tmod 10)) hb2.1 (by omega))
      have hi := num_neg n (by omega)
      have hl1 := dec_length 19 (-(n.tdiv 10)).toNat (by omega)
      have hl2 := dec_length 19 (-(n.tmod 10)).toNat (by omega)
      have hadd1 := add_str [45] (Lib.decDigits (-(n.tdiv 10)).toNat) (by simp; omega)
      have hadd2 := add_str ([45] ++ Lib.decDigits (-(n.tdiv 10)).toNat) (Lib.decDigits (-(n.tmod 10)).toNat) (by simp; omega)
      rw [← hi] at hadd2
      obtain ⟨l1, h1⟩ : ∃ l, [45] ++ Lib.decDigits (-(n.tdiv 10)).toNat = l := ⟨_, rfl⟩
      rw [h1] at hadd1 hadd2
      clear h1
      have hw1 := u64_wrap (-(n.tdiv 10)) hb1.1 (by omega)
      have hw2 := u64_wrap (-(n.tmod 10)) hb2.1 (by omega)
      clear hi h0 hm hl1 hl2
      go_enter Tryd.func27, Tryd.ntmps27
      go_wp2_with fail
      refine (C1.out _).mono ?_
      rintro e w1 ⟨rfl, t1⟩
      have T1 := Lib.hid t1
      clear t1
      go_wp2_with fail
      refine (C2.out _).mono ?_
      rintro e w2 ⟨rfl, t2⟩
      have T2 := Lib.hid t2
      clear t2
      go_wp2_with fail
      go_ret
      exact ⟨rfl, T1.out.trans T2.out⟩

theorem rnum_any (w : World) (n : Int) (h : -9223372036854775808 ≤ n ∧ n ≤ 9223372036854775807) :
    Calls Tryd.prog 27 #[.int .i64 n] w fun e w' => e = .returned (.string (bs (numT n))) ∧ Turn (fun _ => False) w w' := num_any w n h.1 h.2
theorem rnum1_any (w : World) (n : Int) (h : -9223372036854775808 ≤ n ∧ n ≤ 9223372036854775807) :
    Calls Tryd.prog 25 #[.int .i64 n] w fun e w' => e = .returned (.string (bs (numT n))) ∧ Turn (fun _ => False) w w' := by
  obtain ⟨S, hS⟩ : ∃ S, bs (numT n) = S := ⟨_, rfl⟩
  have C := Lib.hid (fun w => rnum_any w n h)
  rw [hS] at C
  rw [hS]
  go_enter Tryd.func25, Tryd.ntmps25
  go_wp2_with fail
  refine (C.out _).mono ?_
  rintro e w1 ⟨rfl, t1⟩
  go_wp2_with fail
  go_ret
  exact ⟨rfl, t1⟩
end Go.Proofs.YtfghabjpcjcllaaDoor
