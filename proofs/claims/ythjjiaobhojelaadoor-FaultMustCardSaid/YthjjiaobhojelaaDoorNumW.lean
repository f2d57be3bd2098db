/- The document's Num and Whole. -/
import Derived.Test.YthjjiaobhojelaaDoorNum
namespace Go.Proofs.YthjjiaobhojelaaDoor
open Go.RowKit

set_option maxHeartbeats 1000000 in
set_option maxRecDepth 100000 in
theorem num_any (w : World) (n : Int) (h0 : -9223372036854775808 ≤ n) (hm : n ≤ 9223372036854775807) :
    Calls Tryd.prog 26 #[.int .i64 n] w fun e w' => e = .returned (.string ⟨(Lib.itoa n).toArray⟩) ∧ Turn (fun _ => False) w w' := by
  by_cases hn : 0 ≤ n
  · have C := Lib.hid (fun w => digits_any w n hn (by omega))
    have hi : Lib.itoa n = Lib.decDigits n.toNat := by unfold Lib.itoa; rw [if_neg (by omega)]
    rw [hi]
    have hw := u64_wrap n hn (by omega)
    clear hi h0 hm
    go_enter Tryd.func26, Tryd.ntmps26
    go_wp2_with fail
    refine (C.out _).mono ?_
    rintro e w1 ⟨rfl, t1⟩
    have T1 := Lib.hid t1
    clear t1
    go_wp2_with fail
    go_ret
    exact ⟨rfl, T1.out⟩
  · by_cases hs : n > -10
    · have C := Lib.hid (fun w => digits_any w (-n) (by omega) (by omega))
      have hi : Lib.itoa n = [45] ++ Lib.decDigits (-n).toNat := by unfold Lib.itoa; rw [if_pos (by omega), show n.natAbs = (-n).toNat by omega]; rfl
      have hl := dec_length 19 (-n).toNat (by omega)
      have hadd := add_str [45] (Lib.decDigits (-n).toNat) (by simp; omega)
      rw [← hi] at hadd
      have hw := u64_wrap (-n) (by omega) (by omega)
      clear hi h0 hm hl
      go_enter Tryd.func26, Tryd.ntmps26
      go_wp2_with fail
      refine (C.out _).mono ?_
      rintro e w1 ⟨rfl, t1⟩
      have T1 := Lib.hid t1
      clear t1
      go_wp2_with fail
      go_ret
      exact ⟨rfl, T1.out⟩
    · have hb1 : 0 ≤ -(n.tdiv 10) ∧ -(n.tdiv 10) < 1000000000000000000 := by rw [tdiv_neg (by omega)]; omega
      have hb2 : 0 ≤ -(n.tmod 10) ∧ -(n.tmod 10) < 10 := by rw [tmod_neg (by omega)]; omega
      have C1 := Lib.hid (fun w => digits_any w (-(n.tdiv 10)) hb1.1 (by omega))
      have C2 := Lib.hid (fun w => digits_any w (-(n.tmod 10)) hb2.1 (by omega))
      have hi := num_neg n (by omega)
      have hl1 := dec_length 19 (-(n.tdiv 10)).toNat (by omega)
      have hl2 := dec_length 19 (-(n.tmod 10)).toNat (by omega)
      have hadd1 := add_str [45] (Lib.decDigits (-(n.tdiv 10)).toNat) (by simp; omega)
      have hadd2 := add_str ([45] ++ Lib.decDigits (-(n.tdiv 10)).toNat) (Lib.decDigits (-(n.tmod 10)).toNat) (by simp; omega)
      rw [← hi] at hadd2
      obtain ⟨l1, h1⟩ : ∃ l, [45] ++ Lib.decDigits (-(n.tdiv 10)).toNat = l := ⟨_, rfl⟩
      rw [h1] at hadd1 hadd2
      clear h1
      have hw1 := u64_wrap (-(n.tdiv 10)) hb1.1 (by omega)
      have hw2 := u64_wrap (-(n.tmod 10)) hb2.1 (by omega)
      clear hi h0 hm hl1 hl2
      go_enter Tryd.func26, Tryd.ntmps26
      go_wp2_with fail
      refine (C1.out _).mono ?_
      rintro e w1 ⟨rfl, t1⟩
      have T1 := Lib.hid t1
      clear t1
      go_wp2_with fail
      refine (C2.out _).mono ?_
      rintro e w2 ⟨rfl, t2⟩
      have T2 := Lib.hid t2
      clear t2
      go_wp2_with fail
      go_ret
      exact ⟨rfl, T1.out.trans T2.out⟩

/-- An error's text, and whose operation it was. -/
def wholeL (k : Nat) (g op : Int) : List UInt8 := [103, 111, 114, 111, 117, 116, 105, 110, 101, 32] ++ Lib.itoa g ++ [44, 32, 111, 112, 101, 114, 97, 116, 105, 111, 110, 32] ++ Lib.itoa op ++ [58, 32] ++ textL k
/-- What stands ahead of the error's own text. -/
def aheadL (g op : Int) : List UInt8 := [103, 111, 114, 111, 117, 116, 105, 110, 101, 32] ++ Lib.itoa g ++ [44, 32, 111, 112, 101, 114, 97, 116, 105, 111, 110, 32] ++ Lib.itoa op ++ [58, 32]
def In64 (n : Int) : Prop := -9223372036854775808 ≤ n ∧ n ≤ 9223372036854775807
theorem In64.len {n : Int} (h : In64 n) : (Lib.itoa n).length ≤ 20 := itoa_length n h.1 h.2

set_option maxHeartbeats 1000000 in
theorem whole_any (w : World) (code g op : Int) (k : Nat) (hc : IsCode code k) (hg : In64 g) (ho : In64 op) :
    Calls Tryd.prog 13 #[.int .i64 code, .int .i64 g, .int .i64 op] w fun e w' => e = .returned (.string ⟨(wholeL k g op).toArray⟩) ∧ Turn (fun _ => False) w w' := by
  have lg := hg.len
  have lo := ho.len
  have lt := textL_length k
  have a1 := add_str [103, 111, 114, 111, 117, 116, 105, 110, 101, 32] (Lib.itoa g) (by simp; omega)
  have a2 := add_str ([103, 111, 114, 111, 117, 116, 105, 110, 101, 32] ++ Lib.itoa g) [44, 32, 111, 112, 101, 114, 97, 116, 105, 111, 110, 32] (by simp; omega)
  have a3 := add_str ([103, 111, 114, 111, 117, 116, 105, 110, 101, 32] ++ Lib.itoa g ++ [44, 32, 111, 112, 101, 114, 97, 116, 105, 111, 110, 32]) (Lib.itoa op) (by simp; omega)
  have a4 := add_str ([103, 111, 114, 111, 117, 116, 105, 110, 101, 32] ++ Lib.itoa g ++ [44, 32, 111, 112, 101, 114, 97, 116, 105, 111, 110, 32] ++ Lib.itoa op) [58, 32] (by simp; omega)
  have a5 := add_str ([103, 111, 114, 111, 117, 116, 105, 110, 101, 32] ++ Lib.itoa g ++ [44, 32, 111, 112, 101, 114, 97, 116, 105, 111, 110, 32] ++ Lib.itoa op ++ [58, 32]) (textL k) (by simp; omega)
  obtain ⟨l1, h1⟩ : ∃ l, [103, 111, 114, 111, 117, 116, 105, 110, 101, 32] ++ Lib.itoa g = l := ⟨_, rfl⟩
  rw [h1] at a1 a2 a3 a4 a5
  obtain ⟨l2, h2⟩ : ∃ l, l1 ++ [44, 32, 111, 112, 101, 114, 97, 116, 105, 111, 110, 32] = l := ⟨_, rfl⟩
  rw [h2] at a2 a3 a4 a5
  obtain ⟨l3, h3⟩ : ∃ l, l2 ++ Lib.itoa op = l := ⟨_, rfl⟩
  rw [h3] at a3 a4 a5
  obtain ⟨l4, h4⟩ : ∃ l, l3 ++ [58, 32] = l := ⟨_, rfl⟩
  rw [h4] at a4 a5
  have hW : wholeL k g op = l4 ++ textL k := by unfold wholeL; rw [h1, h2, h3, h4]
  rw [← hW] at a5
  have HC := Lib.hid hc
  have CG := Lib.hid (fun w => num_any w g hg.1 hg.2)
  have CO := Lib.hid (fun w => num_any w op ho.1 ho.2)
  clear hW h1 h2 h3 h4 hc hg ho lg lo lt
  go_enter Tryd.func13, Tryd.ntmps13
  go_wp2_with fail
  refine (CG.out _).mono ?_
  rintro e w1 ⟨rfl, t1⟩
  have T1 := Lib.hid t1
  clear t1
  go_wp2_with fail
  refine (CO.out _).mono ?_
  rintro e w2 ⟨rfl, t2⟩
  have T2 := Lib.hid t2
  clear t2
  go_wp2_with fail
  refine (rtext_yes _ k _ HC.out).mono ?_
  rintro e w' ⟨rfl, rfl⟩
  unfold textS
  go_wp2_with fail
  go_ret
  exact ⟨rfl, T1.out.trans T2.out⟩

end Go.Proofs.YthjjiaobhojelaaDoor
