/- Texts put together: Num9, Num9W, Split, Dig, Nums. -/
import Derived.Test.YtfghabjpcjcllaaDoorTxt
import Derived.Test.YtfghabjpcjcllaaDoorMPure
import Derived.Laws.BytesString
import Derived.Laws.Strings
import Derived.Laws.Concat
import Derived.Laws.IdiomStrings
/- The document's digits, and a number's text. -/
namespace Go.Proofs.YtfghabjpcjcllaaDoor
open Go.RowKit

theorem dec_length : ∀ (k u : Nat), u < 10 ^ (k + 1) → (Lib.decDigits u).length ≤ k + 1
  | 0, u, h => by rw [dec_small (by simpa using h)]; simp
  | k + 1, u, h => by
    by_cases h10 : u < 10
    · rw [dec_small h10]; simp
    · rw [dec_great (by omega), List.length_append]
      have := dec_length k (u / 10) (by rw [Nat.pow_succ] at h; omega)
      simp only [List.length_singleton]
      omega
theorem itoa_length (n : Int) (h0 : -9223372036854775808 ≤ n) (h1 : n ≤ 9223372036854775807) : (Lib.itoa n).length ≤ 20 := by
  unfold Lib.itoa
  split
  · rw [List.length_cons]
    have := dec_length 18 n.natAbs (by omega)
    omega
  · have := dec_length 18 n.toNat (by omega)
    omega

theorem bytes_add (l m : List UInt8) : ((⟨l.toArray⟩ : ByteArray) ++ ⟨m.toArray⟩) = ⟨(l ++ m).toArray⟩ := by
  apply ByteArray.ext
  simp
theorem add_str (l m : List UInt8) (h : l.length + m.length ≤ 100000) (w : World) : (Op.stringOp BinOp.add ⟨l.toArray⟩ ⟨m.toArray⟩).run Tryd.prog w = .ok (.string ⟨(l ++ m).toArray⟩) w := by
  rw [run_string_add_sum w _ _ (by show l.toArray.size + m.toArray.size ≤ _; simp; omega), bytes_add]

theorem u64_wrap (x : Int) (h0 : 0 ≤ x) (h1 : x < 18446744073709551616) : IntKind.u64.wrap x = x := by
  unfold IntKind.wrap
  simp only [IntKind.signed, IntKind.bits]
  simp
  omega
theorem byte_digit (u : Nat) (h : u < 10) : (((dig u).toNat : Nat) : Int) = 48 + (u : Int) := by
  rw [dig_nat h]; simp

set_option maxHeartbeats 1000000 in
set_option maxRecDepth 100000 in
theorem digits_of (w : World) (u : Nat) (n : Int) (hn : n.toNat = u) (h0 : 0 ≤ n) (h1 : n < 18446744073709551616) :
    Calls Tryd.prog 45 #[.int .u64 n] w fun e w' => e = .returned (.string ⟨(Lib.decDigits n.toNat).toArray⟩) ∧ Turn (fun _ => False) w w' := by
  induction u using Nat.strongRecOn generalizing w n with
  | _ u ih =>
  have HI := Lib.hid ih
  have HN := Lib.hid hn
  clear ih hn
  by_cases h : n < 10
  · have hd : Lib.decDigits n.toNat = [dig n.toNat] := dec_small (by omega)
    obtain ⟨ds, hds⟩ : ∃ ds : ByteArray, (⟨(Lib.decDigits n.toNat).toArray⟩ : ByteArray) = ds := ⟨_, rfl⟩
    have hc : (convert 43 9 (.slice (some ⟨w.heap.size, 0, none⟩) 1 1)).run Tryd.prog (w.alloc (.cells #[.int .u8 (48 + n)] 5)) = .ok (.string ds) (w.alloc (.cells #[.int .u8 (48 + n)] 5)) := by
      rw [← hds, hd]
      refine run_convert_bytes_back (P := Tryd.prog) _ 43 9 5 ⟨w.heap.size, 0, none⟩ 1 [dig n.toNat] Tryd.underlying43 Tryd.underlying5 Tryd.underlying9 (fun j hj => ?_)
      have hj0 : j = 0 := by simpa using hj
      subst hj0
      simp only [List.getElem_cons_zero]
      rw [byte_digit _ (by omega), show (48 : Int) + (n.toNat : Int) = 48 + n by omega]
      exact cell_of_row _ w.heap.size 0 _ _ _ (heap_alloc_new w _)
    rw [hds]
    clear hds hd h1
    go_enter Tryd.func45, Tryd.ntmps45
    go_wp2
    go_ret
    exact ⟨rfl, (Turn.refl _ _).alloc _⟩
  · have hd := dec_great (u := n.toNat) (by omega)
    have e1 : n.toNat / 10 = (n / 10).toNat := by omega
    have e2 : n.toNat % 10 = (n % 10).toNat := by omega
    have hd2 := dec_small (u := (n % 10).toNat) (by omega)
    rw [e1, e2, ← hd2] at hd
    have HD := Lib.hid hd
    have hw1 : IntKind.u64.wrap (n.tdiv 10) = n / 10 := by rw [Int.tdiv_eq_ediv_of_nonneg h0]; exact u64_wrap (n / 10) (by omega) (by omega)
    have hw2 : IntKind.u64.wrap (n.tmod 10) = n % 10 := by rw [Int.tmod_eq_emod_of_nonneg h0]; exact u64_wrap (n % 10) (by omega) (by omega)
    have hu := HN.out
    have C1 := Lib.hid (show ∀ w, Calls Tryd.prog 45 #[.int .u64 (n / 10)] w fun e w' => e = .returned (.string ⟨(Lib.decDigits (n / 10).toNat).toArray⟩) ∧ Turn (fun _ => False) w w' from fun w => HI.out (n / 10).toNat (by omega) w (n / 10) rfl (by omega) (by omega))
    have C2 := Lib.hid (show ∀ w, Calls Tryd.prog 45 #[.int .u64 (n % 10)] w fun e w' => e = .returned (.string ⟨(Lib.decDigits (n % 10).toNat).toArray⟩) ∧ Turn (fun _ => False) w w' from fun w => HI.out (n % 10).toNat (by omega) w (n % 10) rfl (by omega) (by omega))
    have hl1 := dec_length 19 (n / 10).toNat (by omega)
    have hl2 := dec_length 19 (n % 10).toNat (by omega)
    have hadd := add_str (Lib.decDigits (n / 10).toNat) (Lib.decDigits (n % 10).toNat) (by omega)
    rw [← hd] at hadd
    clear hd hd2 e1 e2 h1 hu HI HN hl1 hl2
    go_enter Tryd.func45, Tryd.ntmps45
    go_wp2_with fail
    refine (C1.out _).mono ?_
    rintro e w1 ⟨rfl, t1⟩
    have T1 := Lib.hid t1
    clear t1
    go_wp2_with fail
    refine (C2.out _).mono ?_
    rintro e w2 ⟨rfl, t2⟩
    have T2 := Lib.hid t2
    clear t2
    go_wp2_with fail
    go_ret
    exact ⟨rfl, T1.out.trans T2.out⟩
theorem digits_any (w : World) (n : Int) (h0 : 0 ≤ n) (h1 : n < 18446744073709551616) :
    Calls Tryd.prog 45 #[.int .u64 n] w fun e w' => e = .returned (.string ⟨(Lib.decDigits n.toNat).toArray⟩) ∧ Turn (fun _ => False) w w' := digits_of w _ n rfl h0 h1

theorem tdiv_neg {n : Int} (h : n ≤ 0) : n.tdiv 10 = -((n.natAbs / 10 : Nat) : Int) := by
  obtain ⟨m, rfl⟩ : ∃ m : Nat, n = -(m : Int) := ⟨n.natAbs, by omega⟩
  rw [Int.neg_tdiv, Int.natAbs_neg, Int.natAbs_natCast, Int.tdiv_eq_ediv_of_nonneg (by omega)]
  simp
theorem tmod_neg {n : Int} (h : n ≤ 0) : n.tmod 10 = -((n.natAbs % 10 : Nat) : Int) := by
  obtain ⟨m, rfl⟩ : ∃ m : Nat, n = -(m : Int) := ⟨n.natAbs, by omega⟩
  rw [Int.neg_tmod, Int.natAbs_neg, Int.natAbs_natCast, Int.tmod_eq_emod_of_nonneg (by omega)]
  simp
theorem num_neg (n : Int) (h : n ≤ -10) : Lib.itoa n = [45] ++ Lib.decDigits (-(n.tdiv 10)).toNat ++ Lib.decDigits (-(n.tmod 10)).toNat := by
  rw [tdiv_neg (by omega), tmod_neg (by omega)]
  unfold Lib.itoa
  rw [if_pos (by omega), dec_great (by omega)]
  have a1 : (- -((n.natAbs / 10 : Nat) : Int)).toNat = n.natAbs / 10 := by omega
  have a2 : (- -((n.natAbs % 10 : Nat) : Int)).toNat = n.natAbs % 10 := by omega
  rw [a1, a2, dec_small (u := n.natAbs % 10) (by omega)]
  rfl

end Go.Proofs.YtfghabjpcjcllaaDoor
/- The document's Num: stage 9's half. -/
namespace Go.Proofs.YtfghabjpcjcllaaDoor
open Go.RowKit

set_option maxHeartbeats 1000000 in
set_option maxRecDepth 100000 in
theorem num_any (w : World) (n : Int) (h0 : -9223372036854775808 ≤ n) (hm : n ≤ 9223372036854775807) :
    Calls Tryd.prog 27 #[.int .i64 n] w fun e w' => e = .returned (.string ⟨(Lib.itoa n).toArray⟩) ∧ Turn (fun _ => False) w w' := by
  by_cases hn : 0 ≤ n
  · have C := Lib.hid (fun w => digits_any w n hn (by omega))
    have hi : Lib.itoa n = Lib.decDigits n.toNat := by unfold Lib.itoa; rw [if_neg (by omega)]
    rw [hi]
    have hw := u64_wrap n hn (by omega)
    clear hi h0 hm
    go_enter Tryd.func27, Tryd.ntmps27
    go_wp2_with fail
    refine (C.out _).mono ?_
    rintro e w1 ⟨rfl, t1⟩
    have T1 := Lib.hid t1
    clear t1
    go_wp2_with fail
    go_ret
    exact ⟨rfl, T1.out⟩
  · by_cases hs : n > -10
    · have C := Lib.hid (fun w => digits_any w (-n) (by omega) (by omega))
      have hi : Lib.itoa n = [45] ++ Lib.decDigits (-n).toNat := by unfold Lib.itoa; rw [if_pos (by omega), show n.natAbs = (-n).toNat by omega]; rfl
      have hl := dec_length 19 (-n).toNat (by omega)
      have hadd := add_str [45] (Lib.decDigits (-n).toNat) (by simp; omega)
      rw [← hi] at hadd
      have hw := u64_wrap (-n) (by omega) (by omega)
      clear hi h0 hm hl
      go_enter Tryd.func27, Tryd.ntmps27
      go_wp2_with fail
      refine (C.out _).mono ?_
      rintro e w1 ⟨rfl, t1⟩
      have T1 := Lib.hid t1
      clear t1
      go_wp2_with fail
      go_ret
      exact ⟨rfl, T1.out⟩
    · have hb1 : 0 ≤ -(n.tdiv 10) ∧ -(n.tdiv 10) < 1000000000000000000 := by rw [tdiv_neg (by omega)]; omega
      have hb2 : 0 ≤ -(n.tmod 10) ∧ -(n.tmod 10) < 10 := by rw [tmod_neg (by omega)]; omega
      have C1 := Lib.hid (fun w => digits_any w (-(n.tdiv 10)) hb1.1 (by omega))
      have C2 := Lib.hid (fun w => digits_any w (-(n.tmod 10)) hb2.1 (by omega))
      have hi := num_neg n (by omega)
      have hl1 := dec_length 19 (-(n.tdiv 10)).toNat (by omega)
      have hl2 := dec_length 19 (-(n.tmod 10)).toNat (by omega)
      have hadd1 := add_str [45] (Lib.decDigits (-(n.tdiv 10)).toNat) (by simp; omega)
      have hadd2 := add_str ([45] ++ Lib.decDigits (-(n.tdiv 10)).toNat) (Lib.decDigits (-(n.tmod 10)).toNat) (by simp; omega)
      rw [← hi] at hadd2
      obtain ⟨l1, h1⟩ : ∃ l, [45] ++ Lib.decDigits (-(n.tdiv 10)).toNat = l := ⟨_, rfl⟩
      rw [h1] at hadd1 hadd2
      clear h1
      have hw1 := u64_wrap (-(n.tdiv 10)) hb1.1 (by omega)
      have hw2 := u64_wrap (-(n.tmod 10)) hb2.1 (by omega)
      clear hi h0 hm hl1 hl2
      go_enter Tryd.func27, Tryd.ntmps27
      go_wp2_with fail
      refine (C1.out _).mono ?_
      rintro e w1 ⟨rfl, t1⟩
      have T1 := Lib.hid t1
      clear t1
      go_wp2_with fail
      refine (C2.out _).mono ?_
      rintro e w2 ⟨rfl, t2⟩
      have T2 := Lib.hid t2
      clear t2
      go_wp2_with fail
      go_ret
      exact ⟨rfl, T1.out.trans T2.out⟩

theorem rnum_any (w : World) (n : Int) (h : -9223372036854775808 ≤ n ∧ n ≤ 9223372036854775807) :
    Calls Tryd.prog 27 #[.int .i64 n] w fun e w' => e = .returned (.string (bs (numT n))) ∧ Turn (fun _ => False) w w' := num_any w n h.1 h.2
theorem rnum1_any (w : World) (n : Int) (h : -9223372036854775808 ≤ n ∧ n ≤ 9223372036854775807) :
    Calls Tryd.prog 25 #[.int .i64 n] w fun e w' => e = .returned (.string (bs (numT n))) ∧ Turn (fun _ => False) w w' := by
  obtain ⟨S, hS⟩ : ∃ S, bs (numT n) = S := ⟨_, rfl⟩
  have C := Lib.hid (fun w => rnum_any w n h)
  rw [hS] at C
  rw [hS]
  go_enter Tryd.func25, Tryd.ntmps25
  go_wp2_with fail
  refine (C.out _).mono ?_
  rintro e w1 ⟨rfl, t1⟩
  go_wp2_with fail
  go_ret
  exact ⟨rfl, t1⟩
end Go.Proofs.YtfghabjpcjcllaaDoor
/- The document's pieces between bytes. -/
namespace Go.Proofs.YtfghabjpcjcllaaDoor
open Go.RowKit
set_option linter.unusedVariables false

/-- What a function that answers texts gives. -/
def GivesT (w : World) (L : List Tx) (e : Ending) (w' : World) : Prop := ∃ bo n c, e = .returned (.slice bo n c) ∧ w'.ownsRow w.heap.size 9 1 (.slice bo n c) n (flat encT L) ∧ L.length = n ∧ Turn (fun _ => False) w w'

theorem splitG_step (c x : UInt8) (t : Tx) {a i : Nat} (ha : a ≤ i) (hx : t[i]? = some x) :
    splitG c ((t.drop a).take (i - a)) (t.drop i) = if x = c then (t.drop a).take (i - a) :: splitG c ((t.drop (i + 1)).take (i + 1 - (i + 1))) (t.drop (i + 1)) else splitG c ((t.drop a).take (i + 1 - a)) (t.drop (i + 1)) := by
  obtain ⟨hl, he⟩ := List.getElem?_eq_some_iff.1 hx
  rw [List.drop_eq_getElem_cons hl, splitG_cons, he, Nat.sub_self, List.take_zero]
  have : (t.drop a).take (i + 1 - a) = (t.drop a).take (i - a) ++ [x] := by
    rw [show i + 1 - a = (i - a) + 1 by omega, List.take_add_one, List.getElem?_drop, show a + (i - a) = i by omega, hx]
    rfl
  rw [this]

set_option maxRecDepth 100000 in
theorem rsplit_any (t : Tx) (c : UInt8) (k : Int) (n : Nat) (w : World) (hk : (c.toNat : Int) = k) (hn : t.length = n) (hm : n ≤ 100000) :
    Calls Tryd.prog 32 #[.string (bs t), .int .u8 k] w (GivesT w (splitT c t)) := by
  obtain ⟨S, hS⟩ : ∃ S, bs t = S := ⟨_, rfl⟩
  have HS := Lib.hid hS
  have hlen : ∀ ty w, (Builtin.len_ #[9] ty #[.string S]).run Tryd.prog w = .ok (.int .i64 n) w := by subst hS; exact fun ty w => len_text ty t hn w
  have HN := Lib.hid hn
  have HK := Lib.hid hk
  rw [hS]
  clear hS hn hk
  unfold GivesT
  go_enter Tryd.func32, Tryd.ntmps32
  go_upto_region 4 with fail
  go_loopw [5, 6, 7] (fun s5 s6 s7 wr => ∃ (i a m : Nat) (g : Nat) (cp : Nat) (L : List Tx), s7 = .int .i64 i ∧ s6 = .int .i64 a ∧ s5 = .slice (some ⟨g, 0, none⟩) m cp ∧ a ≤ i ∧ i ≤ n ∧ m ≤ i ∧ w.heap.size ≤ g ∧ Hid (wr.ownsRow w.heap.size 9 1 (.slice (some ⟨g, 0, none⟩) m cp) m (flat encT L)) ∧ Hid (Turn (fun _ => False) w wr) ∧ Hid (splitT c t = L ++ splitG c ((t.drop a).take (i - a)) (t.drop i))) (fun _ _ s7 _ => n - (intOf s7).toNat)
  case atStart => exact ⟨0, 0, 0, w.heap.size, 0, [], rfl, rfl, rfl, Nat.le_refl _, Nat.zero_le _, Nat.le_refl _, Nat.le_refl _, Lib.hid (own_made (heap_alloc_new w _) (Nat.le_refl _)), Lib.hid ((Turn.refl _ w).alloc _), Lib.hid (by simp [splitT])⟩
  case round =>
    obtain ⟨i, a, m, g, cp, L, rfl, rfl, rfl, hai, hin, hmi, hg, HR, HT, HE⟩ := hrel
    by_cases hlt : i < n
    · obtain ⟨x, hx⟩ : ∃ x, t[i]? = some x := ⟨_, List.getElem?_eq_getElem (by rw [HN.out]; exact hlt)⟩
      have hix : ∀ w, (Instr.index 9 (.string S) (.int .i64 i)).run Tryd.prog w = .ok (.int .u8 x.toNat) w := by rw [← HS.out]; exact index_text t hx
      have hst := splitG_step c x t hai hx
      obtain ⟨xn, hxn⟩ : ∃ xn, (x.toNat : Int) = xn := ⟨_, rfl⟩
      rw [hxn] at hix
      by_cases hxc : x = c
      · obtain rfl : xn = k := by rw [← hxn, hxc, HK.out]
        rw [if_pos hxc] at hst
        have HST := Lib.hid hst
        clear hst hxc hxn hx
        have hsl : ∀ w, (Instr.slice 9 (.string S) (some (.int .i64 a)) (some (.int .i64 i)) none).run Tryd.prog w = .ok (.string (bs ((t.drop a).take (i - a)))) w := by rw [← HS.out]; exact slice_text t hai (by rw [HN.out]; exact hin)
        obtain ⟨P, hP⟩ : ∃ P, bs ((t.drop a).take (i - a)) = P := ⟨_, rfl⟩
        have HP := Lib.hid hP
        rw [hP] at hsl
        clear hP
        obtain ⟨m1, hm1⟩ : ∃ m1, m + 1 = m1 := ⟨_, rfl⟩
        have HM1 := Lib.hid hm1
        have hm1l : m1 ≤ 100001 := by omega
        clear hm1
        go_wp2_with (at_builtin; refine wpList_append_flat_one (w0 := wr) encT_ok (by decide) Tryd.underlying53 info_text rfl (by decide) rfl (.tmp 20) (.tmp 25) rfl w.heap.size (.slice (some ⟨g, 0, none⟩) m cp) L m ((t.drop a).take (i - a)) (by rw [← HP.out]; rfl) rfl HR.out rfl m1 HM1.out (by omega) HT.out.size ?_; intro g4 c4 w4 hg4 h4 t4 b4)
        go_roundw
        case rel => exact ⟨i + 1, i + 1, m1, g4, c4, L ++ [(t.drop a).take (i - a)], by go_num, by go_num, rfl, Nat.le_refl _, by omega, by rw [← HM1.out]; omega, hg4, h4, Lib.hid (HT.out.and t4.out (fun j hj e => by have := (World.ownsRow.lt HR.out j e).1; omega)), Lib.hid (by rw [HE.out, HST.out]; simp)⟩
        case measure => simp [intOf]; omega
      · have hxk : ¬ xn = k := fun e => by
          have h1 := HK.out
          exact hxc (UInt8.toNat_inj.1 (by omega))
        rw [if_neg hxc] at hst
        have HST := Lib.hid hst
        clear hst hxc hxn hx
        go_wp2_with fail
        go_roundw
        case rel => exact ⟨i + 1, a, m, g, cp, L, by go_num, rfl, rfl, by omega, by omega, by omega, hg, HR, HT, Lib.hid (by rw [HE.out, HST.out])⟩
        case measure => simp [intOf]; omega
    · obtain rfl : i = n := by omega
      have he : splitT c t = L ++ [t.drop a] := by
        rw [HE.out, List.drop_of_length_le (show t.length ≤ i by rw [HN.out]; exact Nat.le_refl _), List.take_of_length_le (by rw [List.length_drop, HN.out]; exact Nat.le_refl _)]
        rfl
      have HE2 := Lib.hid he
      clear he
      have hsl : ∀ w, (Instr.slice 9 (.string S) (some (.int .i64 a)) none none).run Tryd.prog w = .ok (.string (bs (t.drop a))) w := by rw [← HS.out]; exact from_text t (by rw [HN.out]; exact hai)
      obtain ⟨P, hP⟩ : ∃ P, bs (t.drop a) = P := ⟨_, rfl⟩
      have HP := Lib.hid hP
      rw [hP] at hsl
      clear hP
      obtain ⟨m1, hm1⟩ : ∃ m1, m + 1 = m1 := ⟨_, rfl⟩
      have HM1 := Lib.hid hm1
      have hm1l : m1 ≤ 100001 := by omega
      clear hm1
      go_wp2_with (at_builtin; refine wpList_append_flat_one (w0 := wr) encT_ok (by decide) Tryd.underlying53 info_text rfl (by decide) rfl (.tmp 29) (.tmp 33) rfl w.heap.size (.slice (some ⟨g, 0, none⟩) m cp) L m (t.drop a) (by rw [← HP.out]; rfl) rfl HR.out rfl m1 HM1.out (by omega) HT.out.size ?_; intro g4 c4 w4 hg4 h4 t4 b4)
      go_ret
      exact ⟨_, _, _, rfl, by rw [HE2.out]; exact h4.out, by rw [HE2.out]; have := own_len encT_ok (by decide) h4.out; exact this, HT.out.and t4.out (fun j hj e => by have := (World.ownsRow.lt HR.out j e).1; omega)⟩
end Go.Proofs.YtfghabjpcjcllaaDoor
/- The document's digits: a word as a number from 0 to 255, or none. -/
namespace Go.Proofs.YtfghabjpcjcllaaDoor
open Go.RowKit
set_option linter.unusedVariables false


theorem byte_lt (x : UInt8) : x.toNat < 256 := UInt8.toNat_lt x
theorem getD_some {t : Tx} {x : UInt8} {i : Nat} (h : t[i]? = some x) : t.getD i 0 = x := by rw [List.getD_eq_getElem?_getD, h]; rfl
set_option maxRecDepth 100000 in
set_option maxHeartbeats 1000000 in
theorem rdig_any (t : Tx) (n : Nat) (v : Int) (w : World) (hv : digV t = v) (hn : t.length = n) (hm : n ≤ 100000) :
    Calls Tryd.prog 61 #[.string (bs t)] w fun e w' => e = .returned (.int .i64 v) ∧ w' = w := by
  obtain ⟨S, hS⟩ : ∃ S, bs t = S := ⟨_, rfl⟩
  have HS := Lib.hid hS
  have hlen : ∀ ty w, (Builtin.len_ #[9] ty #[.string S]).run Tryd.prog w = .ok (.int .i64 n) w := by subst hS; exact fun ty w => len_text ty t hn w
  have HN := Lib.hid hn
  have HV := Lib.hid hv
  rw [hS]
  clear hS hn hv
  rcases Nat.lt_or_ge n 1 with q0 | q0
  · obtain rfl : n = 0 := by omega
    obtain rfl : v = -1 := by rw [← HV.out]; unfold digV; rw [if_pos (by rw [HN.out]; omega)]
    go_enter Tryd.func61, Tryd.ntmps61
    go_wp2_with fail
    go_ret
    exact ⟨rfl, rfl⟩
  rcases Nat.lt_or_ge 3 n with q1 | q1
  · obtain rfl : v = -1 := by rw [← HV.out]; unfold digV; rw [if_pos (by rw [HN.out]; omega)]
    go_enter Tryd.func61, Tryd.ntmps61
    go_wp2_with fail
    go_ret
    exact ⟨rfl, rfl⟩
  obtain ⟨x0, hx0⟩ : ∃ x, t[0]? = some x := ⟨_, List.getElem?_eq_getElem (by rw [HN.out]; exact q0)⟩
  have hi0 : ∀ w, (Instr.index 9 (.string S) (.int .i64 0)).run Tryd.prog w = .ok (.int .u8 x0.toNat) w := by rw [← HS.out]; exact index_text t (i := 0) hx0
  have hg := getD_some hx0
  rcases Nat.lt_or_ge 1 n with q2 | q2
  · by_cases q3 : x0 = 48
    · obtain rfl : v = -1 := by rw [← HV.out]; unfold digV; rw [if_pos (by rw [HN.out, hg]; exact Or.inr (Or.inr ⟨q2, q3⟩))]
      subst q3
      clear hg hx0
      go_enter Tryd.func61, Tryd.ntmps61
      go_wp2_with fail
      go_ret
      exact ⟨rfl, rfl⟩
    · have HV0 : Hid (digV t = digG 0 (t.drop 0)) := Lib.hid (by unfold digV; rw [if_neg (by rw [HN.out, hg]; rintro (h | h | h) <;> first | omega | exact q3 h.2)]; rfl)
      have q4 : ¬ (x0.toNat : Int) = 48 := fun e => q3 (UInt8.toNat_inj.1 (show x0.toNat = 48 by omega))
      obtain ⟨y, hy⟩ : ∃ y : Int, (x0.toNat : Int) = y := ⟨_, rfl⟩
      rw [hy] at q4 hi0
      have q5 : (y == 48) = false := by simpa using q4
      clear hg hx0 hy q3
      go_enter Tryd.func61, Tryd.ntmps61
      go_upto_region 5 with fail
      go_loopw [3, 4] (fun s3 s4 wr => ∃ (i : Nat) (a : Int), s4 = .int .i64 i ∧ s3 = .int .i64 a ∧ i ≤ n ∧ 0 ≤ a ∧ (i = 0 → a = 0) ∧ (i = 1 → a < 10) ∧ (i = 2 → a < 100) ∧ a < 1000 ∧ wr = w ∧ Hid (digV t = digG a (t.drop i))) (fun _ s4 _ => n - (intOf s4).toNat)
      case atStart => exact ⟨0, 0, rfl, rfl, Nat.zero_le _, Int.le_refl _, fun _ => rfl, by omega, by omega, by omega, rfl, HV0⟩
      case round =>
        obtain ⟨i, a, rfl, rfl, hin, ha0, h0, h1, h2, h3, rfl, HD⟩ := hrel
        by_cases hlt : i < n
        · obtain ⟨x, hx⟩ : ∃ x, t[i]? = some x := ⟨_, List.getElem?_eq_getElem (by rw [HN.out]; exact hlt)⟩
          have hix : ∀ w, (Instr.index 9 (.string S) (.int .i64 i)).run Tryd.prog w = .ok (.int .u8 x.toNat) w := by rw [← HS.out]; exact index_text t hx
          have hd : digG a (t.drop i) = if x < 48 ∨ 57 < x then -1 else digG (a * 10 + (x.toNat : Int) - 48) (t.drop (i + 1)) := by
            obtain ⟨hl, he⟩ := List.getElem?_eq_some_iff.1 hx
            rw [List.drop_eq_getElem_cons hl, he]
            rfl
          have hxl := byte_lt x
          by_cases hb : x < 48 ∨ 57 < x
          · rw [if_pos hb] at hd
            have hb' : x.toNat < 48 ∨ 57 < x.toNat := by simpa [UInt8.lt_iff_toNat_lt] using hb
            obtain ⟨xn, hxn⟩ : ∃ xn, x.toNat = xn := ⟨_, rfl⟩
            rw [hxn] at hix hb' hxl
            have HX := Lib.hid (HD.out.trans hd)
            clear hd hb hxn hx HD
            rcases hb' with hb' | hb'
            · have hq : ¬ xn > 57 := by omega
              obtain rfl : v = -1 := by rw [← HV.out, HX.out]
              go_wp2_with fail
              go_ret
              exact ⟨rfl, rfl⟩
            · have hq : ¬ xn < 48 := by omega
              obtain rfl : v = -1 := by rw [← HV.out, HX.out]
              go_wp2_with fail
              go_ret
              exact ⟨rfl, rfl⟩
          · rw [if_neg hb] at hd
            have hb' : 48 ≤ x.toNat ∧ x.toNat ≤ 57 := by simpa [UInt8.lt_iff_toNat_lt] using hb
            obtain ⟨xn, hxn⟩ : ∃ xn, x.toNat = xn := ⟨_, rfl⟩
            rw [hxn] at hix hb' hxl hd
            obtain ⟨hb1, hb2⟩ := hb'
            have HX := Lib.hid (HD.out.trans hd)
            clear hd hb hxn hx HD
            go_wp2_with fail
            go_roundw
            case rel => exact ⟨i + 1, a * 10 + xn - 48, by go_num, by go_num, by omega, by omega, by omega, by omega, by omega, by omega, trivial, HX⟩
            case measure => simp [intOf]; omega
        · obtain rfl : i = n := by omega
          have he : a = v := by
            rw [← HV.out, HD.out, List.drop_of_length_le (show t.length ≤ i by rw [HN.out]; exact Nat.le_refl _)]
            rfl
          subst he
          go_wp2_with fail
          go_ret
          exact ⟨rfl, rfl⟩
  · have HV0 : Hid (digV t = digG 0 (t.drop 0)) := Lib.hid (by unfold digV; rw [if_neg (by rw [HN.out]; rintro (h | h | h) <;> omega)]; rfl)
    clear hg hx0 hi0
    go_enter Tryd.func61, Tryd.ntmps61
    go_upto_region 5 with fail
    go_loopw [3, 4] (fun s3 s4 wr => ∃ (i : Nat) (a : Int), s4 = .int .i64 i ∧ s3 = .int .i64 a ∧ i ≤ n ∧ 0 ≤ a ∧ (i = 0 → a = 0) ∧ (i = 1 → a < 10) ∧ (i = 2 → a < 100) ∧ a < 1000 ∧ wr = w ∧ Hid (digV t = digG a (t.drop i))) (fun _ s4 _ => n - (intOf s4).toNat)
    case atStart => exact ⟨0, 0, rfl, rfl, Nat.zero_le _, Int.le_refl _, fun _ => rfl, by omega, by omega, by omega, rfl, HV0⟩
    case round =>
      obtain ⟨i, a, rfl, rfl, hin, ha0, h0, h1, h2, h3, rfl, HD⟩ := hrel
      by_cases hlt : i < n
      · obtain ⟨x, hx⟩ : ∃ x, t[i]? = some x := ⟨_, List.getElem?_eq_getElem (by rw [HN.out]; exact hlt)⟩
        have hix : ∀ w, (Instr.index 9 (.string S) (.int .i64 i)).run Tryd.prog w = .ok (.int .u8 x.toNat) w := by rw [← HS.out]; exact index_text t hx
        have hd : digG a (t.drop i) = if x < 48 ∨ 57 < x then -1 else digG (a * 10 + (x.toNat : Int) - 48) (t.drop (i + 1)) := by
          obtain ⟨hl, he⟩ := List.getElem?_eq_some_iff.1 hx
          rw [List.drop_eq_getElem_cons hl, he]
          rfl
        have hxl := byte_lt x
        by_cases hb : x < 48 ∨ 57 < x
        · rw [if_pos hb] at hd
          have hb' : x.toNat < 48 ∨ 57 < x.toNat := by simpa [UInt8.lt_iff_toNat_lt] using hb
          obtain ⟨xn, hxn⟩ : ∃ xn, x.toNat = xn := ⟨_, rfl⟩
          rw [hxn] at hix hb' hxl
          have HX := Lib.hid (HD.out.trans hd)
          clear hd hb hxn hx HD
          rcases hb' with hb' | hb'
          · have hq : ¬ xn > 57 := by omega
            obtain rfl : v = -1 := by rw [← HV.out, HX.out]
            go_wp2_with fail
            go_ret
            exact ⟨rfl, rfl⟩
          · have hq : ¬ xn < 48 := by omega
            obtain rfl : v = -1 := by rw [← HV.out, HX.out]
            go_wp2_with fail
            go_ret
            exact ⟨rfl, rfl⟩
        · rw [if_neg hb] at hd
          have hb' : 48 ≤ x.toNat ∧ x.toNat ≤ 57 := by simpa [UInt8.lt_iff_toNat_lt] using hb
          obtain ⟨xn, hxn⟩ : ∃ xn, x.toNat = xn := ⟨_, rfl⟩
          rw [hxn] at hix hb' hxl hd
          obtain ⟨hb1, hb2⟩ := hb'
          have HX := Lib.hid (HD.out.trans hd)
          clear hd hb hxn hx HD
          go_wp2_with fail
          go_roundw
          case rel => exact ⟨i + 1, a * 10 + xn - 48, by go_num, by go_num, by omega, by omega, by omega, by omega, by omega, by omega, trivial, HX⟩
          case measure => simp [intOf]; omega
      · obtain rfl : i = n := by omega
        have he : a = v := by
          rw [← HV.out, HD.out, List.drop_of_length_le (show t.length ≤ i by rw [HN.out]; exact Nat.le_refl _)]
          rfl
        subst he
        go_wp2_with fail
        go_ret
        exact ⟨rfl, rfl⟩
end Go.Proofs.YtfghabjpcjcllaaDoor
/- The document's nums: words as just so many numbers. -/
namespace Go.Proofs.YtfghabjpcjcllaaDoor
open Go.RowKit
set_option linter.unusedVariables false

theorem take_snoc {α : Type} {L : List α} {i : Nat} {x : α} (h : L[i]? = some x) : L.take (i + 1) = L.take i ++ [x] := by
  rw [List.take_add_one, h]
  rfl
/-- What nums answers: so many numbers, or none. -/
def GivesN (w : World) (o : Option (List Int)) (e : Ending) (w' : World) : Prop := ∃ bo n c, e = .returned (.slice bo n c) ∧ Turn (fun _ => False) w w' ∧ (∀ ns, o = some ns → ns.length = n ∧ Ints .i64 w' bo ns) ∧ (o = none → n = 0)

set_option maxRecDepth 100000 in
theorem rnums_any (s : Sl) (ws : List Tx) (many n : Nat) (o : Option (List Int)) (w : World) (hw : RTs w s ws) (hn : ws.length = n) (hm : n ≤ 100000) (ho : numsV ws many = o) (hf : ∀ x ∈ ws, x.length ≤ 100000) :
    Calls Tryd.prog 52 #[.slice s.ao n s.cap, .int .i64 many] w (GivesN w o) := by
  obtain ⟨ao, len, cap⟩ := s
  have HW := Lib.hid hw
  have HN := Lib.hid hn
  have HO := Lib.hid ho
  have HF := Lib.hid hf
  clear hw hn ho hf
  dsimp only
  unfold GivesN
  go_enter Tryd.func52, Tryd.ntmps52
  go_upto_region 3 with fail
  go_loopw [5, 12] (fun s5 s12 wr => ∃ (i : Nat) (g : Nat) (cp : Nat), s12 = .int .i64 i ∧ s5 = .slice (some ⟨g, 0, none⟩) i cp ∧ i ≤ n ∧ w.heap.size ≤ g ∧ Hid (wr.ownsRow w.heap.size 3 1 (.slice (some ⟨g, 0, none⟩) i cp) i (((ws.take i).map digV).map (Value.int .i64))) ∧ Hid (Turn (fun _ => False) w wr) ∧ Hid (∀ (j : Nat) x, j < i → ws[j]? = some x → 0 ≤ digV x)) (fun _ s12 _ => n - (intOf s12).toNat)
  case atStart => exact ⟨0, w.heap.size, 0, rfl, rfl, Nat.zero_le _, Nat.le_refl _, Lib.hid (own_made (enc := fun v => [v]) (heap_alloc_new w _) (Nat.le_refl _)), Lib.hid ((Turn.refl _ w).alloc _), Lib.hid fun j x hj => absurd hj (Nat.not_lt_zero _)⟩
  case round =>
    obtain ⟨i, g, cp, rfl, rfl, hin, hg, HR, HT, HA⟩ := hrel
    by_cases hlt : i < n
    · obtain ⟨x, hx⟩ : ∃ x, ws[i]? = some x := ⟨_, List.getElem?_eq_getElem (by rw [HN.out]; exact hlt)⟩
      obtain ⟨a, ha, hc⟩ := (HW.out.new HT.out).at hx
      dsimp only at ha
      subst ha
      have HX := Lib.hid hx
      have hxl := HF.out x (List.mem_of_getElem? hx)
      obtain ⟨l, hl⟩ : ∃ l, x.length = l := ⟨_, rfl⟩
      obtain ⟨v, hv⟩ : ∃ v, digV x = v := ⟨_, rfl⟩
      have C := Lib.hid (fun w => rdig_any x l v w hv hl (by rw [← hl]; exact hxl))
      have HV := Lib.hid hv
      obtain ⟨S, hS⟩ : ∃ S, bs x = S := ⟨_, rfl⟩
      rw [hS] at C hc
      clear hx hxl hl hv hS
      go_wp2_with fail
      refine (C.out _).mono ?_
      rintro e w1 ⟨rfl, rfl⟩
      by_cases hneg : v < 0
      · have hno : o = none := by
          rw [← HO.out]
          unfold numsV
          rw [if_neg]
          intro h
          rw [Bool.and_eq_true, List.all_eq_true] at h
          have := h.1 x (List.mem_of_getElem? HX.out)
          rw [HV.out] at this
          have := of_decide_eq_true this
          omega
        have HNO := Lib.hid hno
        clear hno
        go_wp2_with fail
        go_ret
        exact ⟨_, _, _, rfl, HT.out, fun ns h => (by rw [HNO.out] at h; cases h), fun _ => rfl⟩
      · obtain ⟨i1, hi1⟩ : ∃ i1, i + 1 = i1 := ⟨_, rfl⟩
        have HI1 := Lib.hid hi1
        have hi1l : i1 ≤ n := by omega
        have hq : n - i1 < n - i := by omega
        clear hi1
        go_wp2_with (at_builtin; refine wpList_append_one_n Tryd.underlying80 info_int (by decide) rfl (.tmp 20) (.tmp 22) rfl w.heap.size _ ((ws.take i).map digV) i v rfl HR.out i1 HI1.out rfl (by omega) HT.out.size ?_; intro g4 c4 w4 hg4 h4 t4 b4)
        go_roundw
        case rel => exact ⟨i1, g4, c4, by rw [← HI1.out]; go_num, rfl, hi1l, hg4, Lib.hid (by rw [← HI1.out, take_snoc HX.out, List.map_append, HI1.out]; simp only [List.map_cons, List.map_nil, HV.out]; exact h4.out), Lib.hid (HT.out.and t4.out (fun j hj e => by have := (World.ownsRow.lt HR.out j e).1; omega)), Lib.hid fun j y hj hy => by
          rcases Nat.lt_or_ge j i with h | h
          · exact HA.out j y h hy
          · obtain rfl : j = i := by have := HI1.out; omega
            rw [HX.out] at hy
            cases hy
            rw [HV.out]
            omega⟩
        case measure => rw [← HI1.out] at hq; simpa [intOf] using hq
    · obtain rfl : i = n := by omega
      have hall : (ws.all fun w => decide (0 ≤ digV w)) = true := by
        rw [List.all_eq_true]
        intro x hx
        obtain ⟨j, hj⟩ := List.mem_iff_getElem?.1 hx
        exact decide_eq_true (HA.out j x (by have := (List.getElem?_eq_some_iff.1 hj).1; have := HN.out; omega) hj)
      have hw0 : ws.take i = ws := List.take_of_length_le (by rw [HN.out]; exact Nat.le_refl _)
      have HOW := Lib.hid (show wr.ownsRow w.heap.size 3 1 (.slice (some ⟨g, 0, none⟩) i cp) i ((ws.map digV).map (Value.int .i64)) by have := HR.out; rwa [hw0] at this)
      by_cases hq : i = many
      · subst hq
        have HE := Lib.hid (show o = some (ws.map digV) by rw [← HO.out]; unfold numsV; rw [hall, HN.out]; simp)
        clear hall hw0
        go_wp2_with fail
        go_ret
        refine ⟨_, _, _, rfl, HT.out, fun ns h => ?_, fun h => (by rw [HE.out] at h; cases h)⟩
        rw [HE.out] at h
        cases h
        have hl : (ws.map digV).length = i := by rw [List.length_map, HN.out]
        obtain ⟨ao, c, hv, hi, _⟩ := ints_of_own (L := ws.map digV) (v := .slice (some ⟨g, 0, none⟩) i cp) (by rw [hl]; exact HOW.out)
        cases hv
        exact ⟨hl, hi⟩
      · have HE := Lib.hid (show o = none by rw [← HO.out]; unfold numsV; rw [hall, HN.out]; simp [hq])
        clear hall hw0
        go_wp2_with fail
        go_ret
        exact ⟨_, _, _, rfl, HT.out, fun ns h => (by rw [HE.out] at h; cases h), fun _ => rfl⟩
end Go.Proofs.YtfghabjpcjcllaaDoor
