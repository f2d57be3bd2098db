/- The document's digits: a word as a number from 0 to 255, or none. -/
import Derived.Test.YtfghabjpcjcllaaDoorSplit
namespace Go.Proofs.YtfghabjpcjcllaaDoor
open Go.RowKit
set_option linter.unusedVariables false


theorem byte_lt (x : UInt8) : x.toNat < 256 := UInt8.toNat_lt x
theorem getD_some {t : Tx} {x : UInt8} {i : Nat} (h : t[i]? = some x) : t.getD i 0 = x := by rw [List.getD_eq_getElem?_getD, h]; rfl
set_option maxRecDepth 100000 in
set_option maxHeartbeats 1000000 in
theorem rdig_any (t : Tx) (n : Nat) (v : Int) (w : World) (hv : digV t = v) (hn : t.length = n) (hm : n ≤ 100000) :
    Calls Tryd.prog 61 #[.string (bs t)] w fun e w' => e = .returned (.int .i64 v) ∧ w' = w := by
  obtain ⟨S, hS⟩ : ∃ S, bs t = S := ⟨_, rfl⟩
  have HS := Lib.hid hS
  have hlen : ∀ ty w, (Builtin.len_ #[9] ty #[.string S]).run Tryd.prog w = .ok (.int .i64 n) w := by subst hS; exact fun ty w => len_text ty t hn w
  have HN := Lib.hid hn
  have HV := Lib.hid hv
  rw [hS]
  clear hS hn hv
  rcases Nat.lt_or_ge n 1 with q0 | q0
  · obtain rfl : n = 0 := by omega
    obtain rfl : v = -1 := by rw [← HV.out]; unfold digV; rw [if_pos (by rw [HN.out]; omega)]
    go_enter Tryd.func61, Tryd.ntmps61
    go_wp2_with fail
    go_ret
    exact ⟨rfl, rfl⟩
  rcases Nat.lt_or_ge 3 n with q1 | q1
  · obtain rfl : v = -1 := by rw [← HV.out]; unfold digV; rw [if_pos (by rw [HN.out]; omega)]
    go_enter Tryd.func61, Tryd.ntmps61
    go_wp2_with fail
    go_ret
    exact ⟨rfl, rfl⟩
  obtain ⟨x0, hx0⟩ : ∃ x, t[0]? = some x := ⟨_, List.getElem?_eq_getElem (by rw [HN.out]; exact q0)⟩
  have hi0 : ∀ w, (Instr.index 9 (.string S) (.int .i64 0)).run Tryd.prog w = .ok (.int .u8 x0.toNat) w := by rw [← HS.out]; exact index_text t (i := 0) hx0
  have hg := getD_some hx0
  rcases Nat.lt_or_ge 1 n with q2 | q2
  · by_cases q3 : x0 = 48
    · obtain rfl : v = -1 := by rw [← HV.out]; unfold digV; rw [if_pos (by rw [HN.out, hg]; exact Or.inr (Or.inr ⟨q2, q3⟩))]
      subst q3
      clear hg hx0
      go_enter Tryd.func61, Tryd.ntmps61
      go_wp2_with fail
      go_ret
      exact ⟨rfl, rfl⟩
    · have HV0 : Hid (digV t = digG 0 (t.drop 0)) := Lib.hid (by unfold digV; rw [if_neg (by rw [HN.out, hg]; rintro (h | h | h) <;> first | omega | exact q3 h.2)]; rfl)
      have q4 : ¬ (x0.toNat : Int) = 48 := fun e => q3 (UInt8.toNat_inj.1 (show x0.toNat = 48 by omega))
      obtain ⟨y, hy⟩ : ∃ y : Int, (x0.toNat : Int) = y := ⟨_, rfl⟩
      rw [hy] at q4 hi0
      have q5 : (y == 48) = false := by simpa using q4
      clear hg hx0 hy q3
      go_enter Tryd.func61, Tryd.ntmps61
      go_upto_region 5 with fail
      go_loopw [3, 4] (fun s3 s4 wr => ∃ (i : Nat) (a : Int), s4 = .int .i64 i ∧ s3 = .int .i64 a ∧ i ≤ n ∧ 0 ≤ a ∧ (i = 0 → a = 0) ∧ (i = 1 → a < 10) ∧ (i = 2 → a < 100) ∧ a < 1000 ∧ wr = w ∧ Hid (digV t = digG a (t.drop i))) (fun _ s4 _ => n - (intOf s4).toNat)
      case atStart => exact ⟨0, 0, rfl, rfl, Nat.zero_le _, Int.le_refl _, fun _ => rfl, by omega, by omega, by omega, rfl, HV0⟩
      case round =>
        obtain ⟨i, a, rfl, rfl, hin, ha0, h0, h1, h2, h3, rfl, HD⟩ := hrel
        by_cases hlt : i < n
        · obtain ⟨x, hx⟩ : ∃ x, t[i]? = some x := ⟨_, List.getElem?_eq_getElem (by rw [HN.out]; exact hlt)⟩
          have hix : ∀ w, (Instr.index 9 (.string S) (.int .i64 i)).run Tryd.prog w = .ok (.int .u8 x.toNat) w := by rw [← HS.out]; exact index_text t hx
          have hd : digG a (t.drop i) = if x < 48 ∨ 57 < x then -1 else digG (a * 10 + (x.toNat : Int) - 48) (t.drop (i + 1)) := by
            obtain ⟨hl, he⟩ := List.getElem?_eq_some_iff.1 hx
            rw [List.drop_eq_getElem_cons hl, he]
            rfl
          have hxl := byte_lt x
          by_cases hb : x < 48 ∨ 57 < x
          · rw [if_pos hb] at hd
            have hb' : x.toNat < 48 ∨ 57 < x.toNat := by simpa [UInt8.lt_iff_toNat_lt] using hb
            obtain ⟨xn, hxn⟩ : ∃ xn, x.toNat = xn := ⟨_, rfl⟩
            rw [hxn] at hix hb' hxl
            have HX := Lib.hid (HD.out.trans hd)
            clear hd hb hxn hx HD
            rcases hb' with hb' | hb'
            · have hq : ¬ xn > 57 := by omega
              obtain rfl : v = -1 := by rw [← HV.out, HX.out]
              go_wp2_with fail
              go_ret
              exact ⟨rfl, rfl⟩
            · have hq : ¬ xn < 48 := by omega
              obtain rfl : v = -1 := by rw [← HV.out, HX.out]
              go_wp2_with fail
              go_ret
              exact ⟨rfl, rfl⟩
          · rw [if_neg hb] at hd
            have hb' : 48 ≤ x.toNat ∧ x.toNat ≤ 57 := by simpa [UInt8.lt_iff_toNat_lt] using hb
            obtain ⟨xn, hxn⟩ : ∃ xn, x.toNat = xn := ⟨_, rfl⟩
            rw [hxn] at hix hb' hxl hd
            obtain ⟨hb1, hb2⟩ := hb'
            have HX := Lib.hid (HD.out.trans hd)
            clear hd hb hxn hx HD
            go_wp2_with fail
            go_roundw
            case rel => exact ⟨i + 1, a * 10 + xn - 48, by go_num, by go_num, by omega, by omega, by omega, by omega, by omega, by omega, trivial, HX⟩
            case measure => simp [intOf]; omega
        · obtain rfl : i = n := by omega
          have he : a = v := by
            rw [← HV.out, HD.out, List.drop_of_length_le (show t.length ≤ i by rw [HN.out]; exact Nat.le_refl _)]
            rfl
          subst he
          go_wp2_with fail
          go_ret
          exact ⟨rfl, rfl⟩
  · have HV0 : Hid (digV t = digG 0 (t.drop 0)) := Lib.hid (by unfold digV; rw [if_neg (by rw [HN.out]; rintro (h | h | h) <;> omega)]; rfl)
    clear hg hx0 hi0
    go_enter Tryd.func61, Tryd.ntmps61
    go_upto_region 5 with fail
    go_loopw [3, 4] (fun s3 s4 wr => ∃ (i : Nat) (a : Int), s4 = .int .i64 i ∧ s3 = .int .i64 a ∧ i ≤ n ∧ 0 ≤ a ∧ (i = 0 → a = 0) ∧ (i = 1 → a < 10) ∧ (i = 2 → a < 100) ∧ a < 1000 ∧ wr = w ∧ Hid (digV t = digG a (t.drop i))) (fun _ s4 _ => n - (intOf s4).toNat)
    case atStart => exact ⟨0, 0, rfl, rfl, Nat.zero_le _, Int.le_refl _, fun _ => rfl, by omega, by omega, by omega, rfl, HV0⟩
    case round =>
      obtain ⟨i, a, rfl, rfl, hin, ha0, h0, h1, h2, h3, rfl, HD⟩ := hrel
      by_cases hlt : i < n
      · obtain ⟨x, hx⟩ : ∃ x, t[i]? = some x := ⟨_, List.getElem?_eq_getElem (by rw [HN.out]; exact hlt)⟩
        have hix : ∀ w, (Instr.index 9 (.string S) (.int .i64 i)).run Tryd.prog w = .ok (.int .u8 x.toNat) w := by rw [← HS.out]; exact index_text t hx
        have hd : digG a (t.drop i) = if x < 48 ∨ 57 < x then -1 else digG (a * 10 + (x.toNat : Int) - 48) (t.drop (i + 1)) := by
          obtain ⟨hl, he⟩ := List.getElem?_eq_some_iff.1 hx
          rw [List.drop_eq_getElem_cons hl, he]
          rfl
        have hxl := byte_lt x
        by_cases hb : x < 48 ∨ 57 < x
        · rw [if_pos hb] at hd
          have hb' : x.toNat < 48 ∨ 57 < x.toNat := by simpa [UInt8.lt_iff_toNat_lt] using hb
          obtain ⟨xn, hxn⟩ : ∃ xn, x.toNat = xn := ⟨_, rfl⟩
          rw [hxn] at hix hb' hxl
          have HX := Lib.hid (HD.out.trans hd)
          clear hd hb hxn hx HD
          rcases hb' with hb' | hb'
          · have hq : ¬ xn > 57 := by omega
            obtain rfl : v = -1 := by rw [← HV.out, HX.out]
            go_wp2_with fail
            go_ret
            exact ⟨rfl, rfl⟩
          · have hq : ¬ xn < 48 := by omega
            obtain rfl : v = -1 := by rw [← HV.out, HX.out]
            go_wp2_with fail
            go_ret
            exact ⟨rfl, rfl⟩
        · rw [if_neg hb] at hd
          have hb' : 48 ≤ x.toNat ∧ x.toNat ≤ 57 := by simpa [UInt8.lt_iff_toNat_lt] using hb
          obtain ⟨xn, hxn⟩ : ∃ xn, x.toNat = xn := ⟨_, rfl⟩
          rw [hxn] at hix hb' hxl hd
          obtain ⟨hb1, hb2⟩ := hb'
          have HX := Lib.hid (HD.out.trans hd)
          clear hd hb hxn hx HD
          go_wp2_with fail
          go_roundw
          case rel => exact ⟨i + 1, a * 10 + xn - 48, by go_num, by go_num, by omega, by omega, by omega, by omega, by omega, by omega, trivial, HX⟩
          case measure => simp [intOf]; omega
      · obtain rfl : i = n := by omega
        have he : a = v := by
          rw [← HV.out, HD.out, List.drop_of_length_le (show t.length ≤ i by rw [HN.out]; exact Nat.le_refl _)]
          rfl
        subst he
        go_wp2_with fail
        go_ret
        exact ⟨rfl, rfl⟩
end Go.Proofs.YtfghabjpcjcllaaDoor
