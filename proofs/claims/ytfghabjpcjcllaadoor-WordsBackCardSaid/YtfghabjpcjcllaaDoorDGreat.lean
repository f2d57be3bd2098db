/- The law's: is a plan more than is looked at? -/
import Derived.Test.YtfghabjpcjcllaaDoorDRight
namespace Go.Proofs.YtfghabjpcjcllaaDoor
open Go.RowKit
set_option linter.unusedVariables false


/-- What the law looks at. -/
def Mid (p : List (List Opr)) : Prop := p.length ≤ 20 ∧ ∀ l ∈ p, l.length ≤ 40 ∧ ∀ o ∈ l, o.cases.length ≤ 20
theorem Mid.mild {p : List (List Opr)} (h : Mid p) : MildP p := ⟨by have := h.1; omega, fun l hl => ⟨by have := (h.2 l hl).1; omega, fun o ho => by have := (h.2 l hl).2 o ho; omega⟩⟩
set_option maxRecDepth 100000 in
theorem great_any {s : Sl} {n : Nat} {p : List (List Opr)} (w : World) (hP : RPlan w s p) (hn : p.length = n) : Calls Tryd.prog 7 #[.slice s.ao n s.cap] w fun e w' => ∃ g, e = .returned (.bool g) ∧ (g = false → Mid p) ∧ Turn (fun _ => False) w w' := by
  have hmax : n ≤ maxLen := by have h1 := hP.ok.len; have h2 := hP.ok.cap; have h3 := hP.ok.max; omega
  unfold maxLen at hmax
  obtain ⟨ao, len, c⟩ := s
  have HP := Lib.hid hP
  have HN := Lib.hid hn
  clear hP hn
  dsimp only
  go_enter Tryd.func7, Tryd.ntmps7
  go_upto_region 2 with fail
  go_loopw [9] (fun s9 wr => ∃ i : Nat, i ≤ n ∧ s9 = .int .i64 i ∧ Hid (∀ (j : Nat) x, j < i → p[j]? = some x → x.length ≤ 40 ∧ ∀ o ∈ x, o.cases.length ≤ 20) ∧ Hid (Turn (fun _ => False) w wr)) (fun s9 _ => n - (intOf s9).toNat)
  case atStart => exact ⟨0, Nat.zero_le _, rfl, Lib.hid fun j x hj => absurd hj (Nat.not_lt_zero _), Lib.hid (Turn.refl _ _)⟩
  case round =>
    obtain ⟨i, hi, rfl, HA, HT⟩ := hrel
    by_cases hlt : i < n
    · obtain ⟨x, hx⟩ : ∃ x, p[i]? = some x := ⟨_, List.getElem?_eq_getElem (by rw [HN.out]; exact hlt)⟩
      obtain ⟨a, y, ha, hr, hc⟩ := (HP.out.new HT.out).at hx
      dsimp only at ha
      subst ha
      obtain ⟨ao', len', cap'⟩ := y
      have hl' : x.length = len' := hr.ok.len.symm
      have HX := Lib.hid hx
      have HR := Lib.hid hr
      have HL' := Lib.hid hl'
      unfold Sl.val at hc
      dsimp only at hc
      have hml : len' ≤ maxLen := by have h2 := hr.ok.cap; have h3 := hr.ok.max; dsimp only at h2 h3; omega
      unfold maxLen at hml
      clear hx hr hl'
      go_upto_region 5 with fail
      generalize hwi : wr = wi at HT HR hc ⊢
      clear hwi
      go_loopw [15] (fun s15 wr => ∃ k : Nat, k ≤ len' ∧ s15 = .int .i64 k ∧ Hid (∀ (j : Nat) y, j < k → x[j]? = some y → y.cases.length ≤ 20) ∧ Hid (Turn (fun _ => False) wi wr)) (fun s15 _ => len' - (intOf s15).toNat)
      case atStart => exact ⟨0, Nat.zero_le _, rfl, Lib.hid fun j x hj => absurd hj (Nat.not_lt_zero _), Lib.hid (Turn.refl _ _)⟩
      case round =>
        obtain ⟨k, hk, rfl, HA2, HT2⟩ := hrel
        clear hc
        by_cases hlt2 : k < len'
        · obtain ⟨y, hy⟩ : ∃ y, x[k]? = some y := ⟨_, List.getElem?_eq_getElem (by rw [HL'.out]; exact hlt2)⟩
          obtain ⟨a2, r, ha2, hro, hc⟩ := (HR.out.new HT2.out).at hy
          dsimp only at ha2
          subst ha2
          obtain ⟨kind, ch, n', v, ⟨ao2, len2, cap2⟩, els⟩ := r
          obtain ⟨c0, c1, c2, c3, c4, c5⟩ := cells6 hc
          have HY := Lib.hid hy
          have HRO := Lib.hid hro
          unfold Sl.val at c4
          dsimp only at c0 c1 c2 c3 c4 c5
          clear hy hc hro
          have hl2 : len2 = y.cases.length := HRO.out.cs.ok.len
          have HL2 := Lib.hid hl2
          clear hl2
          rcases Nat.lt_or_ge 20 len2 with hbig | hsmall
          · go_wp2_with fail
            go_ret
            exact ⟨true, rfl, (fun h => by cases h), (HT.out.trans HT2.out).alloc _⟩
          · go_wp2_with fail
            go_roundw
            case rel =>
              refine ⟨k + 1, by omega, by go_num, Lib.hid fun j z hj hz => ?_, Lib.hid (HT2.out.alloc _)⟩
              rcases Nat.lt_or_ge j k with h | h
              · exact HA2.out j z h hz
              · obtain rfl : j = k := by omega
                rw [HY.out] at hz
                obtain rfl := Option.some.inj hz
                rw [← HL2.out]
                exact hsmall
            case measure => simp [intOf]; omega
        · have hkn : k = len' := by omega
          have HALL := Lib.hid (show ∀ o ∈ x, o.cases.length ≤ 20 from fun o ho => by
            obtain ⟨j, hj⟩ := List.mem_iff_getElem?.1 ho
            exact HA2.out j o (by have := (List.getElem?_eq_some_iff.1 hj).1; have := HL'.out; omega) hj)
          clear hkn
          rcases Nat.lt_or_ge 40 len' with hlong | hshort
          · go_wp2_with fail
            go_ret
            exact ⟨true, rfl, (fun h => by cases h), HT.out.trans HT2.out⟩
          · go_wp2_with fail
            go_roundw
            case rel =>
              refine ⟨i + 1, by omega, by go_num, Lib.hid fun j y hj hy => ?_, Lib.hid (HT.out.trans HT2.out)⟩
              rcases Nat.lt_or_ge j i with h | h
              · exact HA.out j y h hy
              · obtain rfl : j = i := by omega
                rw [HX.out] at hy
                obtain rfl := Option.some.inj hy
                exact ⟨by rw [HL'.out]; exact hshort, HALL.out⟩
            case measure => simp [intOf]; omega
    · have hin : i = n := by omega
      have HIN := Lib.hid hin
      clear hin
      rcases Nat.lt_or_ge 20 n with hbig | hsmall
      · go_wp2_with fail
        go_ret
        exact ⟨true, ret_bool (by simp; omega), (fun h => by cases h), HT.out⟩
      · go_wp2_with fail
        go_ret
        refine ⟨false, ret_bool (by simp; omega), fun _ => ⟨by rw [HN.out]; exact hsmall, fun l hl => ?_⟩, HT.out⟩
        obtain ⟨j, hj⟩ := List.mem_iff_getElem?.1 hl
        exact HA.out j l (by have := (List.getElem?_eq_some_iff.1 hj).1; have := HIN.out; have := HN.out; omega) hj

end Go.Proofs.YtfghabjpcjcllaaDoor
