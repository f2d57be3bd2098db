/- Are two ops one? The code's. -/
import Derived.Test.YtaighbofekefkaaRightW
import Derived.Laws.StructEq
namespace Go.Proofs.Ytaighbofekefkaa
open Go.RowKit
set_option linter.unusedVariables false

theorem guard_case : Try.prog.eqGuardType Try.prog.depth 45 = false := by kernel_rfl
theorem stood_case : Try.prog.stoodInHeld 45 = false := by kernel_rfl
theorem equal_case (x y : Cas) (w : World) : (Op.equalIn 10000 45 (.agg #[.bool x.send, .int .i64 x.ch, .int .i64 x.v]) (.agg #[.bool y.send, .int .i64 y.ch, .int .i64 y.v])).run Try.prog w = .ok (sameC x y) w := by
  have hf : Try.prog.fieldsOf 45 = #[⟨ "Send", 4, 0, false, "", "", 0⟩, ⟨ "Ch", 3, 1, false, "", "", 8⟩, ⟨ "V", 2, 2, false, "", "", 16⟩] := by kernel_rfl
  rw [run_equalIn_struct w 9999 45 _ _ (by kernel_rfl) stood_case, hf]
  have u0 : Try.prog.underlying 4 = some .bool := by kernel_rfl
  have u1 : Try.prog.underlying 3 = some (.int .i64) := by kernel_rfl
  have u2 : Try.prog.underlying 2 = some (.int .i64) := by kernel_rfl
  simp [go_sem, u0, u1, u2]
  unfold sameC
  by_cases h0 : x.send = y.send <;> by_cases h1 : x.ch = y.ch <;> by_cases h2 : x.v = y.v <;> simp [h0, h1, h2]

theorem equalc_any {ao bo : Option Addr} {n m c d : Nat} {L M : List Cas} (b : Bool) (w : World) (hL : Has encCV 3 w ao L) (hM : Has encCV 3 w bo M) (hn : L.length = n) (hk : M.length = m) (hm : n ≤ 1000000) (hm' : m ≤ 1000000) (hb : sameBy sameC L M = b) :
    Calls Try.prog 30 #[.slice ao n c, .slice bo m d] w (Says w b) := by
  have HL := Lib.hid hL
  have HM := Lib.hid hM
  have HN := Lib.hid hn
  have HK := Lib.hid hk
  have HB := Lib.hid hb
  clear hL hM hn hk hb
  unfold Says
  by_cases hnm : n = m
  · subst hnm
    go_enter Try.func30, Try.ntmps30
    go_upto_region 4 with fail
    go_loopw [13] (fun s13 wr => ∃ i : Nat, i ≤ n ∧ s13 = .int .i64 i ∧ Hid (∀ (j : Nat) x y, j < i → L[j]? = some x → M[j]? = some y → sameC x y = true) ∧ Hid (Turn (fun _ => False) w wr)) (fun s13 _ => n - (intOf s13).toNat)
    case atStart => exact ⟨0, Nat.zero_le _, rfl, Lib.hid fun j x y hj => absurd hj (Nat.not_lt_zero _), Lib.hid (Turn.refl _ _)⟩
    case round =>
      obtain ⟨i, hi, rfl, HA, HT⟩ := hrel
      by_cases hlt : i < n
      · obtain ⟨x, hx⟩ : ∃ x, L[i]? = some x := ⟨_, List.getElem?_eq_getElem (by rw [HN.out]; exact hlt)⟩
        obtain ⟨y, hy⟩ : ∃ x, M[i]? = some x := ⟨_, List.getElem?_eq_getElem (by rw [HK.out]; exact hlt)⟩
        obtain ⟨a, rfl, hc⟩ := (HL.out.new HT.out) i x hx
        obtain ⟨a', rfl, hc'⟩ := (HM.out.new HT.out) i y hy
        obtain ⟨c0, c1, c2⟩ := cells3 hc
        obtain ⟨d0, d1, d2⟩ := cells3 hc'
        have HX := Lib.hid hx
        have HY := Lib.hid hy
        obtain ⟨f, hf⟩ : ∃ f, sameC x y = f := ⟨_, rfl⟩
        have HF := Lib.hid hf
        have hg := guard_case
        have hE : ∀ w', (Op.equalIn 10000 45 (.agg #[.bool x.send, .int .i64 x.ch, .int .i64 x.v]) (.agg #[.bool y.send, .int .i64 y.ch, .int .i64 y.v])).run Try.prog w' = .ok f w' := fun w' => by rw [equal_case, hf]
        clear hx hc hf hy hc'
        go_wp2_with fail
        go_quiet (fail)
        cases f
        · go_wp2_with fail
          go_ret
          refine ⟨ret_bool ?_, HT.out.drewN _⟩
          rw [← HB.out, sameBy_no HX.out HY.out HF.out]
        · go_wp2_with fail
          go_roundw
          case rel =>
            refine ⟨i + 1, by omega, by go_num, Lib.hid fun j x' y' hj hx hy => ?_, Lib.hid (HT.out.drewN _)⟩
            rcases Nat.lt_or_ge j i with h | h
            · exact HA.out j x' y' h hx hy
            · obtain rfl : j = i := by omega
              rw [HX.out] at hx
              rw [HY.out] at hy
              obtain rfl := Option.some.inj hx
              obtain rfl := Option.some.inj hy
              exact HF.out
          case measure => simp [intOf]; omega
      · have hin : i = n := by omega
        have HIN := Lib.hid hin
        clear hin
        go_wp2_with fail
        go_ret
        refine ⟨ret_bool ?_, HT.out⟩
        rw [← HB.out, sameBy_yes (by rw [HN.out, HK.out]) (fun j x y hx hy => HA.out j x y (by have := (List.getElem?_eq_some_iff.1 hx).1; have := HIN.out; have := HN.out; omega) hx hy)]
  · obtain rfl : b = false := by rw [← HB.out]; exact sameBy_len (by rw [HN.out, HK.out]; exact hnm)
    go_enter Try.func30, Try.ntmps30
    go_wp2_with fail
    go_ret
    exact ⟨rfl, Turn.refl _ w⟩

theorem sameO_code (a b : Opr) : sameO a b = (a.kind == b.kind && (a.ch == b.ch && (a.n == b.n && (a.v == b.v && (a.els == b.els && sameBy sameC a.cases b.cases))))) := by
  unfold sameO sameF
  by_cases h : a.cases.length = b.cases.length
  · simp [h, Bool.and_assoc]
  · rw [sameBy_len h]
    simp

set_option maxRecDepth 100000 in
set_option maxHeartbeats 1000000 in
theorem sameop_any (r s : OpV) (a b : Opr) (d : Bool) (w : World) (ha : ROp w r a) (hb' : ROp w s b) (hm : a.cases.length ≤ 1000000) (hm' : b.cases.length ≤ 1000000) (hb : sameO a b = d) : Calls Try.prog 11 #[r.val, s.val] w (Says w d) := by
  rw [sameO_code] at hb
  obtain ⟨k0, ch0, n0, v0, ⟨ao0, len0, cap0⟩, els0⟩ := r
  obtain ⟨k0', ch0', n0', v0', L0, els0'⟩ := a
  obtain ⟨e1, e2, e3, e4, e5, hcs0⟩ := ha
  dsimp only at e1 e2 e3 e4 e5 hcs0 hm
  subst e1 e2 e3 e4 e5
  obtain ⟨k1, ch1, n1, v1, ⟨ao1, len1, cap1⟩, els1⟩ := s
  obtain ⟨k1', ch1', n1', v1', L1, els1'⟩ := b
  obtain ⟨e1, e2, e3, e4, e5, hcs1⟩ := hb'
  dsimp only at e1 e2 e3 e4 e5 hcs1 hm'
  subst e1 e2 e3 e4 e5
  dsimp only at hb
  have hlen0 : len0 = L0.length := hcs0.ok.len
  have hlen1 : len1 = L1.length := hcs1.ok.len
  have H0 := Lib.hid hcs0.has
  have H1 := Lib.hid hcs1.has
  dsimp only at H0 H1
  rw [← hlen0] at hm
  rw [← hlen1] at hm'
  have N0 := Lib.hid hlen0.symm
  have N1 := Lib.hid hlen1.symm
  clear hcs0 hcs1 hlen0 hlen1
  unfold OpV.val Says Sl.val
  dsimp only
  by_cases q1 : k0 ≠ k1
  · have HQ := q1
    obtain rfl : d = false := by rw [← hb]; simp [HQ]
    clear hb
    go_enter Try.func11, Try.ntmps11
    go_wp2_with fail
    go_ret
    exact ⟨rfl, ((Turn.refl _ w).alloc _).alloc _⟩
  by_cases q2 : ch0 ≠ ch1
  · obtain rfl : k0 = k1 := Classical.not_not.1 q1
    obtain rfl : d = false := by rw [← hb]; simp [q2]
    clear hb
    go_enter Try.func11, Try.ntmps11
    go_wp2_with fail
    go_ret
    exact ⟨rfl, ((Turn.refl _ w).alloc _).alloc _⟩
  by_cases q3 : n0 ≠ n1
  · obtain rfl : k0 = k1 := Classical.not_not.1 q1
    obtain rfl : ch0 = ch1 := Classical.not_not.1 q2
    obtain rfl : d = false := by rw [← hb]; simp [q3]
    clear hb
    go_enter Try.func11, Try.ntmps11
    go_wp2_with fail
    go_ret
    exact ⟨rfl, ((Turn.refl _ w).alloc _).alloc _⟩
  by_cases q4 : v0 ≠ v1
  · obtain rfl : k0 = k1 := Classical.not_not.1 q1
    obtain rfl : ch0 = ch1 := Classical.not_not.1 q2
    obtain rfl : n0 = n1 := Classical.not_not.1 q3
    obtain rfl : d = false := by rw [← hb]; simp [q4]
    clear hb
    go_enter Try.func11, Try.ntmps11
    go_wp2_with fail
    go_ret
    exact ⟨rfl, ((Turn.refl _ w).alloc _).alloc _⟩
  by_cases q5 : els0 ≠ els1
  · obtain rfl : k0 = k1 := Classical.not_not.1 q1
    obtain rfl : ch0 = ch1 := Classical.not_not.1 q2
    obtain rfl : n0 = n1 := Classical.not_not.1 q3
    obtain rfl : v0 = v1 := Classical.not_not.1 q4
    obtain rfl : d = false := by rw [← hb]; simp [q5]
    clear hb
    go_enter Try.func11, Try.ntmps11
    go_wp2_with fail
    go_ret
    exact ⟨rfl, ((Turn.refl _ w).alloc _).alloc _⟩
  obtain rfl : k0 = k1 := Classical.not_not.1 q1
  obtain rfl : ch0 = ch1 := Classical.not_not.1 q2
  obtain rfl : n0 = n1 := Classical.not_not.1 q3
  obtain rfl : v0 = v1 := Classical.not_not.1 q4
  obtain rfl : els0 = els1 := Classical.not_not.1 q5
  have HB := Lib.hid (show sameBy sameC L0 L1 = d by rw [← hb]; simp)
  clear hb q1 q2 q3 q4 q5
  go_enter Try.func11, Try.ntmps11
  go_wp2_with fail
  refine (equalc_any d _ (H0.out.new (((Turn.refl _ w).alloc _).alloc _)) (H1.out.new (((Turn.refl _ w).alloc _).alloc _)) N0.out N1.out hm hm' HB.out).mono ?_
  rintro e w1 ⟨rfl, t1⟩
  have T1 := Lib.hid t1
  clear t1
  go_wp2_with fail
  go_ret
  exact ⟨rfl, (((Turn.refl _ w).alloc _).alloc _).trans T1.out⟩

end Go.Proofs.Ytaighbofekefkaa
