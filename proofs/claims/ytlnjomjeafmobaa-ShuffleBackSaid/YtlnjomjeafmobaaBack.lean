/- The walk of ShuffleBack. -/
import Derived.Test.YtlnjomjeafmobaaLaw
namespace Go.Proofs.Ytlnjomjeafmobaa
open Go.RowKit
set_option linter.unusedVariables false

/-- What the law's round finds: as it counts, in the law's own words. -/
theorem cnt_law (d : Int) (i : Nat) : (d.tmod ((i : Int) + 1) + i + 1).tmod ((i : Int) + 1) = (cnt d (i + 1) : Int) := by
  rw [cnt_cast d (i + 1) (by omega)]
  rw [show ((i + 1 : Nat) : Int) = (i : Int) + 1 by omega]
  by_cases h : 0 ≤ d
  · have h0 := Int.emod_nonneg d (b := (i : Int) + 1) (by omega)
    rw [Int.tmod_eq_emod_of_nonneg h, Int.tmod_eq_emod_of_nonneg (by omega), show d % ((i : Int) + 1) + i + 1 = d % ((i : Int) + 1) + ((i : Int) + 1) by omega]
    simp
  · obtain ⟨t1, t2, t3, t4⟩ := tmod_neg d (i + 1) (by omega) (by omega)
    rw [show ((i + 1 : Nat) : Int) = (i : Int) + 1 by omega] at t1 t2 t3 t4
    rw [Int.tmod_eq_emod_of_nonneg (by omega)]
    by_cases e : d.tmod ((i : Int) + 1) = 0
    · rw [t3 e, e]; rw [show (0 : Int) + i + 1 = (i : Int) + 1 by omega]; simp
    · rw [t4 (by omega), Int.emod_eq_of_lt (by omega) (by omega)]; omega

set_option maxHeartbeats 4000000 in
theorem back_any {ao : Option Addr} {cap : Nat} {D : List Int} (w : World) (hr : Ints .i64 w ao D) (hl : D.length ≤ 60) (hw : Wf D) :
    Calls Try.prog 5 #[.slice ao D.length cap] w fun e w' => e = .returned (.bool true) ∧ Turn (fun _ => False) w w' := by
  have HR := Lib.hid hr
  have HW := Lib.hid hw
  have HL := Lib.hid (ordL_length D)
  have HO := Lib.hid (ordL_isOrd D)
  have HB := Lib.hid (ord_drs D.length (ordL D) HO.out HL.out)
  have HC := Lib.hid (drs_ord D)
  clear hr hw
  go_enter Try.func5, Try.ntmps5
  go_wp2_with fail
  refine (alive_any _).mono ?_
  rintro e w1 ⟨rfl, t1⟩
  have T1 := Lib.hid t1
  clear t1
  go_wp2_with fail
  refine (order_any w1 (HR.out.turn T1.out (fun _ _ => id)) (by omega) HW.out).mono ?_
  rintro e w2 ⟨v2, rfl, f2⟩
  obtain ⟨a2, c2, rfl, i2, _⟩ := f2.ints
  obtain ⟨O, hO⟩ : ∃ O, O = ordL D := ⟨_, rfl⟩
  rw [← hO] at HL HO HB HC i2 ⊢
  have T2 := Lib.hid (T1.out.trans f2.2)
  have I2 := Lib.hid i2
  have hol : O.length ≤ 60 := by rw [HL.out]; omega
  clear f2 i2 hO
  go_wp2_with fail
  refine (draws_any w2 I2.out (by omega)).mono ?_
  intro e w3 h3
  obtain ⟨v3, rfl, f3⟩ := h3.yes HO.out
  clear h3
  obtain ⟨a3, c3, rfl, i3, _⟩ := f3.ints
  have hE1 : drs O.length O = cntL D := by rw [HL.out, HC.out]
  rw [hE1] at i3 ⊢
  rw [HC.out] at HB
  have hcl : (cntL D).length = D.length := cntL_length D
  have T3 := Lib.hid (T2.out.trans f3.2)
  have I23 := Lib.hid (I2.out.turn f3.2 (fun _ _ => id))
  have HCG := Lib.hid (fun i h => cntL_gt D i h)
  obtain ⟨E, hE⟩ : ∃ E, E = cntL D := ⟨_, rfl⟩
  rw [← hE] at hcl i3 HB HCG ⊢
  have I3 := Lib.hid i3
  have HEL := Lib.hid hcl
  have hne : ((E.length : Int) != (D.length : Int)) = false := by simp; omega
  clear f3 i3 I2 hcl hE HC hE1
  go_wp2_with fail
  refine (is_any (L := O) _ (by have := I23.out; exact this) (by omega)).mono ?_
  rintro e w4 ⟨rfl, t4⟩
  rw [(ordB_iff O).2 HO.out]
  have T4 := Lib.hid (T3.out.trans t4)
  have I24 := Lib.hid (I23.out.turn t4 (fun _ _ => id))
  have I34 := Lib.hid (I3.out.turn t4 (fun _ _ => id))
  have HEW : Hid (Wf E) := Lib.hid (by
    intro x hx
    obtain ⟨i, hi, e⟩ := mem_gt E x hx
    have h1 := HCG.out i (by rw [← HEL.out]; exact hi)
    have h2 := cnt_lt (gt D i) (i + 1) (by omega)
    have h3 := HEL.out
    omega)
  have hel : E.length ≤ 60 := by rw [HEL.out]; omega
  clear t4 I23 I3
  go_wp2_with fail
  refine (order_any w4 I34.out (by omega) HEW.out).mono ?_
  rintro e w5 ⟨v5, rfl, f5⟩
  obtain ⟨a5, c5, rfl, i5, _⟩ := f5.ints
  rw [HB.out] at i5 ⊢
  have T5 := Lib.hid (T4.out.trans f5.2)
  have I25 := Lib.hid (I24.out.turn f5.2 (fun _ _ => id))
  have I35 := Lib.hid (I34.out.turn f5.2 (fun _ _ => id))
  have I5 := Lib.hid i5
  clear f5 i5 I24 I34
  go_wp2_with fail
  refine (same_eq w5 I5.out I25.out rfl (by omega)).mono ?_
  rintro e w6 ⟨rfl, k6, rfl⟩
  have T6 := Lib.hid (T5.out.drewN k6)
  have I36 : Hid (Ints .i64 (w5.drewN k6) a3 E) := I35
  obtain ⟨wb, hwb⟩ : ∃ wb, wb = w5.drewN k6 := ⟨_, rfl⟩
  rw [← hwb] at T6 I36 ⊢
  clear hwb T5 I35 I25 I5
  go_wp2
  go_loopw [43] (fun i wr => ∃ k n : Nat, k ≤ D.length ∧ i = .int .i64 k ∧ wr = wb.drewN n) (fun i _ => D.length - (intOf i).toNat)
  case atStart => exact ⟨0, 0, Nat.zero_le _, rfl, rfl⟩
  case round =>
    obtain ⟨k, n, hk, rfl, rfl⟩ := hrel
    by_cases hlt : k < D.length
    · obtain ⟨ad, ha, hc⟩ := HR.out.turn T6.out (fun _ _ => id) k hlt
      subst ha
      obtain ⟨bd, hb, hd⟩ := I36.out k (by rw [HEL.out]; exact hlt)
      subst hb
      have hwf := HW.out.at_ hlt
      have h1 := HCG.out k hlt
      have h2 := cnt_lt (gt D k) (k + 1) (by omega)
      rw [show E.getD k 0 = gt E k from rfl, h1] at hd
      rw [show D.getD k 0 = gt D k from rfl] at hc hwf
      have hlaw := cnt_law (gt D k) k
      obtain ⟨x, hx⟩ : ∃ x, x = gt D k := ⟨_, rfl⟩
      rw [← hx] at hc hwf hd h2 hlaw
      obtain ⟨c, hcc⟩ : ∃ c, c = cnt x (k + 1) := ⟨_, rfl⟩
      rw [← hcc] at hd h2 hlaw
      have ht1 : -((k : Int) + 1) < x.tmod ((k : Int) + 1) ∧ x.tmod ((k : Int) + 1) < (k : Int) + 1 := by
        by_cases h0 : 0 ≤ x
        · have := Int.emod_nonneg x (b := (k : Int) + 1) (by omega)
          have := Int.emod_lt_of_pos x (b := (k : Int) + 1) (by omega)
          rw [Int.tmod_eq_emod_of_nonneg h0]; omega
        · have := tmod_neg x (k + 1) (by omega) (by omega)
          rw [show ((k + 1 : Nat) : Int) = (k : Int) + 1 by omega] at this
          omega
      have s1 : IntKind.i64.wrap ((k : Int) + 1) = (k : Int) + 1 := IntWalk.i64_in _ (by omega)
      have s2 : IntKind.i64.wrap (x.tmod ((k : Int) + 1) + (k : Int)) = x.tmod ((k : Int) + 1) + (k : Int) := IntWalk.i64_in _ (by omega)
      have s3 : IntKind.i64.wrap (x.tmod ((k : Int) + 1) + (k : Int) + 1) = x.tmod ((k : Int) + 1) + (k : Int) + 1 := IntWalk.i64_in _ (by omega)
      have b1 : decide ((c : Int) < 0) = false := by simp
      have b2 : decide (k < c) = false := by simp; omega
      have hz : ¬ ((k : Int) + 1 = 0) := by omega
      have hkE : k < E.length := by rw [HEL.out]; exact hlt
      have hkI : (0 : Int) ≤ k ∧ (k : Int) < E.length := ⟨by omega, by omega⟩
      clear h1 hx hcc ht1 h2
      go_wp2
      go_quiet (fail)
      clear s1 s2 s3 hlaw
      go_wp2
      go_roundw
      case rel => exact ⟨k + 1, _, by omega, by go_num, rfl⟩
      case measure => simp [intOf]; omega
    · obtain rfl : k = D.length := by omega
      go_wp2
      go_ret
      exact ⟨rfl, T6.out.drewN _⟩

end Go.Proofs.Ytlnjomjeafmobaa
