/- The contracts of sink and Sort. -/
import Derived.Test.YtcnmkbmhkcgejaaTurned
namespace Go.Proofs.Ytcnmkbmhkcgejaa
open Go.RowKit
set_option linter.unusedVariables false

theorem row_swp {w : World} {g a b : Nat} {R : List Int} (h : Row .i64 3 w g R) : Row .i64 3 ((w.setCell ⟨g, a, none⟩ (.int .i64 (gt R b))).setCell ⟨g, b, none⟩ (.int .i64 (gt R a))) g (swp R a b) := (h.set a _).set b _

/-- What sink leaves behind. -/
def SinkPost (lo len g : Nat) (R : List Int) (w : World) (e : Ending) (w' : World) : Prop :=
  e = .returned (.tuple #[]) ∧ ∃ R', Row .i64 3 w' g R' ∧ Same3 len R R' ∧ HeapFrom R' lo len ∧ Turn (fun i => i = g) w w'

set_option maxHeartbeats 2000000 in
theorem sink_any {g len cap lo : Nat} {R : List Int} (w : World) (hrow : Row .i64 3 w g R) (hl : len ≤ R.length) (hR : R.length ≤ 1000) (hlo : lo ≤ 1000) (hh : HeapFrom R (lo + 1) len) :
    Calls Try.prog 16 #[.slice (some ⟨g, 0, none⟩) len cap, .int .i64 lo] w (SinkPost lo len g R w) := by
  have H0 := Lib.hid (Sink.start hh hl)
  have HRow0 := Lib.hid hrow
  clear hh hrow hl
  go_enter Try.func16, Try.ntmps16
  go_wp2_with fail
  go_loopw [1] (fun i wr => ∃ p : Nat, ∃ R1 : List Int, i = .int .i64 p ∧ p ≤ 1000 ∧ Hid (Sink lo len R R1 p) ∧ Hid (Row .i64 3 wr g R1) ∧ Hid (Turn (fun i => i = g) w wr)) (fun i _ => len - (intOf i).toNat)
  case atStart => exact ⟨lo, R, rfl, hlo, H0, HRow0, Lib.hid (Turn.refl _ _)⟩
  case round =>
    obtain ⟨p, R1, rfl, hp, HS, HRow, HT⟩ := hrel
    clear H0 HRow0
    have hlen := HS.out.same.perm.length_eq
    have hsz := HS.out.size
    rw [hlen] at hsz
    have HL := Lib.hid hlen
    clear hlen
    obtain ⟨b, hb⟩ : ∃ b : Nat, 2 * (p : Int) + 1 = b := ⟨2 * p + 1, by omega⟩
    have hbp : b = 2 * p + 1 := by omega
    by_cases h1 : len ≤ b
    · have HD := Lib.hid (HS.out.leaf (by omega))
      clear hbp
      go_wp2
      first | go_end0 | refine bodyPost_ret (results_none rfl _ _ _) rfl ?_
      exact ⟨rfl, R1, HRow.out, HD.out.1, HD.out.2, HT.out⟩
    · obtain ⟨c, hc⟩ : ∃ c : Nat, (b : Int) + 1 = c := ⟨b + 1, by omega⟩
      have hbl : b < len := by omega
      have hcb : c = b + 1 := by omega
      have hpl : p < len := by omega
      have c0 := HRow.out.cell (i := b) (by rw [HL.out]; omega)
      have cp := HRow.out.cell (i := p) (by rw [HL.out]; omega)
      by_cases h2 : c < len
      · have cc := HRow.out.cell (i := c) (by rw [HL.out]; omega)
        by_cases h3 : gt R1 b < gt R1 c
        · have HB := Lib.hid (two_below' (len := len) (p := p) (R := R1) (by rw [← hbp, show 2 * p + 2 = c by omega]; exact h3))
          have HC := Lib.hid (show c = 2 * p + 2 by omega)
          rw [← HC.out] at HB
          have hq0 : 0 < c := by omega
          have hql : c < len := by omega
          have hqp : (c - 1) / 2 = p := by omega
          have hqs : len - c < len - p := by omega
          have hq1 : c ≤ 1000 := by omega
          by_cases h4 : gt R1 c ≤ gt R1 p
          · have HD := Lib.hid (HS.out.stop HB.out h4)
            obtain ⟨x, hx⟩ : ∃ x, x = gt R1 b := ⟨_, rfl⟩
            obtain ⟨z, hz⟩ : ∃ z, z = gt R1 p := ⟨_, rfl⟩
            rw [show R1.getD b 0 = gt R1 b from rfl, ← hx] at c0
            rw [show R1.getD p 0 = gt R1 p from rfl, ← hz] at cp
            obtain ⟨y, hy⟩ : ∃ y, y = gt R1 c := ⟨_, rfl⟩
            rw [show R1.getD c 0 = gt R1 c from rfl, ← hy] at cc
            rw [← hx, ← hy] at h3
            rw [← hy, ← hz] at h4
            have hd : decide (x < y) = true := by simpa using h3
            clear hx hz hy hbp hcb hqp HB HC
            go_wp2
            go_quiet (fail)
            go_wp2
            go_quiet (fail)
            go_wp2
            first | go_end0 | refine bodyPost_ret (results_none rfl _ _ _) rfl ?_
            exact ⟨rfl, R1, HRow.out, HD.out.1, HD.out.2, (HT.out.drewN _).drewN _⟩
          · have HD := Lib.hid (HS.out.next HB.out (by omega) hq0 hql hqp)
            have HR2 := Lib.hid (row_swp (a := p) (b := c) HRow.out)
            have fp := HRow.out.frozen p
            have fq := HRow.out.frozen c
            obtain ⟨x, hx⟩ : ∃ x, x = gt R1 b := ⟨_, rfl⟩
            obtain ⟨z, hz⟩ : ∃ z, z = gt R1 p := ⟨_, rfl⟩
            rw [show R1.getD b 0 = gt R1 b from rfl, ← hx] at c0
            rw [show R1.getD p 0 = gt R1 p from rfl, ← hz] at cp
            obtain ⟨y, hy⟩ : ∃ y, y = gt R1 c := ⟨_, rfl⟩
            rw [show R1.getD c 0 = gt R1 c from rfl, ← hy] at cc
            rw [← hx, ← hy] at h3
            rw [← hy, ← hz] at h4
            rw [← hy, ← hz] at HR2
            have hd : decide (x < y) = true := by simpa using h3
            clear hx hz hy hbp hcb hqp HB HC
            go_wp2
            go_quiet (fail)
            go_wp2
            go_quiet (fail)
            go_wp2
            go_region
            all_goals
              go_wp2
              go_roundw
              case rel => exact ⟨c, _, rfl, hq1, HD, Lib.hid HR2.out, Lib.hid (((HT.out.drewN _).setCell (p := ⟨g, p, none⟩) (Or.inl rfl) _).setCell (p := ⟨g, c, none⟩) (Or.inl rfl) _)⟩
              case measure => simp [intOf]; omega
        · have HB := Lib.hid (two_below (len := len) (p := p) (R := R1) (Or.inr (by rw [← hbp, show 2 * p + 2 = c by omega]; omega)))
          have HC := Lib.hid (show b = 2 * p + 1 by omega)
          rw [← HC.out] at HB
          have hq0 : 0 < b := by omega
          have hql : b < len := by omega
          have hqp : (b - 1) / 2 = p := by omega
          have hqs : len - b < len - p := by omega
          have hq1 : b ≤ 1000 := by omega
          by_cases h4 : gt R1 b ≤ gt R1 p
          · have HD := Lib.hid (HS.out.stop HB.out h4)
            obtain ⟨x, hx⟩ : ∃ x, x = gt R1 b := ⟨_, rfl⟩
            obtain ⟨z, hz⟩ : ∃ z, z = gt R1 p := ⟨_, rfl⟩
            rw [show R1.getD b 0 = gt R1 b from rfl, ← hx] at c0
            rw [show R1.getD p 0 = gt R1 p from rfl, ← hz] at cp
            obtain ⟨y, hy⟩ : ∃ y, y = gt R1 c := ⟨_, rfl⟩
            rw [show R1.getD c 0 = gt R1 c from rfl, ← hy] at cc
            rw [← hx, ← hy] at h3
            rw [← hx, ← hz] at h4
            have hd : decide (x < y) = false := by simpa using h3
            clear hx hz hy hbp hcb hqp HB HC
            go_wp2
            go_quiet (fail)
            go_wp2
            go_quiet (fail)
            go_wp2
            first | go_end0 | refine bodyPost_ret (results_none rfl _ _ _) rfl ?_
            exact ⟨rfl, R1, HRow.out, HD.out.1, HD.out.2, (HT.out.drewN _).drewN _⟩
          · have HD := Lib.hid (HS.out.next HB.out (by omega) hq0 hql hqp)
            have HR2 := Lib.hid (row_swp (a := p) (b := b) HRow.out)
            have fp := HRow.out.frozen p
            have fq := HRow.out.frozen b
            obtain ⟨x, hx⟩ : ∃ x, x = gt R1 b := ⟨_, rfl⟩
            obtain ⟨z, hz⟩ : ∃ z, z = gt R1 p := ⟨_, rfl⟩
            rw [show R1.getD b 0 = gt R1 b from rfl, ← hx] at c0
            rw [show R1.getD p 0 = gt R1 p from rfl, ← hz] at cp
            obtain ⟨y, hy⟩ : ∃ y, y = gt R1 c := ⟨_, rfl⟩
            rw [show R1.getD c 0 = gt R1 c from rfl, ← hy] at cc
            rw [← hx, ← hy] at h3
            rw [← hx, ← hz] at h4
            rw [← hx, ← hz] at HR2
            have hd : decide (x < y) = false := by simpa using h3
            clear hx hz hy hbp hcb hqp HB HC
            go_wp2
            go_quiet (fail)
            go_wp2
            go_quiet (fail)
            go_wp2
            go_region
            all_goals
              go_wp2
              go_roundw
              case rel => exact ⟨b, _, rfl, hq1, HD, Lib.hid HR2.out, Lib.hid (((HT.out.drewN _).setCell (p := ⟨g, p, none⟩) (Or.inl rfl) _).setCell (p := ⟨g, b, none⟩) (Or.inl rfl) _)⟩
              case measure => simp [intOf]; omega
      · have HB := Lib.hid (two_below (len := len) (p := p) (R := R1) (Or.inl (by omega)))
        have HC := Lib.hid (show b = 2 * p + 1 by omega)
        rw [← HC.out] at HB
        have hq0 : 0 < b := by omega
        have hql : b < len := by omega
        have hqp : (b - 1) / 2 = p := by omega
        have hqs : len - b < len - p := by omega
        have hq1 : b ≤ 1000 := by omega
        by_cases h4 : gt R1 b ≤ gt R1 p
        · have HD := Lib.hid (HS.out.stop HB.out h4)
          obtain ⟨x, hx⟩ : ∃ x, x = gt R1 b := ⟨_, rfl⟩
          obtain ⟨z, hz⟩ : ∃ z, z = gt R1 p := ⟨_, rfl⟩
          rw [show R1.getD b 0 = gt R1 b from rfl, ← hx] at c0
          rw [show R1.getD p 0 = gt R1 p from rfl, ← hz] at cp
          rw [← hx, ← hz] at h4
          have hd : decide (c < len) = false := by simpa using h2
          clear hx hz hbp hcb hqp HB HC
          go_wp2
          go_quiet (fail)
          go_wp2
          go_quiet (fail)
          go_wp2
          first | go_end0 | refine bodyPost_ret (results_none rfl _ _ _) rfl ?_
          exact ⟨rfl, R1, HRow.out, HD.out.1, HD.out.2, (HT.out.drewN _).drewN _⟩
        · have HD := Lib.hid (HS.out.next HB.out (by omega) hq0 hql hqp)
          have HR2 := Lib.hid (row_swp (a := p) (b := b) HRow.out)
          have fp := HRow.out.frozen p
          have fq := HRow.out.frozen b
          obtain ⟨x, hx⟩ : ∃ x, x = gt R1 b := ⟨_, rfl⟩
          obtain ⟨z, hz⟩ : ∃ z, z = gt R1 p := ⟨_, rfl⟩
          rw [show R1.getD b 0 = gt R1 b from rfl, ← hx] at c0
          rw [show R1.getD p 0 = gt R1 p from rfl, ← hz] at cp
          rw [← hx, ← hz] at h4
          rw [← hx, ← hz] at HR2
          have hd : decide (c < len) = false := by simpa using h2
          clear hx hz hbp hcb hqp HB HC
          go_wp2
          go_quiet (fail)
          go_wp2
          go_quiet (fail)
          go_wp2
          go_region
          all_goals
            go_wp2
            go_roundw
            case rel => exact ⟨b, _, rfl, hq1, HD, Lib.hid HR2.out, Lib.hid (((HT.out.drewN _).setCell (p := ⟨g, p, none⟩) (Or.inl rfl) _).setCell (p := ⟨g, b, none⟩) (Or.inl rfl) _)⟩
            case measure => simp [intOf]; omega

end Go.Proofs.Ytcnmkbmhkcgejaa
