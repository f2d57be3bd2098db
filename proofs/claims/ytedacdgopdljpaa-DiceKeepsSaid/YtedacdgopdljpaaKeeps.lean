/- The walk of DiceKeeps. -/
import Derived.Test.YtedacdgopdljpaaLaw
namespace Go.Proofs.Ytedacdgopdljpaa
open Go.RowKit
set_option linter.unusedVariables false

theorem keeps_long {ao bo : Option Addr} {lL lA cap capb : Nat} (s : Int) (w : World) (h : 300 < lL ∨ lL ≤ 300 ∧ 300 < lA) (hA : lA ≤ maxLen) :
    Calls Try.prog 4 #[.slice ao lL cap, .slice bo lA capb, .int .i64 s] w fun e w' => e = .returned (.bool true) ∧ Turn (fun _ => False) w w' := by
  unfold maxLen at hA
  rcases h with h | ⟨h, h'⟩
  all_goals
    go_enter Try.func4, Try.ntmps4
    go_wp2_with fail
    refine (alive_any _).mono ?_
    rintro e w1 ⟨rfl, t1⟩
    go_wp2_with fail
    go_ret
    exact ⟨rfl, t1⟩

theorem dv_ge (L : List Int) (k : Nat) (n : Int) (hu : ∀ x ∈ L, 0 ≤ x ∧ x ≤ 65535) : 0 ≤ dv L k n ∧ (n < 1 → dv L k n = 0) ∧ (1 ≤ n → dv L k n < n) := by
  by_cases h : n < 1 ∨ L.length ≤ k
  · have e : dv L k n = 0 := if_pos h
    rw [e]
    refine ⟨by omega, fun _ => rfl, fun _ => by omega⟩
  · have e : dv L k n = L.getD k 0 % n := if_neg h
    rw [e]
    exact ⟨Int.emod_nonneg _ (by omega), fun _ => by omega, fun _ => Int.emod_lt_of_pos _ (by omega)⟩

/-- The row that is written over: each of its cells a number. -/
def Over (w : World) (lo hi : Nat) (mo : Option Addr) (n : Nat) : Prop :=
  0 < n → ∃ g, mo = some ⟨g, 0, none⟩ ∧ lo ≤ g ∧ g < hi ∧ ∃ cur, w.heap[g]? = some (.cells cur 32 (0, 0)) ∧ ∀ j, j < n → ∃ x, cur[j]? = some (.int .u16 x)

theorem Over.turn {S : Nat → Prop} {w w' : World} {lo hi : Nat} {mo : Option Addr} {n : Nat} (h : Over w lo hi mo n) (t : Turn S w w') (hs : ∀ i, lo ≤ i → i < hi → ¬ S i) : Over w' lo hi mo n := by
  intro hn
  obtain ⟨g, e, h1, h2, cur, hh, hc⟩ := h hn
  exact ⟨g, e, h1, h2, cur, t.heap (hs g h1 h2) hh, hc⟩

set_option maxHeartbeats 2000000 in
theorem keeps_any {ao bo : Option Addr} {cap capb : Nat} {L A : List Int} (s : Int) (hs2 : s ≤ 9223372036854775807) (w : World) (hr : Ints .u16 w ao L) (hnil : ao = none → cap = 0) (ha : Ints .i64 w bo A) (hl : L.length ≤ 300) (hlA : A.length ≤ 300) (hu : ∀ x ∈ L, 0 ≤ x ∧ x ≤ 65535) (hi : ∀ x ∈ A, x ≤ 9223372036854775807) :
    Calls Try.prog 4 #[.slice ao L.length cap, .slice bo A.length capb, .int .i64 s] w fun e w' => e = .returned (.bool true) ∧ Turn (fun _ => False) w w' := by
  obtain ⟨i0, hi0, hz0, hz1, hz2⟩ := info_parts info32
  have HR := Lib.hid hr
  have HN := Lib.hid hnil
  have HA := Lib.hid ha
  have HU := Lib.hid hu
  have HI := Lib.hid hi
  have HZ := Lib.hid (And.intro hi0 (And.intro hz0 (And.intro hz1 hz2)))
  clear hr ha hu hi hnil hi0 hz0 hz1 hz2
  go_enter Try.func4, Try.ntmps4
  go_wp2_with fail
  refine (alive_any _).mono ?_
  rintro e w1 ⟨rfl, t1⟩
  have T1 := Lib.hid t1
  clear t1
  have h1r : Hid (Ints .u16 (w1.alloc (.cells #[] 32)) ao L) := Lib.hid ((HR.out.turn T1.out (fun _ _ => id)).turn ((Turn.refl (fun _ => False) w1).alloc _) (fun _ _ => id))
  have hb1 : w.heap.size ≤ w1.heap.size := T1.out.size
  go_wp2_with (first
    | (at_builtin; refine wpList_append_ints rfl (.tmp 25) (.tmp 26) 22 rfl w1.heap.size 32 i0 (.int .u16 0) 2 Try.underlying22 HZ.out.1 HZ.out.2.1 HZ.out.2.2.1 HZ.out.2.2.2 rfl _ 0 [] rfl (World.ownsRow_made w1 #[] 0 (Nat.le_refl _) (Nat.zero_le _) rfl) .u16 ao cap L rfl HN.out h1r.out (by unfold maxLen; omega) (by omega) (by simp) ?_; intro v2 w2 hown hgrow; rw [Nat.zero_add, List.nil_append] at hown; have HO := Lib.hid hown; have HG := Lib.hid hgrow; clear hown hgrow))
  obtain ⟨mo, mc, rfl, hm, hmc, hmc2, hrow⟩ := ints_of_own HO.out
  have T2 : Hid (Turn (fun _ => False) w w2) := Lib.hid ((T1.out.alloc _).grown HG.out (fun k hk => Or.inr (by cases hk; exact hb1)))
  have hov : Hid (Over w2 w.heap.size w2.heap.size mo L.length) := Lib.hid (by
    intro h0
    obtain ⟨g, e, h1, cur, h2, h3⟩ := hrow h0
    exact ⟨g, e, by omega, (Array.getElem?_eq_some_iff.1 h2).1, cur, h2, fun j hj => ⟨_, h3 j hj⟩⟩)
  have HM := Lib.hid hm
  clear hm hrow HO HG hmc hmc2 h1r
  refine (new_any (L := L) _ (HR.out.turn T2.out (fun _ _ => id)) hl HU.out).mono ?_
  rintro e w3 ⟨pa, ga, rfl, h3, hpa, hga, t3⟩
  have H3 := Lib.hid h3
  have T3 := Lib.hid t3
  have hpa3 : pa < w3.heap.size := (Array.getElem?_eq_some_iff.1 h3.box).1
  have hga3 : ga < w3.heap.size := (Array.getElem?_eq_some_iff.1 h3.row).1
  have hT2 := T2.out.size
  clear h3 t3
  go_wp2_with fail
  refine (new_any (L := L) _ (HM.out.turn T3.out (fun _ _ => id)) hl HU.out).mono ?_
  rintro e w4 ⟨pb, gb, rfl, h4, hpb, hgb, t4⟩
  obtain ⟨S2, hS2⟩ : ∃ S2, S2 = w2.heap.size := ⟨_, rfl⟩
  obtain ⟨S3, hS3⟩ : ∃ S3, S3 = w3.heap.size := ⟨_, rfl⟩
  have HB4 := Lib.hid h4
  have HA4 := Lib.hid (H3.out.turn t4 id id)
  have HV4 := Lib.hid ((hov.out.turn T3.out (fun _ _ _ => id)).turn t4 (fun _ _ _ => id))
  have T4 := Lib.hid ((T2.out.trans T3.out).trans t4)
  rw [← hS2] at HV4 hpa hga hT2
  rw [← hS3] at hpa3 hga3 hpb hgb
  clear hS2 hS3 h4 t4 hov H3 HM
  go_wp2
  go_loopw [40] (fun i wr => ∃ k : Nat, k ≤ L.length ∧ i = .int .i64 k ∧ Over wr w.heap.size S2 mo L.length ∧ IsDice wr pa ga L 0 ∧ IsDice wr pb gb L 0 ∧ Turn (fun _ => False) w wr) (fun i _ => L.length - (intOf i).toNat)
  case atStart => exact ⟨0, Nat.zero_le _, rfl, HV4.out, HA4.out, HB4.out, T4.out⟩
  case round =>
    obtain ⟨k, hk, rfl, hv, hda, hdb, ht⟩ := hrel
    have HV := Lib.hid hv
    have HDA := Lib.hid hda
    have HDB := Lib.hid hdb
    have HT := Lib.hid ht
    clear hv hda hdb ht
    by_cases hlt : k < L.length
    · obtain ⟨g, e, hg1, hg2, cur, hh, hc⟩ := HV.out (by omega)
      subst e
      obtain ⟨x, hx⟩ := hc k hlt
      have c0 : wr.cell? ⟨g, k, none⟩ = some (.int .u16 x) := by simp [World.cell?, hh, hx]
      have f0 : wr.frozen? ⟨g, k, none⟩ = false := by simp [World.frozen?, hh]
      have HH := Lib.hid hh
      have HX := Lib.hid hc
      clear hh hx hc
      go_wp2
      go_roundw
      case rel =>
        refine ⟨k + 1, by omega, by go_num, ?_, HDA.out.turn ((Turn.refl (fun i => i = g) _).setCell (Or.inl rfl) _) (by omega) (by omega), HDB.out.turn ((Turn.refl (fun i => i = g) _).setCell (Or.inl rfl) _) (by omega) (by omega), HT.out.setCell (Or.inr hg1) _⟩
        intro _
        refine ⟨g, rfl, hg1, hg2, _, heap_setCell_at HH.out _, fun j hj => ?_⟩
        obtain ⟨y, hy⟩ := HX.out j hj
        rw [Array.getElem?_setIfInBounds]
        by_cases hjk : k = j
        · subst hjk
          have := (Array.getElem?_eq_some_iff.1 hy).1
          rw [if_pos rfl, if_pos this]
          exact ⟨_, rfl⟩
        · rw [if_neg hjk]
          exact ⟨y, hy⟩
      case measure => simp [intOf]; omega
    · have hge : L.length ≤ k := by omega
      clear hlt hk
      go_wp2_with fail
      refine (skip_any s _ HDA.out).mono ?_
      rintro e w5 ⟨rfl, h5, t5⟩
      have HA5 := Lib.hid h5
      have HB5 := Lib.hid (HDB.out.turn t5 (by omega) (by omega))
      have T5 := Lib.hid (HT.out.and t5 (fun i hi e => by omega))
      obtain ⟨q, hq⟩ : ∃ q, q = 0 + (sk L 0 s).toNat := ⟨_, rfl⟩
      have hqb : (q : Int) = min (max s 0) L.length := by rw [hq]; unfold sk; omega
      rw [← hq] at HA5
      clear h5 t5 hq HDA HDB HT HV
      go_wp2
      go_loopw [11] (fun i wr => ∃ k : Nat, k ≤ q ∧ i = .int .i64 k ∧ IsDice wr pa ga L q ∧ IsDice wr pb gb L k ∧ Turn (fun _ => False) w wr) (fun i _ => q - (intOf i).toNat)
      case atStart => exact ⟨0, Nat.zero_le _, rfl, HA5.out, HB5.out, T5.out⟩
      case round =>
        obtain ⟨k, hk, rfl, hda, hdb, ht⟩ := hrel
        have HDA := Lib.hid hda
        have HDB := Lib.hid hdb
        have HT := Lib.hid ht
        clear hda hdb ht
        by_cases hlt : k < q
        · have h1 : (k : Int) < s := by omega
          have h2 : k < L.length := by omega
          have hdn : dn L k 1 = k + 1 := by unfold dn; rw [if_neg (by omega)]
          have HDN := Lib.hid hdn
          clear hdn
          go_wp2_with fail
          refine (draw_any 1 (by decide) _ HDB.out).mono ?_
          rintro e w6 ⟨rfl, h6, t6⟩
          rw [HDN.out] at h6
          have HB6 := Lib.hid h6
          have HA6 := Lib.hid (HDA.out.turn t6 (by omega) (by omega))
          have T6 := Lib.hid (HT.out.and t6 (fun i hi e => by omega))
          clear h6 t6
          go_wp2
          go_roundw
          case rel => exact ⟨k + 1, by omega, by go_num, HA6.out, HB6.out, T6.out⟩
          case measure => simp [intOf]; omega
        · obtain rfl : k = q := by omega
          have hw : (k : Int) < s ∧ L.length ≤ k ∨ s ≤ (k : Int) := by omega
          clear hlt hk
          rcases hw with ⟨hw1, hw2⟩ | hw1
          all_goals
            go_wp2
            go_loopw [68] (fun i wr => ∃ j c : Nat, j ≤ A.length ∧ i = .int .i64 j ∧ IsDice wr pa ga L c ∧ IsDice wr pb gb L c ∧ Turn (fun _ => False) w wr) (fun i _ => A.length - (intOf i).toNat)
            case atStart => exact ⟨0, k, Nat.zero_le _, rfl, HDA.out, HDB.out, HT.out⟩
            case round =>
              obtain ⟨j, c, hj, rfl, hda, hdb, ht⟩ := hrel
              clear HDA HDB HT
              have HDA := Lib.hid hda
              have HDB := Lib.hid hdb
              have HT := Lib.hid ht
              clear hda hdb ht
              by_cases hlt : j < A.length
              · obtain ⟨ad, hbo, hc⟩ := HA.out.turn HT.out (fun _ _ => id) j hlt
                subst hbo
                have hn2 := HI.out _ (getD_mem (l := A) (j := j) (d := 0) hlt)
                obtain ⟨x, hx⟩ : ∃ x, x = A.getD j 0 := ⟨_, rfl⟩
                rw [← hx] at hc hn2
                clear hx
                obtain ⟨hv0, hv1, hv2⟩ := dv_ge L c x HU.out
                obtain ⟨v, hv⟩ : ∃ v, v = dv L c x := ⟨_, rfl⟩
                rw [← hv] at hv0 hv1 hv2
                have hxx : x < 1 ∧ v = 0 ∨ 1 ≤ x ∧ v < x := by omega
                have HV := Lib.hid hv
                clear hv hv1 hv2
                rcases hxx with ⟨hx1, rfl⟩ | ⟨hx1, hx2⟩
                all_goals
                  go_wp2_with fail
                  refine (draw_any x hn2 _ HDA.out).mono ?_
                  rintro e w6 ⟨rfl, h6, t6⟩
                  rw [← HV.out]
                  have HA6 := Lib.hid h6
                  have HB6 := Lib.hid (HDB.out.turn t6 (by omega) (by omega))
                  have T6 := Lib.hid (HT.out.and t6 (fun i hi e => by omega))
                  clear h6 t6
                  go_wp2_with fail
                  refine (draw_any x hn2 _ HB6.out).mono ?_
                  rintro e w7 ⟨rfl, h7, t7⟩
                  rw [← HV.out]
                  have HB7 := Lib.hid h7
                  have HA7 := Lib.hid (HA6.out.turn t7 (by omega) (by omega))
                  have T7 := Lib.hid (T6.out.and t7 (fun i hi e => by omega))
                  clear h7 t7 HA6 HB6 T6
                  go_wp2
                  go_roundw
                  case rel => exact ⟨j + 1, _, by omega, by go_num, HA7.out, HB7.out, T7.out⟩
                  case measure => simp [intOf]; omega
              · have hge : A.length ≤ j := by omega
                have hcl := HDA.out.le
                clear hlt hj
                go_wp2_with fail
                refine (drawn_any _ HDA.out).mono ?_
                rintro e w6 ⟨rfl, rfl⟩
                go_wp2_with fail
                refine (drawn_any _ HDB.out).mono ?_
                rintro e w6 ⟨rfl, rfl⟩
                go_wp2_with fail
                refine (drawn_any _ HDA.out).mono ?_
                rintro e w6 ⟨rfl, rfl⟩
                go_wp2_with fail
                refine (left_any _ HDA.out).mono ?_
                rintro e w6 ⟨rfl, m6, rfl⟩
                go_wp2
                go_ret
                exact ⟨by first | rfl | (simp; omega) | (congr 2; simp; omega), HT.out.drewN _⟩

end Go.Proofs.Ytedacdgopdljpaa
