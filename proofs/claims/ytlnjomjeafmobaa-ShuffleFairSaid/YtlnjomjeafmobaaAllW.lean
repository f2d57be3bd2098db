/- The walk of ShuffleAll. -/
import Derived.Test.YtlnjomjeafmobaaAllC
namespace Go.Proofs.Ytlnjomjeafmobaa
open Go.RowKit
set_option linter.unusedVariables false

theorem same_ne {ao bo : Option Addr} {ca cb n m : Nat} {L M : List Int} (w : World) (hr : Ints .i64 w ao L) (hq : Ints .i64 w bo M) (hn : L.length = n) (hm : M.length = m) (hl : n ≤ 1000) (hlm : m ≤ 1000) (hne : L ≠ M) :
    Calls Try.prog 11 #[.slice ao n ca, .slice bo m cb] w fun e w' => e = .returned (.bool false) ∧ ∃ k, w' = w.drewN k := by
  subst hn
  subst hm
  refine (same_any w hr hq hl hlm).mono ?_
  rintro e w' ⟨rfl, k, rfl⟩
  exact ⟨ret_bool (by simpa using hne), k, rfl⟩

theorem Lists.slice {w : World} {base : Nat} {v : Value} {LL : List (List Int)} (h : Lists w base v LL) : ∃ ao c, v = .slice ao LL.length c := by
  obtain ⟨xs, h1, _⟩ := h
  rcases h1.2 with ⟨rfl, h0⟩ | ⟨g, cap, cur, rfl, _⟩
  · exact ⟨none, 0, by rw [h0]⟩
  · exact ⟨_, cap, rfl⟩
theorem Lists.some_ {w : World} {base n c : Nat} {ao : Option Addr} {LL : List (List Int)} (h : Lists w base (.slice ao n c) LL) (hl : 0 < LL.length) : ∃ g, ao = some ⟨g, 0, none⟩ := by
  obtain ⟨g, c, e⟩ := h.form hl
  cases e
  exact ⟨g, rfl⟩

theorem count_fact (k : Nat) (hk : k ≤ 20) (w : World) : Calls Try.prog 16 #[.int .i64 k] w fun e w' => e = .returned (.int .i64 (fact k)) ∧ w = w' := by
  have := count_any k (by omega) (by omega) w
  rwa [show howMany k = fact k by unfold howMany; rw [if_neg (by omega)]; simp] at this

set_option maxHeartbeats 4000000 in
theorem shuffleAll_any (n : Int) (h0 : 0 ≤ n) (h1 : n ≤ 255) (w : World) :
    Calls Try.prog 6 #[.int .u8 n] w fun e w' => e = .returned (.bool true) ∧ Turn (fun _ => False) w w' := by
  obtain ⟨k, hk⟩ : ∃ k : Nat, n % 7 = k := ⟨(n % 7).toNat, by omega⟩
  have hk6 : k ≤ 6 := by omega
  have HK := Lib.hid hk
  have HAL := Lib.hid (allL_length k)
  have hfl := fact_le720 k hk6
  have hpos : 0 < fact k := by have := fact_le k (by omega); omega
  clear hk
  go_enter Try.func6, Try.ntmps6
  go_wp2_with fail
  refine (alive_any _).mono ?_
  rintro e w1 ⟨rfl, t1⟩
  have T1 := Lib.hid t1
  clear t1
  go_wp2_with fail
  rw [HK.out]
  refine (all_any k _ hk6).mono ?_
  rintro e w2 ⟨v2, rfl, l2, t2⟩
  obtain ⟨g2, c2, rfl⟩ := l2.form (by rw [HAL.out]; exact hpos)
  rw [HAL.out] at l2 ⊢
  have hsz := World.size_alloc (w := w1) (o := .cells #[] 22)
  have hg2 := l2.lt g2 rfl
  have hgw : w1.heap.size < g2 := by omega
  have S2 := Lib.hid (l2.less (base' := w1.heap.size) (by omega))
  have O2 := Lib.hid ((lists_made w1 (.cells #[] 22)).new t2)
  have T2 := Lib.hid (((Turn.refl (fun _ => False) w1).alloc (.cells #[] 22)).trans t2)
  have HW1 := Lib.hid T1.out.size
  clear l2 t2 hsz hg2 hpos
  go_wp2_with fail
  go_loopw [4, 19] (fun o i wr => ∃ j : Nat, ∃ ao c, j ≤ fact k ∧ i = .int .i64 j ∧ o = .slice ao j c ∧ Hid (Lists wr w1.heap.size (.slice ao j c) (((allL k).take j).map ordL)) ∧ Hid (ao.map Addr.block ≠ some g2) ∧ Hid (Lists wr w1.heap.size (.slice (some ⟨g2, 0, none⟩) (fact k) c2) (allL k)) ∧ Hid (Turn (fun _ => False) w1 wr)) (fun _ i _ => fact k - (intOf i).toNat)
  case atStart => exact ⟨0, _, _, Nat.zero_le _, rfl, rfl, Lib.hid (by simpa using O2.out), Lib.hid (by simp; omega), S2, T2⟩
  case round =>
    obtain ⟨j, ao, c, hj, rfl, rfl, HL, HB, HS, HT⟩ := hrel
    clear O2 S2 T2
    by_cases hlt : j < fact k
    · obtain ⟨bo, d0, hcell, hown⟩ := HS.out.own_at (j := j) (by rw [HAL.out]; exact hlt)
      have hmem : (allL k).getD j [] ∈ allL k := by rw [getD_getElem _ _ (by rw [HAL.out]; exact hlt)]; exact List.getElem_mem _
      have hE := allL_each k _ hmem
      have HN := Lib.hid (ordLL_next (allL k) j (by rw [HAL.out]; exact hlt))
      have HD := Lib.hid (fun i (hi : i < j) => ord_ne (n := k) (i := i) (j := j) (by rw [HAL.out]; omega) (by rw [HAL.out]; exact hlt) (by omega))
      have HAt := Lib.hid (fun i (hi : i < j) => ordLL_at (allL k) j i hi (by rw [HAL.out]; omega))
      have hlen : (((allL k).take j).map ordL).length = j := by simp [HAL.out]; omega
      obtain ⟨l, hl⟩ : ∃ l, l = (allL k).getD j [] := ⟨_, rfl⟩
      rw [← hl] at hcell hown HN hE HD
      obtain ⟨LL, hLL⟩ : ∃ LL, LL = ((allL k).take j).map ordL := ⟨_, rfl⟩
      rw [← hLL] at HL HN HAt hlen
      have HLen := Lib.hid hlen
      have HWf : Hid (Wf l) := Lib.hid (by
        intro x hx
        obtain ⟨i, hi, e⟩ := mem_gt l x hx
        have := hE.2 i (by rw [← hE.1]; exact hi)
        have := hE.1
        omega)
      have hll : l.length ≤ 6 := by rw [hE.1]; exact hk6
      have HI := Lib.hid (own_reads hown).2.1
      clear hmem hE hl hLL hlen hown
      go_wp2_with fail
      refine (order_any wr HI.out (by omega) HWf.out).mono ?_
      rintro e w3 ⟨v3, rfl, f3⟩
      have hol := ordL_length l
      obtain ⟨O, hO⟩ : ∃ O, O = ordL l := ⟨_, rfl⟩
      rw [← hO] at f3 HN HD hol
      obtain ⟨a3, c3, rfl, i3, _⟩ := f3.ints
      have T3 := Lib.hid f3.2
      have O3 := Lib.hid f3.1
      have I3 := Lib.hid i3
      have hol6 : O.length ≤ 6 := by omega
      have HL3 := Lib.hid (HL.out.new f3.2)
      clear hO f3 i3 hol HI HL
      go_wp2_with fail
      go_loopw [27] (fun i wr => ∃ q n : Nat, q ≤ j ∧ i = .int .i64 q ∧ wr = w3.drewN n) (fun i _ => j - (intOf i).toNat)
      case atStart => exact ⟨0, 0, Nat.zero_le _, rfl, rfl⟩
      case round =>
        obtain ⟨q, nd, hq, rfl, rfl⟩ := hrel
        by_cases hlq : q < j
        · obtain ⟨ga, hga⟩ := HL3.out.some_ (by rw [HLen.out]; omega)
          subst hga
          obtain ⟨eo, de, hce, hoe⟩ := HL3.out.own_at (j := q) (by rw [HLen.out]; exact hlq)
          have hne := HD.out q hlq
          rw [HAt.out q hlq] at hce hoe
          have HRe := Lib.hid (own_reads hoe).2.1
          have hxl := ordL_length ((allL k).getD q [])
          have hmem : (allL k).getD q [] ∈ allL k := by rw [getD_getElem _ _ (by rw [HAL.out]; omega)]; exact List.getElem_mem _
          rw [(allL_each k _ hmem).1] at hxl
          obtain ⟨X, hX⟩ : ∃ X, X = ordL ((allL k).getD q []) := ⟨_, rfl⟩
          rw [← hX] at hce HRe hne hxl
          have hxl6 : X.length ≤ 6 := by omega
          have HNe := Lib.hid hne
          clear hne hX hxl hmem hoe
          go_wp2_with fail
          refine (same_ne (w3.drewN nd) (L := X) (M := O) HRe.out I3.out rfl rfl (by omega) (by omega) HNe.out).mono ?_
          rintro e w4 ⟨rfl, k4, rfl⟩
          go_wp2_with fail
          go_roundw
          case rel => exact ⟨q + 1, _, by omega, by go_num, rfl⟩
          case measure => simp [intOf]; omega
        · obtain rfl : q = j := by omega
          have L4 : Hid (Lists (w3.drewN nd) w1.heap.size (.slice ao q c) LL) := HL3
          have O4 : Hid ((w3.drewN nd).ownsRow w1.heap.size 3 1 (.slice a3 O.length c3) O.length (O.map (Value.int .i64))) := Lib.hid (own_less O3.out HT.out.size)
          have T4 := Lib.hid (T3.out.drewN nd)
          obtain ⟨wd, hwd⟩ : ∃ wd, wd = w3.drewN nd := ⟨_, rfl⟩
          rw [← hwd] at L4 O4 T4 ⊢
          have hs4 := T4.out.size
          have hs5 := HT.out.size
          clear hwd HL3 O3 T3 I3 hj
          go_wp2_with (first
            | (at_builtin; refine wpList_append_list rfl (.tmp 35) (.tmp 37) rfl w1.heap.size (.slice ao q c) (.slice a3 O.length c3) LL O rfl L4.out O4.out rfl (by rw [HLen.out]; omega) (by omega) ?_; intro v7 w7 L7 T7 B7; obtain ⟨a7, c7, hv7⟩ := L7.out.slice; rw [show (LL ++ [O]).length = q + 1 by simp [HLen.out]] at hv7; subst hv7))
          go_roundw
          case rel =>
            have hty : ∀ i, i < wd.heap.size → (Value.slice ao q c).ownBlock = some i → ∃ cur, wd.heap[i]? = some (.cells cur 22 (0, 0)) := fun i _ e => L4.out.type i e
            have hg := (HS.out.lt g2 rfl).2
            have hob : ∀ (a : Option Addr) (n c : Nat), (Value.slice a n c).ownBlock = a.map Addr.block := fun a n c => by cases a <;> rfl
            refine ⟨q + 1, a7, c7, by omega, by go_num, rfl, Lib.hid ?_, Lib.hid ?_, Lib.hid ?_, Lib.hid ?_⟩
            · rw [HN.out]; exact L7.out
            · intro e
              have hB := B7.out
              rw [hob, hob] at hB
              rcases hB with h | h
              · rw [h] at e; exact HB.out e
              · rw [h] at e; injection e with e; omega
            · refine (HS.out.new T4.out).turn T7.out (fun k hk e => ?_) hty
              rw [hob] at hk e
              simp at hk
              subst hk
              exact HB.out e
            · refine (HT.out.trans T4.out).and T7.out (fun i hi e => ?_)
              have := (L4.out.lt i e).1
              omega
          case measure => simp [intOf]; omega
    · obtain rfl : j = fact k := by omega
      clear hlt
      go_wp2_with fail
      refine (count_fact k (by omega) _).mono ?_
      rintro e w3 ⟨rfl, rfl⟩
      go_wp2
      go_ret
      exact ⟨ret_bool (by simp), T1.out.trans HT.out⟩

end Go.Proofs.Ytlnjomjeafmobaa
