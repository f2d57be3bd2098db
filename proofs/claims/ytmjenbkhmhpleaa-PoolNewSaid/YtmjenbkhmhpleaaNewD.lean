/- Right of what may be; Of and Right of anything. -/
import Derived.Test.YtmjenbkhmhpleaaNewC
namespace Go.Proofs.Ytmjenbkhmhpleaa
open Go.RowKit
set_option linter.unusedVariables false

theorem len_le {M : Nat → List Int} {b : Nat} : ∀ k, (∀ j, j < k → (M j).length ≤ b) → len M k ≤ k * b := by
  intro k
  induction k with
  | zero => intro _; exact Nat.zero_le _
  | succ k ih =>
    intro h
    show len M k + (M k).length ≤ _
    have h1 := ih (fun j hj => h j (by omega))
    have h2 := h k (Nat.lt_succ_self k)
    rw [Nat.succ_mul]
    omega
theorem ok_comm {f : Nat} {A B : List Int} (h : OK f (A ++ B)) : OK f (B ++ A) :=
  ⟨fun x hx => h.1 x (List.mem_append.2 ((List.mem_append.1 hx).symm)), (List.perm_append_comm.nodup_iff).1 h.2⟩
theorem okB_comm (f : Nat) (A B : List Int) : okB f (A ++ B) = okB f (B ++ A) := by
  unfold okB
  rw [decide_eq_decide]
  exact ⟨ok_comm, ok_comm⟩

theorem Came.rs {w : World} {n size most fr cc mc : Nat} {M : Nat → List Int} {ca ma : Option Addr} (h : Came w n M ca cc) (hm : Ints .i64 w ma (M n)) (hN : ma = none → mc = 0) : RS w ⟨n, size, most, fr, M⟩ ca cc ma mc (fun _ => True) := by
  refine ⟨fun j hj => ?_, hm, fun _ _ => trivial, hN, fun _ _ => trivial, h.nil⟩
  obtain ⟨ad, a, c, e, h1, h2, h3, h4⟩ := h.row j hj
  exact ⟨ad, a, c, e, h1, h2, fun _ _ => trivial, h3, h4⟩

set_option maxHeartbeats 1000000 in
theorem right_rows {size most fr n cc nm mc : Nat} {M : Nat → List Int} {ca ma : Option Addr} {r : Bool} (w : World) (h : canB size n most = true) (hn : n ≤ 8) (hm : most ≤ 16) (hf : fr ≤ size) (hs : size ≤ 64) (hC : Came w n M ca cc) (hl : ∀ j, j < n → (M j).length ≤ most) (hmid : Ints .i64 w ma (M n)) (hmN : ma = none → mc = 0) (hnm : (M n).length = nm) (hnm2 : nm ≤ 100) (hr : okB fr (rowsL M (n + 1)) = r) :
    Calls Try.prog 11 #[.agg #[.int .i64 size, .int .i64 most, .slice ca n cc, .slice ma nm mc, .int .i64 fr]] w (BoolIs r w) := by
  have hr' : r = okB fr (allL ⟨n, size, most, fr, M⟩) := by rw [← hr]; exact okB_comm fr (rowsL M n) (M n)
  have HR := Lib.hid hr'
  have H := Lib.hid h
  have HC := Lib.hid hC
  have HL := Lib.hid hl
  have HMid := Lib.hid hmid
  have HMN := Lib.hid hmN
  have HNM := Lib.hid hnm
  have hsum : ∀ k, k ≤ n → len M k + (M n).length ≤ 1000 := fun k hk => by
    have h1 := len_le (M := M) (b := 16) k (fun j hj => Nat.le_trans (hl j (by omega)) hm)
    have h2 : k * 16 ≤ 8 * 16 := Nat.mul_le_mul_right 16 (by omega)
    rw [hnm]
    omega
  have HSUM := Lib.hid hsum
  clear h hC hl hmid hmN hnm hr hr' hsum
  obtain ⟨L, hL⟩ : ∃ L, allL ⟨n, size, most, fr, M⟩ = L := ⟨_, rfl⟩
  rw [hL] at HR
  have HLL := Lib.hid hL
  obtain ⟨nl, hnl⟩ : ∃ nl, L.length = nl := ⟨_, rfl⟩
  have hnl2 : nl ≤ 1000 := by
    have h1 := HSUM.out n (Nat.le_refl n)
    rw [← hnl, ← hL, allL_length]
    exact h1
  have HNL := Lib.hid hnl
  clear hL hnl
  go_enter Try.func11, Try.ntmps11
  go_wp2_with fail
  refine (can_at _ H.out).mono ?_
  rintro e w1 ⟨rfl, rfl⟩
  have TA := Lib.hid ((Turn.refl (fun _ => False) w).alloc (.cells #[.int .i64 size, .int .i64 most, .slice ca n cc, .slice ma nm mc, .int .i64 fr] 25))
  have BX := Lib.hid (show IBox (w.alloc (.cells #[.int .i64 size, .int .i64 most, .slice ca n cc, .slice ma nm mc, .int .i64 fr] 25)) w.heap.size size most ca n cc ma nm mc fr from heap_alloc_new w _)
  go_wp2_with fail
  go_loop [32] (fun i => ∃ k : Nat, k ≤ n ∧ i = .int .i64 k) (fun i => n - (intOf i).toNat)
  case atStart => exact ⟨0, Nat.zero_le _, rfl⟩
  case round =>
    obtain ⟨k, hk, rfl⟩ := hrel
    by_cases hlt : k < n
    · obtain ⟨ad, a, c, hca, hcell, _, _, _⟩ := (HC.out.turn TA.out).row k hlt
      subst hca
      have hle := HL.out k hlt
      have hdec : decide (most < (M k).length) = false := decide_eq_false (by omega)
      generalize (M k).length = m at hcell hle hdec
      go_wp2
      go_round
      case rel => exact ⟨k + 1, by omega, by go_num⟩
      case measure => simp [intOf]; omega
    · go_wp2_with fail
      refine (all_at (D := fun _ => True) (nl := nl) (L := L) _ ((HC.out.rs HMid.out HMN.out).new TA.out) hn HSUM.out HNM.out HLL.out HNL.out).mono ?_
      rintro e w2 ⟨bo, bc, rfl, l2, i2, _, hbc, _, t2⟩
      have L2 := Lib.hid l2
      have I2 := Lib.hid i2
      have T2 := Lib.hid (TA.out.trans t2)
      have B2 := Lib.hid (BX.out.new t2)
      have d4 : w2.cell? ⟨w.heap.size, 4, none⟩ = some (.int .i64 fr) := B2.out.d4
      clear l2 i2 t2
      go_wp2_with fail
      go_loop [46] (fun i => ∃ k : Nat, k ≤ nl ∧ i = .int .i64 k ∧ Hid (OK fr (L.take k))) (fun i => nl - (intOf i).toNat)
      case atStart => exact ⟨0, Nat.zero_le _, rfl, Lib.hid ⟨fun x hx => by simp at hx, by simp⟩⟩
      case round =>
        obtain ⟨j, hj, rfl, HK⟩ := hrel
        by_cases hlj : j < nl
        · have hltL : j < L.length := by rw [HNL.out]; exact hlj
          obtain ⟨ad, ha, hc⟩ := I2.out j hltL
          subst ha
          have HTS := Lib.hid (show L.take (j + 1) = L.take j ++ [L.getD j 0] from take_snoc hltL [])
          have hlen : (L.take j).length = j := by rw [List.length_take]; omega
          have HLen := Lib.hid hlen
          have hbad := fun (hx : ¬ ((0 ≤ L.getD j 0 ∧ L.getD j 0 < (fr : Int)) ∧ L.getD j 0 ∉ L.take j)) => (show r = false from by
            rw [HR.out]
            refine decide_eq_false fun h => hx ?_
            have h1 : OK fr (L.take (j + 1)) := OK.take (P := []) h (j + 1)
            rw [HTS.out] at h1
            exact (ok_snoc HK.out).1 h1)
          clear hlen
          generalize L.getD j 0 = x at hc hbad HTS
          by_cases h0 : x < 0
          · obtain rfl : r = false := hbad (fun h => by omega)
            clear hbad
            go_wp2_with fail
            go_ret
            exact ⟨rfl, T2.out⟩
          · by_cases h1 : x < (fr : Int)
            · by_cases h2 : x ∈ L.take j
              · obtain rfl : r = false := hbad (fun h => h.2 h2)
                have H2 := Lib.hid (List.count_pos_iff.2 h2)
                clear hbad h2
                go_wp2_with fail
                refine (has_yes w2 (I2.out.take j) HLen.out (by omega) H2.out).mono ?_
                rintro e w3 ⟨rfl, rfl⟩
                go_wp2_with fail
                go_ret
                exact ⟨rfl, T2.out⟩
              · have HK2 := Lib.hid (show OK fr (L.take (j + 1)) by rw [HTS.out]; exact (ok_snoc HK.out).2 ⟨⟨by omega, h1⟩, h2⟩)
                have H2 := Lib.hid (List.count_eq_zero.2 h2)
                clear hbad h2
                go_wp2_with fail
                refine (has_no w2 (I2.out.take j) HLen.out (by omega) H2.out).mono ?_
                rintro e w3 ⟨rfl, rfl⟩
                go_wp2_with fail
                go_round
                case rel => exact ⟨j + 1, by omega, by go_num, HK2⟩
                case measure => simp [intOf]; omega
            · obtain rfl : r = false := hbad (fun h => h1 h.1.2)
              have hge : (fr : Int) ≤ x := by omega
              clear hbad h1
              go_wp2_with fail
              go_ret
              exact ⟨rfl, T2.out⟩
        · have hk2 : L.take j = L := List.take_of_length_le (by rw [HNL.out]; omega)
          have HF := HK.out
          rw [hk2] at HF
          obtain rfl : r = true := by rw [HR.out]; exact decide_eq_true HF
          clear hk2 HF
          go_wp2_with fail
          go_ret
          exact ⟨rfl, T2.out⟩

/-- Can there be such a pool? -/
def rightB (a b f : Int) (n : Nat) (M : Nat → List Int) : Bool := canB a n b && decide (0 ≤ f ∧ f ≤ a) && decide (∀ j, j < n → (M j).length ≤ b.toNat) && okB f.toNat (rowsL M (n + 1))
theorem can_true {a b c : Int} (h : canB a b c = true) : ∃ size n most : Nat, a = size ∧ b = n ∧ c = most ∧ n ≤ 8 ∧ size ≤ 64 ∧ 1 ≤ most ∧ most ≤ 16 := by
  have h' := of_decide_eq_true h
  exact ⟨a.toNat, b.toNat, c.toNat, by omega, by omega, by omega, by omega, by omega, by omega, by omega⟩
theorem can_false {a b c : Int} (h : canB a b c = false) : a < 0 ∨ 64 < a ∨ b < 0 ∨ 8 < b ∨ c < 1 ∨ 16 < c := by
  have h' := of_decide_eq_false h
  omega
theorem good_of {n size most fr : Nat} {M : Nat → List Int} (hn : n ≤ 8) (hs : size ≤ 64) (hm : 1 ≤ most ∧ most ≤ 16) (hf : fr ≤ size) (hl : ∀ j, j < n → (M j).length ≤ most) (hok : okB fr (rowsL M (n + 1)) = true) : Good ⟨n, size, most, fr, M⟩ := by
  have h : OK fr (rowsL M (n + 1)) := of_decide_eq_true hok
  refine ⟨hn, hs, hm, hf, hl, fun v => ?_, fun v hv => ?_⟩
  · show tot M v (n + 1) ≤ 1
    rw [← count_rowsL]
    exact List.nodup_iff_count.1 h.2 v
  · have hv' : 0 < tot M v (n + 1) := hv
    rw [← count_rowsL] at hv'
    exact h.1 v (List.count_pos_iff.1 hv')

theorem cases4 (a b f : Int) (n : Nat) (M : Nat → List Int) :
    (canB a n b = false ∧ rightB a b f n M = false) ∨ (canB a n b = true ∧ (f < 0 ∨ a < f) ∧ rightB a b f n M = false) ∨
    ∃ size most fr : Nat, a = size ∧ b = most ∧ f = fr ∧ n ≤ 8 ∧ size ≤ 64 ∧ (1 ≤ most ∧ most ≤ 16) ∧ fr ≤ size ∧ canB a n b = true ∧
      (((∃ j, j < n ∧ most < (M j).length) ∧ rightB a b f n M = false) ∨ ((∀ j, j < n → (M j).length ≤ most) ∧ okB fr (rowsL M (n + 1)) = rightB a b f n M)) := by
  unfold rightB
  cases hc : canB a n b with
  | false => exact Or.inl ⟨rfl, by simp⟩
  | true =>
    right
    obtain ⟨size, n', most, rfl, hn', rfl, h1, h2, h3, h4⟩ := can_true hc
    by_cases hf : 0 ≤ f ∧ f ≤ (size : Int)
    · right
      refine ⟨size, most, f.toNat, rfl, rfl, by omega, by omega, h2, ⟨h3, h4⟩, by omega, rfl, ?_⟩
      by_cases hl : ∀ j, j < n → (M j).length ≤ most
      · right
        refine ⟨hl, ?_⟩
        rw [decide_eq_true hf, decide_eq_true (p := ∀ j, j < n → (M j).length ≤ ((most : Nat) : Int).toNat) (fun j hj => by rw [Int.toNat_natCast]; exact hl j hj)]
        simp
      · left
        refine ⟨?_, ?_⟩
        · have := Classical.not_forall.1 hl
          obtain ⟨j, hj⟩ := this
          exact ⟨j, by
            have := Classical.not_imp.1 hj
            omega⟩
        · rw [decide_eq_false (p := ∀ j, j < n → (M j).length ≤ ((most : Nat) : Int).toNat) (fun h => hl (fun j hj => by have := h j hj; rw [Int.toNat_natCast] at this; exact this))]
          simp
    · left
      refine ⟨rfl, by omega, ?_⟩
      rw [decide_eq_false hf]
      simp

/-- What New answers: whether there can be such a pool, and one without things. -/
def NewIs (r : Bool) (w : World) (e : Ending) (w' : World) : Prop :=
  ∃ pa ea, e = .returned (.tuple #[.pointer pa, .int .i64 ea]) ∧ Turn (fun _ => False) w w' ∧ ((r = false ∧ pa = none ∧ ea = 1) ∨ (r = true ∧ ea = 0 ∧ ∃ p q n size most : Nat, pa = some ⟨p, 0, none⟩ ∧ IsPool w' w.heap.size p q (newS n size most) R0 ∧ Good (newS n size most)))
theorem new_any {a t b : Int} {r : Bool} (w : World) (h : canB a t b = r) : Calls Try.prog 8 #[.int .i64 a, .int .i64 t, .int .i64 b] w (NewIs r w) := by
  cases r with
  | false =>
    refine (new_bad w (can_false h)).mono ?_
    rintro e w1 ⟨rfl, rfl⟩
    exact ⟨none, 1, rfl, Turn.refl _ _, Or.inl ⟨rfl, rfl, rfl⟩⟩
  | true =>
    obtain ⟨size, n, most, rfl, rfl, rfl, h1, h2, h3, h4⟩ := can_true h
    refine (new_at (n := n) (size := size) (most := most) w rfl rfl rfl h1 h2 ⟨h3, h4⟩).mono ?_
    rintro e w1 ⟨p, q, rfl, hp, hq, hP, t1⟩
    exact ⟨_, _, rfl, t1, Or.inr ⟨rfl, rfl, p, q, n, size, most, rfl, hP, newS_good h1 h2 ⟨h3, h4⟩⟩⟩

/-- What Of answers: whether there can be such a pool, and it. -/
def OfIs (r : Bool) (a b f : Int) (n : Nat) (M : Nat → List Int) (w : World) (e : Ending) (w' : World) : Prop :=
  ∃ pb eb, e = .returned (.tuple #[.pointer pb, .int .i64 eb]) ∧ Turn (fun _ => False) w w' ∧ ((r = false ∧ pb = none ∧ eb = 1) ∨ (r = true ∧ eb = 0 ∧ ∃ (p q size most fr : Nat) (R : Nat → Rw), a = size ∧ b = most ∧ f = fr ∧ pb = some ⟨p, 0, none⟩ ∧ IsPool w' w.heap.size p q ⟨n, size, most, fr, M⟩ R ∧ Good ⟨n, size, most, fr, M⟩))
theorem bad_is {a b f : Int} {n : Nat} {M : Nat → List Int} {w w' : World} {e : Ending} (h : BadPost w e w') : OfIs false a b f n M w e w' := ⟨none, 1, h.1, h.2, Or.inl ⟨rfl, rfl, rfl⟩⟩
theorem of_any {a b f : Int} {n cc nm mc : Nat} {M : Nat → List Int} {ca ma : Option Addr} {r : Bool} (w : World) (hn : n ≤ 20) (hC : Came w n M ca cc) (hb : ∀ j, j < n → (M j).length ≤ 100) (hmid : Ints .i64 w ma (M n)) (hnm : (M n).length = nm) (hnm2 : nm ≤ 100) (hr : rightB a b f n M = r) :
    Calls Try.prog 9 #[.int .i64 a, .int .i64 b, .slice ca n cc, .slice ma nm mc, .int .i64 f] w (OfIs r a b f n M w) := by
  rcases cases4 a b f n M with ⟨h1, h2⟩ | ⟨h1, h3, h2⟩ | ⟨size, most, fr, rfl, rfl, rfl, h8, hs, hm, hf, h1, h⟩
  · rw [h2] at hr
    subst hr
    exact (of_cannot w (can_false h1) hn).mono fun _ _ h => bad_is h
  · rw [h2] at hr
    subst hr
    obtain ⟨size, n', most, rfl, hn', rfl, k1, k2, k3, k4⟩ := can_true h1
    exact (of_fresh w (by omega) k2 ⟨k3, k4⟩ h3).mono fun _ _ h => bad_is h
  · rcases h with ⟨hl, h2⟩ | ⟨hl, h2⟩
    · rw [h2] at hr
      subst hr
      exact (of_long w h8 hs hm hf hC hb hl).mono fun _ _ h => bad_is h
    · rw [hr] at h2
      cases r with
      | false => exact (of_twice w h8 hs hm hf hC hb hl hmid hnm hnm2 h2).mono fun _ _ h => bad_is h
      | true =>
        refine (of_good w h8 hs hm hf hC hb hl hmid hnm hnm2 h2).mono ?_
        rintro e w' ⟨p, q, R, rfl, hP, t⟩
        exact ⟨_, _, rfl, t, Or.inr ⟨rfl, rfl, p, q, size, most, fr, R, rfl, rfl, rfl, rfl, hP, good_of h8 hs hm hf hl h2⟩⟩
theorem right_any {a b f : Int} {n cc nm mc : Nat} {M : Nat → List Int} {ca ma : Option Addr} {r : Bool} (w : World) (hC : Came w n M ca cc) (hb : ∀ j, j < n → (M j).length ≤ 100) (hmid : Ints .i64 w ma (M n)) (hmN : ma = none → mc = 0) (hnm : (M n).length = nm) (hnm2 : nm ≤ 100) (hr : rightB a b f n M = r) :
    Calls Try.prog 11 #[.agg #[.int .i64 a, .int .i64 b, .slice ca n cc, .slice ma nm mc, .int .i64 f]] w (BoolIs r w) := by
  rcases cases4 a b f n M with ⟨h1, h2⟩ | ⟨h1, h3, h2⟩ | ⟨size, most, fr, rfl, rfl, rfl, h8, hs, hm, hf, h1, h⟩
  · rw [h2] at hr
    subst hr
    exact right_cannot w h1
  · rw [h2] at hr
    subst hr
    exact right_fresh w h1 h3
  · rcases h with ⟨hl, h2⟩ | ⟨hl, h2⟩
    · rw [h2] at hr
      subst hr
      exact right_long w h1 h8 hm.2 hf hs hC hb hl
    · rw [hr] at h2
      exact right_rows w h1 h8 hm.2 hf hs hC hl hmid hmN hnm hnm2 h2

end Go.Proofs.Ytmjenbkhmhpleaa
