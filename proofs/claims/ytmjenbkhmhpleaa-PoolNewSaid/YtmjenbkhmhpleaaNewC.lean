/- all of more; Right. -/
import Derived.Test.YtmjenbkhmhpleaaNewB
namespace Go.Proofs.Ytmjenbkhmhpleaa
open Go.RowKit
set_option linter.unusedVariables false

set_option maxHeartbeats 1000000 in
theorem all_big {s : St} {ca ma : Option Addr} {cc mc : Nat} {D : Nat → Prop} (w : World) (h : RS w s ca cc ma mc D) (hn8 : s.n ≤ 8) (hsum : ∀ k, k ≤ s.n → len s.M k + (s.M s.n).length ≤ 1000) :
    Calls Try.prog 28 #[ragg s.size s.most ca s.n cc ma (s.M s.n).length mc s.fresh] w (Reads .i64 s.len (allL s) w) := by
  have H := Lib.hid h
  have HSUM := Lib.hid hsum
  obtain ⟨nm, hnm⟩ : ∃ nm, (s.M s.n).length = nm := ⟨_, rfl⟩
  have hm64 : (s.M s.n).length ≤ 1000 := by have := hsum 0 (Nat.zero_le _); omega
  rw [hnm] at hm64 ⊢
  have HNM := Lib.hid hnm
  clear h hsum hnm
  unfold ragg
  go_enter Try.func28, Try.ntmps28
  go_wp2_with (at_builtin; refine wpList_append_ints_at Try.underlying23 info_int (by decide) rfl (.tmp 6) (.tmp 8) rfl (w.heap.size + 1) (.slice (some ⟨w.heap.size + 1, 0, none⟩) 0 0) [] 0 rfl (own_empty (new2' w _ _) (Nat.le_refl _)) ma (s.M s.n) nm mc HNM.out rfl H.out.midN (H.out.mid.turn (((Turn.refl (fun _ => False) w).alloc _).alloc _) (fun _ _ => id)) (by omega) (by simp) ?_; intro v3 w3 O3 T3 B3; rw [Nat.zero_add, List.nil_append] at O3; obtain ⟨bo, co, rfl⟩ := slice_own O3.out; have HX := Lib.hid (T3.out.heap (i := w.heap.size) (o := .cells #[.int .i64 s.size, .int .i64 s.most, .slice ca s.n cc, .slice ma nm mc, .int .i64 s.fresh] 25) (far_new (Nat.lt_succ_self _)) (new2 w _ _)); have d2 : w3.cell? ⟨w.heap.size, 2, none⟩ = some (.slice ca s.n cc) := (by simp [World.cell?, HX.out]))
  have T4 := Lib.hid ((((Turn.refl (fun _ => False) w).alloc (.cells #[.int .i64 s.size, .int .i64 s.most, .slice ca s.n cc, .slice ma nm mc, .int .i64 s.fresh] 25)).alloc (.cells #[] 3)).and T3.out (fun i hi e => far_new (Nat.lt_succ_of_lt hi) e))
  have HA : Hid (AllAt w w3 w.heap.size s ca cc ma mc D 0 bo nm co) := Lib.hid ⟨by
    have := O3.out
    show w3.ownsRow (w.heap.size + 1) 3 1 (.slice bo nm co) nm ((s.M s.n ++ []).map (Value.int .i64))
    rw [List.append_nil]; exact this, T4.out, (Array.getElem?_eq_some_iff.1 HX.out).1⟩
  clear O3 T3 B3 T4 HX d2
  go_loopw [3, 13] (fun s3 s13 wr => ∃ (k no co : Nat) (bo : Option Addr), k ≤ s.n ∧ s3 = .slice bo no co ∧ s13 = .int .i64 k ∧ Hid (no = nm + len s.M k) ∧ Hid (AllAt w wr w.heap.size s ca cc ma mc D k bo no co)) (fun _ s13 _ => s.n - (intOf s13).toNat)
  case atStart => exact ⟨0, nm, co, bo, Nat.zero_le _, rfl, rfl, Lib.hid rfl, HA⟩
  case round =>
    clear HA
    obtain ⟨k, no, co, bo, hk, rfl, rfl, HN, HA⟩ := hrel
    have hno : no ≤ 1000 := by
      have h1 := HSUM.out k hk
      have h2 := HN.out
      have h3 := HNM.out
      omega
    by_cases hlt : k < s.n
    · obtain ⟨ad, a, c, hca, hcell, hints, hD, hnil, hlc⟩ := (H.out.new HA.out.t).row k hlt
      subst hca
      obtain ⟨nk, hnk⟩ : ∃ nk, (s.M k).length = nk := ⟨_, rfl⟩
      rw [hnk] at hcell
      have HNK := Lib.hid hnk
      have hno2 : no + nk ≤ 1000 := by
        have h1 := HSUM.out (k + 1) hlt
        have h2 := HN.out
        have h3 := HNM.out
        have h4 : len s.M (k + 1) = len s.M k + nk := by show len s.M k + (s.M k).length = _; rw [hnk]
        omega
      have HI := Lib.hid hints
      have HNL := Lib.hid hnil
      have HN2 := Lib.hid (show no + nk = nm + len s.M (k + 1) by
        have h2 := HN.out
        have h4 : len s.M (k + 1) = len s.M k + nk := by show len s.M k + (s.M k).length = _; rw [hnk]
        omega)
      clear hnk hints hD hnil hlc
      go_wp2_with (at_builtin; refine wpList_append_ints_at Try.underlying23 info_int (by decide) rfl (.tmp 17) (.tmp 18) rfl (w.heap.size + 1) (.slice bo no co) (s.M s.n ++ rowsL s.M k) no rfl HA.out.own a (s.M k) nk c HNK.out rfl HNL.out HI.out (by omega) (by have := HA.out.lo; omega) ?_; intro v5 w5 O5 T5 B5)
      obtain ⟨b5, c5, rfl⟩ := slice_own O5.out
      go_roundw
      case rel => exact ⟨k + 1, no + nk, c5, b5, by omega, rfl, by go_num, HN2, Lib.hid ⟨by rw [List.append_assoc] at O5; exact O5.out, HA.out.t.and T5.out (fun i hi e => by have := (HA.out.own.lt i e).1; omega), Nat.lt_of_lt_of_le HA.out.lo T5.out.size⟩⟩
      case measure => simp [intOf]; omega
    · have hk2 : k = s.n := by omega
      have HE := Lib.hid (show no = s.len by
        have h2 := HN.out
        rw [hk2, ← HNM.out] at h2
        rw [h2]
        show _ = Go.Proofs.Ytmjenbkhmhpleaa.len s.M s.n + (s.M s.n).length
        omega)
      have HO := Lib.hid (show wr.ownsRow (w.heap.size + 1) 3 1 (.slice bo no co) no ((allL s).map (Value.int .i64)) by
        have := HA.out.own
        rw [hk2] at this
        exact this)
      clear hk2
      go_wp2_with fail
      go_ret
      rw [← HE.out]
      obtain ⟨h1, h2, h3, h4⟩ := own_reads HO.out
      exact ⟨bo, co, rfl, h1, h2, fun ad e => by
        subst e
        have := HO.out.lt ad.block (by rw [own_block]; rfl)
        omega, h3, h4, HA.out.t⟩

theorem all_at {n size most fr cc mc nm nl : Nat} {M : Nat → List Int} {L : List Int} {ca ma : Option Addr} {D : Nat → Prop} (w : World) (h : RS w ⟨n, size, most, fr, M⟩ ca cc ma mc D) (hn8 : n ≤ 8) (hsum : ∀ k, k ≤ n → len M k + (M n).length ≤ 1000) (hnm : (M n).length = nm) (hL : allL ⟨n, size, most, fr, M⟩ = L) (hl : L.length = nl) :
    Calls Try.prog 28 #[.agg #[.int .i64 size, .int .i64 most, .slice ca n cc, .slice ma nm mc, .int .i64 fr]] w (Reads .i64 nl L w) := by
  subst hnm
  have e : (⟨n, size, most, fr, M⟩ : St).len = nl := by rw [← allL_length, hL]; exact hl
  have := all_big w h hn8 hsum
  rw [hL, e] at this
  exact this

def BoolIs (r : Bool) (w : World) (e : Ending) (w' : World) : Prop := e = .returned (.bool r) ∧ Turn (fun _ => False) w w'
def IBox (w : World) (b : Nat) (size most : Int) (ca : Option Addr) (n cc : Nat) (ma : Option Addr) (nm mc : Nat) (fresh : Int) : Prop :=
  w.heap[b]? = some (.cells #[.int .i64 size, .int .i64 most, .slice ca n cc, .slice ma nm mc, .int .i64 fresh] 25 (0, 0))
section
variable {w w' : World} {b n cc nm mc : Nat} {size most fresh : Int} {ca ma : Option Addr} {S : Nat → Prop}
theorem IBox.d0 (h : IBox w b size most ca n cc ma nm mc fresh) : w.cell? ⟨b, 0, none⟩ = some (.int .i64 size) := by unfold IBox at h; simp [World.cell?, h]
theorem IBox.d1 (h : IBox w b size most ca n cc ma nm mc fresh) : w.cell? ⟨b, 1, none⟩ = some (.int .i64 most) := by unfold IBox at h; simp [World.cell?, h]
theorem IBox.d2 (h : IBox w b size most ca n cc ma nm mc fresh) : w.cell? ⟨b, 2, none⟩ = some (.slice ca n cc) := by unfold IBox at h; simp [World.cell?, h]
theorem IBox.d3 (h : IBox w b size most ca n cc ma nm mc fresh) : w.cell? ⟨b, 3, none⟩ = some (.slice ma nm mc) := by unfold IBox at h; simp [World.cell?, h]
theorem IBox.d4 (h : IBox w b size most ca n cc ma nm mc fresh) : w.cell? ⟨b, 4, none⟩ = some (.int .i64 fresh) := by unfold IBox at h; simp [World.cell?, h]
theorem IBox.turn (h : IBox w b size most ca n cc ma nm mc fresh) (t : Turn S w w') (hb : ¬ S b) : IBox w' b size most ca n cc ma nm mc fresh := t.heap hb h
theorem IBox.new (h : IBox w b size most ca n cc ma nm mc fresh) (t : Turn (fun _ => False) w w') : IBox w' b size most ca n cc ma nm mc fresh := h.turn t id
end

theorem right_cannot {a b f : Int} {n cc nm mc : Nat} {ca ma : Option Addr} (w : World) (h : canB a n b = false) :
    Calls Try.prog 11 #[.agg #[.int .i64 a, .int .i64 b, .slice ca n cc, .slice ma nm mc, .int .i64 f]] w (BoolIs false w) := by
  have H := Lib.hid h
  clear h
  go_enter Try.func11, Try.ntmps11
  go_wp2_with fail
  refine (can_at _ H.out).mono ?_
  rintro e w1 ⟨rfl, rfl⟩
  go_wp2_with fail
  go_ret
  exact ⟨rfl, (Turn.refl _ _).alloc _⟩
theorem right_fresh {a b f : Int} {n cc nm mc : Nat} {ca ma : Option Addr} (w : World) (h : canB a n b = true) (hf : f < 0 ∨ a < f) :
    Calls Try.prog 11 #[.agg #[.int .i64 a, .int .i64 b, .slice ca n cc, .slice ma nm mc, .int .i64 f]] w (BoolIs false w) := by
  have H := Lib.hid h
  clear h
  have hcase : f < 0 ∨ (¬ f < 0 ∧ a < f) := by omega
  clear hf
  rcases hcase with h0 | ⟨h0, h1⟩
  all_goals
    go_enter Try.func11, Try.ntmps11
    go_wp2_with fail
    refine (can_at _ H.out).mono ?_
    rintro e w1 ⟨rfl, rfl⟩
    go_wp2_with fail
    go_ret
    exact ⟨rfl, (Turn.refl _ _).alloc _⟩
theorem right_long {size most fr n cc nm mc : Nat} {M : Nat → List Int} {ca ma : Option Addr} (w : World) (h : canB size n most = true) (hn : n ≤ 8) (hm : most ≤ 16) (hf : fr ≤ size) (hs : size ≤ 64) (hC : Came w n M ca cc) (hb : ∀ j, j < n → (M j).length ≤ 100) (hl : ∃ j, j < n ∧ most < (M j).length) :
    Calls Try.prog 11 #[.agg #[.int .i64 size, .int .i64 most, .slice ca n cc, .slice ma nm mc, .int .i64 fr]] w (BoolIs false w) := by
  have H := Lib.hid h
  have HC := Lib.hid hC
  have HB := Lib.hid hb
  have HL := Lib.hid hl
  clear h hC hb hl
  go_enter Try.func11, Try.ntmps11
  go_wp2_with fail
  refine (can_at _ H.out).mono ?_
  rintro e w1 ⟨rfl, rfl⟩
  have TA := Lib.hid ((Turn.refl (fun _ => False) w).alloc (.cells #[.int .i64 size, .int .i64 most, .slice ca n cc, .slice ma nm mc, .int .i64 fr] 25))
  go_wp2_with fail
  go_loop [32] (fun i => ∃ k : Nat, k ≤ n ∧ i = .int .i64 k ∧ Hid (∀ j, j < k → (M j).length ≤ most)) (fun i => n - (intOf i).toNat)
  case atStart => exact ⟨0, Nat.zero_le _, rfl, Lib.hid (fun j hj => by omega)⟩
  case round =>
    obtain ⟨k, hk, rfl, HK⟩ := hrel
    by_cases hlt : k < n
    · obtain ⟨ad, a, c, hca, hcell, _, _, _⟩ := (HC.out.turn TA.out).row k hlt
      subst hca
      have hb := HB.out k hlt
      by_cases hle : (M k).length ≤ most
      · have HK2 := Lib.hid (show ∀ j, j < k + 1 → (M j).length ≤ most from fun j hj => by
          by_cases e : j = k
          · subst e; exact hle
          · exact HK.out j (by omega))
        have hdec : decide (most < (M k).length) = false := decide_eq_false (by omega)
        generalize (M k).length = m at hcell hle hdec hb
        go_wp2
        go_round
        case rel => exact ⟨k + 1, by omega, by go_num, HK2⟩
        case measure => simp [intOf]; omega
      · have hgt : most < (M k).length := by omega
        clear hle
        generalize (M k).length = m at hcell hgt hb
        go_wp2
        go_ret
        exact ⟨rfl, TA.out⟩
    · exfalso
      obtain ⟨j, hj, hjl⟩ := HL.out
      have := HK.out j (by omega)
      omega

end Go.Proofs.Ytmjenbkhmhpleaa
