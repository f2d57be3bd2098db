/- Can, tooLong, mark, apart. -/
import Derived.Test.YtmjenbkhmhpleaaSameP
namespace Go.Proofs.Ytmjenbkhmhpleaa
open Go.RowKit
set_option linter.unusedVariables false

def canB (a b c : Int) : Bool := decide (0 ≤ a ∧ a ≤ 64 ∧ 0 ≤ b ∧ b ≤ 8 ∧ 1 ≤ c ∧ c ≤ 16)
theorem can_any (a b c : Int) (w : World) : Calls Try.prog 10 #[.int .i64 a, .int .i64 b, .int .i64 c] w fun e w' => e = .returned (.bool (canB a b c)) ∧ w = w' := by
  obtain ⟨r, hr⟩ : ∃ r, r = canB a b c := ⟨_, rfl⟩
  have HR := Lib.hid hr
  rw [← hr]
  clear hr
  by_cases h1 : 0 ≤ a
  · by_cases h2 : a ≤ 64
    · by_cases h3 : 0 ≤ b
      · by_cases h4 : b ≤ 8
        · by_cases h5 : 1 ≤ c
          · by_cases h6 : c ≤ 16
            · obtain rfl : r = true := by rw [HR.out]; exact decide_eq_true ⟨h1, h2, h3, h4, h5, h6⟩
              go_enter Try.func10, Try.ntmps10
              go_wp2
              go_ret
              exact ⟨rfl, rfl⟩
            · obtain rfl : r = false := by rw [HR.out]; exact decide_eq_false (fun h => h6 h.2.2.2.2.2)
              have H6 := Lib.hid (decide_eq_false h6)
              clear h6
              go_enter Try.func10, Try.ntmps10
              go_wp2
              go_ret
              exact ⟨ret_bool H6.out, rfl⟩
          · obtain rfl : r = false := by rw [HR.out]; exact decide_eq_false (fun h => h5 h.2.2.2.2.1)
            go_enter Try.func10, Try.ntmps10
            go_wp2
            go_ret
            exact ⟨rfl, rfl⟩
        · obtain rfl : r = false := by rw [HR.out]; exact decide_eq_false (fun h => h4 h.2.2.2.1)
          go_enter Try.func10, Try.ntmps10
          go_wp2
          go_ret
          exact ⟨rfl, rfl⟩
      · obtain rfl : r = false := by rw [HR.out]; exact decide_eq_false (fun h => h3 h.2.2.1)
        go_enter Try.func10, Try.ntmps10
        go_wp2
        go_ret
        exact ⟨rfl, rfl⟩
    · obtain rfl : r = false := by rw [HR.out]; exact decide_eq_false (fun h => h2 h.2.1)
      go_enter Try.func10, Try.ntmps10
      go_wp2
      go_ret
      exact ⟨rfl, rfl⟩
  · obtain rfl : r = false := by rw [HR.out]; exact decide_eq_false (fun h => h1 h.1)
    go_enter Try.func10, Try.ntmps10
    go_wp2
    go_ret
    exact ⟨rfl, rfl⟩
theorem can_at {a b c : Int} {r : Bool} (w : World) (h : canB a b c = r) : Calls Try.prog 10 #[.int .i64 a, .int .i64 b, .int .i64 c] w fun e w' => e = .returned (.bool r) ∧ w = w' := by
  subst h
  exact can_any a b c w

/-- Slices in a row, as they come in: each of at most 100. -/
structure Came (w : World) (n : Nat) (M : Nat → List Int) (ca : Option Addr) (cc : Nat) : Prop where
  row : ∀ j, j < n → ∃ ad a c, ca = some ad ∧ w.cell? (ad.add j) = some (.slice a (M j).length c) ∧ Ints .i64 w a (M j) ∧ (a = none → c = 0) ∧ (M j).length ≤ c
  nil : ca = none → cc = 0
theorem Came.turn {w w' : World} {n : Nat} {M : Nat → List Int} {ca : Option Addr} {cc : Nat} (h : Came w n M ca cc) (t : Turn (fun _ => False) w w') : Came w' n M ca cc := by
  refine ⟨fun j hj => ?_, h.nil⟩
  obtain ⟨ad, a, c, e, h1, h2, h3, h4⟩ := h.row j hj
  exact ⟨ad, a, c, e, t.cell id h1, h2.turn t (fun _ _ => id), h3, h4⟩

theorem toolong_no {n cc : Nat} {M : Nat → List Int} {ca : Option Addr} {most : Nat} (w : World) (h : Came w n M ca cc) (hn : n ≤ 20) (hm : most ≤ 16) (hs : ∀ j, j < n → (M j).length ≤ most) :
    Calls Try.prog 25 #[.slice ca n cc, .int .i64 most] w fun e w' => e = .returned (.bool false) ∧ w = w' := by
  have H := Lib.hid h
  have HS := Lib.hid hs
  clear h hs
  go_enter Try.func25, Try.ntmps25
  go_wp2
  go_loop [9] (fun i => ∃ k : Nat, k ≤ n ∧ i = .int .i64 k) (fun i => n - (intOf i).toNat)
  case atStart => exact ⟨0, Nat.zero_le _, rfl⟩
  case round =>
    obtain ⟨k, hk, rfl⟩ := hrel
    by_cases hlt : k < n
    · obtain ⟨ad, a, c, hca, hcell, _, _, _⟩ := H.out.row k hlt
      subst hca
      have hle := HS.out k hlt
      have hdec : decide (most < (M k).length) = false := decide_eq_false (by omega)
      generalize (M k).length = m at hcell hle hdec
      go_wp2
      go_round
      case rel => exact ⟨k + 1, by omega, by go_num⟩
      case measure => simp [intOf]; omega
    · go_wp2
      go_ret
      exact ⟨rfl, rfl⟩
theorem toolong_yes {n cc : Nat} {M : Nat → List Int} {ca : Option Addr} {most : Nat} (w : World) (h : Came w n M ca cc) (hn : n ≤ 20) (hm : most ≤ 16) (hb : ∀ j, j < n → (M j).length ≤ 100) (hs : ∃ j, j < n ∧ most < (M j).length) :
    Calls Try.prog 25 #[.slice ca n cc, .int .i64 most] w fun e w' => e = .returned (.bool true) ∧ w = w' := by
  have H := Lib.hid h
  have HS := Lib.hid hs
  have HB := Lib.hid hb
  clear h hs hb
  go_enter Try.func25, Try.ntmps25
  go_wp2
  go_loop [9] (fun i => ∃ k : Nat, k ≤ n ∧ i = .int .i64 k ∧ Hid (∀ j, j < k → (M j).length ≤ most)) (fun i => n - (intOf i).toNat)
  case atStart => exact ⟨0, Nat.zero_le _, rfl, Lib.hid (fun j hj => by omega)⟩
  case round =>
    obtain ⟨k, hk, rfl, HK⟩ := hrel
    by_cases hlt : k < n
    · obtain ⟨ad, a, c, hca, hcell, _, _, _⟩ := H.out.row k hlt
      subst hca
      have hb := HB.out k hlt
      by_cases hle : (M k).length ≤ most
      · have HK2 := Lib.hid (show ∀ j, j < k + 1 → (M j).length ≤ most from fun j hj => by
          by_cases e : j = k
          · subst e; exact hle
          · exact HK.out j (by omega))
        have hdec : decide (most < (M k).length) = false := decide_eq_false (by omega)
        generalize (M k).length = m at hcell hle hdec hb
        go_wp2
        go_round
        case rel => exact ⟨k + 1, by omega, by go_num, HK2⟩
        case measure => simp [intOf]; omega
      · have hgt : most < (M k).length := by omega
        clear hle
        generalize (M k).length = m at hcell hgt hb
        go_wp2
        go_ret
        exact ⟨rfl, rfl⟩
    · exfalso
      obtain ⟨j, hj, hjl⟩ := HS.out
      have := HK.out j (by omega)
      omega

/-- All things of a row are from 0 to below f, and none is there twice. -/
def OK (f : Nat) (L : List Int) : Prop := (∀ x ∈ L, 0 ≤ x ∧ x < (f : Int)) ∧ L.Nodup
instance (f : Nat) (L : List Int) : Decidable (OK f L) := by unfold OK; infer_instance
def okB (f : Nat) (L : List Int) : Bool := decide (OK f L)
theorem OK.left {f : Nat} {P L : List Int} (h : OK f (P ++ L)) : OK f P := ⟨fun x hx => h.1 x (List.mem_append_left _ hx), (List.nodup_append.1 h.2).1⟩
theorem OK.take {f : Nat} {P L : List Int} (h : OK f (P ++ L)) (k : Nat) : OK f (P ++ L.take k) := by
  have e : P ++ L = (P ++ L.take k) ++ L.drop k := by rw [List.append_assoc, List.take_append_drop]
  rw [e] at h
  exact h.left
theorem ok_snoc {f : Nat} {P : List Int} {x : Int} (h : OK f P) : OK f (P ++ [x]) ↔ (0 ≤ x ∧ x < (f : Int)) ∧ x ∉ P := by
  constructor
  · intro h'
    refine ⟨h'.1 x (by simp), fun hx => ?_⟩
    have := List.nodup_append.1 h'.2
    exact this.2.2 x hx x (by simp) rfl
  · rintro ⟨h1, h2⟩
    refine ⟨fun y hy => ?_, ?_⟩
    · rcases List.mem_append.1 hy with hy | hy
      · exact h.1 y hy
      · have : y = x := by simpa using hy
        subst this; exact h1
    · rw [List.nodup_append]
      refine ⟨h.2, by simp, ?_⟩
      intro a ha b hb e
      have : b = x := by simpa using hb
      exact h2 (this ▸ e ▸ ha)
theorem take_snoc {L : List Int} {k : Nat} (h : k < L.length) (P : List Int) : P ++ L.take (k + 1) = (P ++ L.take k) ++ [L.getD k 0] := by
  rw [List.take_succ_eq_append_getElem h, List.append_assoc]
  simp [List.getD, h]

/-- What mark answers: whether all is well with P and L behind it; if so, both are marked. -/
def MarkPost (g f : Nat) (Q : List Int) (w : World) (e : Ending) (w' : World) : Prop :=
  e = .returned (.bool (okB f Q)) ∧ Turn (fun i => i = g) w w' ∧ (OK f Q → BRow w' g f (fun i => decide ((i : Int) ∈ Q)))
set_option maxHeartbeats 1000000 in
theorem mark_any {g f nl lc : Nat} {P L : List Int} {la : Option Addr} (w : World) (hP : OK f P) (hB : BRow w g f (fun i => decide ((i : Int) ∈ P))) (hf : f ≤ 64) (hL : ∀ wr, Turn (fun i => i = g) w wr → Ints .i64 wr la L) (hn : L.length = nl) (hn2 : nl ≤ 1000) :
    Calls Try.prog 36 #[.slice (some ⟨g, 0, none⟩) f f, .slice la nl lc] w (MarkPost g f (P ++ L) w) := by
  have HP := Lib.hid hP
  have HB0 := Lib.hid hB
  have HL := Lib.hid hL
  have HN := Lib.hid hn
  obtain ⟨r, hr⟩ : ∃ r, r = okB f (P ++ L) := ⟨_, rfl⟩
  have HR := Lib.hid hr
  unfold MarkPost
  rw [← hr]
  clear hP hB hL hn hr
  go_enter Try.func36, Try.ntmps36
  go_wp2_with fail
  go_loopw [9] (fun i wr => ∃ k : Nat, k ≤ nl ∧ i = .int .i64 k ∧ Hid (OK f (P ++ L.take k)) ∧ Hid (BRow wr g f (fun i => decide ((i : Int) ∈ P ++ L.take k))) ∧ Hid (Turn (fun i => i = g) w wr)) (fun i _ => nl - (intOf i).toNat)
  case atStart => exact ⟨0, Nat.zero_le _, rfl, Lib.hid (by simpa using HP.out), Lib.hid (by simpa using HB0.out), Lib.hid (Turn.refl _ _)⟩
  case round =>
    obtain ⟨k, hk, rfl, HK, HB, HT⟩ := hrel
    by_cases hlt : k < nl
    · have hltL : k < L.length := by rw [HN.out]; exact hlt
      obtain ⟨ad, ha, hc⟩ := (HL.out wr HT.out) k hltL
      subst ha
      have HTS := Lib.hid (take_snoc hltL P)
      have hbad := fun (hx : ¬ ((0 ≤ L.getD k 0 ∧ L.getD k 0 < (f : Int)) ∧ L.getD k 0 ∉ P ++ L.take k)) => (show r = false from by
        rw [HR.out]
        refine decide_eq_false fun h => hx ?_
        have h1 := h.take (k + 1)
        rw [HTS.out] at h1
        exact (ok_snoc HK.out).1 h1)
      generalize L.getD k 0 = x at hc hbad HTS
      by_cases h0 : x < 0
      · obtain rfl : r = false := hbad (fun h => by omega)
        clear hbad
        go_wp2_with fail
        go_ret
        exact ⟨rfl, HT.out, fun h => absurd (decide_eq_true h) (by show ¬ okB f (P ++ L) = true; rw [← HR.out]; simp)⟩
      · by_cases h1 : x < (f : Int)
        · obtain ⟨xn, rfl⟩ : ∃ xn : Nat, x = (xn : Int) := ⟨x.toNat, by omega⟩
          have hxf : xn < f := by omega
          have hxf2 : ¬ f ≤ xn := by omega
          have cb := HB.out.cell hxf
          have fb := HB.out.fr xn
          by_cases h2 : (xn : Int) ∈ P ++ L.take k
          · obtain rfl : r = false := hbad (fun h => h.2 h2)
            have cb2 : wr.cell? ⟨g, xn, none⟩ = some (.bool true) := by rw [cb]; simp only [decide_eq_true h2]
            clear hbad cb h0 h1 h2 fb
            go_wp2_with fail
            go_ret
            exact ⟨rfl, HT.out, fun h => absurd (decide_eq_true h) (by show ¬ okB f (P ++ L) = true; rw [← HR.out]; simp)⟩
          · have cb2 : wr.cell? ⟨g, xn, none⟩ = some (.bool false) := by rw [cb]; simp only [decide_eq_false h2]
            have HK2 := Lib.hid (show OK f (P ++ L.take (k + 1)) by rw [HTS.out]; exact (ok_snoc HK.out).2 ⟨⟨by omega, h1⟩, h2⟩)
            have HB2 := Lib.hid (HB.out.set (B' := fun i => decide ((i : Int) ∈ P ++ L.take (k + 1))) hxf true (fun j hj => by
              show decide ((j : Int) ∈ P ++ L.take (k + 1)) = _
              rw [HTS.out]
              by_cases e : j = xn
              · subst e; rw [if_pos rfl]; exact decide_eq_true (by simp)
              · rw [if_neg e, decide_eq_decide]
                constructor
                · intro h
                  rcases List.mem_append.1 h with h | h
                  · exact h
                  · have : (j : Int) = (xn : Int) := by simpa using h
                    omega
                · intro h; exact List.mem_append_left _ h))
            have HT2 := Lib.hid (HT.out.setCell (p := ⟨g, xn, none⟩) (Or.inl rfl) (.bool true))
            clear hbad cb h0 h1 h2
            go_wp2_with fail
            go_roundw
            case rel => exact ⟨k + 1, by omega, by go_num, HK2, HB2, HT2⟩
            case measure => simp [intOf]; omega
        · obtain rfl : r = false := hbad (fun h => h1 h.1.2)
          have hge : (f : Int) ≤ x := by omega
          clear hbad h1
          go_wp2_with fail
          go_ret
          exact ⟨rfl, HT.out, fun h => absurd (decide_eq_true h) (by show ¬ okB f (P ++ L) = true; rw [← HR.out]; simp)⟩
    · have hk2 : L.take k = L := List.take_of_length_le (by rw [HN.out]; omega)
      have HF := Lib.hid (And.intro HK.out HB.out)
      rw [hk2] at HF
      obtain rfl : r = true := by rw [HR.out]; exact decide_eq_true HF.out.1
      clear hk2
      go_wp2_with fail
      go_ret
      exact ⟨rfl, HT.out, fun _ => HF.out.2⟩

theorem rowsL_pre (M : Nat → List Int) (k : Nat) : ∀ n, k ≤ n → ∃ rest, rowsL M n = rowsL M k ++ rest := by
  intro n
  induction n with
  | zero => intro h; obtain rfl : k = 0 := by omega
            exact ⟨[], rfl⟩
  | succ n ih =>
    intro h
    by_cases e : k = n + 1
    · subst e; exact ⟨[], by simp⟩
    · obtain ⟨rest, e2⟩ := ih (by omega)
      exact ⟨rest ++ M n, by show rowsL M n ++ M n = _; rw [e2, List.append_assoc]⟩
set_option maxHeartbeats 1000000 in
theorem apart_any {n cc nm mc f : Nat} {M : Nat → List Int} {ca ma : Option Addr} {r : Bool} (w : World) (h : Came w n M ca cc) (hn : n ≤ 20) (hb : ∀ j, j < n → (M j).length ≤ 100) (hm : Ints .i64 w ma (M n)) (hnm : (M n).length = nm) (hnm2 : nm ≤ 100) (hf : f ≤ 64) (hr : okB f (rowsL M (n + 1)) = r) :
    Calls Try.prog 26 #[.slice ca n cc, .slice ma nm mc, .int .i64 f] w fun e w' => e = .returned (.bool r) ∧ Turn (fun _ => False) w w' := by
  have H := Lib.hid h
  have HB := Lib.hid hb
  have HM := Lib.hid hm
  have HNM := Lib.hid hnm
  have HR := Lib.hid hr
  clear h hb hm hnm hr
  go_enter Try.func26, Try.ntmps26
  go_wp2_with (with_reducible refine wpList_make_zeros cells_false Try.underlying53 info_bool (by decide) rfl (.tmp 10) (.tmp 10) rfl f rfl rfl (by omega) ?_; intro w1 Z1 T1)
  have HB0 := Lib.hid (show BRow w1 w.heap.size f (fun i => decide ((i : Int) ∈ rowsL M 0)) from BRow.of Z1.out)
  have HT0 : Hid (Turn (fun i => i = w.heap.size) w1 w1) := Lib.hid (Turn.refl _ _)
  generalize hg : w.heap.size = g at HB0 HT0 ⊢
  have HG := Lib.hid hg
  clear hg
  go_loopw [14] (fun i wr => ∃ k : Nat, k ≤ n ∧ i = .int .i64 k ∧ Hid (OK f (rowsL M k)) ∧ Hid (BRow wr g f (fun i => decide ((i : Int) ∈ rowsL M k))) ∧ Hid (Turn (fun _ => False) w wr)) (fun i _ => n - (intOf i).toNat)
  case atStart => exact ⟨0, Nat.zero_le _, rfl, Lib.hid ⟨fun x hx => (by cases hx), List.nodup_nil⟩, HB0, Lib.hid T1.out⟩
  case round =>
    clear HB0 HT0
    obtain ⟨k, hk, rfl, HK, HBk, HT⟩ := hrel
    by_cases hlt : k < n
    · obtain ⟨ad, a, c, hca, hcell0, hints, hnil, hlc⟩ := H.out.row k hlt
      subst hca
      have hcell := HT.out.cell (p := ad.add k) id hcell0
      have h100 := HB.out k hlt
      obtain ⟨nk, hnk⟩ : ∃ nk, (M k).length = nk := ⟨_, rfl⟩
      rw [hnk] at hcell h100
      have HNK := Lib.hid hnk
      have HI := Lib.hid (show ∀ wq, Turn (fun i => i = g) wr wq → Ints .i64 wq a (M k) from fun wq t => hints.turn (HT.out.and t (fun i hi e => by have e' : i = g := e; have := HG.out; omega)) (fun _ _ => id))
      have hfin : ¬ OK f (rowsL M (k + 1)) → r = false := fun hx => by
        rw [← HR.out]
        refine decide_eq_false fun h => hx ?_
        obtain ⟨rest, e⟩ := rowsL_pre M (k + 1) (n + 1) (by omega)
        rw [e] at h
        exact h.left
      clear hnk hints hnil hlc hcell0
      by_cases hok : OK f (rowsL M (k + 1))
      · have HOK := Lib.hid hok
        have HMark := Lib.hid (show Calls Try.prog 36 #[.slice (some ⟨g, 0, none⟩) f f, .slice a nk c] wr fun e w' => e = .returned (.bool true) ∧ Turn (fun i => i = g) wr w' ∧ BRow w' g f (fun i => decide ((i : Int) ∈ rowsL M (k + 1))) from (mark_any wr HK.out HBk.out hf HI.out HNK.out (by omega)).mono (by
          rintro e w' ⟨rfl, h1, h2⟩
          exact ⟨ret_bool (decide_eq_true hok), h1, h2 hok⟩))
        clear hok hfin
        go_wp2_with fail
        refine HMark.out.mono ?_
        rintro e w5 ⟨rfl, t5, b5⟩
        have T5 := Lib.hid (HT.out.and t5 (fun i hi e => by have e' : i = g := e; have := HG.out; omega))
        have B5 := Lib.hid b5
        clear t5 b5
        go_wp2_with fail
        go_roundw
        case rel => exact ⟨k + 1, by omega, by go_num, HOK, B5, T5⟩
        case measure => simp [intOf]; omega
      · obtain rfl : r = false := hfin hok
        have HMark := Lib.hid (show Calls Try.prog 36 #[.slice (some ⟨g, 0, none⟩) f f, .slice a nk c] wr fun e w' => e = .returned (.bool false) ∧ Turn (fun i => i = g) wr w' from (mark_any wr HK.out HBk.out hf HI.out HNK.out (by omega)).mono (by
          rintro e w' ⟨rfl, h1, h2⟩
          exact ⟨ret_bool (decide_eq_false hok), h1⟩))
        clear hok hfin
        go_wp2_with fail
        refine HMark.out.mono ?_
        rintro e w5 ⟨rfl, t5⟩
        have T5 := Lib.hid (HT.out.and t5 (fun i hi e => by have e' : i = g := e; have := HG.out; omega))
        clear t5
        go_wp2_with fail
        go_ret
        exact ⟨rfl, T5.out⟩
    · have hkn : k = n := by omega
      have HMark := Lib.hid (show Calls Try.prog 36 #[.slice (some ⟨g, 0, none⟩) f f, .slice ma nm mc] wr fun e w' => e = .returned (.bool r) ∧ Turn (fun i => i = g) wr w' from (mark_any wr HK.out HBk.out hf (fun wq t => HM.out.turn (HT.out.and t (fun i hi e => by have e' : i = g := e; have := HG.out; omega)) (fun _ _ => id)) HNM.out (by omega)).mono (by
        rintro e w' ⟨rfl, h1, h2⟩
        refine ⟨ret_bool ?_, h1⟩
        rw [hkn]
        exact HR.out))
      clear hkn
      go_wp2_with fail
      refine HMark.out.mono ?_
      rintro e w5 ⟨rfl, t5⟩
      have T5 := Lib.hid (HT.out.and t5 (fun i hi e => by have e' : i = g := e; have := HG.out; omega))
      clear t5
      go_wp2_with fail
      go_ret
      exact ⟨rfl, T5.out⟩

end Go.Proofs.Ytmjenbkhmhpleaa
