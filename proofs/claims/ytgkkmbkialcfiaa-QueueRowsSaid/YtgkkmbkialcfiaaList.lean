/- The contract of Same; a queue's list, its length. -/
import Derived.Test.YtgkkmbkialcfiaaOps
import Derived.BigQuiet
import Derived.Deep.QuietTactic
import Derived.Outline
import Derived.RegionTactic
import Derived.ChangeAlike
namespace Go.Proofs.Ytgkkmbkialcfiaa
open Go.RowKit
set_option linter.unusedVariables false

theorem info_int : (Try.prog.info? 3).map (fun i => (i.zero, i.size, i.bytes)) = some (some (.int .i64 0), 1, 8) := by kernel_rfl
theorem size_int : (Try.prog.info? 3).map (·.size) = some 1 := by kernel_rfl

theorem take_next {L M : List Int} {k : Nat} (hl : k < L.length) (hm : k < M.length) (h : L.take k = M.take k) (e : L.getD k 0 = M.getD k 0) : L.take (k + 1) = M.take (k + 1) := by
  rw [List.take_succ_eq_append_getElem hl, List.take_succ_eq_append_getElem hm, h]
  simp [List.getD, hl, hm] at e
  rw [e]

theorem same_any {ao bo : Option Addr} {ca cb : Nat} {L M : List Int} (w : World) (hr : Ints .i64 w ao L) (hq : Ints .i64 w bo M) (hl : L.length ≤ 1000) (hm : M.length ≤ 1000) :
    Calls Try.prog 21 #[.slice ao L.length ca, .slice bo M.length cb] w fun e w' => e = .returned (.bool (decide (L = M))) ∧ ∃ n, w' = w.drewN n := by
  by_cases hlen : L.length = M.length
  · have HR := Lib.hid hr
    have HQ := Lib.hid hq
    clear hr hq
    have HL := Lib.hid hlen
    rw [← hlen] at hm ⊢
    clear hlen
    go_enter Try.func21, Try.ntmps21
    go_wp2
    go_loopw [13] (fun i wr => ∃ k n : Nat, k ≤ L.length ∧ i = .int .i64 k ∧ L.take k = M.take k ∧ wr = w.drewN n) (fun i _ => L.length - (intOf i).toNat)
    case atStart => exact ⟨0, 0, Nat.zero_le _, rfl, by simp, rfl⟩
    case round =>
      obtain ⟨k, n, hk, rfl, ht, rfl⟩ := hrel
      have HT := Lib.hid ht
      clear ht
      by_cases hlt : k < L.length
      · obtain ⟨ad, ha, hc⟩ := HR.out k hlt
        obtain ⟨bd, hb, hd⟩ := HQ.out k (by rw [← HL.out]; exact hlt)
        subst ha
        subst hb
        by_cases he : L.getD k 0 = M.getD k 0
        · have HN := Lib.hid (take_next hlt (by rw [← HL.out]; exact hlt) HT.out he)
          rw [← he] at hd
          obtain ⟨x, hx⟩ : ∃ x, x = L.getD k 0 := ⟨_, rfl⟩
          rw [← hx] at hc hd
          clear hx he
          go_wp2
          go_quiet (fail)
          go_wp2
          go_roundw
          case rel => exact ⟨k + 1, _, by omega, by go_num, HN.out, rfl⟩
          case measure => simp [intOf]; omega
        · have HE := Lib.hid (show decide (L = M) = false by rw [decide_eq_false_iff_not]; intro e; exact he (by rw [e]))
          obtain ⟨x, hx⟩ : ∃ x, x = L.getD k 0 := ⟨_, rfl⟩
          obtain ⟨y, hy⟩ : ∃ y, y = M.getD k 0 := ⟨_, rfl⟩
          rw [← hx, ← hy] at he
          rw [← hx] at hc
          rw [← hy] at hd
          clear hx hy
          have hne : (x != y) = true := by simpa using he
          go_wp2
          go_quiet (fail)
          go_wp2
          go_ret
          exact ⟨ret_bool HE.out.symm, n + nq, by simp⟩
      · obtain rfl : k = L.length := by omega
        have HE := Lib.hid (show L = M by have := HT.out; rwa [List.take_length, HL.out, List.take_length] at this)
        go_wp2
        go_ret
        exact ⟨ret_bool (by simp [HE.out]), _, rfl⟩
  · have he : decide (L = M) = false := by
      rw [decide_eq_false_iff_not]; intro e; exact hlen (by rw [e])
    rw [he]
    clear he
    have hne : ((L.length : Int) != (M.length : Int)) = true := by
      simp; omega
    go_enter Try.func21, Try.ntmps21
    go_wp2
    go_ret
    exact ⟨rfl, 0, rfl⟩
theorem same_eq {ao bo : Option Addr} {ca cb n : Nat} {L : List Int} (w : World) (hr : Ints .i64 w ao L) (hq : Ints .i64 w bo L) (hn : L.length = n) (hl : n ≤ 1000) :
    Calls Try.prog 21 #[.slice ao n ca, .slice bo n cb] w fun e w' => e = .returned (.bool true) ∧ ∃ k, w' = w.drewN k := by
  subst hn
  refine (same_any w hr hq hl hl).mono ?_
  rintro e w' ⟨rfl, k, rfl⟩
  exact ⟨ret_bool (by simp), k, rfl⟩


def lenOf : Value → Nat
  | .slice _ n _ => n
  | _ => 0
theorem seg_at {nx pv : Int → Int} {a b : Int} {l : List Int} (h : Seg nx pv a l b) : ∀ i, i ≤ l.length → nx ((a :: l).getD i 0) = (l ++ [b]).getD i 0 := by
  induction l generalizing a with
  | nil =>
    intro i hi
    have : i = 0 := by simpa using hi
    subst this
    exact h.1
  | cons x l ih =>
    intro i hi
    cases i with
    | zero => exact h.1
    | succ i => exact ih h.2.2 i (by simpa using hi)
/-- The i-th of a row; behind its last one none. -/
def nth (L : List Int) (i : Nat) : Int := (L ++ [(-1 : Int)]).getD i 0
theorem nth_lt {L : List Int} {i : Nat} (h : i < L.length) : nth L i = L.getD i 0 := by
  unfold nth
  simp [List.getD, List.getElem?_append_left h, h]
theorem nth_len (L : List Int) : nth L L.length = -1 := by
  unfold nth
  simp [List.getD]
theorem Good.start {s : St} {c : Cl} (h : Good s c) {k : Nat} (hk : k < s.m) : c.E (2 * k) = nth (s.M k) 0 := by
  have := seg_at (h.seg k hk) 0 (Nat.zero_le _)
  exact this
theorem Good.next {s : St} {c : Cl} (h : Good s c) {k : Nat} (hk : k < s.m) {i : Nat} (hi : i < (s.M k).length) : ∃ x : Nat, x < s.n ∧ (s.M k).getD i 0 = x ∧ c.T (3 * x + 2) = nth (s.M k) (i + 1) := by
  have hm := h.mem k hk _ (getD_mem (d := 0) hi)
  refine ⟨((s.M k).getD i 0).toNat, by omega, by omega, ?_⟩
  have h2 : c.nx k ((s.M k).getD i 0) = nth (s.M k) (i + 1) := seg_at (h.seg k hk) (i + 1) hi
  unfold Cl.nx at h2
  rw [if_neg (by omega)] at h2
  exact h2
theorem take_snoc {L : List Int} {i : Nat} (h : i < L.length) : L.take i ++ [L.getD i 0] = L.take (i + 1) := by
  rw [List.take_succ_eq_append_getElem h]
  simp [List.getD, h]

/-- What has been listed: its row is the call's own. -/
structure Lst (w wr : World) (L : List Int) (i : Nat) (bo : Option Addr) (co : Nat) : Prop where
  own : wr.ownsRow w.heap.size 3 1 (.slice bo i co) i ((L.take i).map (Value.int .i64))
  t : Turn (fun _ => False) w wr

def listL (s : St) (k : Int) : List Int := if isQ s k = true then s.M k.toNat else []
theorem list_no {base p tb eb : Nat} {s : St} {k : Int} (w : World) (h : IsQ w base p tb eb s) (hk : isQ s k = false) :
    Calls Try.prog 10 #[.pointer (some ⟨p, 0, none⟩), .int .i64 k] w fun e w' => e = .returned (.slice none 0 0) ∧ w = w' := by
  obtain ⟨c, hc, hg⟩ := h.ex
  have H := Lib.hid hc
  have HQ := Lib.hid hk
  clear h hc hg hk
  go_enter Try.func10, Try.ntmps10
  go_wp2_with fail
  refine (queue_any w H.out HQ.out).mono ?_
  rintro e w1 ⟨rfl, rfl⟩
  go_wp2_with fail
  go_ret
  exact ⟨rfl, rfl⟩
theorem list_yes {base p tb eb k : Nat} {s : St} (w : World) (h : IsQ w base p tb eb s) (hk : k < s.m) :
    Calls Try.prog 10 #[.pointer (some ⟨p, 0, none⟩), .int .i64 k] w (Reads .i64 (s.M k).length (s.M k) w) := by
  obtain ⟨c, hc, hg⟩ := h.ex
  have H := Lib.hid hc
  have HG := Lib.hid hg
  have HQ := Lib.hid (show decide (0 ≤ (k : Int) ∧ (k : Int) < (s.m : Int)) = true from decide_eq_true ⟨by omega, by omega⟩)
  have hl := hg.fine.len hk
  have c1 := hc.c1
  have e0 := hc.e0 hk
  rw [hg.start hk] at e0
  have HS := Lib.hid (show Lst w w (s.M k) 0 none 0 from ⟨⟨rfl, .inl ⟨rfl, rfl⟩⟩, Turn.refl _ _⟩)
  obtain ⟨L, hL⟩ : ∃ L, L = s.M k := ⟨_, rfl⟩
  rw [← hL] at hl e0 HS ⊢
  have HL := Lib.hid hL
  clear h hc hg hL
  go_enter Try.func10, Try.ntmps10
  go_wp2_with fail
  refine (queue_any w H.out HQ.out).mono ?_
  rintro e w1 ⟨rfl, rfl⟩
  go_wp2_with fail
  clear c1 e0
  go_loopw [5, 6] (fun s5 s6 wr => ∃ (i co : Nat) (bo : Option Addr) (x : Int), i ≤ L.length ∧ s5 = .slice bo i co ∧ s6 = .int .i64 x ∧ Hid (x = nth L i) ∧ Hid (Lst w wr L i bo co)) (fun s5 _ _ => L.length - lenOf s5)
  case atStart => exact ⟨0, 0, none, _, Nat.zero_le _, rfl, rfl, Lib.hid rfl, HS⟩
  case round =>
    clear HS
    obtain ⟨i, co, bo, x0, hi, rfl, rfl, HX, HA⟩ := hrel
    by_cases hlt : i < L.length
    · obtain ⟨x, hxn, hx, hnx⟩ := HG.out.next hk (i := i) (by rw [← HL.out]; exact hlt)
      rw [← HL.out] at hx hnx
      have hx0 : x0 = (x : Int) := by rw [HX.out, nth_lt hlt, hx]
      subst hx0
      have HT2 := Lib.hid (show L.take i ++ [(x : Int)] = L.take (i + 1) by rw [← hx]; exact take_snoc hlt)
      have HNX := Lib.hid hnx
      have hne : ((x : Int) != -1) = true := by simp
      obtain ⟨i1, hi1⟩ : ∃ i1, i + 1 = i1 := ⟨_, rfl⟩
      have HI1 := Lib.hid hi1
      have hle : i1 ≤ L.length := by omega
      have hq4 : L.length - i1 < L.length - i := by omega
      rw [hi1] at HT2 HNX
      have HLL := Lib.hid (show (L.take i).length = i by rw [List.length_take]; omega)
      clear hx hnx hi1
      go_wp2_with (at_builtin; refine wpList_append_one_n (w0 := wr) Try.underlying29 info_int (by decide) rfl (.tmp 29) (.tmp 31) rfl w.heap.size (.slice bo i co) (L.take i) i x rfl HA.out.own i1 HI1.out rfl (by omega) HA.out.t.size ?_; intro g4 c4 w4 hg4 h4 t4 b4; have T4 := Lib.hid (HA.out.t.and t4.out (fun j hj e => by have := (HA.out.own.lt j e).1; omega)); have c0 := (H.out.new T4.out).c0; have t2 := (H.out.new T4.out).t2 hxn)
      go_roundw
      case rel => exact ⟨i1, c4, _, _, hle, rfl, rfl, HNX, Lib.hid ⟨by rw [← HT2.out]; exact h4.out, T4.out⟩⟩
      case measure => simpa [lenOf] using hq4
    · have hi2 : i = L.length := by omega
      have hx0 : x0 = -1 := by rw [HX.out, hi2, nth_len]
      subst hx0
      have HI := Lib.hid hi2
      clear hi2
      go_wp2_with fail
      go_ret
      have ho := HA.out.own
      rw [HI.out, List.take_length] at ho
      rw [HI.out]
      obtain ⟨h1, h2, h3, h4⟩ := own_reads ho
      exact ⟨bo, co, rfl, rfl, h2, fun ad e => by
        subst e
        have := ho.lt ad.block (by rw [own_block]; rfl)
        exact this, h3, h4, HA.out.t⟩
theorem list_any {base p tb eb nl : Nat} {s : St} {k : Int} {L : List Int} (w : World) (h : IsQ w base p tb eb s) (hL : listL s k = L) (hn : L.length = nl) :
    Calls Try.prog 10 #[.pointer (some ⟨p, 0, none⟩), .int .i64 k] w (Reads .i64 nl L w) := by
  subst hL
  subst hn
  cases hq : isQ s k with
  | false =>
    have e : listL s k = [] := by unfold listL; rw [hq]; rfl
    rw [e]
    refine (list_no w h hq).mono ?_
    rintro e w' ⟨rfl, rfl⟩
    exact ⟨none, 0, rfl, rfl, fun j hj => (by cases hj), fun ad e => (by cases e), Nat.le_refl _, fun _ => rfl, Turn.refl _ _⟩
  | true =>
    have e : listL s k = s.M k.toNat := by unfold listL; rw [hq]; rfl
    rw [e]
    have hq' := of_decide_eq_true hq
    obtain ⟨j, rfl⟩ : ∃ j : Nat, k = j := ⟨k.toNat, by omega⟩
    exact list_yes w h (by omega)
theorem len_any {base p tb eb nl : Nat} {s : St} {k : Int} (w : World) (h : IsQ w base p tb eb s) (hn : (listL s k).length = nl) :
    Calls Try.prog 9 #[.pointer (some ⟨p, 0, none⟩), .int .i64 k] w fun e w' => e = .returned (.int .i64 nl) ∧ Turn (fun _ => False) w w' := by
  have H := Lib.hid h
  have HN := Lib.hid hn
  clear h hn
  go_enter Try.func9, Try.ntmps9
  go_wp2_with fail
  refine (list_any w H.out rfl HN.out).mono ?_
  rintro e w1 ⟨bo, bc, rfl, _, _, _, _, _, t1⟩
  have T1 := Lib.hid t1
  clear t1
  go_wp2_with fail
  go_ret
  exact ⟨rfl, T1.out⟩

end Go.Proofs.Ytgkkmbkialcfiaa
