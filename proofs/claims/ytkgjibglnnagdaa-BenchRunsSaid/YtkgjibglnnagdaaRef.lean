/- The document's bench: a list of seats. -/
import Derived.Test.YtkgjibglnnagdaaNew
namespace Go.Proofs.Ytkgjibglnnagdaa
open Go.RowKit
set_option linter.unusedVariables false

/-- The document's list: where it lies; its block is of D. -/
structure RS (w : World) (bo : Option Addr) (c n : Nat) (L : List One) (D : Nat → Prop) : Prop where
  has : Has encO 2 w bo L
  nn : L.length = n
  far : ∀ ad, bo = some ad → D ad.block
  len : n ≤ 4096
def Dn (D : Nat → Prop) (w w' : World) (i : Nat) : Prop := D i ∨ (w.heap.size ≤ i ∧ i < w'.heap.size)
section
variable {w w' : World} {bo : Option Addr} {c n : Nat} {L : List One} {D D' S : Nat → Prop}
theorem RS.turn (h : RS w bo c n L D) (t : Turn S w w') (hs : ∀ i, D i → ¬ S i) : RS w' bo c n L D := ⟨h.has.turn t (fun ad e => hs _ (h.far ad e)), h.nn, h.far, h.len⟩
theorem RS.new (h : RS w bo c n L D) (t : Turn (fun _ => False) w w') : RS w' bo c n L D := h.turn t (fun _ _ => id)
theorem RS.mono (h : RS w bo c n L D) (hd : ∀ i, D i → D' i) : RS w bo c n L D' := ⟨h.has, h.nn, fun ad e => hd _ (h.far ad e), h.len⟩
theorem RS.kept (h : RS w bo c n L D) (t : Turn (fun _ => False) w w') : RS w' bo c n L (Dn D w w') := (h.new t).mono (fun _ => Or.inl)
/-- The two cells of one. -/
theorem RS.cells (h : RS w bo c n L D) {k : Nat} {x : One} (hx : L[k]? = some x) : ∃ ad, bo = some ad ∧ w.cell? (ad.add (k * 2)) = some (.int .i64 x.1) ∧ w.cell? ⟨(ad.add (k * 2)).block, (ad.add (k * 2)).off + 1, none⟩ = some (.bool x.2) ∧ k < n := by
  obtain ⟨ad, e, hc⟩ := h.has k x hx
  have h0 := hc 0 _ rfl
  have h1 := hc 1 _ rfl
  rw [add_two, Nat.add_zero] at h0
  refine ⟨ad, e, h0, ?_, by rw [← h.nn]; exact (List.getElem?_eq_some_iff.1 hx).1⟩
  have e1 : (ad.add (k * 2)).add 1 = ⟨(ad.add (k * 2)).block, (ad.add (k * 2)).off + 1, none⟩ := rfl
  rw [e1] at h1
  exact h1
end
/-- A list that is new. -/
def RNewP (n : Nat) (L : List One) (w : World) (e : Ending) (w' : World) : Prop := ∃ bo c, e = .returned (.slice bo n c) ∧ RS w' bo c n L (fun i => w.heap.size ≤ i ∧ i < w'.heap.size) ∧ Turn (fun _ => False) w w'
theorem rs_own {w w' : World} {bo : Option Addr} {n c : Nat} {L : List One} (ho : w'.ownsRow w.heap.size 40 2 (.slice bo n c) n (flat encO L)) (hl : n ≤ 4096) : RS w' bo c n L (fun i => w.heap.size ≤ i ∧ i < w'.heap.size) :=
  ⟨Has.of_own enc_o (by decide) ho, own_len enc_o (by decide) ho, fun ad e => by
    subst e
    exact ho.lt ad.block (by rw [own_block]; rfl), hl⟩

/-- The list of New, as it is built. -/
structure Mk (w wr : World) (i : Nat) (bo : Option Addr) (co : Nat) : Prop where
  own : wr.ownsRow w.heap.size 40 2 (.slice bo i co) i (flat encO (allRun i))
  t : Turn (fun _ => False) w wr

set_option maxRecDepth 100000 in
theorem rnew_any {k : Int} {n : Nat} (w : World) (hk : -9223372036854775808 ≤ k ∧ k ≤ 9223372036854775807) (hn : newN k = n) : Calls Try.prog 7 #[.int .i64 k] w (RNewP n (allRun n) w) := by
  have hn4 : n ≤ 4096 := hn ▸ newN_le k
  have hlt : ∀ i : Nat, (i < n ↔ ((i : Int) < k ∧ i < 4096)) := by intro i; unfold newN at hn; omega
  have HLT := Lib.hid hlt
  have HS : Hid (Mk w (w.alloc (.cells #[] 40)) 0 (some ⟨w.heap.size, 0, none⟩) 0) := Lib.hid ⟨own_made (heap_alloc_new w _) (Nat.le_refl _), (Turn.refl (fun _ => False) w).alloc _⟩
  clear hn hlt
  go_enter Try.func7, Try.ntmps7
  go_upto_region 3 with fail
  go_loopw [3, 4] (fun s3 s4 wr => ∃ (i co : Nat) (bo : Option Addr), i ≤ n ∧ s4 = .int .i64 i ∧ s3 = .slice bo i co ∧ Hid (Mk w wr i bo co)) (fun _ s4 _ => n - (intOf s4).toNat)
  case atStart => exact ⟨0, 0, _, Nat.zero_le _, rfl, rfl, HS⟩
  case round =>
    clear HS
    obtain ⟨i, co, bo, hi, rfl, rfl, HA⟩ := hrel
    by_cases hlt : i < n
    · have hx := (HLT.out i).1 hlt
      obtain ⟨hx1, hx2⟩ := hx
      obtain ⟨i1, hi1⟩ : ∃ i1, i + 1 = i1 := ⟨_, rfl⟩
      have HI1 := Lib.hid hi1
      have HT2 := Lib.hid (show allRun i ++ [(0, false)] = allRun i1 by rw [allRun_more, hi1])
      have hle : i1 ≤ n := by omega
      have hq : n - i1 < n - i := by omega
      clear hi1
      go_wp2_with (at_builtin; refine wpList_append_flat_one (w0 := wr) enc_o (by decide) Try.underlying26 info_seat rfl (by decide) rfl (.tmp 15) (.tmp 17) rfl w.heap.size (.slice bo i co) (allRun i) i (0, false) rfl rfl HA.out.own rfl i1 HI1.out (by omega) HA.out.t.size ?_; intro g4 c4 w4 hg4 h4 t4 b4)
      go_roundw
      case rel => exact ⟨i1, c4, _, hle, by rw [← HI1.out]; go_num, rfl, Lib.hid ⟨by rw [← HT2.out]; exact h4.out, HA.out.t.and t4.out (fun j hj e => by have := (HA.out.own.lt j e).1; omega)⟩⟩
      case measure => rw [← HI1.out] at hq; simpa [intOf] using hq
    · have hx := fun h => hlt ((HLT.out i).2 h)
      have hin : i = n := by omega
      have HIN := Lib.hid hin
      by_cases hx1 : (i : Int) < k
      · have hx2 : ¬ i < 4096 := fun e => hx ⟨hx1, e⟩
        clear hx hin
        go_wp2_with fail
        go_ret
        rw [← HIN.out]
        exact ⟨bo, co, rfl, rs_own HA.out.own (by omega), HA.out.t⟩
      · clear hx hin
        go_wp2_with fail
        go_ret
        rw [← HIN.out]
        exact ⟨bo, co, rfl, rs_own HA.out.own (by omega), HA.out.t⟩

def isV (L : List One) (g s : Int) : Bool := match at_ L g with
  | some x => decide (x.1 = s)
  | none => false
theorem is_some {L : List One} {k : Nat} {x : One} {s : Int} {b : Bool} (h : L[k]? = some x) (hb : decide (x.1 = s) = b) : isV L k s = b := by
  unfold isV
  rw [at_nat, h]
  exact hb
theorem is_none {L : List One} {g s : Int} (h : at_ L g = none) : isV L g s = false := by
  unfold isV
  rw [h]

theorem ris_any {bo : Option Addr} {c n : Nat} {L : List One} {D : Nat → Prop} {l s : Int} {b : Bool} (w : World) (h : RS w bo c n L D) (hx : isV L l s = b) :
    Calls Try.prog 20 #[.slice bo n c, .int .i64 l, .int .i64 s] w fun e w' => e = .returned (.bool b) ∧ w = w' := by
  have hl := h.len
  have hn := h.nn
  cases ha : at_ L l with
  | none =>
    have e1 : b = false := by rw [← hx]; exact is_none ha
    subst e1
    have hd : ¬ (0 ≤ l ∧ l < (n : Int)) := by rw [← hn]; exact of_decide_eq_false (at_none ha)
    clear ha hx h hn
    by_cases h0 : 0 ≤ l
    · have h1 : (n : Int) ≤ l := by omega
      clear hd
      go_enter Try.func20, Try.ntmps20
      go_wp2
      go_ret
      exact ⟨rfl, rfl⟩
    · clear hd
      go_enter Try.func20, Try.ntmps20
      go_wp2
      go_ret
      exact ⟨rfl, rfl⟩
  | some y =>
    obtain ⟨k, rfl, hk, hlt⟩ := at_some ha
    obtain ⟨ad, rfl, c1, _, hkn⟩ := h.cells hk
    have HB := Lib.hid (show (y.1 == s) = b by rw [← hx, is_some hk rfl]; rfl)
    generalize y.1 = x at c1 HB
    clear ha hx h hn hk hlt
    go_enter Try.func20, Try.ntmps20
    go_wp2
    go_ret
    exact ⟨ret_bool HB.out, rfl⟩

theorem rwith_any {bo : Option Addr} {c n k : Nat} {L M : List One} {D : Nat → Prop} {s : Int} {t : Bool} (w : World) (h : RS w bo c n L D) (hk : k < n) (hM : L.set k (s, t) = M) :
    Calls Try.prog 21 #[.slice bo n c, .int .i64 k, .agg #[.int .i64 s, .bool t]] w (RNewP n M w) := by
  have hl := h.len
  have H := Lib.hid h
  have HM := Lib.hid hM
  obtain ⟨x, hx⟩ : ∃ x, L[k]? = some x := ⟨_, List.getElem?_eq_getElem (by rw [h.nn]; exact hk)⟩
  obtain ⟨ad, rfl, _, _, _⟩ := h.cells hx
  have HX := Lib.hid hx
  have TA := Lib.hid (((Turn.refl (fun _ => False) w).alloc (.cells #[.int .i64 s, .bool t] 40)).alloc (.cells #[] 40))
  have HA0 : Hid (((w.alloc (.cells #[.int .i64 s, .bool t] 40)).alloc (.cells #[] 40)).heap[w.heap.size]? = some (.cells #[.int .i64 s, .bool t] 40 (0, 0))) := Lib.hid (new2 w _ _)
  have HE : Hid (((w.alloc (.cells #[.int .i64 s, .bool t] 40)).alloc (.cells #[] 40)).ownsRow w.heap.size 40 2 (.slice (some ⟨w.heap.size + 1, 0, none⟩) 0 0) 0 (flat encO [])) := Lib.hid (own_made (new2' w _ _) (by omega))
  clear h hM hx
  go_enter Try.func21, Try.ntmps21
  go_wp2_with (at_builtin; refine wpList_append_flat enc_o (by decide) Try.underlying26 info_seat rfl (by decide) rfl (.tmp 8) (.tmp 9) rfl w.heap.size (.slice (some ⟨w.heap.size + 1, 0, none⟩) 0 0) [] 0 rfl HE.out ad L n c H.out.nn rfl (H.out.has.turn TA.out (fun _ _ => id)) n (Nat.zero_add n) (by omega) (by simp; omega) ?_; intro v3 w3 O3 T3 B3; rw [List.nil_append] at O3; obtain ⟨g3, c3, rfl, hg3, _⟩ := own_form O3.out (by omega); obtain ⟨d0, f0⟩ := own_at enc_o O3.out HX.out (i := 0) rfl; rw [Nat.add_zero] at d0 f0; obtain ⟨d1, f1⟩ := own_at enc_o O3.out HX.out (i := 1) rfl; have B0 : Hid (w3.heap[w.heap.size]? = some (.cells #[.int .i64 s, .bool t] 40 (0, 0))) := Lib.hid (T3.out.heap (fun e => (by have e' : w.heap.size + 1 = w.heap.size := Option.some.inj e; omega)) HA0.out); have b0 : w3.cell? ⟨w.heap.size, 0, none⟩ = some (.int .i64 s) := (by simp [World.cell?, B0.out]); have b1 : w3.cell? ⟨w.heap.size, 1, none⟩ = some (.bool t) := (by simp [World.cell?, B0.out]))
  go_ret
  have ho := own_set enc_o O3.out HX.out (i := 0) (by decide) (u := .int .i64 s) (y := (s, x.2)) rfl rfl
  have ho2 := own_set enc_o ho (j := k) (x := (s, x.2)) (y := (s, t)) (by simp [H.out.nn, hk]) (i := 1) (by decide) (u := .bool t) rfl rfl
  rw [List.set_set, HM.out] at ho2
  refine ⟨_, _, rfl, rs_own ho2 hl, ?_⟩
  have t3 := TA.out.and T3.out (fun i hi e => by have e' : w.heap.size + 1 = i := Option.some.inj e; omega)
  have ts : Turn (fun i => i = g3) w3 ((w3.setCell ⟨g3, k * 2, none⟩ (.int .i64 s)).setCell ⟨g3, k * 2 + 1, none⟩ (.bool t)) := ((Turn.refl (fun i => i = g3) w3).setCell (p := ⟨g3, k * 2, none⟩) (Or.inl rfl) _).setCell (p := ⟨g3, k * 2 + 1, none⟩) (Or.inl rfl) _
  exact t3.and ts (fun i hi e => by omega)

end Go.Proofs.Ytkgjibglnnagdaa
