/- The document's nums: words as just so many numbers. -/
import Derived.Test.YtfghabjpcjcllaaDoorDig
import Derived.Test.YtfghabjpcjcllaaDoorWMath
namespace Go.Proofs.YtfghabjpcjcllaaDoor
open Go.RowKit
set_option linter.unusedVariables false

theorem take_snoc {α : Type} {L : List α} {i : Nat} {x : α} (h : L[i]? = some x) : L.take (i + 1) = L.take i ++ [x] := by
  rw [List.take_add_one, h]
  rfl
/-- What nums answers: so many numbers, or none. -/
def GivesN (w : World) (o : Option (List Int)) (e : Ending) (w' : World) : Prop := ∃ bo n c, e = .returned (.slice bo n c) ∧ Turn (fun _ => False) w w' ∧ (∀ ns, o = some ns → ns.length = n ∧ Ints .i64 w' bo ns) ∧ (o = none → n = 0)

set_option maxRecDepth 100000 in
theorem rnums_any (s : Sl) (ws : List Tx) (many n : Nat) (o : Option (List Int)) (w : World) (hw : RTs w s ws) (hn : ws.length = n) (hm : n ≤ 100000) (ho : numsV ws many = o) (hf : ∀ x ∈ ws, x.length ≤ 100000) :
    Calls Tryd.prog 52 #[.slice s.ao n s.cap, .int .i64 many] w (GivesN w o) := by
  obtain ⟨ao, len, cap⟩ := s
  have HW := Lib.hid hw
  have HN := Lib.hid hn
  have HO := Lib.hid ho
  have HF := Lib.hid hf
  clear hw hn ho hf
  dsimp only
  unfold GivesN
  go_enter Tryd.func52, Tryd.ntmps52
  go_upto_region 3 with fail
  go_loopw [5, 12] (fun s5 s12 wr => ∃ (i : Nat) (g : Nat) (cp : Nat), s12 = .int .i64 i ∧ s5 = .slice (some ⟨g, 0, none⟩) i cp ∧ i ≤ n ∧ w.heap.size ≤ g ∧ Hid (wr.ownsRow w.heap.size 3 1 (.slice (some ⟨g, 0, none⟩) i cp) i (((ws.take i).map digV).map (Value.int .i64))) ∧ Hid (Turn (fun _ => False) w wr) ∧ Hid (∀ (j : Nat) x, j < i → ws[j]? = some x → 0 ≤ digV x)) (fun _ s12 _ => n - (intOf s12).toNat)
  case atStart => exact ⟨0, w.heap.size, 0, rfl, rfl, Nat.zero_le _, Nat.le_refl _, Lib.hid (own_made (enc := fun v => [v]) (heap_alloc_new w _) (Nat.le_refl _)), Lib.hid ((Turn.refl _ w).alloc _), Lib.hid fun j x hj => absurd hj (Nat.not_lt_zero _)⟩
  case round =>
    obtain ⟨i, g, cp, rfl, rfl, hin, hg, HR, HT, HA⟩ := hrel
    by_cases hlt : i < n
    · obtain ⟨x, hx⟩ : ∃ x, ws[i]? = some x := ⟨_, List.getElem?_eq_getElem (by rw [HN.out]; exact hlt)⟩
      obtain ⟨a, ha, hc⟩ := (HW.out.new HT.out).at hx
      dsimp only at ha
      subst ha
      have HX := Lib.hid hx
      have hxl := HF.out x (List.mem_of_getElem? hx)
      obtain ⟨l, hl⟩ : ∃ l, x.length = l := ⟨_, rfl⟩
      obtain ⟨v, hv⟩ : ∃ v, digV x = v := ⟨_, rfl⟩
      have C := Lib.hid (fun w => rdig_any x l v w hv hl (by rw [← hl]; exact hxl))
      have HV := Lib.hid hv
      obtain ⟨S, hS⟩ : ∃ S, bs x = S := ⟨_, rfl⟩
      rw [hS] at C hc
      clear hx hxl hl hv hS
      go_wp2_with fail
      refine (C.out _).mono ?_
      rintro e w1 ⟨rfl, rfl⟩
      by_cases hneg : v < 0
      · have hno : o = none := by
          rw [← HO.out]
          unfold numsV
          rw [if_neg]
          intro h
          rw [Bool.and_eq_true, List.all_eq_true] at h
          have := h.1 x (List.mem_of_getElem? HX.out)
          rw [HV.out] at this
          have := of_decide_eq_true this
          omega
        have HNO := Lib.hid hno
        clear hno
        go_wp2_with fail
        go_ret
        exact ⟨_, _, _, rfl, HT.out, fun ns h => (by rw [HNO.out] at h; cases h), fun _ => rfl⟩
      · obtain ⟨i1, hi1⟩ : ∃ i1, i + 1 = i1 := ⟨_, rfl⟩
        have HI1 := Lib.hid hi1
        have hi1l : i1 ≤ n := by omega
        have hq : n - i1 < n - i := by omega
        clear hi1
        go_wp2_with (at_builtin; refine wpList_append_one_n Tryd.underlying80 info_int (by decide) rfl (.tmp 20) (.tmp 22) rfl w.heap.size _ ((ws.take i).map digV) i v rfl HR.out i1 HI1.out rfl (by omega) HT.out.size ?_; intro g4 c4 w4 hg4 h4 t4 b4)
        go_roundw
        case rel => exact ⟨i1, g4, c4, by rw [← HI1.out]; go_num, rfl, hi1l, hg4, Lib.hid (by rw [← HI1.out, take_snoc HX.out, List.map_append, HI1.out]; simp only [List.map_cons, List.map_nil, HV.out]; exact h4.out), Lib.hid (HT.out.and t4.out (fun j hj e => by have := (World.ownsRow.lt HR.out j e).1; omega)), Lib.hid fun j y hj hy => by
          rcases Nat.lt_or_ge j i with h | h
          · exact HA.out j y h hy
          · obtain rfl : j = i := by have := HI1.out; omega
            rw [HX.out] at hy
            cases hy
            rw [HV.out]
            omega⟩
        case measure => rw [← HI1.out] at hq; simpa [intOf] using hq
    · obtain rfl : i = n := by omega
      have hall : (ws.all fun w => decide (0 ≤ digV w)) = true := by
        rw [List.all_eq_true]
        intro x hx
        obtain ⟨j, hj⟩ := List.mem_iff_getElem?.1 hx
        exact decide_eq_true (HA.out j x (by have := (List.getElem?_eq_some_iff.1 hj).1; have := HN.out; omega) hj)
      have hw0 : ws.take i = ws := List.take_of_length_le (by rw [HN.out]; exact Nat.le_refl _)
      have HOW := Lib.hid (show wr.ownsRow w.heap.size 3 1 (.slice (some ⟨g, 0, none⟩) i cp) i ((ws.map digV).map (Value.int .i64)) by have := HR.out; rwa [hw0] at this)
      by_cases hq : i = many
      · subst hq
        have HE := Lib.hid (show o = some (ws.map digV) by rw [← HO.out]; unfold numsV; rw [hall, HN.out]; simp)
        clear hall hw0
        go_wp2_with fail
        go_ret
        refine ⟨_, _, _, rfl, HT.out, fun ns h => ?_, fun h => (by rw [HE.out] at h; cases h)⟩
        rw [HE.out] at h
        cases h
        have hl : (ws.map digV).length = i := by rw [List.length_map, HN.out]
        obtain ⟨ao, c, hv, hi, _⟩ := ints_of_own (L := ws.map digV) (v := .slice (some ⟨g, 0, none⟩) i cp) (by rw [hl]; exact HOW.out)
        cases hv
        exact ⟨hl, hi⟩
      · have HE := Lib.hid (show o = none by rw [← HO.out]; unfold numsV; rw [hall, HN.out]; simp [hq])
        clear hall hw0
        go_wp2_with fail
        go_ret
        exact ⟨_, _, _, rfl, HT.out, fun ns h => (by rw [HE.out] at h; cases h), fun _ => rfl⟩
end Go.Proofs.YtfghabjpcjcllaaDoor
