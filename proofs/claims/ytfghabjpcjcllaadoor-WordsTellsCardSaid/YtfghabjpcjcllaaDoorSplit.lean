/- The document's pieces between bytes. -/
import Derived.Test.YtfghabjpcjcllaaDoorTxt
namespace Go.Proofs.YtfghabjpcjcllaaDoor
open Go.RowKit
set_option linter.unusedVariables false

/-- What a function that answers texts gives. -/
def GivesT (w : World) (L : List Tx) (e : Ending) (w' : World) : Prop := ∃ bo n c, e = .returned (.slice bo n c) ∧ w'.ownsRow w.heap.size 9 1 (.slice bo n c) n (flat encT L) ∧ L.length = n ∧ Turn (fun _ => False) w w'

theorem splitG_step (c x : UInt8) (t : Tx) {a i : Nat} (ha : a ≤ i) (hx : t[i]? = some x) :
    splitG c ((t.drop a).take (i - a)) (t.drop i) = if x = c then (t.drop a).take (i - a) :: splitG c ((t.drop (i + 1)).take (i + 1 - (i + 1))) (t.drop (i + 1)) else splitG c ((t.drop a).take (i + 1 - a)) (t.drop (i + 1)) := by
  obtain ⟨hl, he⟩ := List.getElem?_eq_some_iff.1 hx
  rw [List.drop_eq_getElem_cons hl, splitG_cons, he, Nat.sub_self, List.take_zero]
  have : (t.drop a).take (i + 1 - a) = (t.drop a).take (i - a) ++ [x] := by
    rw [show i + 1 - a = (i - a) + 1 by omega, List.take_add_one, List.getElem?_drop, show a + (i - a) = i by omega, hx]
    rfl
  rw [this]

set_option maxRecDepth 100000 in
theorem rsplit_any (t : Tx) (c : UInt8) (k : Int) (n : Nat) (w : World) (hk : (c.toNat : Int) = k) (hn : t.length = n) (hm : n ≤ 100000) :
    Calls Tryd.prog 32 #[.string (bs t), .int .u8 k] w (GivesT w (splitT c t)) := by
  obtain ⟨S, hS⟩ : ∃ S, bs t = S := ⟨_, rfl⟩
  have HS := Lib.hid hS
  have hlen : ∀ ty w, (Builtin.len_ #[9] ty #[.string S]).run Tryd.prog w = .ok (.int .i64 n) w := by subst hS; exact fun ty w => len_text ty t hn w
  have HN := Lib.hid hn
  have HK := Lib.hid hk
  rw [hS]
  clear hS hn hk
  unfold GivesT
  go_enter Tryd.func32, Tryd.ntmps32
  go_upto_region 4 with fail
  go_loopw [5, 6, 7] (fun s5 s6 s7 wr => ∃ (i a m : Nat) (g : Nat) (cp : Nat) (L : List Tx), s7 = .int .i64 i ∧ s6 = .int .i64 a ∧ s5 = .slice (some ⟨g, 0, none⟩) m cp ∧ a ≤ i ∧ i ≤ n ∧ m ≤ i ∧ w.heap.size ≤ g ∧ Hid (wr.ownsRow w.heap.size 9 1 (.slice (some ⟨g, 0, none⟩) m cp) m (flat encT L)) ∧ Hid (Turn (fun _ => False) w wr) ∧ Hid (splitT c t = L ++ splitG c ((t.drop a).take (i - a)) (t.drop i))) (fun _ _ s7 _ => n - (intOf s7).toNat)
  case atStart => exact ⟨0, 0, 0, w.heap.size, 0, [], rfl, rfl, rfl, Nat.le_refl _, Nat.zero_le _, Nat.le_refl _, Nat.le_refl _, Lib.hid (own_made (heap_alloc_new w _) (Nat.le_refl _)), Lib.hid ((Turn.refl _ w).alloc _), Lib.hid (by simp [splitT])⟩
  case round =>
    obtain ⟨i, a, m, g, cp, L, rfl, rfl, rfl, hai, hin, hmi, hg, HR, HT, HE⟩ := hrel
    by_cases hlt : i < n
    · obtain ⟨x, hx⟩ : ∃ x, t[i]? = some x := ⟨_, List.getElem?_eq_getElem (by rw [HN.out]; exact hlt)⟩
      have hix : ∀ w, (Instr.index 9 (.string S) (.int .i64 i)).run Tryd.prog w = .ok (.int .u8 x.toNat) w := by rw [← HS.out]; exact index_text t hx
      have hst := splitG_step c x t hai hx
      obtain ⟨xn, hxn⟩ : ∃ xn, (x.toNat : Int) = xn := ⟨_, rfl⟩
      rw [hxn] at hix
      by_cases hxc : x = c
      · obtain rfl : xn = k := by rw [← hxn, hxc, HK.out]
        rw [if_pos hxc] at hst
        have HST := Lib.hid hst
        clear hst hxc hxn hx
        have hsl : ∀ w, (Instr.slice 9 (.string S) (some (.int .i64 a)) (some (.int .i64 i)) none).run Tryd.prog w = .ok (.string (bs ((t.drop a).take (i - a)))) w := by rw [← HS.out]; exact slice_text t hai (by rw [HN.out]; exact hin)
        obtain ⟨P, hP⟩ : ∃ P, bs ((t.drop a).take (i - a)) = P := ⟨_, rfl⟩
        have HP := Lib.hid hP
        rw [hP] at hsl
        clear hP
        obtain ⟨m1, hm1⟩ : ∃ m1, m + 1 = m1 := ⟨_, rfl⟩
        have HM1 := Lib.hid hm1
        have hm1l : m1 ≤ 100001 := by omega
        clear hm1
        go_wp2_with (at_builtin; refine wpList_append_flat_one (w0 := wr) encT_ok (by decide) Tryd.underlying53 info_text rfl (by decide) rfl (.tmp 20) (.tmp 25) rfl w.heap.size (.slice (some ⟨g, 0, none⟩) m cp) L m ((t.drop a).take (i - a)) (by rw [← HP.out]; rfl) rfl HR.out rfl m1 HM1.out (by omega) HT.out.size ?_; intro g4 c4 w4 hg4 h4 t4 b4)
        go_roundw
        case rel => exact ⟨i + 1, i + 1, m1, g4, c4, L ++ [(t.drop a).take (i - a)], by go_num, by go_num, rfl, Nat.le_refl _, by omega, by rw [← HM1.out]; omega, hg4, h4, Lib.hid (HT.out.and t4.out (fun j hj e => by have := (World.ownsRow.lt HR.out j e).1; omega)), Lib.hid (by rw [HE.out, HST.out]; simp)⟩
        case measure => simp [intOf]; omega
      · have hxk : ¬ xn = k := fun e => by
          have h1 := HK.out
          exact hxc (UInt8.toNat_inj.1 (by omega))
        rw [if_neg hxc] at hst
        have HST := Lib.hid hst
        clear hst hxc hxn hx
        go_wp2_with fail
        go_roundw
        case rel => exact ⟨i + 1, a, m, g, cp, L, by go_num, rfl, rfl, by omega, by omega, by omega, hg, HR, HT, Lib.hid (by rw [HE.out, HST.out])⟩
        case measure => simp [intOf]; omega
    · obtain rfl : i = n := by omega
      have he : splitT c t = L ++ [t.drop a] := by
        rw [HE.out, List.drop_of_length_le (show t.length ≤ i by rw [HN.out]; exact Nat.le_refl _), List.take_of_length_le (by rw [List.length_drop, HN.out]; exact Nat.le_refl _)]
        rfl
      have HE2 := Lib.hid he
      clear he
      have hsl : ∀ w, (Instr.slice 9 (.string S) (some (.int .i64 a)) none none).run Tryd.prog w = .ok (.string (bs (t.drop a))) w := by rw [← HS.out]; exact from_text t (by rw [HN.out]; exact hai)
      obtain ⟨P, hP⟩ : ∃ P, bs (t.drop a) = P := ⟨_, rfl⟩
      have HP := Lib.hid hP
      rw [hP] at hsl
      clear hP
      obtain ⟨m1, hm1⟩ : ∃ m1, m + 1 = m1 := ⟨_, rfl⟩
      have HM1 := Lib.hid hm1
      have hm1l : m1 ≤ 100001 := by omega
      clear hm1
      go_wp2_with (at_builtin; refine wpList_append_flat_one (w0 := wr) encT_ok (by decide) Tryd.underlying53 info_text rfl (by decide) rfl (.tmp 29) (.tmp 33) rfl w.heap.size (.slice (some ⟨g, 0, none⟩) m cp) L m (t.drop a) (by rw [← HP.out]; rfl) rfl HR.out rfl m1 HM1.out (by omega) HT.out.size ?_; intro g4 c4 w4 hg4 h4 t4 b4)
      go_ret
      exact ⟨_, _, _, rfl, by rw [HE2.out]; exact h4.out, by rw [HE2.out]; have := own_len encT_ok (by decide) h4.out; exact this, HT.out.and t4.out (fun j hj e => by have := (World.ownsRow.lt HR.out j e).1; omega)⟩
end Go.Proofs.YtfghabjpcjcllaaDoor
