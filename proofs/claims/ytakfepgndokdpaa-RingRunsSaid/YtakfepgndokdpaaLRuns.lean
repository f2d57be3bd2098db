/- The walk of RingRuns. -/
import Derived.Test.YtakfepgndokdpaaLRows
import Derived.Deep.Slices
import Derived.Deep.CutBlock
namespace Go.Proofs.Ytakfepgndokdpaa
open Go.RowKit
set_option linter.unusedVariables false

/-- The slice at ao reads as the acts A: a kind and a value each. -/
def Acts (w : World) (ao : Option Addr) (A : List (Int × Int)) : Prop :=
  ∀ j, j < A.length → ∃ a, ao = some a ∧ w.cell? (a.add (j * 2)) = some (.int .i64 (A.getD j (0, 0)).1) ∧ w.cell? (a.add (j * 2 + 1)) = some (.int .i64 (A.getD j (0, 0)).2)
theorem Acts.turn {S : Nat → Prop} {a b : World} {ao : Option Addr} {L : List (Int × Int)} (h : Acts a ao L) (t : Turn S a b) (hs : ∀ ad, ao = some ad → ¬ S ad.block) : Acts b ao L := by
  intro j hj
  obtain ⟨ad, e, hc, hd⟩ := h j hj
  exact ⟨ad, e, t.cell (by rw [block_add]; exact hs ad e) hc, t.cell (by rw [block_add]; exact hs ad e) hd⟩

theorem Sep.refd {w0 w w' : World} {p n c ni ci m d : Nat} {ao bi b : Option Addr} {R I M : List Int} (h : Sep w0 w p n ao c R bi ni ci I none 0 0 []) (ho : Own w' w0.heap.size b m d M) (hb : ∀ a, b = some a → b = bi ∨ w.heap.size ≤ a.block) (t : Turn (fun _ => False) w w') : Sep w0 w' p n ao c R b m d M none 0 0 [] := by
  refine ⟨h.ring.new t, ho, h.out.turn t (fun _ _ => id), fun a e hr => ?_, h.f2, fun a b' e e' => (by cases e'), h.t.trans t⟩
  rcases hb a e with e' | e'
  · exact h.f1 a (e' ▸ e) hr
  · have := (h.ring.blocks hr).2; omega
theorem rput_n {base room wc nr : Nat} {wo : Option Addr} {L : List Int} (x : Int) (w : World) (h : Own w base wo nr wc L) (hb : base ≤ w.heap.size) (hL : nr ≤ 300) :
    Calls Try.prog 15 #[.slice wo nr wc, .int .i64 room, .int .i64 x] w fun e w' => ∃ bo m bc, e = .returned (.tuple #[.slice bo m bc, .bool (putB room L)]) ∧ Own w' base bo m bc (putL room L x) ∧ (∀ a, bo = some a → bo = wo ∨ w.heap.size ≤ a.block) ∧ Turn (fun _ => False) w w' := by
  obtain rfl := h.len
  refine (rput_any x w h hb hL).mono ?_
  rintro e w' ⟨bo, bc, rfl, h1, h2, h3⟩
  exact ⟨bo, _, bc, rfl, h1, h2, h3⟩
theorem rget_n {base wc nr : Nat} {wo : Option Addr} {L : List Int} (w : World) (h : Own w base wo nr wc L) (hb : base ≤ w.heap.size) (hL : nr ≤ 300) :
    Calls Try.prog 17 #[.slice wo nr wc] w fun e w' => ∃ bo m bc, e = .returned (.tuple #[.slice bo m bc, .int .i64 (outV L), .bool (outB L)]) ∧ Own w' base bo m bc (outL L) ∧ (∀ a, bo = some a → bo = wo ∨ w.heap.size ≤ a.block) ∧ Turn (fun _ => False) w w' := by
  obtain rfl := h.len
  refine (rget_any w h hb hL).mono ?_
  rintro e w' ⟨bo, bc, rfl, h1, h2, h3⟩
  exact ⟨bo, _, bc, rfl, h1, h2, h3⟩
theorem rpass_n {base room wc nr : Nat} {wo : Option Addr} {L : List Int} (x : Int) (w : World) (h : Own w base wo nr wc L) (hb : base ≤ w.heap.size) (hL : nr ≤ 300) :
    Calls Try.prog 19 #[.slice wo nr wc, .int .i64 room, .int .i64 x] w fun e w' => ∃ bo m bc, e = .returned (.tuple #[.slice bo m bc, .int .i64 (passV room L), .bool (passB room L)]) ∧ Own w' base bo m bc (passL room L x) ∧ (∀ a, bo = some a → bo = wo ∨ w.heap.size ≤ a.block) ∧ Turn (fun _ => False) w w' := by
  obtain rfl := h.len
  refine (rpass_any x w h hb hL).mono ?_
  rintro e w' ⟨bo, bc, rfl, h1, h2, h3⟩
  exact ⟨bo, _, bc, rfl, h1, h2, h3⟩
theorem full_n {base p room c nr : Nat} {ao : Option Addr} {L : List Int} (b : Bool) (w : World) (h : IsRing w base p room ao c L) (hn : L.length = nr) (hb : decide (nr = room) = b) :
    Calls Try.prog 12 #[.pointer (some ⟨p, 0, none⟩)] w fun e w' => e = .returned (.bool b) ∧ ∃ n, w' = w.drewN n := by
  subst hn
  subst hb
  exact full_any w h
theorem all_n {base p room c nr : Nat} {ao : Option Addr} {L : List Int} (w : World) (h : IsRing w base p room ao c L) (hn : L.length = nr) :
    Calls Try.prog 14 #[.pointer (some ⟨p, 0, none⟩)] w (Reads .i64 nr L w) := by
  subst hn
  exact all_any w h

theorem lruns_long {a : Int} {ao bo : Option Addr} {n cap m cb : Nat} (w : World) (ha : 0 ≤ a ∧ a ≤ 255) (h : 300 < m) (hL : m ≤ maxLen) :
    Calls Try.prog 4 #[.int .u8 a, .slice ao n cap, .slice bo m cb] w fun e w' => e = .returned (.bool true) ∧ Turn (fun _ => False) w w' := by
  unfold maxLen at hL
  go_enter Try.func4, Try.ntmps4
  go_wp2_with fail
  refine (alive_any _).mono ?_
  rintro e w1 ⟨rfl, t1⟩
  have T1 := Lib.hid t1
  clear t1
  go_wp2_with fail
  go_ret
  exact ⟨rfl, T1.out⟩
theorem lruns_many {a : Int} {ao bo : Option Addr} {n k cap m cb : Nat} (w : World) (ha : 0 ≤ a ∧ a ≤ 255) (hn : a % 65 = (n : Int)) (h : m ≤ 300) (hk : n < k) (hk2 : k ≤ maxLen) :
    Calls Try.prog 4 #[.int .u8 a, .slice ao k cap, .slice bo m cb] w fun e w' => e = .returned (.bool true) ∧ Turn (fun _ => False) w w' := by
  unfold maxLen at hk2
  go_enter Try.func4, Try.ntmps4
  go_wp2_with fail
  refine (alive_any _).mono ?_
  rintro e w1 ⟨rfl, t1⟩
  have T1 := Lib.hid t1
  clear t1
  go_wp2_with fail
  go_ret
  exact ⟨rfl, T1.out⟩

set_option maxRecDepth 100000 in
set_option maxHeartbeats 2000000 in
theorem lruns_any {a : Int} {n al : Nat} {ao bo : Option Addr} {cap cb : Nat} {L : List Int} {A : List (Int × Int)} (w : World) (ha : 0 ≤ a ∧ a ≤ 255) (hn : a % 65 = (n : Int)) (hn64 : n ≤ 64) (hr : Ints .i64 w ao L) (hl : L.length ≤ n) (hcap : ao = none → cap = 0) (hg : Acts w bo A) (hgl : A.length = al) (hgm : al ≤ 300) :
    Calls Try.prog 4 #[.int .u8 a, .slice ao L.length cap, .slice bo al cb] w fun e w' => e = .returned (.bool true) ∧ Turn (fun _ => False) w w' := by
  have HL := Lib.hid hr
  have HC := Lib.hid hcap
  have HA := Lib.hid hg
  have HAL := Lib.hid hgl
  clear hr hg hgl hcap
  have hl' : L.length ≤ 64 := by omega
  go_enter Try.func4, Try.ntmps4
  go_wp2_with fail
  refine (alive_any _).mono ?_
  rintro e w1 ⟨rfl, t1⟩
  have T1 := Lib.hid t1
  clear t1
  go_wp2_with fail
  refine (of_good w1 hn64 hl (HL.out.turn T1.out (fun _ _ => id))).mono ?_
  rintro e w2 ⟨rfl, ⟨ao2, c2, h2⟩, t2⟩
  have H2 := Lib.hid (h2.less T1.out.size)
  have T2 := Lib.hid (T1.out.trans t2)
  have HM := Lib.hid hn
  clear t2 h2 T1 hn
  go_wp2_with (at_builtin; refine wpList_append_ints_at Try.underlying22 info_int (by decide) rfl (.tmp 43) (.tmp 44) rfl w.heap.size (.slice (some ⟨w2.heap.size, 0, none⟩) 0 0) [] 0 rfl (own_empty (heap_alloc_new w2 _) T2.out.size) ao L L.length cap rfl rfl HC.out (HL.out.turn (T2.out.alloc _) (fun _ _ => id)) (by omega) (by have := T2.out.size; simp; omega) ?_; intro v3 w3 O3 G3 B3; rw [Nat.zero_add, List.nil_append] at O3)
  obtain ⟨b3, c3, rfl, _⟩ := own_slice O3.out
  have HT3 := Lib.hid (((Turn.refl (fun _ => False) w2).alloc (.cells #[] 2)).and G3.out (fun i hi e => far_new hi e))
  have HS : Hid (Sep w w3 w1.heap.size n ao2 c2 L b3 L.length c3 L none 0 0 []) := Lib.hid
    ⟨H2.out.new HT3.out, O3.out, ⟨rfl, .inl ⟨rfl, rfl⟩⟩,
      fun a e hb => by
        subst e
        have h1 := (H2.out.blocks hb).2
        have h2 := B3.out
        rw [own_block, own_block] at h2
        simp at h2
        omega, fun a e => (by cases e), fun a b e e' => (by cases e'), T2.out.trans HT3.out⟩
  clear H2 T2 HT3 G3 O3 B3 HM HC
  generalize w1.heap.size = p at HS ⊢
  go_loopw [48, 10] (fun s48 s10 wr => ∃ (k nr wc c : Nat) (wo ao : Option Addr) (R : List Int), k ≤ al ∧ s48 = .int .i64 k ∧ s10 = .slice wo nr wc ∧ nr ≤ n ∧ Hid (Sep w wr p n ao c R wo nr wc R none 0 0 [])) (fun s48 _ _ => al - (intOf s48).toNat)
  case atStart => exact ⟨0, L.length, c3, c2, b3, ao2, L, Nat.zero_le _, rfl, rfl, hl, HS⟩
  case round =>
    clear HS
    obtain ⟨k, nr, wc, c, wo, ao, R, hk, rfl, rfl, hnr, S⟩ := hrel
    by_cases hlt : k < al
    · obtain ⟨ad, hao, hc, hd⟩ := (HA.out.turn S.out.t (fun _ _ => id)) k (by rw [HAL.out]; exact hlt)
      subst hao
      rw [← Go.Deep.add_add] at hd
      have hd : wr.cell? ⟨(ad.add (k * 2)).block, (ad.add (k * 2)).off + 1, none⟩ = some (.int .i64 (A.getD k (0, 0)).2) := hd
      generalize (A.getD k (0, 0)).1 = kd at hc
      generalize (A.getD k (0, 0)).2 = x at hd
      go_upto_region 13 with fail
      have S1 := Lib.hid (S.out.new ((Turn.refl (fun _ => False) wr).alloc (.cells #[.int .i64 kd, .int .i64 x] 36)))
      have V0 : (wr.alloc (.cells #[.int .i64 kd, .int .i64 x] 36)).cell? ⟨wr.heap.size, 0, none⟩ = some (.int .i64 kd) := by simp [go_sem]
      have V1 : (wr.alloc (.cells #[.int .i64 kd, .int .i64 x] 36)).cell? ⟨wr.heap.size, 1, none⟩ = some (.int .i64 x) := by simp [go_sem]
      generalize wr.alloc (.cells #[.int .i64 kd, .int .i64 x] 36) = wv at S1 V0 V1 ⊢
      generalize wr.heap.size = B at V0 V1 ⊢
      clear hc hd S
      have hnr3 : nr ≤ 300 := by omega
      go_upto_block 2 with fail
      go_cut [10, 13, 14, 15, 16] (fun s10 s13 s14 s15 s16 wx => ∃ (nr wc c : Nat) (wo ao : Option Addr) (R : List Int) (z : Int) (b : Bool), s10 = .slice wo nr wc ∧ s13 = .int .i64 z ∧ s14 = .bool b ∧ s15 = .int .i64 z ∧ s16 = .bool b ∧ nr ≤ n ∧ Hid (Sep w wx p n ao c R wo nr wc R none 0 0 []))
      case first =>
        by_cases k0 : kd = 0
        · have e0 : (kd == 0) = true := by simpa using k0
          clear k0
          go_wp2_with fail
          refine (rput_n x _ S1.out.ini S1.out.t.size hnr3).mono ?_
          rintro e w5 ⟨b5, m5, d5, rfl, o5, f5, t5⟩
          have S5 := Lib.hid (S1.out.refd o5 f5 t5)
          have V5 := t5.cell (p := ⟨B, 1, none⟩) id V1
          clear o5 f5 t5
          go_wp2_with fail
          refine (put_any x _ S5.out.ring).mono ?_
          rintro e w6 ⟨rfl, k6⟩
          obtain ⟨ao6, c6, s6⟩ := S5.out.kept k6
          have S6 := Lib.hid s6
          clear k6 s6
          go_wp2_with fail
          go_meet
          exact ⟨m5, d5, c6, b5, ao6, _, 0, _, rfl, rfl, rfl, rfl, rfl, by rw [← S6.out.ini.len]; exact S6.out.ring.le, S6⟩
        · have e0 : (kd == 0) = false := by simpa using k0
          by_cases k1 : kd = 1
          · have e1 : (kd == 1) = true := by simpa using k1
            clear k0 k1
            go_wp2_with fail
            refine (rget_n _ S1.out.ini S1.out.t.size hnr3).mono ?_
            rintro e w5 ⟨b5, m5, d5, rfl, o5, f5, t5⟩
            have S5 := Lib.hid (S1.out.refd o5 f5 t5)
            clear o5 f5 t5
            go_wp2_with fail
            refine (get_any _ S5.out.ring).mono ?_
            rintro e w6 ⟨rfl, k6⟩
            obtain ⟨ao6, c6, s6⟩ := S5.out.kept k6
            have S6 := Lib.hid s6
            clear k6 s6
            go_wp2_with fail
            go_meet
            exact ⟨m5, d5, c6, b5, ao6, _, _, _, rfl, rfl, rfl, rfl, rfl, by rw [← S6.out.ini.len]; exact S6.out.ring.le, S6⟩
          · have e1 : (kd == 1) = false := by simpa using k1
            by_cases k2 : kd = 2
            · have e2 : (kd == 2) = true := by simpa using k2
              clear k0 k1 k2
              go_wp2_with fail
              refine (rpass_n x _ S1.out.ini S1.out.t.size hnr3).mono ?_
              rintro e w5 ⟨b5, m5, d5, rfl, o5, f5, t5⟩
              have S5 := Lib.hid (S1.out.refd o5 f5 t5)
              have V5 := t5.cell (p := ⟨B, 1, none⟩) id V1
              clear o5 f5 t5
              go_wp2_with fail
              refine (pass_any x _ S5.out.ring).mono ?_
              rintro e w6 ⟨rfl, k6⟩
              obtain ⟨ao6, c6, s6⟩ := S5.out.kept k6
              have S6 := Lib.hid s6
              clear k6 s6
              go_wp2_with fail
              go_meet
              exact ⟨m5, d5, c6, b5, ao6, _, _, _, rfl, rfl, rfl, rfl, rfl, by rw [← S6.out.ini.len]; exact S6.out.ring.le, S6⟩
            · have e2 : (kd == 2) = false := by simpa using k2
              clear k0 k1 k2
              go_wp2_with fail
              go_meet
              exact ⟨nr, wc, c, wo, ao, R, 0, true, rfl, rfl, rfl, rfl, rfl, hnr, S1⟩
      case rest =>
        clear S1 V0 V1 hnr hnr3
        obtain ⟨nr, wc, c, wo, ao, R, z, b, rfl, rfl, rfl, rfl, rfl, hnr, S⟩ := hcut
        have HLN := Lib.hid S.out.ini.len
        have hz : (((nr : Int) == (n : Int)) = true ∧ (nr == n) = true ∧ Hid (decide (nr = n) = true)) ∨ (((nr : Int) == (n : Int)) = false ∧ (nr == n) = false ∧ Hid (decide (nr = n) = false)) := by
          by_cases h : nr = n
          · exact Or.inl ⟨by rw [beq_iff_eq]; omega, by rw [beq_iff_eq]; exact h, Lib.hid (decide_eq_true h)⟩
          · exact Or.inr ⟨by rw [beq_eq_false_iff_ne]; omega, by rw [beq_eq_false_iff_ne]; exact h, Lib.hid (decide_eq_false h)⟩
        rcases hz with ⟨hz, hz2, HZ⟩ | ⟨hz, hz2, HZ⟩
        all_goals
          go_wp2_with fail
          refine (len_n _ S.out.ring HLN.out).mono ?_
          rintro e w7 ⟨rfl, rfl⟩
          go_wp2_with fail
          refine (full_n _ _ S.out.ring HLN.out HZ.out).mono ?_
          rintro e w8 ⟨rfl, n8, rfl⟩
          go_wp2_with fail
          refine (all_n _ (S.out.ring.drewN n8) HLN.out).mono ?_
          rintro e w9 ⟨b9, c9, rfl, l9, i9, _, _, _, t9⟩
          have S9 := Lib.hid ((S.out.drewN n8).new t9)
          have I9 := Lib.hid i9
          clear l9 i9 t9
          go_wp2_with fail
          refine (same_eq _ I9.out S9.out.ini.ints HLN.out (by omega)).mono ?_
          rintro e w10 ⟨rfl, n10, rfl⟩
          go_wp2_with fail
          go_roundw
          case rel => exact ⟨k + 1, nr, wc, c, wo, ao, R, by omega, by go_num, rfl, hnr, Lib.hid (S9.out.drewN n10)⟩
          case measure => simp [intOf]; omega
    · go_wp2_with fail
      go_ret
      exact ⟨rfl, S.out.t⟩

end Go.Proofs.Ytakfepgndokdpaa
