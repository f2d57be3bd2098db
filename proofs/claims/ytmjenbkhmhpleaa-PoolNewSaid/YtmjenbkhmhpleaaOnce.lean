/- The walk of PoolOnce. -/
import Derived.Test.YtmjenbkhmhpleaaOnc
import Derived.Deep.DeepCutAuto
import Derived.Deep.CutBlock
namespace Go.Proofs.Ytmjenbkhmhpleaa
open Go.RowKit
set_option linter.unusedVariables false

theorem zeros_row {w : World} {g n : Nat} (a b c : Nat) (h : Zeros w g n (.bool false) 4) : BRow w g n (fun i => liveB (newS a b c) (i : Int)) := by
  obtain ⟨arr, h1, h2⟩ := BRow.of h
  exact ⟨arr, h1, fun i hi => by rw [h2 i hi]; show _ = some (Value.bool (liveB (newS a b c) (i : Int))); rw [newS_live]⟩

theorem lonce_long {a b c : Int} {ao : Option Addr} {al ac : Nat} (w : World) (ha : 0 ≤ a ∧ a ≤ 255) (hb : 0 ≤ b ∧ b ≤ 255) (hc : 0 ≤ c ∧ c ≤ 255) (h : 200 < al) (hL : al ≤ maxLen) :
    Calls Try.prog 5 #[.agg #[.int .u8 a, .int .u8 b, .int .u8 c], .slice ao al ac] w fun e w' => e = .returned (.bool true) ∧ Turn (fun _ => False) w w' := by
  unfold maxLen at hL
  obtain ⟨size, hs⟩ : ∃ n : Nat, a % 30 = (n : Int) := ⟨(a % 30).toNat, by omega⟩
  obtain ⟨n, hn⟩ : ∃ n : Nat, b % 9 = (n : Int) := ⟨(b % 9).toNat, by omega⟩
  obtain ⟨most, hm⟩ : ∃ n : Nat, 1 + c % 16 = (n : Int) := ⟨(1 + c % 16).toNat, by omega⟩
  have HD := Lib.hid (And.intro ha (And.intro hb (And.intro hc (And.intro hs (And.intro hn hm)))))
  clear ha hb hc hs hn hm
  go_enter Try.func5, Try.ntmps5
  go_wp2_with fail
  refine (alive_any _).mono ?_
  rintro e w1 ⟨rfl, t1⟩
  have T1 := Lib.hid (((Turn.refl (fun _ => False) w).alloc (.cells #[.int .u8 a, .int .u8 b, .int .u8 c] 38)).trans t1)
  have HX := Lib.hid (t1.heap id (heap_alloc_new w (.cells #[.int .u8 a, .int .u8 b, .int .u8 c] 38)))
  clear t1
  have x0 : w1.cell? ⟨w.heap.size, 0, none⟩ = some (.int .u8 a) := by simp [World.cell?, HX.out]
  have x1 : w1.cell? ⟨w.heap.size, 1, none⟩ = some (.int .u8 b) := by simp [World.cell?, HX.out]
  have x2 : w1.cell? ⟨w.heap.size, 2, none⟩ = some (.int .u8 c) := by simp [World.cell?, HX.out]
  go_wp2_with fail
  refine (open_any (n := n) (size := size) (most := most) w1 HD.out.1 HD.out.2.1 HD.out.2.2.1 HD.out.2.2.2.1 HD.out.2.2.2.2.1 HD.out.2.2.2.2.2).mono ?_
  rintro e w2 ⟨p, q, cq, rfl, h2, z2, hc1, hc2, hc3, t2⟩
  have T2 := Lib.hid (T1.out.trans t2)
  clear h2 z2 hc1 hc2 hc3 t2 x0 x1 x2
  unfold ragg
  go_wp2_with fail
  go_ret
  exact ⟨rfl, T2.out.alloc _⟩

set_option maxRecDepth 100000 in
set_option maxHeartbeats 4000000 in
theorem lonce_any {a b c : Int} {ao : Option Addr} {al ac : Nat} {A : List (Int × Int × Int)} (w : World) (ha : 0 ≤ a ∧ a ≤ 255) (hb : 0 ≤ b ∧ b ≤ 255) (hc : 0 ≤ c ∧ c ≤ 255) (hA : Acts w ao A) (hAl : A.length = al) (hL : al ≤ 200) :
    Calls Try.prog 5 #[.agg #[.int .u8 a, .int .u8 b, .int .u8 c], .slice ao al ac] w fun e w' => e = .returned (.bool true) ∧ Turn (fun _ => False) w w' := by
  obtain ⟨size, hs⟩ : ∃ n : Nat, a % 30 = (n : Int) := ⟨(a % 30).toNat, by omega⟩
  obtain ⟨n, hn⟩ : ∃ n : Nat, b % 9 = (n : Int) := ⟨(b % 9).toNat, by omega⟩
  obtain ⟨most, hm⟩ : ∃ n : Nat, 1 + c % 16 = (n : Int) := ⟨(1 + c % 16).toNat, by omega⟩
  have hs30 : size ≤ 29 := by omega
  have hn8 : n ≤ 8 := by omega
  have hm16 : most ≤ 16 := by omega
  have hm1 : 1 ≤ most := by omega
  have HD := Lib.hid (And.intro ha (And.intro hb (And.intro hc (And.intro hs (And.intro hn hm)))))
  have HA := Lib.hid hA
  have HAL := Lib.hid hAl
  clear ha hb hc hs hn hm hA hAl
  go_enter Try.func5, Try.ntmps5
  go_wp2_with fail
  refine (alive_any _).mono ?_
  rintro e w1 ⟨rfl, t1⟩
  have T1 := Lib.hid (((Turn.refl (fun _ => False) w).alloc (.cells #[.int .u8 a, .int .u8 b, .int .u8 c] 38)).trans t1)
  have HX := Lib.hid (t1.heap id (heap_alloc_new w (.cells #[.int .u8 a, .int .u8 b, .int .u8 c] 38)))
  clear t1
  have x0 : w1.cell? ⟨w.heap.size, 0, none⟩ = some (.int .u8 a) := by simp [World.cell?, HX.out]
  have x1 : w1.cell? ⟨w.heap.size, 1, none⟩ = some (.int .u8 b) := by simp [World.cell?, HX.out]
  have x2 : w1.cell? ⟨w.heap.size, 2, none⟩ = some (.int .u8 c) := by simp [World.cell?, HX.out]
  go_wp2_with fail
  refine (open_any (n := n) (size := size) (most := most) w1 HD.out.1 HD.out.2.1 HD.out.2.2.1 HD.out.2.2.2.1 HD.out.2.2.2.2.1 HD.out.2.2.2.2.2).mono ?_
  rintro e w2 ⟨p, q, cq, rfl, h2, z2, hc1, hc2, hc3, t2⟩
  have H2 : Hid (In w w2 p q (newS n size most) R0) := Lib.hid ⟨h2.less T1.out.size, newS_good hn8 (by omega) ⟨hm1, hm16⟩, T1.out.trans t2⟩
  clear h2 z2 hc1 hc2 hc3 t2 x0 x1 x2 HX T1 HD
  unfold ragg
  go_upto_if 31 with fail
  have HB6 := Lib.hid (show RBox (w2.alloc (.cells #[.int .i64 size, .int .i64 most, .slice (some ⟨cq, 0, none⟩) n n, .slice none 0 0, .int .i64 0] 25)) w2.heap.size size most (some ⟨cq, 0, none⟩) n n none 0 0 0 from heap_alloc_new w2 _)
  have HI6 := Lib.hid (H2.out.new ((Turn.refl (fun _ => False) w2).alloc (.cells #[.int .i64 size, .int .i64 most, .slice (some ⟨cq, 0, none⟩) n n, .slice none 0 0, .int .i64 0] 25)))
  have HF6 := Lib.hid (show ¬ PB p q n R0 w2.heap.size from fun e => by have := (H2.out.pool.blocks e).2; omega)
  clear H2
  generalize w2.alloc (.cells #[.int .i64 size, .int .i64 most, .slice (some ⟨cq, 0, none⟩) n n, .slice none 0 0, .int .i64 0] 25) = w6 at HB6 HI6 ⊢
  generalize w2.heap.size = b6 at HB6 HF6 ⊢
  have d0 := HB6.out.d0
  go_wp2_with (with_reducible refine wpList_make_zeros cells_false Try.underlying53 info_bool (by decide) rfl (.tmp 36) (.tmp 36) rfl size rfl rfl (by omega) ?_; intro w7 Z7 T7)
  have HO : Hid (Onc w w7 p q (newS n size most) R0 w6.heap.size b6 n size most cq (fun i => liveB (newS n size most) (i : Int))) := Lib.hid
    ⟨HI6.out.new T7.out, zeros_row n size most Z7.out, HB6.out.turn T7.out id, fun e => (by have := (HI6.out.pool.blocks e).2; omega), HF6.out, fun e => (by have := HB6.out.lt; omega), HI6.out.t.size, rfl, rfl, rfl⟩
  clear d0 Z7 T7 HF6 HB6 HI6
  generalize w6.heap.size = bo at HO ⊢
  go_loopw [9, 40] (fun s9 s40 wr => ∃ (k : Nat) (z : Int) (s : St) (R : Nat → Rw), k ≤ al ∧ s9 = .int .i64 z ∧ s40 = .int .i64 k ∧ Hid (cnt s = z) ∧ Hid (Onc w wr p q s R bo b6 n size most cq (fun i => liveB s (i : Int)))) (fun _ s40 _ => al - (intOf s40).toNat)
  case atStart => exact ⟨0, 0, _, R0, Nat.zero_le _, rfl, rfl, Lib.hid (newS_cnt n size most), HO⟩
  case round =>
    clear HO
    obtain ⟨k, z, s, R, hk, rfl, rfl, HZ, HO⟩ := hrel
    have hz : 0 ≤ z ∧ z ≤ 64 := by rw [← HZ.out]; exact cnt_bounds HO.out.inn.good
    obtain ⟨hz1, hz2⟩ := hz
    by_cases hlt : k < al
    · obtain ⟨ad, hao, c0, c1, c2⟩ := (HA.out.turn HO.out.inn.t (fun _ _ => id)) k (by rw [HAL.out]; exact hlt)
      subst hao
      have c1 : wr.cell? ⟨(ad.add (k * 3)).block, (ad.add (k * 3)).off + 1, none⟩ = some (.int .i64 (A.getD k (0, 0, 0)).2.1) := c1
      have c2 : wr.cell? ⟨(ad.add (k * 3)).block, (ad.add (k * 3)).off + 2, none⟩ = some (.int .i64 (A.getD k (0, 0, 0)).2.2) := c2
      generalize (A.getD k (0, 0, 0)).1 = kd at c0
      generalize (A.getD k (0, 0, 0)).2.1 = gg at c1
      generalize (A.getD k (0, 0, 0)).2.2 = xx at c2
      go_upto_if 46 with fail
      have O1 := Lib.hid (HO.out.new ((Turn.refl (fun _ => False) wr).alloc (.cells #[.int .i64 kd, .int .i64 gg, .int .i64 xx] 43)))
      have HBB := Lib.hid (show ¬ PB p q n R wr.heap.size from fun e => by rw [← HO.out.eqs.1] at e; have := (HO.out.inn.pool.blocks e).2; omega)
      have HNE := Lib.hid (show bo ≠ wr.heap.size from fun e => by have := HO.out.out.lt; omega)
      have V0 : (wr.alloc (.cells #[.int .i64 kd, .int .i64 gg, .int .i64 xx] 43)).cell? ⟨wr.heap.size, 0, none⟩ = some (.int .i64 kd) := by simp [go_sem]
      have V1 : (wr.alloc (.cells #[.int .i64 kd, .int .i64 gg, .int .i64 xx] 43)).cell? ⟨wr.heap.size, 1, none⟩ = some (.int .i64 gg) := by simp [go_sem]
      have V2 : (wr.alloc (.cells #[.int .i64 kd, .int .i64 gg, .int .i64 xx] 43)).cell? ⟨wr.heap.size, 2, none⟩ = some (.int .i64 xx) := by simp [go_sem]
      generalize wr.alloc (.cells #[.int .i64 kd, .int .i64 gg, .int .i64 xx] 43) = wv at O1 V0 V1 V2 ⊢
      generalize wr.heap.size = BB at HBB HNE V0 V1 V2 ⊢
      clear c0 c1 c2 HO
      go_cut [9] (fun s9 wx => ∃ (z : Int) (s : St) (R : Nat → Rw), s9 = .int .i64 z ∧ Hid (cnt s = z) ∧ Hid (Onc w wx p q s R bo b6 n size most cq (fun i => liveB s (i : Int))))
      case first =>
        have d0 := O1.out.box.d0
        by_cases k0 : kd = 0
        · have e0 : (kd == 0) = true := by simpa using k0
          clear k0
          cases hb : takeB s gg with
          | true =>
            have hT := take_true O1.out.inn.good hb
            obtain ⟨xn, hxn⟩ : ∃ xn : Nat, takeX s gg = (xn : Int) := ⟨(takeX s gg).toNat, by have := hT.range; omega⟩
            have hxs : xn < size := by have := hT.range.2; rw [hxn, O1.out.eqs.2.1] at this; omega
            have hout : liveB s (xn : Int) = false := by rw [← hxn]; exact hT.out
            have HT := Lib.hid hT
            have HXN := Lib.hid hxn
            have HB := Lib.hid hb
            have HOUT := Lib.hid hout
            clear hT hxn hb hout
            go_wp2_with fail
            refine (take_at _ O1.out.inn.pool O1.out.inn.good HXN.out HB.out).mono ?_
            rintro e w8 ⟨rfl, k8⟩
            obtain ⟨R8, o8, v8⟩ := O1.out.kept HT.out.good HT.out.same k8
            have O8 := Lib.hid o8
            have d0 := o8.box.d0
            have fy := o8.out.fr xn
            have y0 : w8.cell? ⟨bo, xn, none⟩ = some (.bool (liveB s (xn : Int))) := o8.out.cell hxs
            rw [HOUT.out] at y0
            clear o8 v8 k8
            go_wp2_with fail
            go_meet
            exact ⟨z + 1, _, R8, rfl, Lib.hid (by rw [HT.out.cnt, HZ.out]), Lib.hid (O8.out.set hxs true (fun j hj => by
              show liveB (takeS s gg) (j : Int) = _
              rw [HT.out.live, HXN.out]
              by_cases e : j = xn
              · subst e; rw [if_pos rfl, decide_eq_true rfl, Bool.or_true]
              · rw [if_neg e, decide_eq_false (by omega), Bool.or_false]))⟩
          | false =>
            have HT := Lib.hid (take_false O1.out.inn.good hb)
            have HB := Lib.hid hb
            clear hb
            go_wp2_with fail
            refine (take_at _ O1.out.inn.pool O1.out.inn.good rfl HB.out).mono ?_
            rintro e w8 ⟨rfl, k8⟩
            obtain ⟨R8, o8, v8⟩ := O1.out.kept HT.out.good HT.out.same k8
            have O8 := Lib.hid o8
            clear o8 v8 k8
            go_wp2_with fail
            go_meet
            refine ⟨z, _, R8, rfl, Lib.hid (by rw [HT.out.cnt, HZ.out]), ?_⟩
            have e : (fun i : Nat => liveB (takeS s gg) (i : Int)) = fun i : Nat => liveB s (i : Int) := funext fun i => HT.out.live _
            rw [e]
            exact O8
        · have e0 : (kd == 0) = false := by simpa using k0
          clear k0
          cases hb : giveB s gg xx with
          | true =>
            have hT := give_true O1.out.inn.good hb
            obtain ⟨xn, hxn⟩ : ∃ xn : Nat, xx = (xn : Int) := ⟨xx.toNat, by have := hT.range; omega⟩
            subst hxn
            have hxs : xn < size := by have := hT.range.2; rw [O1.out.eqs.2.1] at this; omega
            have HT := Lib.hid hT
            have HB := Lib.hid hb
            have HOUT := Lib.hid hT.out
            clear hT hb
            go_wp2_with fail
            refine (give_at _ O1.out.inn.pool O1.out.inn.good HB.out).mono ?_
            rintro e w8 ⟨rfl, k8⟩
            obtain ⟨R8, o8, v8⟩ := O1.out.kept HT.out.good HT.out.same k8
            have V28 := v8 BB 2 _ HBB.out V2
            have O8 := Lib.hid o8
            have d0 := o8.box.d0
            have fy := o8.out.fr xn
            have y0 : w8.cell? ⟨bo, xn, none⟩ = some (.bool (liveB s (xn : Int))) := o8.out.cell hxs
            rw [HOUT.out] at y0
            clear o8 v8 k8
            go_wp2_with fail
            go_meet
            exact ⟨z - 1, _, R8, rfl, Lib.hid (by rw [HT.out.cnt, HZ.out]), Lib.hid (O8.out.set hxs false (fun j hj => by
              show liveB (giveS s gg (xn : Int)) (j : Int) = _
              rw [HT.out.live]
              by_cases e : j = xn
              · subst e; rw [if_pos rfl, decide_eq_true rfl, Bool.not_true, Bool.and_false]
              · rw [if_neg e, decide_eq_false (by omega), Bool.not_false, Bool.and_true]))⟩
          | false =>
            have HB := Lib.hid hb
            clear hb
            go_wp2_with fail
            refine (give_at _ O1.out.inn.pool O1.out.inn.good HB.out).mono ?_
            rintro e w8 ⟨rfl, k8⟩
            rw [give_false HB.out] at k8
            obtain ⟨R8, o8, v8⟩ := O1.out.kept O1.out.inn.good ⟨rfl, rfl, rfl⟩ k8
            have O8 := Lib.hid o8
            clear o8 v8 k8
            go_wp2_with fail
            go_meet
            exact ⟨z, _, R8, rfl, HZ, O8⟩
      case rest =>
        clear O1 HZ V0 V1 V2 HBB HNE hz1 hz2
        obtain ⟨z, s, R, rfl, HZ, HO⟩ := hcut
        have hz : 0 ≤ z ∧ z ≤ 64 := by rw [← HZ.out]; exact cnt_bounds HO.out.inn.good
        obtain ⟨hz1, hz2⟩ := hz
        have en := HO.out.eqs.1
        have hml := HO.out.inn.good.row (Nat.le_refl s.n)
        obtain ⟨nm, hnm⟩ : ∃ nm, (s.M s.n).length = nm := ⟨_, rfl⟩
        rw [hnm] at hml
        have HNM := Lib.hid hnm
        have HEN := Lib.hid en
        clear en hnm
        go_wp2_with fail
        refine (middle_any wc HO.out.inn.pool HNM.out (by omega)).mono ?_
        rintro e w9 ⟨rfl, r9, t9⟩
        have O9 := Lib.hid (HO.out.new t9)
        have d2 := O9.out.box.d2
        clear r9 t9 HO
        go_wp2_with fail
        clear d2
        go_loopw [14, 113] (fun s14 s113 wr => ∃ (j t : Nat), j ≤ n ∧ s14 = .int .i64 t ∧ s113 = .int .i64 j ∧ Hid (len s.M j + nm = t) ∧ Hid (Onc w wr p q s R bo b6 n size most cq (fun i => liveB s (i : Int)))) (fun _ s113 _ => n - (intOf s113).toNat)
        case atStart => exact ⟨0, nm, Nat.zero_le _, rfl, rfl, Lib.hid (Nat.zero_add nm), O9⟩
        case round =>
          clear O9
          obtain ⟨j, t, hj, rfl, rfl, HT, HO⟩ := hrel
          have ht64 : t ≤ 64 := by rw [← HT.out, ← HNM.out]; exact rows_sum HO.out.inn.good j (by rw [HEN.out]; exact hj)
          by_cases hjn : j < n
          · obtain ⟨nc, hnc⟩ : ∃ nc, (s.M j).length = nc := ⟨_, rfl⟩
            have hcm : nc ≤ most := by rw [← hnc, ← HO.out.eqs.2.2]; exact HO.out.inn.good.short j (by rw [HEN.out]; exact hjn)
            have HNC := Lib.hid hnc
            have HT2 := Lib.hid (show len s.M (j + 1) + nm = t + nc by show len s.M j + (s.M j).length + nm = _; rw [hnc]; have := HT.out; omega)
            have hjs := Lib.hid (show j < s.n by rw [HEN.out]; exact hjn)
            have d1 := HO.out.box.d1
            have hdec : decide (most < nc) = false := decide_eq_false (by omega)
            clear hnc
            go_wp2_with fail
            refine (cache_yes wr HO.out.inn.pool hjs.out HNC.out (by omega)).mono ?_
            rintro e w10 ⟨rfl, r10, t10⟩
            have O10 := Lib.hid (HO.out.new t10)
            clear r10 t10 d1
            have d1 := O10.out.box.d1
            go_wp2_with fail
            refine (cache_yes w10 O10.out.inn.pool hjs.out HNC.out (by omega)).mono ?_
            rintro e w11 ⟨rfl, r11, t11⟩
            have O11 := Lib.hid (O10.out.new t11)
            clear r11 t11 d1 O10 HO
            go_wp2_with fail
            go_roundw
            case rel => exact ⟨j + 1, t + nc, by omega, by go_num, by go_num, HT2, O11⟩
            case measure => simp [intOf]; omega
          · have HSUM := Lib.hid (show t + z.toNat = s.fresh by
              have h1 := HZ.out
              have h2 := HT.out
              have h3 : s.len = len s.M s.n + (s.M s.n).length := rfl
              have h4 := HO.out.inn.good.len
              have hjn' : j = s.n := by rw [HEN.out]; omega
              rw [hjn', ← HNM.out] at h2
              unfold cnt at h1
              omega)
            have hfr := HO.out.inn.good.fresh
            have hfs : s.fresh ≤ size := by rw [← HO.out.eqs.2.1]; exact hfr
            have wsum : IntKind.i64.wrap ((t : Int) + z) = (s.fresh : Int) := by
              rw [IntWalk.i64_in _ (by omega)]
              have := HSUM.out
              omega
            have hdec : decide (size < s.fresh) = false := decide_eq_false (by omega)
            have d0 := HO.out.box.d0
            clear hfr hz1 hz2
            go_wp2_with fail
            go_quiet ((first
              | (go_at_call 12; exact Calls.quiet_of (count_at' _ (HO.out.drewN _).inn.pool HO.out.inn.good HZ.out))
              | (go_at_call 13; exact Calls.quiet_of_same ((fresh_any _ (HO.out.drewN _).inn.pool).mono fun _ _ ⟨a, b⟩ => ⟨a, b.symm⟩))))
            go_wp2_with fail
            go_roundw
            case rel => exact ⟨k + 1, z, s, R, by omega, rfl, by go_num, HZ, Lib.hid (HO.out.drewN nq)⟩
            case measure => simp [intOf]; omega
    · go_wp2_with fail
      go_ret
      exact ⟨rfl, HO.out.inn.t⟩

end Go.Proofs.Ytmjenbkhmhpleaa
