/- The walk of BenchRuns. -/
import Derived.Test.YtkgjibglnnagdaaRefB
namespace Go.Proofs.Ytkgjibglnnagdaa
open Go.RowKit
set_option linter.unusedVariables false

/-- What is done, as a slice of structs of three integers and a bool. -/
def Acts (w : World) (ao : Option Addr) (A : List (Int × Int × Int × Bool)) : Prop :=
  ∀ j, j < A.length → ∃ a, ao = some a ∧ w.cell? (a.add (j * 4)) = some (.int .i64 (A.getD j (0, 0, 0, false)).1) ∧ w.cell? ((a.add (j * 4)).add 1) = some (.int .i64 (A.getD j (0, 0, 0, false)).2.1) ∧ w.cell? ((a.add (j * 4)).add 2) = some (.int .i64 (A.getD j (0, 0, 0, false)).2.2.1) ∧ w.cell? ((a.add (j * 4)).add 3) = some (.bool (A.getD j (0, 0, 0, false)).2.2.2)
theorem Acts.turn {w w' : World} {S : Nat → Prop} {ao : Option Addr} {A : List (Int × Int × Int × Bool)} (h : Acts w ao A) (t : Turn S w w') (hs : ∀ ad, ao = some ad → ¬ S ad.block) : Acts w' ao A := by
  intro j hj
  obtain ⟨ad, e, h1, h2, h3, h4⟩ := h j hj
  refine ⟨ad, e, t.cell ?_ h1, t.cell ?_ h2, t.cell ?_ h3, t.cell ?_ h4⟩
  · rw [block_add]; exact hs ad e
  · rw [block_add, block_add]; exact hs ad e
  · rw [block_add, block_add]; exact hs ad e
  · rw [block_add, block_add]; exact hs ad e

/-- Where the document's lists may lie: beside the bench's blocks. -/
def Dl (wx : World) (p : Nat) (v : Value) (i : Nat) : Prop := i < wx.heap.size ∧ ¬ QB p v i
structure Ru (w0 wx : World) (p : Nat) (v : Value) (L : List One) (bo : Option Addr) (c n : Nat) (M : List One) : Prop where
  here : IsB wx w0.heap.size p v L
  t : Turn (fun _ => False) w0 wx
  rs : RS wx bo c n M (Dl wx p v)
section
variable {w0 wx w' : World} {p c n c' n' : Nat} {v v' : Value} {L L' M M' : List One} {bo bo' : Option Addr}
theorem Ru.new (h : Ru w0 wx p v L bo c n M) (t : Turn (fun _ => False) wx w') : Ru w0 w' p v L bo c n M :=
  ⟨h.here.new t, h.t.trans t, (h.rs.new t).mono (fun i hi => ⟨Nat.lt_of_lt_of_le hi.1 t.size, hi.2⟩)⟩
theorem Ru.kept (h : Ru w0 wx p v L bo c n M) (k : Kept w0.heap.size p v L' wx w') : Ru w0 w' p v L' bo c n M :=
  ⟨k.1, h.t.and k.2 (fun i hi e => by have := (h.here.blocks e).1; omega), (h.rs.turn k.2 (fun i hi => hi.2)).mono (fun i hi => ⟨Nat.lt_of_lt_of_le hi.1 k.2.size, hi.2⟩)⟩
theorem Ru.doc (h : Ru w0 wx p v L bo c n M) (hr : RS w' bo' c' n' M' (Dn (Dl wx p v) wx w')) (t : Turn (fun _ => False) wx w') : Ru w0 w' p v L bo' c' n' M' :=
  ⟨h.here.new t, h.t.trans t, hr.mono (fun i hi => by
    have hs := t.size
    rcases hi with h1 | h1
    · exact ⟨Nat.lt_of_lt_of_le h1.1 hs, h1.2⟩
    · exact ⟨h1.2, fun e => by have := (h.here.blocks e).2; omega⟩)⟩
end
theorem off_left (L : List One) : stV L (-1) = 2 := rfl
theorem off_right {L : List One} {n : Nat} (h : L.length = n) : tkB L n = false := by
  unfold tkB
  rw [none_has (by omega)]
  rfl
theorem tk_of {L : List One} {k : Nat} {x : One} (h : L[k]? = some x) : tkB L k = x.2 := by
  unfold tkB
  rw [at_nat, h]
  rfl


set_option maxRecDepth 100000 in
set_option maxHeartbeats 4000000 in
theorem lruns_near {k : Int} {ao : Option Addr} {al ac : Nat} {A : List (Int × Int × Int × Bool)} (w : World) (hk : -9223372036854775808 ≤ k ∧ k ≤ 9223372036854775807) (hg : k ≤ 40) (hA : Acts w ao A) (hAl : A.length = al) (hL : al ≤ 100) :
    Calls Try.prog 3 #[.int .i64 k, .slice ao al ac] w fun e w' => e = .returned (.bool true) ∧ Turn (fun _ => False) w w' := by
  have HA := Lib.hid hA
  have HAL := Lib.hid hAl
  clear hA hAl
  go_enter Try.func3, Try.ntmps3
  go_wp2_with fail
  refine (alive_any w).mono ?_
  rintro e w1 ⟨rfl, t1⟩
  have T1 := Lib.hid t1
  clear t1
  go_upto_region 5 with fail
  go_wp2_with fail
  refine (new_any w1 hk).mono ?_
  rintro e w2 ⟨p, v, rfl, h2, t2⟩
  obtain ⟨n, hn⟩ : ∃ n, newN k = n := ⟨_, rfl⟩
  rw [hn] at h2
  have HN := Lib.hid hn
  have H2 := Lib.hid (h2.less T1.out.size)
  have T2 := Lib.hid (T1.out.trans t2)
  clear h2 t2 hn
  go_wp2_with fail
  refine (rnew_any w2 hk HN.out).mono ?_
  rintro e w3 ⟨bo, c, rfl, h3, t3⟩
  have HU : Hid (Ru w w3 p v (allRun n) bo c n (allRun n)) := Lib.hid ⟨H2.out.new t3, T2.out.trans t3, h3.mono (fun i hi => ⟨hi.2, fun e => by have := (H2.out.blocks e).2; omega⟩)⟩
  have hn4 := HU.out.rs.len
  clear h3 t3 H2 T2 T1 HN
  go_wp2_with fail
  refine (len_any w3 HU.out.here HU.out.rs.nn).mono ?_
  rintro e w4 ⟨rfl, rfl⟩
  go_wp2_with fail
  go_loopw [6, 43] (fun s6 s43 wr => ∃ (j : Nat) (L : List One) (bo : Option Addr) (c : Nat), j ≤ al ∧ s43 = .int .i64 j ∧ s6 = .slice bo n c ∧ Hid (Ru w wr p v L bo c n L)) (fun _ s43 _ => al - (intOf s43).toNat)
  case atStart => exact ⟨0, _, _, _, Nat.zero_le _, rfl, rfl, HU⟩
  case round =>
    clear HU
    obtain ⟨j, L, bo, c, hj, rfl, rfl, HU⟩ := hrel
    by_cases hlt : j < al
    · obtain ⟨ad, hao, c0, c1, c2, c3⟩ := (HA.out.turn HU.out.t (fun _ _ => id)) j (by rw [HAL.out]; exact hlt)
      subst hao
      have d1 : wr.cell? ⟨(ad.add (j * 4)).block, (ad.add (j * 4)).off + 1, none⟩ = some (.int .i64 (A.getD j (0, 0, 0, false)).2.1) := c1
      have d2 : wr.cell? ⟨(ad.add (j * 4)).block, (ad.add (j * 4)).off + 2, none⟩ = some (.int .i64 (A.getD j (0, 0, 0, false)).2.2.1) := c2
      have d3 : wr.cell? ⟨(ad.add (j * 4)).block, (ad.add (j * 4)).off + 3, none⟩ = some (.bool (A.getD j (0, 0, 0, false)).2.2.2) := c3
      clear c1 c2 c3
      generalize (A.getD j (0, 0, 0, false)).1 = kd at c0
      generalize (A.getD j (0, 0, 0, false)).2.1 = gg at d1
      generalize (A.getD j (0, 0, 0, false)).2.2.1 = ss at d2
      generalize (A.getD j (0, 0, 0, false)).2.2.2 = tt at d3
      go_upto_region 12 with fail
      have U1 := Lib.hid (HU.out.new ((Turn.refl (fun _ => False) wr).alloc (.cells #[.int .i64 kd, .int .i64 gg, .int .i64 ss, .bool tt] 30)))
      have HBB := Lib.hid (show ¬ QB p v wr.heap.size from fun e => by have := (HU.out.here.blocks e).2; omega)
      have V0 : (wr.alloc (.cells #[.int .i64 kd, .int .i64 gg, .int .i64 ss, .bool tt] 30)).cell? ⟨wr.heap.size, 0, none⟩ = some (.int .i64 kd) := by simp [go_sem]
      have V1 : (wr.alloc (.cells #[.int .i64 kd, .int .i64 gg, .int .i64 ss, .bool tt] 30)).cell? ⟨wr.heap.size, 1, none⟩ = some (.int .i64 gg) := by simp [go_sem]
      have V2 : (wr.alloc (.cells #[.int .i64 kd, .int .i64 gg, .int .i64 ss, .bool tt] 30)).cell? ⟨wr.heap.size, 2, none⟩ = some (.int .i64 ss) := by simp [go_sem]
      have V3 : (wr.alloc (.cells #[.int .i64 kd, .int .i64 gg, .int .i64 ss, .bool tt] 30)).cell? ⟨wr.heap.size, 3, none⟩ = some (.bool tt) := by simp [go_sem]
      generalize wr.alloc (.cells #[.int .i64 kd, .int .i64 gg, .int .i64 ss, .bool tt] 30) = wv at U1 V0 V1 V2 V3 ⊢
      generalize wr.heap.size = BB at HBB V0 V1 V2 V3 ⊢
      clear c0 d1 d2 d3 HU
      go_upto_block 2 with fail
      go_cut [6, 9, 10] (fun s6 s9 s10 wx => ∃ (b : Bool) (L : List One) (bo : Option Addr) (c : Nat), s6 = .slice bo n c ∧ s9 = .bool b ∧ s10 = .bool b ∧ Hid (Ru w wx p v L bo c n L))
      case first =>
        by_cases k0 : kd = 0
        · have e0 : (kd == 0) = true := by simpa using k0
          clear k0
          obtain ⟨b, hb⟩ : ∃ b, doB parkF L gg = b := ⟨_, rfl⟩
          have HB := Lib.hid hb
          clear hb
          go_wp2_with fail
          refine (rpark_any wv U1.out.rs HB.out).mono ?_
          rintro e w8 ⟨bo', c', rfl, hr', t'⟩
          have UA := Lib.hid (U1.out.doc hr' t')
          have VB1 := t'.cell (p := ⟨BB, 1, none⟩) id V1
          have VB2 := t'.cell (p := ⟨BB, 2, none⟩) id V2
          have VB3 := t'.cell (p := ⟨BB, 3, none⟩) id V3
          clear hr' t' V0 V1 V2 V3 U1
          go_wp2_with fail
          refine (park_any w8 UA.out.here HB.out).mono ?_
          rintro e wb ⟨rfl, kb⟩
          have UB := Lib.hid (UA.out.kept kb)
          clear kb VB1 VB2 VB3 UA
          go_wp2_with fail
          go_meet
          exact ⟨b, _, bo', c', rfl, rfl, rfl, UB⟩
        · have e0 : (kd == 0) = false := by simpa using k0
          by_cases k1 : kd = 1
          · have e1 : (kd == 1) = true := by simpa using k1
            clear k0 k1
            obtain ⟨b, hb⟩ : ∃ b, doB readyF L gg = b := ⟨_, rfl⟩
            have HB := Lib.hid hb
            clear hb
            go_wp2_with fail
            refine (rready_any wv U1.out.rs HB.out).mono ?_
            rintro e w8 ⟨bo', c', rfl, hr', t'⟩
            have UA := Lib.hid (U1.out.doc hr' t')
            have VB1 := t'.cell (p := ⟨BB, 1, none⟩) id V1
            have VB2 := t'.cell (p := ⟨BB, 2, none⟩) id V2
            have VB3 := t'.cell (p := ⟨BB, 3, none⟩) id V3
            clear hr' t' V0 V1 V2 V3 U1
            go_wp2_with fail
            refine (ready_any w8 UA.out.here HB.out).mono ?_
            rintro e wb ⟨rfl, kb⟩
            have UB := Lib.hid (UA.out.kept kb)
            clear kb VB1 VB2 VB3 UA
            go_wp2_with fail
            go_meet
            exact ⟨b, _, bo', c', rfl, rfl, rfl, UB⟩
          · have e1 : (kd == 1) = false := by simpa using k1
            by_cases k2 : kd = 2
            · have e2 : (kd == 2) = true := by simpa using k2
              clear k0 k1 k2
              obtain ⟨b, hb⟩ : ∃ b, doB endF L gg = b := ⟨_, rfl⟩
              have HB := Lib.hid hb
              clear hb
              go_wp2_with fail
              refine (rend_any wv U1.out.rs HB.out).mono ?_
              rintro e w8 ⟨bo', c', rfl, hr', t'⟩
              have UA := Lib.hid (U1.out.doc hr' t')
              have VB1 := t'.cell (p := ⟨BB, 1, none⟩) id V1
              have VB2 := t'.cell (p := ⟨BB, 2, none⟩) id V2
              have VB3 := t'.cell (p := ⟨BB, 3, none⟩) id V3
              clear hr' t' V0 V1 V2 V3 U1
              go_wp2_with fail
              refine (end_any w8 UA.out.here HB.out).mono ?_
              rintro e wb ⟨rfl, kb⟩
              have UB := Lib.hid (UA.out.kept kb)
              clear kb VB1 VB2 VB3 UA
              go_wp2_with fail
              go_meet
              exact ⟨b, _, bo', c', rfl, rfl, rfl, UB⟩
            · have e2 : (kd == 2) = false := by simpa using k2
              by_cases k3 : kd = 3
              · have e3 : (kd == 3) = true := by simpa using k3
                clear k0 k1 k2 k3
                obtain ⟨b, hb⟩ : ∃ b, doB (setF ss tt) L gg = b := ⟨_, rfl⟩
                have HB := Lib.hid hb
                clear hb
                go_wp2_with fail
                refine (rset_any wv U1.out.rs HB.out).mono ?_
                rintro e w8 ⟨bo', c', rfl, hr', t'⟩
                have UA := Lib.hid (U1.out.doc hr' t')
                have VB1 := t'.cell (p := ⟨BB, 1, none⟩) id V1
                have VB2 := t'.cell (p := ⟨BB, 2, none⟩) id V2
                have VB3 := t'.cell (p := ⟨BB, 3, none⟩) id V3
                clear hr' t' V0 V1 V2 V3 U1
                go_wp2_with fail
                refine (set_any w8 UA.out.here HB.out).mono ?_
                rintro e wb ⟨rfl, kb⟩
                have UB := Lib.hid (UA.out.kept kb)
                clear kb VB1 VB2 VB3 UA
                go_wp2_with fail
                go_meet
                exact ⟨b, _, bo', c', rfl, rfl, rfl, UB⟩
              · have e3 : (kd == 3) = false := by simpa using k3
                clear k0 k1 k2 k3 V1 V2 V3
                go_wp2_with fail
                go_meet
                exact ⟨true, _, bo, c, rfl, rfl, rfl, U1⟩
      case rest =>
        clear U1 V0 V1 V2 V3 HBB
        obtain ⟨b, L, bo, c, rfl, rfl, rfl, U⟩ := hcut
        have HNN := Lib.hid U.out.rs.nn
        obtain ⟨nh, hnh⟩ : ∃ nh, (runK L n).length = nh := ⟨_, rfl⟩
        have hnn : nh ≤ n := by rw [← hnh]; exact runK_length L n
        have HNH := Lib.hid hnh
        clear hnh
        go_wp2_with fail
        refine (status_any wc U.out.here (off_left L)).mono ?_
        rintro e w4 ⟨rfl, rfl⟩
        go_wp2_with fail
        refine (token_any wc U.out.here (off_right HNN.out)).mono ?_
        rintro e w4 ⟨rfl, rfl⟩
        go_wp2_with fail
        refine (running_any wc U.out.here HNN.out HNH.out).mono ?_
        rintro e w7 ⟨b7, c7, rfl, _, i7, _, _, _, t7⟩
        have U7 := Lib.hid (U.out.new t7)
        have I7 := Lib.hid i7
        have HZ := Lib.hid (show (runK L 0).length = 0 from rfl)
        clear t7 i7 U
        go_wp2_with fail
        go_loopw [12, 127] (fun s12 s127 wr => ∃ (g m : Nat), g ≤ n ∧ m ≤ g ∧ s127 = .int .i64 g ∧ s12 = .int .i64 m ∧ Hid ((runK L g).length = m) ∧ Hid (Ru w wr p v L bo c n L) ∧ Hid (Ints .i64 wr b7 (runK L n))) (fun _ s127 _ => n - (intOf s127).toNat)
        case atStart => exact ⟨0, 0, Nat.zero_le _, Nat.le_refl _, rfl, rfl, HZ, U7, I7⟩
        case round =>
          clear U7 I7 HZ
          obtain ⟨g, m, hg, hm, rfl, rfl, HM, U, I⟩ := hrel
          by_cases hgn : g < n
          · obtain ⟨x, hx⟩ : ∃ x, L[g]? = some x := ⟨_, List.getElem?_eq_getElem (by rw [HNN.out]; exact hgn)⟩
            obtain ⟨ad, rfl, c0, c1, _⟩ := U.out.rs.cells hx
            have HST := Lib.hid (st_of hx)
            have HTK := Lib.hid (tk_of hx)
            obtain ⟨s, t⟩ := x
            dsimp only at c0 c1 HST HTK
            clear hx
            go_upto_region 32 with fail
            have TD := Lib.hid (((Turn.refl (fun _ => False) wr).alloc (.cells #[.int .i64 s, .bool t] 40)).drew)
            have UD := Lib.hid (U.out.new TD.out)
            have ID := Lib.hid (I.out.turn TD.out (fun _ _ => id))
            have V0 : (wr.alloc (.cells #[.int .i64 s, .bool t] 40)).drew.cell? ⟨wr.heap.size, 0, none⟩ = some (.int .i64 s) := by simp [go_sem]
            have V1 : (wr.alloc (.cells #[.int .i64 s, .bool t] 40)).drew.cell? ⟨wr.heap.size, 1, none⟩ = some (.bool t) := by simp [go_sem]
            refine stand_start (by kernel_rfl) 99 (fun w' => w'.cell? ⟨wr.heap.size, 0, none⟩ = some (.int .i64 s) ∧ w'.cell? ⟨wr.heap.size, 1, none⟩ = some (.bool t)) 99 (fun w' => True) ⟨V0, V1⟩ trivial ?_
            generalize (wr.alloc (.cells #[.int .i64 s, .bool t] 40)).drew = wd at UD ID V0 V1 ⊢
            clear c0 c1 U I TD
            generalize wr.heap.size = BS at V0 V1 ⊢
            refine stand_take (i := 0) (v := ?_) rfl (by kernel_rfl) (by kernel_rfl) (by kernel_rfl) (by rfl) (fun _ _ _ h => h) (by decide) (by decide) (by rfl) ?_ ?_
            rotate_left
            · (intro w; go_simp; try with_reducible rfl)
            dsimp only [List.set_cons_zero, List.set_cons_succ]
            refine stand_take (i := 1) (v := ?_) rfl (by kernel_rfl) (by kernel_rfl) (by kernel_rfl) (by rfl) (fun _ _ _ h => h) (by decide) (by decide) (by rfl) ?_ ?_
            rotate_left
            · (intro w; go_simp; try with_reducible rfl)
            dsimp only [List.set_cons_zero, List.set_cons_succ]
            refine stand_take (i := 3) (v := ?_) rfl (by kernel_rfl) (by kernel_rfl) (by kernel_rfl) (by rfl) (fun _ _ _ h => h) (by decide) (by decide) (by rfl) ?_ ?_
            rotate_left
            · (intro w; go_simp; try with_reducible rfl)
            dsimp only [List.set_cons_zero, List.set_cons_succ]
            refine stand_load3 (i := 4) (v := ?_) rfl (by kernel_rfl) (by kernel_rfl) (by kernel_rfl) (by rfl) (fun _ _ _ h => h) (by decide) (by decide) (by kernel_rfl) (by rfl) ?_ ?_
            rotate_left
            · (intro w hA; (try dsimp only at hA); go_simp; try with_reducible rfl)
            dsimp only [List.set_cons_zero, List.set_cons_succ]
            refine stand_step (i := 2) (by kernel_rfl) rfl (fun K hK => ?_)
            go_simp
            refine (status_any _ UD.out.here HST.out).mono ?_
            rintro e w4 ⟨rfl, rfl⟩
            refine hK.out _ _ (fun _ => ⟨V0, V1⟩) (fun _ => trivial) ?_
            clear hK K
            try simp only [put_laid, List.set_cons_zero, List.set_cons_succ]
            refine stand_take (i := 5) (v := ?_) rfl (by kernel_rfl) (by kernel_rfl) (by kernel_rfl) (by rfl) (fun _ _ _ h => h) (by decide) (by decide) (by rfl) ?_ ?_
            rotate_left
            · (intro w; go_simp; try with_reducible rfl)
            dsimp only [List.set_cons_zero, List.set_cons_succ]
            refine stand_take (i := 6) (v := ?_) rfl (by kernel_rfl) (by kernel_rfl) (by kernel_rfl) (by rfl) (fun _ _ _ h => h) (by decide) (by decide) (by rfl) ?_ ?_
            rotate_left
            · (intro w; go_simp; try with_reducible rfl)
            dsimp only [List.set_cons_zero, List.set_cons_succ]
            refine stand_take (i := 7) (v := ?_) rfl (by kernel_rfl) (by kernel_rfl) (by kernel_rfl) (by rfl) (fun _ _ _ h => h) (by decide) (by decide) (by rfl) ?_ ?_
            rotate_left
            · (intro w; go_simp; try with_reducible rfl)
            dsimp only [List.set_cons_zero, List.set_cons_succ]
            refine stand_take (i := 8) (v := ?_) rfl (by kernel_rfl) (by kernel_rfl) (by kernel_rfl) (by rfl) (fun _ _ _ h => h) (by decide) (by decide) (by rfl) ?_ ?_
            rotate_left
            · (intro w; go_simp; try with_reducible rfl)
            dsimp only [List.set_cons_zero, List.set_cons_succ]
            refine stand_take (i := 10) (v := ?_) rfl (by kernel_rfl) (by kernel_rfl) (by kernel_rfl) (by rfl) (fun _ _ _ h => h) (by decide) (by decide) (by rfl) ?_ ?_
            rotate_left
            · (intro w; go_simp; try with_reducible rfl)
            dsimp only [List.set_cons_zero, List.set_cons_succ]
            refine stand_load3 (i := 11) (v := ?_) rfl (by kernel_rfl) (by kernel_rfl) (by kernel_rfl) (by rfl) (fun _ _ _ h => h) (by decide) (by decide) (by kernel_rfl) (by rfl) ?_ ?_
            rotate_left
            · (intro w hA; (try dsimp only at hA); go_simp; try with_reducible rfl)
            dsimp only [List.set_cons_zero, List.set_cons_succ]
            refine stand_step (i := 9) (by kernel_rfl) rfl (fun K hK => ?_)
            go_simp
            refine (token_any _ UD.out.here HTK.out).mono ?_
            rintro e w4 ⟨rfl, rfl⟩
            refine hK.out _ _ (fun _ => ⟨V0, V1⟩) (fun _ => trivial) ?_
            clear hK K
            try simp only [put_laid, List.set_cons_zero, List.set_cons_succ]
            refine stand_take (i := 12) (v := ?_) rfl (by kernel_rfl) (by kernel_rfl) (by kernel_rfl) (by rfl) (fun _ _ _ h => h) (by decide) (by decide) (by rfl) ?_ ?_
            rotate_left
            · (intro w; go_simp; try with_reducible rfl)
            dsimp only [List.set_cons_zero, List.set_cons_succ]
            refine stand_take (i := 13) (v := ?_) rfl (by kernel_rfl) (by kernel_rfl) (by kernel_rfl) (by rfl) (fun _ _ _ h => h) (by decide) (by decide) (by rfl) ?_ ?_
            rotate_left
            · (intro w; go_simp; try with_reducible rfl)
            dsimp only [List.set_cons_zero, List.set_cons_succ]
            refine stand_done (by kernel_rfl) ?_
            by_cases hs : s = 0
            · subst hs
              obtain ⟨q1, q2, q3⟩ := runK_at hgn HST.out HM.out
              rw [HNH.out] at q1
              obtain ⟨ae, hae, ce⟩ := ID.out m (by rw [HNH.out]; exact q1)
              subst hae
              rw [q2] at ce
              have HQ := Lib.hid q3
              clear q2 q3
              go_wp2_with fail
              go_roundw
              case rel => exact ⟨g + 1, m + 1, by omega, by omega, by go_num, by go_num, HQ, UD, ID⟩
              case measure => simp [intOf]; omega
            · have hse : (s == 0) = false := by simpa using hs
              have HQ := Lib.hid (show (runK L (g + 1)).length = m by rw [← runK_no (by rw [HST.out]; exact hs)]; exact HM.out)
              clear hs
              go_wp2_with fail
              go_roundw
              case rel => exact ⟨g + 1, m, by omega, by omega, by go_num, rfl, HQ, UD, ID⟩
              case measure => simp [intOf]; omega
          · obtain rfl : m = nh := by
              have e1 : g = n := by omega
              rw [← HM.out, ← HNH.out, e1]
            go_wp2_with fail
            go_roundw
            case rel => exact ⟨j + 1, L, bo, c, by omega, by go_num, rfl, U⟩
            case measure => simp [intOf]; omega
    · go_wp2_with fail
      go_ret
      exact ⟨rfl, HU.out.t⟩
set_option maxRecDepth 100000 in
set_option maxHeartbeats 4000000 in
theorem lruns_far {k : Int} {ao : Option Addr} {al ac : Nat} {A : List (Int × Int × Int × Bool)} (w : World) (hk : -9223372036854775808 ≤ k ∧ k ≤ 9223372036854775807) (hg : 4096 < k) (hA : Acts w ao A) (hAl : A.length = al) (hL : al ≤ 100) :
    Calls Try.prog 3 #[.int .i64 k, .slice ao al ac] w fun e w' => e = .returned (.bool true) ∧ Turn (fun _ => False) w w' := by
  have HA := Lib.hid hA
  have HAL := Lib.hid hAl
  clear hA hAl
  go_enter Try.func3, Try.ntmps3
  go_wp2_with fail
  refine (alive_any w).mono ?_
  rintro e w1 ⟨rfl, t1⟩
  have T1 := Lib.hid t1
  clear t1
  go_upto_region 5 with fail
  go_wp2_with fail
  refine (new_any w1 hk).mono ?_
  rintro e w2 ⟨p, v, rfl, h2, t2⟩
  obtain ⟨n, hn⟩ : ∃ n, newN k = n := ⟨_, rfl⟩
  rw [hn] at h2
  have HN := Lib.hid hn
  have H2 := Lib.hid (h2.less T1.out.size)
  have T2 := Lib.hid (T1.out.trans t2)
  clear h2 t2 hn
  go_wp2_with fail
  refine (rnew_any w2 hk HN.out).mono ?_
  rintro e w3 ⟨bo, c, rfl, h3, t3⟩
  have HU : Hid (Ru w w3 p v (allRun n) bo c n (allRun n)) := Lib.hid ⟨H2.out.new t3, T2.out.trans t3, h3.mono (fun i hi => ⟨hi.2, fun e => by have := (H2.out.blocks e).2; omega⟩)⟩
  have hn4 := HU.out.rs.len
  clear h3 t3 H2 T2 T1 HN
  go_wp2_with fail
  refine (len_any w3 HU.out.here HU.out.rs.nn).mono ?_
  rintro e w4 ⟨rfl, rfl⟩
  go_wp2_with fail
  go_loopw [6, 43] (fun s6 s43 wr => ∃ (j : Nat) (L : List One) (bo : Option Addr) (c : Nat), j ≤ al ∧ s43 = .int .i64 j ∧ s6 = .slice bo n c ∧ Hid (Ru w wr p v L bo c n L)) (fun _ s43 _ => al - (intOf s43).toNat)
  case atStart => exact ⟨0, _, _, _, Nat.zero_le _, rfl, rfl, HU⟩
  case round =>
    clear HU
    obtain ⟨j, L, bo, c, hj, rfl, rfl, HU⟩ := hrel
    by_cases hlt : j < al
    · obtain ⟨ad, hao, c0, c1, c2, c3⟩ := (HA.out.turn HU.out.t (fun _ _ => id)) j (by rw [HAL.out]; exact hlt)
      subst hao
      have d1 : wr.cell? ⟨(ad.add (j * 4)).block, (ad.add (j * 4)).off + 1, none⟩ = some (.int .i64 (A.getD j (0, 0, 0, false)).2.1) := c1
      have d2 : wr.cell? ⟨(ad.add (j * 4)).block, (ad.add (j * 4)).off + 2, none⟩ = some (.int .i64 (A.getD j (0, 0, 0, false)).2.2.1) := c2
      have d3 : wr.cell? ⟨(ad.add (j * 4)).block, (ad.add (j * 4)).off + 3, none⟩ = some (.bool (A.getD j (0, 0, 0, false)).2.2.2) := c3
      clear c1 c2 c3
      generalize (A.getD j (0, 0, 0, false)).1 = kd at c0
      generalize (A.getD j (0, 0, 0, false)).2.1 = gg at d1
      generalize (A.getD j (0, 0, 0, false)).2.2.1 = ss at d2
      generalize (A.getD j (0, 0, 0, false)).2.2.2 = tt at d3
      go_upto_region 12 with fail
      have U1 := Lib.hid (HU.out.new ((Turn.refl (fun _ => False) wr).alloc (.cells #[.int .i64 kd, .int .i64 gg, .int .i64 ss, .bool tt] 30)))
      have HBB := Lib.hid (show ¬ QB p v wr.heap.size from fun e => by have := (HU.out.here.blocks e).2; omega)
      have V0 : (wr.alloc (.cells #[.int .i64 kd, .int .i64 gg, .int .i64 ss, .bool tt] 30)).cell? ⟨wr.heap.size, 0, none⟩ = some (.int .i64 kd) := by simp [go_sem]
      have V1 : (wr.alloc (.cells #[.int .i64 kd, .int .i64 gg, .int .i64 ss, .bool tt] 30)).cell? ⟨wr.heap.size, 1, none⟩ = some (.int .i64 gg) := by simp [go_sem]
      have V2 : (wr.alloc (.cells #[.int .i64 kd, .int .i64 gg, .int .i64 ss, .bool tt] 30)).cell? ⟨wr.heap.size, 2, none⟩ = some (.int .i64 ss) := by simp [go_sem]
      have V3 : (wr.alloc (.cells #[.int .i64 kd, .int .i64 gg, .int .i64 ss, .bool tt] 30)).cell? ⟨wr.heap.size, 3, none⟩ = some (.bool tt) := by simp [go_sem]
      generalize wr.alloc (.cells #[.int .i64 kd, .int .i64 gg, .int .i64 ss, .bool tt] 30) = wv at U1 V0 V1 V2 V3 ⊢
      generalize wr.heap.size = BB at HBB V0 V1 V2 V3 ⊢
      clear c0 d1 d2 d3 HU
      go_upto_block 2 with fail
      go_cut [6, 9, 10] (fun s6 s9 s10 wx => ∃ (b : Bool) (L : List One) (bo : Option Addr) (c : Nat), s6 = .slice bo n c ∧ s9 = .bool b ∧ s10 = .bool b ∧ Hid (Ru w wx p v L bo c n L))
      case first =>
        by_cases k0 : kd = 0
        · have e0 : (kd == 0) = true := by simpa using k0
          clear k0
          obtain ⟨b, hb⟩ : ∃ b, doB parkF L gg = b := ⟨_, rfl⟩
          have HB := Lib.hid hb
          clear hb
          go_wp2_with fail
          refine (rpark_any wv U1.out.rs HB.out).mono ?_
          rintro e w8 ⟨bo', c', rfl, hr', t'⟩
          have UA := Lib.hid (U1.out.doc hr' t')
          have VB1 := t'.cell (p := ⟨BB, 1, none⟩) id V1
          have VB2 := t'.cell (p := ⟨BB, 2, none⟩) id V2
          have VB3 := t'.cell (p := ⟨BB, 3, none⟩) id V3
          clear hr' t' V0 V1 V2 V3 U1
          go_wp2_with fail
          refine (park_any w8 UA.out.here HB.out).mono ?_
          rintro e wb ⟨rfl, kb⟩
          have UB := Lib.hid (UA.out.kept kb)
          clear kb VB1 VB2 VB3 UA
          go_wp2_with fail
          go_meet
          exact ⟨b, _, bo', c', rfl, rfl, rfl, UB⟩
        · have e0 : (kd == 0) = false := by simpa using k0
          by_cases k1 : kd = 1
          · have e1 : (kd == 1) = true := by simpa using k1
            clear k0 k1
            obtain ⟨b, hb⟩ : ∃ b, doB readyF L gg = b := ⟨_, rfl⟩
            have HB := Lib.hid hb
            clear hb
            go_wp2_with fail
            refine (rready_any wv U1.out.rs HB.out).mono ?_
            rintro e w8 ⟨bo', c', rfl, hr', t'⟩
            have UA := Lib.hid (U1.out.doc hr' t')
            have VB1 := t'.cell (p := ⟨BB, 1, none⟩) id V1
            have VB2 := t'.cell (p := ⟨BB, 2, none⟩) id V2
            have VB3 := t'.cell (p := ⟨BB, 3, none⟩) id V3
            clear hr' t' V0 V1 V2 V3 U1
            go_wp2_with fail
            refine (ready_any w8 UA.out.here HB.out).mono ?_
            rintro e wb ⟨rfl, kb⟩
            have UB := Lib.hid (UA.out.kept kb)
            clear kb VB1 VB2 VB3 UA
            go_wp2_with fail
            go_meet
            exact ⟨b, _, bo', c', rfl, rfl, rfl, UB⟩
          · have e1 : (kd == 1) = false := by simpa using k1
            by_cases k2 : kd = 2
            · have e2 : (kd == 2) = true := by simpa using k2
              clear k0 k1 k2
              obtain ⟨b, hb⟩ : ∃ b, doB endF L gg = b := ⟨_, rfl⟩
              have HB := Lib.hid hb
              clear hb
              go_wp2_with fail
              refine (rend_any wv U1.out.rs HB.out).mono ?_
              rintro e w8 ⟨bo', c', rfl, hr', t'⟩
              have UA := Lib.hid (U1.out.doc hr' t')
              have VB1 := t'.cell (p := ⟨BB, 1, none⟩) id V1
              have VB2 := t'.cell (p := ⟨BB, 2, none⟩) id V2
              have VB3 := t'.cell (p := ⟨BB, 3, none⟩) id V3
              clear hr' t' V0 V1 V2 V3 U1
              go_wp2_with fail
              refine (end_any w8 UA.out.here HB.out).mono ?_
              rintro e wb ⟨rfl, kb⟩
              have UB := Lib.hid (UA.out.kept kb)
              clear kb VB1 VB2 VB3 UA
              go_wp2_with fail
              go_meet
              exact ⟨b, _, bo', c', rfl, rfl, rfl, UB⟩
            · have e2 : (kd == 2) = false := by simpa using k2
              by_cases k3 : kd = 3
              · have e3 : (kd == 3) = true := by simpa using k3
                clear k0 k1 k2 k3
                obtain ⟨b, hb⟩ : ∃ b, doB (setF ss tt) L gg = b := ⟨_, rfl⟩
                have HB := Lib.hid hb
                clear hb
                go_wp2_with fail
                refine (rset_any wv U1.out.rs HB.out).mono ?_
                rintro e w8 ⟨bo', c', rfl, hr', t'⟩
                have UA := Lib.hid (U1.out.doc hr' t')
                have VB1 := t'.cell (p := ⟨BB, 1, none⟩) id V1
                have VB2 := t'.cell (p := ⟨BB, 2, none⟩) id V2
                have VB3 := t'.cell (p := ⟨BB, 3, none⟩) id V3
                clear hr' t' V0 V1 V2 V3 U1
                go_wp2_with fail
                refine (set_any w8 UA.out.here HB.out).mono ?_
                rintro e wb ⟨rfl, kb⟩
                have UB := Lib.hid (UA.out.kept kb)
                clear kb VB1 VB2 VB3 UA
                go_wp2_with fail
                go_meet
                exact ⟨b, _, bo', c', rfl, rfl, rfl, UB⟩
              · have e3 : (kd == 3) = false := by simpa using k3
                clear k0 k1 k2 k3 V1 V2 V3
                go_wp2_with fail
                go_meet
                exact ⟨true, _, bo, c, rfl, rfl, rfl, U1⟩
      case rest =>
        clear U1 V0 V1 V2 V3 HBB
        obtain ⟨b, L, bo, c, rfl, rfl, rfl, U⟩ := hcut
        have HNN := Lib.hid U.out.rs.nn
        obtain ⟨nh, hnh⟩ : ∃ nh, (runK L n).length = nh := ⟨_, rfl⟩
        have hnn : nh ≤ n := by rw [← hnh]; exact runK_length L n
        have HNH := Lib.hid hnh
        clear hnh
        go_wp2_with fail
        refine (status_any wc U.out.here (off_left L)).mono ?_
        rintro e w4 ⟨rfl, rfl⟩
        go_wp2_with fail
        refine (token_any wc U.out.here (off_right HNN.out)).mono ?_
        rintro e w4 ⟨rfl, rfl⟩
        go_wp2_with fail
        refine (running_any wc U.out.here HNN.out HNH.out).mono ?_
        rintro e w7 ⟨b7, c7, rfl, _, i7, _, _, _, t7⟩
        have U7 := Lib.hid (U.out.new t7)
        have I7 := Lib.hid i7
        have HZ := Lib.hid (show (runK L 0).length = 0 from rfl)
        clear t7 i7 U
        go_wp2_with fail
        go_loopw [12, 127] (fun s12 s127 wr => ∃ (g m : Nat), g ≤ n ∧ m ≤ g ∧ s127 = .int .i64 g ∧ s12 = .int .i64 m ∧ Hid ((runK L g).length = m) ∧ Hid (Ru w wr p v L bo c n L) ∧ Hid (Ints .i64 wr b7 (runK L n))) (fun _ s127 _ => n - (intOf s127).toNat)
        case atStart => exact ⟨0, 0, Nat.zero_le _, Nat.le_refl _, rfl, rfl, HZ, U7, I7⟩
        case round =>
          clear U7 I7 HZ
          obtain ⟨g, m, hg, hm, rfl, rfl, HM, U, I⟩ := hrel
          by_cases hgn : g < n
          · obtain ⟨x, hx⟩ : ∃ x, L[g]? = some x := ⟨_, List.getElem?_eq_getElem (by rw [HNN.out]; exact hgn)⟩
            obtain ⟨ad, rfl, c0, c1, _⟩ := U.out.rs.cells hx
            have HST := Lib.hid (st_of hx)
            have HTK := Lib.hid (tk_of hx)
            obtain ⟨s, t⟩ := x
            dsimp only at c0 c1 HST HTK
            clear hx
            go_upto_region 32 with fail
            have TD := Lib.hid (((Turn.refl (fun _ => False) wr).alloc (.cells #[.int .i64 s, .bool t] 40)).drew)
            have UD := Lib.hid (U.out.new TD.out)
            have ID := Lib.hid (I.out.turn TD.out (fun _ _ => id))
            have V0 : (wr.alloc (.cells #[.int .i64 s, .bool t] 40)).drew.cell? ⟨wr.heap.size, 0, none⟩ = some (.int .i64 s) := by simp [go_sem]
            have V1 : (wr.alloc (.cells #[.int .i64 s, .bool t] 40)).drew.cell? ⟨wr.heap.size, 1, none⟩ = some (.bool t) := by simp [go_sem]
            refine stand_start (by kernel_rfl) 99 (fun w' => w'.cell? ⟨wr.heap.size, 0, none⟩ = some (.int .i64 s) ∧ w'.cell? ⟨wr.heap.size, 1, none⟩ = some (.bool t)) 99 (fun w' => True) ⟨V0, V1⟩ trivial ?_
            generalize (wr.alloc (.cells #[.int .i64 s, .bool t] 40)).drew = wd at UD ID V0 V1 ⊢
            clear c0 c1 U I TD
            generalize wr.heap.size = BS at V0 V1 ⊢
            refine stand_take (i := 0) (v := ?_) rfl (by kernel_rfl) (by kernel_rfl) (by kernel_rfl) (by rfl) (fun _ _ _ h => h) (by decide) (by decide) (by rfl) ?_ ?_
            rotate_left
            · (intro w; go_simp; try with_reducible rfl)
            dsimp only [List.set_cons_zero, List.set_cons_succ]
            refine stand_take (i := 1) (v := ?_) rfl (by kernel_rfl) (by kernel_rfl) (by kernel_rfl) (by rfl) (fun _ _ _ h => h) (by decide) (by decide) (by rfl) ?_ ?_
            rotate_left
            · (intro w; go_simp; try with_reducible rfl)
            dsimp only [List.set_cons_zero, List.set_cons_succ]
            refine stand_take (i := 3) (v := ?_) rfl (by kernel_rfl) (by kernel_rfl) (by kernel_rfl) (by rfl) (fun _ _ _ h => h) (by decide) (by decide) (by rfl) ?_ ?_
            rotate_left
            · (intro w; go_simp; try with_reducible rfl)
            dsimp only [List.set_cons_zero, List.set_cons_succ]
            refine stand_load3 (i := 4) (v := ?_) rfl (by kernel_rfl) (by kernel_rfl) (by kernel_rfl) (by rfl) (fun _ _ _ h => h) (by decide) (by decide) (by kernel_rfl) (by rfl) ?_ ?_
            rotate_left
            · (intro w hA; (try dsimp only at hA); go_simp; try with_reducible rfl)
            dsimp only [List.set_cons_zero, List.set_cons_succ]
            refine stand_step (i := 2) (by kernel_rfl) rfl (fun K hK => ?_)
            go_simp
            refine (status_any _ UD.out.here HST.out).mono ?_
            rintro e w4 ⟨rfl, rfl⟩
            refine hK.out _ _ (fun _ => ⟨V0, V1⟩) (fun _ => trivial) ?_
            clear hK K
            try simp only [put_laid, List.set_cons_zero, List.set_cons_succ]
            refine stand_take (i := 5) (v := ?_) rfl (by kernel_rfl) (by kernel_rfl) (by kernel_rfl) (by rfl) (fun _ _ _ h => h) (by decide) (by decide) (by rfl) ?_ ?_
            rotate_left
            · (intro w; go_simp; try with_reducible rfl)
            dsimp only [List.set_cons_zero, List.set_cons_succ]
            refine stand_take (i := 6) (v := ?_) rfl (by kernel_rfl) (by kernel_rfl) (by kernel_rfl) (by rfl) (fun _ _ _ h => h) (by decide) (by decide) (by rfl) ?_ ?_
            rotate_left
            · (intro w; go_simp; try with_reducible rfl)
            dsimp only [List.set_cons_zero, List.set_cons_succ]
            refine stand_take (i := 7) (v := ?_) rfl (by kernel_rfl) (by kernel_rfl) (by kernel_rfl) (by rfl) (fun _ _ _ h => h) (by decide) (by decide) (by rfl) ?_ ?_
            rotate_left
            · (intro w; go_simp; try with_reducible rfl)
            dsimp only [List.set_cons_zero, List.set_cons_succ]
            refine stand_take (i := 8) (v := ?_) rfl (by kernel_rfl) (by kernel_rfl) (by kernel_rfl) (by rfl) (fun _ _ _ h => h) (by decide) (by decide) (by rfl) ?_ ?_
            rotate_left
            · (intro w; go_simp; try with_reducible rfl)
            dsimp only [List.set_cons_zero, List.set_cons_succ]
            refine stand_take (i := 10) (v := ?_) rfl (by kernel_rfl) (by kernel_rfl) (by kernel_rfl) (by rfl) (fun _ _ _ h => h) (by decide) (by decide) (by rfl) ?_ ?_
            rotate_left
            · (intro w; go_simp; try with_reducible rfl)
            dsimp only [List.set_cons_zero, List.set_cons_succ]
            refine stand_load3 (i := 11) (v := ?_) rfl (by kernel_rfl) (by kernel_rfl) (by kernel_rfl) (by rfl) (fun _ _ _ h => h) (by decide) (by decide) (by kernel_rfl) (by rfl) ?_ ?_
            rotate_left
            · (intro w hA; (try dsimp only at hA); go_simp; try with_reducible rfl)
            dsimp only [List.set_cons_zero, List.set_cons_succ]
            refine stand_step (i := 9) (by kernel_rfl) rfl (fun K hK => ?_)
            go_simp
            refine (token_any _ UD.out.here HTK.out).mono ?_
            rintro e w4 ⟨rfl, rfl⟩
            refine hK.out _ _ (fun _ => ⟨V0, V1⟩) (fun _ => trivial) ?_
            clear hK K
            try simp only [put_laid, List.set_cons_zero, List.set_cons_succ]
            refine stand_take (i := 12) (v := ?_) rfl (by kernel_rfl) (by kernel_rfl) (by kernel_rfl) (by rfl) (fun _ _ _ h => h) (by decide) (by decide) (by rfl) ?_ ?_
            rotate_left
            · (intro w; go_simp; try with_reducible rfl)
            dsimp only [List.set_cons_zero, List.set_cons_succ]
            refine stand_take (i := 13) (v := ?_) rfl (by kernel_rfl) (by kernel_rfl) (by kernel_rfl) (by rfl) (fun _ _ _ h => h) (by decide) (by decide) (by rfl) ?_ ?_
            rotate_left
            · (intro w; go_simp; try with_reducible rfl)
            dsimp only [List.set_cons_zero, List.set_cons_succ]
            refine stand_done (by kernel_rfl) ?_
            by_cases hs : s = 0
            · subst hs
              obtain ⟨q1, q2, q3⟩ := runK_at hgn HST.out HM.out
              rw [HNH.out] at q1
              obtain ⟨ae, hae, ce⟩ := ID.out m (by rw [HNH.out]; exact q1)
              subst hae
              rw [q2] at ce
              have HQ := Lib.hid q3
              clear q2 q3
              go_wp2_with fail
              go_roundw
              case rel => exact ⟨g + 1, m + 1, by omega, by omega, by go_num, by go_num, HQ, UD, ID⟩
              case measure => simp [intOf]; omega
            · have hse : (s == 0) = false := by simpa using hs
              have HQ := Lib.hid (show (runK L (g + 1)).length = m by rw [← runK_no (by rw [HST.out]; exact hs)]; exact HM.out)
              clear hs
              go_wp2_with fail
              go_roundw
              case rel => exact ⟨g + 1, m, by omega, by omega, by go_num, rfl, HQ, UD, ID⟩
              case measure => simp [intOf]; omega
          · obtain rfl : m = nh := by
              have e1 : g = n := by omega
              rw [← HM.out, ← HNH.out, e1]
            go_wp2_with fail
            go_roundw
            case rel => exact ⟨j + 1, L, bo, c, by omega, by go_num, rfl, U⟩
            case measure => simp [intOf]; omega
    · go_wp2_with fail
      go_ret
      exact ⟨rfl, HU.out.t⟩

set_option maxRecDepth 100000 in
theorem lruns_out {k : Int} {ao : Option Addr} {al ac : Nat} (w : World) (hL : al ≤ maxLen) (h : 100 < al ∨ (40 < k ∧ k ≤ 4096)) :
    Calls Try.prog 3 #[.int .i64 k, .slice ao al ac] w fun e w' => e = .returned (.bool true) ∧ Turn (fun _ => False) w w' := by
  unfold maxLen at hL
  by_cases h1 : 100 < al
  · clear h
    go_enter Try.func3, Try.ntmps3
    go_wp2_with fail
    refine (alive_any w).mono ?_
    rintro e w1 ⟨rfl, t1⟩
    have T1 := Lib.hid t1
    clear t1
    go_wp2_with fail
    go_ret
    exact ⟨rfl, T1.out⟩
  · obtain ⟨h2, h3⟩ : 40 < k ∧ k ≤ 4096 := by omega
    have h4 : al ≤ 100 := by omega
    clear h h1 hL
    go_enter Try.func3, Try.ntmps3
    go_wp2_with fail
    refine (alive_any w).mono ?_
    rintro e w1 ⟨rfl, t1⟩
    have T1 := Lib.hid t1
    clear t1
    go_wp2_with fail
    go_ret
    exact ⟨rfl, T1.out⟩

end Go.Proofs.Ytkgjibglnnagdaa
