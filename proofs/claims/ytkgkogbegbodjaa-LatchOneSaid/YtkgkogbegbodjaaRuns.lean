/- The walk of LatchRuns. -/
import Derived.Test.YtkgkogbegbodjaaRef
namespace Go.Proofs.Ytkgkogbegbodjaa
open Go.RowKit
set_option linter.unusedVariables false

/-- What is done, as a slice of structs of three integers. -/
def Acts (w : World) (ao : Option Addr) (A : List (Int × Int × Int)) : Prop :=
  ∀ j, j < A.length → ∃ a, ao = some a ∧ w.cell? (a.add (j * 3)) = some (.int .i64 (A.getD j (0, 0, 0)).1) ∧ w.cell? ((a.add (j * 3)).add 1) = some (.int .i64 (A.getD j (0, 0, 0)).2.1) ∧ w.cell? ((a.add (j * 3)).add 2) = some (.int .i64 (A.getD j (0, 0, 0)).2.2)
theorem Acts.turn {w w' : World} {S : Nat → Prop} {ao : Option Addr} {A : List (Int × Int × Int)} (h : Acts w ao A) (t : Turn S w w') (hs : ∀ ad, ao = some ad → ¬ S ad.block) : Acts w' ao A := by
  intro j hj
  obtain ⟨ad, e, h1, h2, h3⟩ := h j hj
  refine ⟨ad, e, t.cell ?_ h1, t.cell ?_ h2, t.cell ?_ h3⟩
  · rw [block_add]; exact hs ad e
  · rw [block_add, block_add]; exact hs ad e
  · rw [block_add, block_add]; exact hs ad e

/-- Where the document's lists may lie: beside the locks' blocks. -/
def Dl (wx : World) (p : Nat) (v : Value) (i : Nat) : Prop := i < wx.heap.size ∧ ¬ QL p v i
structure Ru (w0 wx : World) (p : Nat) (v : Value) (L : List Int) (bo : Option Addr) (c n : Nat) (M : List Int) : Prop where
  here : IsL wx w0.heap.size p v L
  t : Turn (fun _ => False) w0 wx
  rs : RS wx bo c n M (Dl wx p v)
section
variable {w0 wx w' : World} {p c n c' n' : Nat} {v v' : Value} {L L' M M' : List Int} {bo bo' : Option Addr}
theorem Ru.new (h : Ru w0 wx p v L bo c n M) (t : Turn (fun _ => False) wx w') : Ru w0 w' p v L bo c n M :=
  ⟨h.here.new t, h.t.trans t, (h.rs.new t).mono (fun i hi => ⟨Nat.lt_of_lt_of_le hi.1 t.size, hi.2⟩)⟩
theorem Ru.kept (h : Ru w0 wx p v L bo c n M) (k : Kept w0.heap.size p v L' wx w') : Ru w0 w' p v L' bo c n M :=
  ⟨k.1, h.t.and k.2 (fun i hi e => by have := (h.here.blocks e).1; omega), (h.rs.turn k.2 (fun i hi => hi.2)).mono (fun i hi => ⟨Nat.lt_of_lt_of_le hi.1 k.2.size, hi.2⟩)⟩
theorem Ru.grown (h : Ru w0 wx p v L bo c n M) (k : Grown w0.heap.size p v L' wx w' v') : Ru w0 w' p v' L' bo c n M :=
  ⟨k.1, h.t.and k.2.1 (fun i hi e => by have := (h.here.blocks e).1; omega), (h.rs.turn k.2.1 (fun i hi => hi.2)).mono (fun i hi => ⟨Nat.lt_of_lt_of_le hi.1 k.2.1.size, fun e => by
    rcases k.2.2 i e with e | e
    · exact hi.2 e
    · have := hi.1; omega⟩)⟩
theorem Ru.doc (h : Ru w0 wx p v L bo c n M) (hr : RS w' bo' c' n' M' (Dn (Dl wx p v) wx w')) (t : Turn (fun _ => False) wx w') : Ru w0 w' p v L bo' c' n' M' :=
  ⟨h.here.new t, h.t.trans t, hr.mono (fun i hi => by
    have hs := t.size
    rcases hi with h1 | h1
    · exact ⟨Nat.lt_of_lt_of_le h1.1 hs, h1.2⟩
    · exact ⟨h1.2, fun e => by have := (h.here.blocks e).2; omega⟩)⟩
theorem Ru.doc_new (h : Ru w0 wx p v L bo c n M) (hr : RS w' bo' c' n' M' (fun i => wx.heap.size ≤ i ∧ i < w'.heap.size)) (t : Turn (fun _ => False) wx w') : Ru w0 w' p v L bo' c' n' M' :=
  h.doc (hr.mono (fun _ => Or.inr)) t
end

set_option maxRecDepth 100000 in
set_option maxHeartbeats 4000000 in
theorem lruns_near {k : Int} {ao : Option Addr} {al ac : Nat} {A : List (Int × Int × Int)} (w : World) (hk : -9223372036854775808 ≤ k ∧ k ≤ 9223372036854775807) (hg : k ≤ 40) (hA : Acts w ao A) (hAl : A.length = al) (hL : al ≤ 100) :
    Calls Try.prog 3 #[.int .i64 k, .slice ao al ac] w fun e w' => e = .returned (.bool true) ∧ Turn (fun _ => False) w w' := by
  have HA := Lib.hid hA
  have HAL := Lib.hid hAl
  clear hA hAl
  go_enter Try.func3, Try.ntmps3
  go_wp2_with fail
  refine (alive_any w).mono ?_
  rintro e w1 ⟨rfl, t1⟩
  have T1 := Lib.hid t1
  clear t1
  go_upto_region 5 with fail
  go_wp2_with fail
  refine (new_any w1 hk).mono ?_
  rintro e w2 ⟨p, v, rfl, h2, t2⟩
  obtain ⟨n, hn⟩ : ∃ n, newN k = n := ⟨_, rfl⟩
  rw [hn] at h2
  have HN := Lib.hid hn
  have H2 := Lib.hid (h2.less T1.out.size)
  have T2 := Lib.hid (T1.out.trans t2)
  clear h2 t2 hn
  go_wp2_with fail
  refine (rnew_any w2 hk HN.out).mono ?_
  rintro e w3 ⟨bo, c, rfl, h3, t3⟩
  have HU : Hid (Ru w w3 p v (List.replicate n (-1)) bo c n (List.replicate n (-1))) := Lib.hid ⟨H2.out.new t3, T2.out.trans t3, h3.mono (fun i hi => ⟨hi.2, fun e => by have := (H2.out.blocks e).2; omega⟩)⟩
  clear h3 t3 H2 T2 T1 HN
  go_wp2_with fail
  go_loopw [6, 33] (fun s6 s33 wr => ∃ (j : Nat) (v : Value) (L : List Int) (bo : Option Addr) (c n : Nat), j ≤ al ∧ s33 = .int .i64 j ∧ s6 = .slice bo n c ∧ Hid (Ru w wr p v L bo c n L)) (fun _ s33 _ => al - (intOf s33).toNat)
  case atStart => exact ⟨0, _, _, _, _, _, Nat.zero_le _, rfl, rfl, HU⟩
  case round =>
    clear HU
    obtain ⟨j, v, L, bo, c, n, hj, rfl, rfl, HU⟩ := hrel
    have hn4 := HU.out.rs.len
    by_cases hlt : j < al
    · obtain ⟨ad, hao, c0, c1, c2⟩ := (HA.out.turn HU.out.t (fun _ _ => id)) j (by rw [HAL.out]; exact hlt)
      subst hao
      have d1 : wr.cell? ⟨(ad.add (j * 3)).block, (ad.add (j * 3)).off + 1, none⟩ = some (.int .i64 (A.getD j (0, 0, 0)).2.1) := c1
      have d2 : wr.cell? ⟨(ad.add (j * 3)).block, (ad.add (j * 3)).off + 2, none⟩ = some (.int .i64 (A.getD j (0, 0, 0)).2.2) := c2
      clear c1 c2
      generalize (A.getD j (0, 0, 0)).1 = kd at c0
      generalize (A.getD j (0, 0, 0)).2.1 = gg at d1
      generalize (A.getD j (0, 0, 0)).2.2 = xx at d2
      go_upto_region 12 with fail
      have U1 := Lib.hid (HU.out.new ((Turn.refl (fun _ => False) wr).alloc (.cells #[.int .i64 kd, .int .i64 gg, .int .i64 xx] 29)))
      have HBB := Lib.hid (show ¬ QL p v wr.heap.size from fun e => by have := (HU.out.here.blocks e).2; omega)
      have V0 : (wr.alloc (.cells #[.int .i64 kd, .int .i64 gg, .int .i64 xx] 29)).cell? ⟨wr.heap.size, 0, none⟩ = some (.int .i64 kd) := by simp [go_sem]
      have V1 : (wr.alloc (.cells #[.int .i64 kd, .int .i64 gg, .int .i64 xx] 29)).cell? ⟨wr.heap.size, 1, none⟩ = some (.int .i64 gg) := by simp [go_sem]
      have V2 : (wr.alloc (.cells #[.int .i64 kd, .int .i64 gg, .int .i64 xx] 29)).cell? ⟨wr.heap.size, 2, none⟩ = some (.int .i64 xx) := by simp [go_sem]
      generalize wr.alloc (.cells #[.int .i64 kd, .int .i64 gg, .int .i64 xx] 29) = wv at U1 V0 V1 V2 ⊢
      generalize wr.heap.size = BB at HBB V0 V1 V2 ⊢
      clear c0 d1 d2 HU
      go_upto_block 2 with fail
      go_cut [6, 9, 10] (fun s6 s9 s10 wx => ∃ (b : Bool) (v : Value) (L : List Int) (bo : Option Addr) (c n : Nat), s6 = .slice bo n c ∧ s9 = .bool b ∧ s10 = .bool b ∧ Hid (Ru w wx p v L bo c n L) ∧ Hid (wx.cell? ⟨BB, 1, none⟩ = some (.int .i64 gg)) ∧ Hid (wx.cell? ⟨BB, 2, none⟩ = some (.int .i64 xx)))
      case first =>
        by_cases k0 : kd = 0
        · have e0 : (kd == 0) = true := by simpa using k0
          clear k0
          obtain ⟨b, hb⟩ : ∃ b, tryB L gg xx = b := ⟨_, rfl⟩
          have HB := Lib.hid hb
          clear hb
          go_wp2_with fail
          refine (rtry_any wv U1.out.rs HB.out).mono ?_
          rintro e w8 ⟨bo', c', rfl, hr', t'⟩
          have UA := Lib.hid (U1.out.doc hr' t')
          have VB1 := t'.cell (p := ⟨BB, 1, none⟩) id V1
          have VB2 := t'.cell (p := ⟨BB, 2, none⟩) id V2
          clear hr' t' V0 V1 V2 U1
          go_wp2_with fail
          refine (try_any w8 UA.out.here HB.out).mono ?_
          rintro e wb ⟨rfl, kb⟩
          have UB := Lib.hid (UA.out.kept kb)
          have VE1 := Lib.hid (kb.2.cell (p := ⟨BB, 1, none⟩) HBB.out VB1)
          have VE2 := Lib.hid (kb.2.cell (p := ⟨BB, 2, none⟩) HBB.out VB2)
          clear kb VB1 VB2 UA
          go_wp2_with fail
          go_meet
          exact ⟨b, v, _, bo', c', n, rfl, rfl, rfl, UB, VE1, VE2⟩
        · have e0 : (kd == 0) = false := by simpa using k0
          by_cases k1 : kd = 1
          · have e1 : (kd == 1) = true := by simpa using k1
            clear k0 k1
            obtain ⟨b, hb⟩ : ∃ b, freeB L gg xx = b := ⟨_, rfl⟩
            have HB := Lib.hid hb
            clear hb
            go_wp2_with fail
            refine (rfree_any wv U1.out.rs HB.out).mono ?_
            rintro e w8 ⟨bo', c', rfl, hr', t'⟩
            have UA := Lib.hid (U1.out.doc hr' t')
            have VB1 := t'.cell (p := ⟨BB, 1, none⟩) id V1
            have VB2 := t'.cell (p := ⟨BB, 2, none⟩) id V2
            clear hr' t' V0 V1 V2 U1
            go_wp2_with fail
            refine (free_any w8 UA.out.here HB.out).mono ?_
            rintro e wb ⟨rfl, kb⟩
            have UB := Lib.hid (UA.out.kept kb)
            have VE1 := Lib.hid (kb.2.cell (p := ⟨BB, 1, none⟩) HBB.out VB1)
            have VE2 := Lib.hid (kb.2.cell (p := ⟨BB, 2, none⟩) HBB.out VB2)
            clear kb VB1 VB2 UA
            go_wp2_with fail
            go_meet
            exact ⟨b, v, _, bo', c', n, rfl, rfl, rfl, UB, VE1, VE2⟩
          · have e1 : (kd == 1) = false := by simpa using k1
            by_cases k2 : kd = 2
            · have e2 : (kd == 2) = true := by simpa using k2
              clear k0 k1 k2
              have HLN := Lib.hid U1.out.rs.nn
              have HI := Lib.hid U1.out.rs.ints
              have HNIL := Lib.hid U1.out.rs.nil
              by_cases hn : n < 4096
              · have HAL2 := Lib.hid (show addL L = L ++ [-1] by unfold addL; rw [if_pos (by rw [HLN.out]; exact hn)])
                have HAV := Lib.hid (show addV L = (n : Int) by unfold addV; rw [if_pos (by rw [HLN.out]; exact hn), HLN.out])
                have TA := Lib.hid ((Turn.refl (fun _ => False) wv).alloc (.cells #[] 3))
                obtain ⟨n1, hn1⟩ : ∃ n1, n + 1 = n1 := ⟨_, rfl⟩
                have HN1 := Lib.hid hn1
                have hle1 : n1 ≤ 4096 := by omega
                clear hn1
                go_wp2_with (first
                  | (at_builtin; refine wpList_append_ints_at Try.underlying26 info_int (by decide) rfl (.tmp 79) (.tmp 80) rfl wv.heap.size (.slice (some ⟨wv.heap.size, 0, none⟩) 0 0) [] 0 rfl (own_empty (heap_alloc_new wv _) (Nat.le_refl _)) bo L n c HLN.out rfl HNIL.out (HI.out.turn TA.out (fun _ _ => id)) (by omega) (by simp) ?_; intro v3 w3 O3 T3 B3; rw [Nat.zero_add, List.nil_append] at O3; obtain ⟨b3, c3, rfl⟩ := slice_own O3.out; have T4 := Lib.hid (TA.out.and T3.out (fun i hi e => (by have e' : wv.heap.size = i := Option.some.inj e; omega))); have H43 := T4.out.size)
                  | (at_builtin; refine wpList_append_one_n (w0 := w3) Try.underlying26 info_int (by decide) rfl (.tmp 81) (.tmp 82) rfl wv.heap.size (.slice b3 n c3) L n (-1) rfl O3.out n1 HN1.out rfl (by omega) H43 ?_; intro g5 c5 w5 hg5 O5 T5 B5; have T6 := Lib.hid (T4.out.and T5.out (fun i hi e => (by have := (O3.out.lt i e).1; omega)))))
                have VB1 := T6.out.cell (p := ⟨BB, 1, none⟩) id V1
                have VB2 := T6.out.cell (p := ⟨BB, 2, none⟩) id V2
                have UA := Lib.hid (U1.out.doc_new (rs_own O5.out hle1) T6.out)
                clear V0 V1 V2 U1 T3 B3 T4 T5 B5 O3 O5 H43
                refine (add_any w5 UA.out.here HAV.out).mono ?_
                rintro e wb ⟨rfl, v', kb⟩
                rw [HAL2.out] at kb
                have UB := Lib.hid (UA.out.grown kb)
                have VE1 := Lib.hid (kb.2.1.cell (p := ⟨BB, 1, none⟩) HBB.out VB1)
                have VE2 := Lib.hid (kb.2.1.cell (p := ⟨BB, 2, none⟩) HBB.out VB2)
                clear kb VB1 VB2 UA
                go_wp2_with fail
                go_meet
                exact ⟨true, v', _, _, c5, n1, rfl, rfl, rfl, UB, VE1, VE2⟩
              · have HAL2 := Lib.hid (show addL L = L by unfold addL; rw [if_neg (by rw [HLN.out]; exact hn)])
                have HAV := Lib.hid (show addV L = -1 by unfold addV; rw [if_neg (by rw [HLN.out]; exact hn)])
                go_wp2_with fail
                refine (add_any wv U1.out.here HAV.out).mono ?_
                rintro e wb ⟨rfl, v', kb⟩
                rw [HAL2.out] at kb
                have UB := Lib.hid (U1.out.grown kb)
                have VE1 := Lib.hid (kb.2.1.cell (p := ⟨BB, 1, none⟩) HBB.out V1)
                have VE2 := Lib.hid (kb.2.1.cell (p := ⟨BB, 2, none⟩) HBB.out V2)
                clear kb V0 V1 V2 U1
                go_wp2_with fail
                go_meet
                exact ⟨true, v', _, bo, c, n, rfl, rfl, rfl, UB, VE1, VE2⟩
            · have e2 : (kd == 2) = false := by simpa using k2
              have HV1 := Lib.hid V1
              have HV2 := Lib.hid V2
              clear k0 k1 k2
              go_wp2_with fail
              go_meet
              exact ⟨true, v, _, bo, c, n, rfl, rfl, rfl, U1, HV1, HV2⟩
      case rest =>
        clear U1 V0 V1 V2 HBB
        obtain ⟨b, v, L, bo, c, n, rfl, rfl, rfl, U, VX1, VX2⟩ := hcut
        obtain ⟨x, hx⟩ : ∃ x, ownL L gg = x := ⟨_, rfl⟩
        obtain ⟨H, hH⟩ : ∃ H, heldL L xx = H := ⟨_, rfl⟩
        obtain ⟨nh, hnh⟩ : ∃ nh, H.length = nh := ⟨_, rfl⟩
        have hn4 := U.out.rs.len
        have hnn : nh ≤ 4096 := by
          have h1 := heldL_length L xx
          have h2 := U.out.rs.nn
          rw [hH] at h1
          omega
        have HX := Lib.hid hx
        have HH := Lib.hid hH
        have HNH := Lib.hid hnh
        clear hx hH hnh
        go_upto_region 26 with fail
        have TD := Lib.hid (Turn.refl (fun _ => False) wc).drew
        have UD := Lib.hid (U.out.new TD.out)
        have KEEP := Lib.hid (show ∀ w', Turn (fun _ => False) wc w' → (w'.cell? ⟨BB, 1, none⟩ = some (.int .i64 gg) ∧ w'.cell? ⟨BB, 2, none⟩ = some (.int .i64 xx)) from fun w' t => ⟨t.cell id VX1.out, t.cell id VX2.out⟩)
        refine stand_start (by kernel_rfl) 99 (fun w' => w'.cell? ⟨BB, 1, none⟩ = some (.int .i64 gg) ∧ w'.cell? ⟨BB, 2, none⟩ = some (.int .i64 xx)) 99 (fun w' => True) (KEEP.out _ TD.out) trivial ?_
        clear U VX1 VX2
        refine stand_take (i := 0) (v := ?_) rfl (by kernel_rfl) (by kernel_rfl) (by kernel_rfl) (by rfl) (fun _ _ _ h => h) (by decide) (by decide) (by rfl) ?_ ?_
        rotate_left
        · (intro w; go_simp; try with_reducible rfl)
        dsimp only [List.set_cons_zero, List.set_cons_succ]
        refine stand_take (i := 1) (v := ?_) rfl (by kernel_rfl) (by kernel_rfl) (by kernel_rfl) (by rfl) (fun _ _ _ h => h) (by decide) (by decide) (by rfl) ?_ ?_
        rotate_left
        · (intro w; go_simp; try with_reducible rfl)
        dsimp only [List.set_cons_zero, List.set_cons_succ]
        refine stand_take (i := 2) (v := ?_) rfl (by kernel_rfl) (by kernel_rfl) (by kernel_rfl) (by rfl) (fun _ _ _ h => h) (by decide) (by decide) (by rfl) ?_ ?_
        rotate_left
        · (intro w; go_simp; try with_reducible rfl)
        dsimp only [List.set_cons_zero, List.set_cons_succ]
        refine stand_take (i := 3) (v := ?_) rfl (by kernel_rfl) (by kernel_rfl) (by kernel_rfl) (by rfl) (fun _ _ _ h => h) (by decide) (by decide) (by rfl) ?_ ?_
        rotate_left
        · (intro w; go_simp; try with_reducible rfl)
        dsimp only [List.set_cons_zero, List.set_cons_succ]
        refine stand_take (i := 4) (v := ?_) rfl (by kernel_rfl) (by kernel_rfl) (by kernel_rfl) (by rfl) (fun _ _ _ h => h) (by decide) (by decide) (by rfl) ?_ ?_
        rotate_left
        · (intro w; go_simp; try with_reducible rfl)
        dsimp only [List.set_cons_zero, List.set_cons_succ]
        refine stand_take (i := 6) (v := ?_) rfl (by kernel_rfl) (by kernel_rfl) (by kernel_rfl) (by rfl) (fun _ _ _ h => h) (by decide) (by decide) (by rfl) ?_ ?_
        rotate_left
        · (intro w; go_simp; try with_reducible rfl)
        dsimp only [List.set_cons_zero, List.set_cons_succ]
        refine stand_take (i := 7) (v := ?_) rfl (by kernel_rfl) (by kernel_rfl) (by kernel_rfl) (by rfl) (fun _ _ _ h => h) (by decide) (by decide) (by rfl) ?_ ?_
        rotate_left
        · (intro w; go_simp; try with_reducible rfl)
        dsimp only [List.set_cons_zero, List.set_cons_succ]
        refine stand_step (i := 5) (by kernel_rfl) rfl (fun K hK => ?_)
        go_simp
        refine (len_any _ UD.out.here UD.out.rs.nn).mono ?_
        rintro e w4 ⟨rfl, rfl⟩
        refine hK.out _ _ (fun _ => KEEP.out _ TD.out) (fun _ => trivial) ?_
        clear hK K
        try simp only [put_laid, List.set_cons_zero, List.set_cons_succ]
        refine stand_take (i := 8) (v := ?_) rfl (by kernel_rfl) (by kernel_rfl) (by kernel_rfl) (by rfl) (fun _ _ _ h => h) (by decide) (by decide) (by rfl) ?_ ?_
        rotate_left
        · (intro w; go_simp; try with_reducible rfl)
        dsimp only [List.set_cons_zero, List.set_cons_succ]
        refine stand_take (i := 9) (v := ?_) rfl (by kernel_rfl) (by kernel_rfl) (by kernel_rfl) (by rfl) (fun _ _ _ h => h) (by decide) (by decide) (by rfl) ?_ ?_
        rotate_left
        · (intro w; go_simp; try with_reducible rfl)
        dsimp only [List.set_cons_zero, List.set_cons_succ]
        refine stand_take (i := 10) (v := ?_) rfl (by kernel_rfl) (by kernel_rfl) (by kernel_rfl) (by rfl) (fun _ _ _ h => h) (by decide) (by decide) (by rfl) ?_ ?_
        rotate_left
        · (intro w; go_simp; try with_reducible rfl)
        dsimp only [List.set_cons_zero, List.set_cons_succ]
        refine stand_take (i := 11) (v := ?_) rfl (by kernel_rfl) (by kernel_rfl) (by kernel_rfl) (by rfl) (fun _ _ _ h => h) (by decide) (by decide) (by rfl) ?_ ?_
        rotate_left
        · (intro w; go_simp; try with_reducible rfl)
        dsimp only [List.set_cons_zero, List.set_cons_succ]
        refine stand_take (i := 12) (v := ?_) rfl (by kernel_rfl) (by kernel_rfl) (by kernel_rfl) (by rfl) (fun _ _ _ h => h) (by decide) (by decide) (by rfl) ?_ ?_
        rotate_left
        · (intro w; go_simp; try with_reducible rfl)
        dsimp only [List.set_cons_zero, List.set_cons_succ]
        refine stand_load3 (i := 13) (v := ?_) rfl (by kernel_rfl) (by kernel_rfl) (by kernel_rfl) (by rfl) (fun _ _ _ h => h) (by decide) (by decide) (by kernel_rfl) (by rfl) ?_ ?_
        rotate_left
        · (intro w hA; (try dsimp only at hA); go_simp; try with_reducible rfl)
        dsimp only [List.set_cons_zero, List.set_cons_succ]
        refine stand_take (i := 15) (v := ?_) rfl (by kernel_rfl) (by kernel_rfl) (by kernel_rfl) (by rfl) (fun _ _ _ h => h) (by decide) (by decide) (by rfl) ?_ ?_
        rotate_left
        · (intro w; go_simp; try with_reducible rfl)
        dsimp only [List.set_cons_zero, List.set_cons_succ]
        refine stand_take (i := 16) (v := ?_) rfl (by kernel_rfl) (by kernel_rfl) (by kernel_rfl) (by rfl) (fun _ _ _ h => h) (by decide) (by decide) (by rfl) ?_ ?_
        rotate_left
        · (intro w; go_simp; try with_reducible rfl)
        dsimp only [List.set_cons_zero, List.set_cons_succ]
        refine stand_load3 (i := 17) (v := ?_) rfl (by kernel_rfl) (by kernel_rfl) (by kernel_rfl) (by rfl) (fun _ _ _ h => h) (by decide) (by decide) (by kernel_rfl) (by rfl) ?_ ?_
        rotate_left
        · (intro w hA; (try dsimp only at hA); go_simp; try with_reducible rfl)
        dsimp only [List.set_cons_zero, List.set_cons_succ]
        refine stand_step (i := 14) (by kernel_rfl) rfl (fun K hK => ?_)
        go_simp
        refine (owner_any _ UD.out.here HX.out).mono ?_
        rintro e w4 ⟨rfl, rfl⟩
        refine hK.out _ _ (fun _ => KEEP.out _ TD.out) (fun _ => trivial) ?_
        clear hK K
        try simp only [put_laid, List.set_cons_zero, List.set_cons_succ]
        refine stand_step (i := 18) (by kernel_rfl) rfl (fun K hK => ?_)
        go_simp
        refine (rowner_any _ UD.out.rs HX.out).mono ?_
        rintro e w4 ⟨rfl, rfl⟩
        refine hK.out _ _ (fun _ => KEEP.out _ TD.out) (fun _ => trivial) ?_
        clear hK K
        try simp only [put_laid, List.set_cons_zero, List.set_cons_succ]
        refine stand_take (i := 19) (v := ?_) rfl (by kernel_rfl) (by kernel_rfl) (by kernel_rfl) (by rfl) (fun _ _ _ h => h) (by decide) (by decide) (by rfl) ?_ ?_
        rotate_left
        · (intro w; go_simp; try with_reducible rfl)
        dsimp only [List.set_cons_zero, List.set_cons_succ]
        refine stand_take (i := 20) (v := ?_) rfl (by kernel_rfl) (by kernel_rfl) (by kernel_rfl) (by rfl) (fun _ _ _ h => h) (by decide) (by decide) (by rfl) ?_ ?_
        rotate_left
        · (intro w; go_simp; try with_reducible rfl)
        dsimp only [List.set_cons_zero, List.set_cons_succ]
        refine stand_take (i := 21) (v := ?_) rfl (by kernel_rfl) (by kernel_rfl) (by kernel_rfl) (by rfl) (fun _ _ _ h => h) (by decide) (by decide) (by rfl) ?_ ?_
        rotate_left
        · (intro w; go_simp; try with_reducible rfl)
        dsimp only [List.set_cons_zero, List.set_cons_succ]
        refine stand_take (i := 22) (v := ?_) rfl (by kernel_rfl) (by kernel_rfl) (by kernel_rfl) (by rfl) (fun _ _ _ h => h) (by decide) (by decide) (by rfl) ?_ ?_
        rotate_left
        · (intro w; go_simp; try with_reducible rfl)
        dsimp only [List.set_cons_zero, List.set_cons_succ]
        refine stand_take (i := 23) (v := ?_) rfl (by kernel_rfl) (by kernel_rfl) (by kernel_rfl) (by rfl) (fun _ _ _ h => h) (by decide) (by decide) (by rfl) ?_ ?_
        rotate_left
        · (intro w; go_simp; try with_reducible rfl)
        dsimp only [List.set_cons_zero, List.set_cons_succ]
        refine stand_load3 (i := 24) (v := ?_) rfl (by kernel_rfl) (by kernel_rfl) (by kernel_rfl) (by rfl) (fun _ _ _ h => h) (by decide) (by decide) (by kernel_rfl) (by rfl) ?_ ?_
        rotate_left
        · (intro w hA; (try dsimp only at hA); go_simp; try with_reducible rfl)
        dsimp only [List.set_cons_zero, List.set_cons_succ]
        refine stand_take (i := 26) (v := ?_) rfl (by kernel_rfl) (by kernel_rfl) (by kernel_rfl) (by rfl) (fun _ _ _ h => h) (by decide) (by decide) (by rfl) ?_ ?_
        rotate_left
        · (intro w; go_simp; try with_reducible rfl)
        dsimp only [List.set_cons_zero, List.set_cons_succ]
        refine stand_take (i := 27) (v := ?_) rfl (by kernel_rfl) (by kernel_rfl) (by kernel_rfl) (by rfl) (fun _ _ _ h => h) (by decide) (by decide) (by rfl) ?_ ?_
        rotate_left
        · (intro w; go_simp; try with_reducible rfl)
        dsimp only [List.set_cons_zero, List.set_cons_succ]
        refine stand_load3 (i := 28) (v := ?_) rfl (by kernel_rfl) (by kernel_rfl) (by kernel_rfl) (by rfl) (fun _ _ _ h => h) (by decide) (by decide) (by kernel_rfl) (by rfl) ?_ ?_
        rotate_left
        · (intro w hA; (try dsimp only at hA); go_simp; try with_reducible rfl)
        dsimp only [List.set_cons_zero, List.set_cons_succ]
        refine stand_step (i := 25) (by kernel_rfl) rfl (fun K hK => ?_)
        go_simp
        refine (held_any _ UD.out.here HH.out HNH.out).mono ?_
        rintro e w7 ⟨b7, c7, rfl, _, i7, _, _, _, t7⟩
        have U7 := Lib.hid (UD.out.new t7)
        have T7 := Lib.hid (TD.out.trans t7)
        have I7 := Lib.hid i7
        clear t7 i7
        refine hK.out _ _ (fun _ => KEEP.out _ T7.out) (fun _ => trivial) ?_
        clear hK K
        try simp only [put_laid, List.set_cons_zero, List.set_cons_succ]
        refine stand_step (i := 29) (by kernel_rfl) rfl (fun K hK => ?_)
        go_simp
        refine (rheld_any _ U7.out.rs HH.out HNH.out).mono ?_
        rintro e w8 ⟨b8, c8, rfl, _, i8, _, _, _, t8⟩
        have U8 := Lib.hid (U7.out.new t8)
        have T8 := Lib.hid (T7.out.trans t8)
        have I78 := Lib.hid (I7.out.turn t8 (fun _ _ => id))
        have I8 := Lib.hid i8
        clear t8 i8
        refine hK.out _ _ (fun _ => KEEP.out _ T8.out) (fun _ => trivial) ?_
        clear hK K
        try simp only [put_laid, List.set_cons_zero, List.set_cons_succ]
        refine stand_step (i := 30) (by kernel_rfl) rfl (fun K hK => ?_)
        go_simp
        refine (same_eq _ I78.out I8.out HNH.out (by omega)).mono ?_
        rintro e w9 ⟨rfl, k9, rfl⟩
        have U9 := Lib.hid (U8.out.new ((Turn.refl (fun _ => False) w8).drewN k9))
        refine hK.out _ _ (fun _ => KEEP.out _ (T8.out.drewN k9)) (fun _ => trivial) ?_
        clear hK K
        try simp only [put_laid, List.set_cons_zero, List.set_cons_succ]
        generalize w8.drewN k9 = w9 at U9 ⊢
        refine stand_take (i := 31) (v := ?_) rfl (by kernel_rfl) (by kernel_rfl) (by kernel_rfl) (by rfl) (fun _ _ _ h => h) (by decide) (by decide) (by rfl) ?_ ?_
        rotate_left
        · (intro w; go_simp; try with_reducible rfl)
        dsimp only [List.set_cons_zero, List.set_cons_succ]
        refine stand_take (i := 32) (v := ?_) rfl (by kernel_rfl) (by kernel_rfl) (by kernel_rfl) (by rfl) (fun _ _ _ h => h) (by decide) (by decide) (by rfl) ?_ ?_
        rotate_left
        · (intro w; go_simp; try with_reducible rfl)
        dsimp only [List.set_cons_zero, List.set_cons_succ]
        refine stand_done (by kernel_rfl) ?_
        go_wp2_with fail
        go_roundw
        case rel => exact ⟨j + 1, v, L, bo, c, n, by omega, by go_num, rfl, U9⟩
        case measure => simp [intOf]; omega
    · go_wp2_with fail
      refine (len_any wr HU.out.here HU.out.rs.nn).mono ?_
      rintro e w2 ⟨rfl, rfl⟩
      go_wp2_with fail
      go_ret
      exact ⟨rfl, HU.out.t⟩
set_option maxRecDepth 100000 in
set_option maxHeartbeats 4000000 in
theorem lruns_far {k : Int} {ao : Option Addr} {al ac : Nat} {A : List (Int × Int × Int)} (w : World) (hk : -9223372036854775808 ≤ k ∧ k ≤ 9223372036854775807) (hg : 4096 < k) (hA : Acts w ao A) (hAl : A.length = al) (hL : al ≤ 100) :
    Calls Try.prog 3 #[.int .i64 k, .slice ao al ac] w fun e w' => e = .returned (.bool true) ∧ Turn (fun _ => False) w w' := by
  have HA := Lib.hid hA
  have HAL := Lib.hid hAl
  clear hA hAl
  go_enter Try.func3, Try.ntmps3
  go_wp2_with fail
  refine (alive_any w).mono ?_
  rintro e w1 ⟨rfl, t1⟩
  have T1 := Lib.hid t1
  clear t1
  go_upto_region 5 with fail
  go_wp2_with fail
  refine (new_any w1 hk).mono ?_
  rintro e w2 ⟨p, v, rfl, h2, t2⟩
  obtain ⟨n, hn⟩ : ∃ n, newN k = n := ⟨_, rfl⟩
  rw [hn] at h2
  have HN := Lib.hid hn
  have H2 := Lib.hid (h2.less T1.out.size)
  have T2 := Lib.hid (T1.out.trans t2)
  clear h2 t2 hn
  go_wp2_with fail
  refine (rnew_any w2 hk HN.out).mono ?_
  rintro e w3 ⟨bo, c, rfl, h3, t3⟩
  have HU : Hid (Ru w w3 p v (List.replicate n (-1)) bo c n (List.replicate n (-1))) := Lib.hid ⟨H2.out.new t3, T2.out.trans t3, h3.mono (fun i hi => ⟨hi.2, fun e => by have := (H2.out.blocks e).2; omega⟩)⟩
  clear h3 t3 H2 T2 T1 HN
  go_wp2_with fail
  go_loopw [6, 33] (fun s6 s33 wr => ∃ (j : Nat) (v : Value) (L : List Int) (bo : Option Addr) (c n : Nat), j ≤ al ∧ s33 = .int .i64 j ∧ s6 = .slice bo n c ∧ Hid (Ru w wr p v L bo c n L)) (fun _ s33 _ => al - (intOf s33).toNat)
  case atStart => exact ⟨0, _, _, _, _, _, Nat.zero_le _, rfl, rfl, HU⟩
  case round =>
    clear HU
    obtain ⟨j, v, L, bo, c, n, hj, rfl, rfl, HU⟩ := hrel
    have hn4 := HU.out.rs.len
    by_cases hlt : j < al
    · obtain ⟨ad, hao, c0, c1, c2⟩ := (HA.out.turn HU.out.t (fun _ _ => id)) j (by rw [HAL.out]; exact hlt)
      subst hao
      have d1 : wr.cell? ⟨(ad.add (j * 3)).block, (ad.add (j * 3)).off + 1, none⟩ = some (.int .i64 (A.getD j (0, 0, 0)).2.1) := c1
      have d2 : wr.cell? ⟨(ad.add (j * 3)).block, (ad.add (j * 3)).off + 2, none⟩ = some (.int .i64 (A.getD j (0, 0, 0)).2.2) := c2
      clear c1 c2
      generalize (A.getD j (0, 0, 0)).1 = kd at c0
      generalize (A.getD j (0, 0, 0)).2.1 = gg at d1
      generalize (A.getD j (0, 0, 0)).2.2 = xx at d2
      go_upto_region 12 with fail
      have U1 := Lib.hid (HU.out.new ((Turn.refl (fun _ => False) wr).alloc (.cells #[.int .i64 kd, .int .i64 gg, .int .i64 xx] 29)))
      have HBB := Lib.hid (show ¬ QL p v wr.heap.size from fun e => by have := (HU.out.here.blocks e).2; omega)
      have V0 : (wr.alloc (.cells #[.int .i64 kd, .int .i64 gg, .int .i64 xx] 29)).cell? ⟨wr.heap.size, 0, none⟩ = some (.int .i64 kd) := by simp [go_sem]
      have V1 : (wr.alloc (.cells #[.int .i64 kd, .int .i64 gg, .int .i64 xx] 29)).cell? ⟨wr.heap.size, 1, none⟩ = some (.int .i64 gg) := by simp [go_sem]
      have V2 : (wr.alloc (.cells #[.int .i64 kd, .int .i64 gg, .int .i64 xx] 29)).cell? ⟨wr.heap.size, 2, none⟩ = some (.int .i64 xx) := by simp [go_sem]
      generalize wr.alloc (.cells #[.int .i64 kd, .int .i64 gg, .int .i64 xx] 29) = wv at U1 V0 V1 V2 ⊢
      generalize wr.heap.size = BB at HBB V0 V1 V2 ⊢
      clear c0 d1 d2 HU
      go_upto_block 2 with fail
      go_cut [6, 9, 10] (fun s6 s9 s10 wx => ∃ (b : Bool) (v : Value) (L : List Int) (bo : Option Addr) (c n : Nat), s6 = .slice bo n c ∧ s9 = .bool b ∧ s10 = .bool b ∧ Hid (Ru w wx p v L bo c n L) ∧ Hid (wx.cell? ⟨BB, 1, none⟩ = some (.int .i64 gg)) ∧ Hid (wx.cell? ⟨BB, 2, none⟩ = some (.int .i64 xx)))
      case first =>
        by_cases k0 : kd = 0
        · have e0 : (kd == 0) = true := by simpa using k0
          clear k0
          obtain ⟨b, hb⟩ : ∃ b, tryB L gg xx = b := ⟨_, rfl⟩
          have HB := Lib.hid hb
          clear hb
          go_wp2_with fail
          refine (rtry_any wv U1.out.rs HB.out).mono ?_
          rintro e w8 ⟨bo', c', rfl, hr', t'⟩
          have UA := Lib.hid (U1.out.doc hr' t')
          have VB1 := t'.cell (p := ⟨BB, 1, none⟩) id V1
          have VB2 := t'.cell (p := ⟨BB, 2, none⟩) id V2
          clear hr' t' V0 V1 V2 U1
          go_wp2_with fail
          refine (try_any w8 UA.out.here HB.out).mono ?_
          rintro e wb ⟨rfl, kb⟩
          have UB := Lib.hid (UA.out.kept kb)
          have VE1 := Lib.hid (kb.2.cell (p := ⟨BB, 1, none⟩) HBB.out VB1)
          have VE2 := Lib.hid (kb.2.cell (p := ⟨BB, 2, none⟩) HBB.out VB2)
          clear kb VB1 VB2 UA
          go_wp2_with fail
          go_meet
          exact ⟨b, v, _, bo', c', n, rfl, rfl, rfl, UB, VE1, VE2⟩
        · have e0 : (kd == 0) = false := by simpa using k0
          by_cases k1 : kd = 1
          · have e1 : (kd == 1) = true := by simpa using k1
            clear k0 k1
            obtain ⟨b, hb⟩ : ∃ b, freeB L gg xx = b := ⟨_, rfl⟩
            have HB := Lib.hid hb
            clear hb
            go_wp2_with fail
            refine (rfree_any wv U1.out.rs HB.out).mono ?_
            rintro e w8 ⟨bo', c', rfl, hr', t'⟩
            have UA := Lib.hid (U1.out.doc hr' t')
            have VB1 := t'.cell (p := ⟨BB, 1, none⟩) id V1
            have VB2 := t'.cell (p := ⟨BB, 2, none⟩) id V2
            clear hr' t' V0 V1 V2 U1
            go_wp2_with fail
            refine (free_any w8 UA.out.here HB.out).mono ?_
            rintro e wb ⟨rfl, kb⟩
            have UB := Lib.hid (UA.out.kept kb)
            have VE1 := Lib.hid (kb.2.cell (p := ⟨BB, 1, none⟩) HBB.out VB1)
            have VE2 := Lib.hid (kb.2.cell (p := ⟨BB, 2, none⟩) HBB.out VB2)
            clear kb VB1 VB2 UA
            go_wp2_with fail
            go_meet
            exact ⟨b, v, _, bo', c', n, rfl, rfl, rfl, UB, VE1, VE2⟩
          · have e1 : (kd == 1) = false := by simpa using k1
            by_cases k2 : kd = 2
            · have e2 : (kd == 2) = true := by simpa using k2
              clear k0 k1 k2
              have HLN := Lib.hid U1.out.rs.nn
              have HI := Lib.hid U1.out.rs.ints
              have HNIL := Lib.hid U1.out.rs.nil
              by_cases hn : n < 4096
              · have HAL2 := Lib.hid (show addL L = L ++ [-1] by unfold addL; rw [if_pos (by rw [HLN.out]; exact hn)])
                have HAV := Lib.hid (show addV L = (n : Int) by unfold addV; rw [if_pos (by rw [HLN.out]; exact hn), HLN.out])
                have TA := Lib.hid ((Turn.refl (fun _ => False) wv).alloc (.cells #[] 3))
                obtain ⟨n1, hn1⟩ : ∃ n1, n + 1 = n1 := ⟨_, rfl⟩
                have HN1 := Lib.hid hn1
                have hle1 : n1 ≤ 4096 := by omega
                clear hn1
                go_wp2_with (first
                  | (at_builtin; refine wpList_append_ints_at Try.underlying26 info_int (by decide) rfl (.tmp 79) (.tmp 80) rfl wv.heap.size (.slice (some ⟨wv.heap.size, 0, none⟩) 0 0) [] 0 rfl (own_empty (heap_alloc_new wv _) (Nat.le_refl _)) bo L n c HLN.out rfl HNIL.out (HI.out.turn TA.out (fun _ _ => id)) (by omega) (by simp) ?_; intro v3 w3 O3 T3 B3; rw [Nat.zero_add, List.nil_append] at O3; obtain ⟨b3, c3, rfl⟩ := slice_own O3.out; have T4 := Lib.hid (TA.out.and T3.out (fun i hi e => (by have e' : wv.heap.size = i := Option.some.inj e; omega))); have H43 := T4.out.size)
                  | (at_builtin; refine wpList_append_one_n (w0 := w3) Try.underlying26 info_int (by decide) rfl (.tmp 81) (.tmp 82) rfl wv.heap.size (.slice b3 n c3) L n (-1) rfl O3.out n1 HN1.out rfl (by omega) H43 ?_; intro g5 c5 w5 hg5 O5 T5 B5; have T6 := Lib.hid (T4.out.and T5.out (fun i hi e => (by have := (O3.out.lt i e).1; omega)))))
                have VB1 := T6.out.cell (p := ⟨BB, 1, none⟩) id V1
                have VB2 := T6.out.cell (p := ⟨BB, 2, none⟩) id V2
                have UA := Lib.hid (U1.out.doc_new (rs_own O5.out hle1) T6.out)
                clear V0 V1 V2 U1 T3 B3 T4 T5 B5 O3 O5 H43
                refine (add_any w5 UA.out.here HAV.out).mono ?_
                rintro e wb ⟨rfl, v', kb⟩
                rw [HAL2.out] at kb
                have UB := Lib.hid (UA.out.grown kb)
                have VE1 := Lib.hid (kb.2.1.cell (p := ⟨BB, 1, none⟩) HBB.out VB1)
                have VE2 := Lib.hid (kb.2.1.cell (p := ⟨BB, 2, none⟩) HBB.out VB2)
                clear kb VB1 VB2 UA
                go_wp2_with fail
                go_meet
                exact ⟨true, v', _, _, c5, n1, rfl, rfl, rfl, UB, VE1, VE2⟩
              · have HAL2 := Lib.hid (show addL L = L by unfold addL; rw [if_neg (by rw [HLN.out]; exact hn)])
                have HAV := Lib.hid (show addV L = -1 by unfold addV; rw [if_neg (by rw [HLN.out]; exact hn)])
                go_wp2_with fail
                refine (add_any wv U1.out.here HAV.out).mono ?_
                rintro e wb ⟨rfl, v', kb⟩
                rw [HAL2.out] at kb
                have UB := Lib.hid (U1.out.grown kb)
                have VE1 := Lib.hid (kb.2.1.cell (p := ⟨BB, 1, none⟩) HBB.out V1)
                have VE2 := Lib.hid (kb.2.1.cell (p := ⟨BB, 2, none⟩) HBB.out V2)
                clear kb V0 V1 V2 U1
                go_wp2_with fail
                go_meet
                exact ⟨true, v', _, bo, c, n, rfl, rfl, rfl, UB, VE1, VE2⟩
            · have e2 : (kd == 2) = false := by simpa using k2
              have HV1 := Lib.hid V1
              have HV2 := Lib.hid V2
              clear k0 k1 k2
              go_wp2_with fail
              go_meet
              exact ⟨true, v, _, bo, c, n, rfl, rfl, rfl, U1, HV1, HV2⟩
      case rest =>
        clear U1 V0 V1 V2 HBB
        obtain ⟨b, v, L, bo, c, n, rfl, rfl, rfl, U, VX1, VX2⟩ := hcut
        obtain ⟨x, hx⟩ : ∃ x, ownL L gg = x := ⟨_, rfl⟩
        obtain ⟨H, hH⟩ : ∃ H, heldL L xx = H := ⟨_, rfl⟩
        obtain ⟨nh, hnh⟩ : ∃ nh, H.length = nh := ⟨_, rfl⟩
        have hn4 := U.out.rs.len
        have hnn : nh ≤ 4096 := by
          have h1 := heldL_length L xx
          have h2 := U.out.rs.nn
          rw [hH] at h1
          omega
        have HX := Lib.hid hx
        have HH := Lib.hid hH
        have HNH := Lib.hid hnh
        clear hx hH hnh
        go_upto_region 26 with fail
        have TD := Lib.hid (Turn.refl (fun _ => False) wc).drew
        have UD := Lib.hid (U.out.new TD.out)
        have KEEP := Lib.hid (show ∀ w', Turn (fun _ => False) wc w' → (w'.cell? ⟨BB, 1, none⟩ = some (.int .i64 gg) ∧ w'.cell? ⟨BB, 2, none⟩ = some (.int .i64 xx)) from fun w' t => ⟨t.cell id VX1.out, t.cell id VX2.out⟩)
        refine stand_start (by kernel_rfl) 99 (fun w' => w'.cell? ⟨BB, 1, none⟩ = some (.int .i64 gg) ∧ w'.cell? ⟨BB, 2, none⟩ = some (.int .i64 xx)) 99 (fun w' => True) (KEEP.out _ TD.out) trivial ?_
        clear U VX1 VX2
        refine stand_take (i := 0) (v := ?_) rfl (by kernel_rfl) (by kernel_rfl) (by kernel_rfl) (by rfl) (fun _ _ _ h => h) (by decide) (by decide) (by rfl) ?_ ?_
        rotate_left
        · (intro w; go_simp; try with_reducible rfl)
        dsimp only [List.set_cons_zero, List.set_cons_succ]
        refine stand_take (i := 1) (v := ?_) rfl (by kernel_rfl) (by kernel_rfl) (by kernel_rfl) (by rfl) (fun _ _ _ h => h) (by decide) (by decide) (by rfl) ?_ ?_
        rotate_left
        · (intro w; go_simp; try with_reducible rfl)
        dsimp only [List.set_cons_zero, List.set_cons_succ]
        refine stand_take (i := 2) (v := ?_) rfl (by kernel_rfl) (by kernel_rfl) (by kernel_rfl) (by rfl) (fun _ _ _ h => h) (by decide) (by decide) (by rfl) ?_ ?_
        rotate_left
        · (intro w; go_simp; try with_reducible rfl)
        dsimp only [List.set_cons_zero, List.set_cons_succ]
        refine stand_take (i := 3) (v := ?_) rfl (by kernel_rfl) (by kernel_rfl) (by kernel_rfl) (by rfl) (fun _ _ _ h => h) (by decide) (by decide) (by rfl) ?_ ?_
        rotate_left
        · (intro w; go_simp; try with_reducible rfl)
        dsimp only [List.set_cons_zero, List.set_cons_succ]
        refine stand_take (i := 4) (v := ?_) rfl (by kernel_rfl) (by kernel_rfl) (by kernel_rfl) (by rfl) (fun _ _ _ h => h) (by decide) (by decide) (by rfl) ?_ ?_
        rotate_left
        · (intro w; go_simp; try with_reducible rfl)
        dsimp only [List.set_cons_zero, List.set_cons_succ]
        refine stand_take (i := 6) (v := ?_) rfl (by kernel_rfl) (by kernel_rfl) (by kernel_rfl) (by rfl) (fun _ _ _ h => h) (by decide) (by decide) (by rfl) ?_ ?_
        rotate_left
        · (intro w; go_simp; try with_reducible rfl)
        dsimp only [List.set_cons_zero, List.set_cons_succ]
        refine stand_take (i := 7) (v := ?_) rfl (by kernel_rfl) (by kernel_rfl) (by kernel_rfl) (by rfl) (fun _ _ _ h => h) (by decide) (by decide) (by rfl) ?_ ?_
        rotate_left
        · (intro w; go_simp; try with_reducible rfl)
        dsimp only [List.set_cons_zero, List.set_cons_succ]
        refine stand_step (i := 5) (by kernel_rfl) rfl (fun K hK => ?_)
        go_simp
        refine (len_any _ UD.out.here UD.out.rs.nn).mono ?_
        rintro e w4 ⟨rfl, rfl⟩
        refine hK.out _ _ (fun _ => KEEP.out _ TD.out) (fun _ => trivial) ?_
        clear hK K
        try simp only [put_laid, List.set_cons_zero, List.set_cons_succ]
        refine stand_take (i := 8) (v := ?_) rfl (by kernel_rfl) (by kernel_rfl) (by kernel_rfl) (by rfl) (fun _ _ _ h => h) (by decide) (by decide) (by rfl) ?_ ?_
        rotate_left
        · (intro w; go_simp; try with_reducible rfl)
        dsimp only [List.set_cons_zero, List.set_cons_succ]
        refine stand_take (i := 9) (v := ?_) rfl (by kernel_rfl) (by kernel_rfl) (by kernel_rfl) (by rfl) (fun _ _ _ h => h) (by decide) (by decide) (by rfl) ?_ ?_
        rotate_left
        · (intro w; go_simp; try with_reducible rfl)
        dsimp only [List.set_cons_zero, List.set_cons_succ]
        refine stand_take (i := 10) (v := ?_) rfl (by kernel_rfl) (by kernel_rfl) (by kernel_rfl) (by rfl) (fun _ _ _ h => h) (by decide) (by decide) (by rfl) ?_ ?_
        rotate_left
        · (intro w; go_simp; try with_reducible rfl)
        dsimp only [List.set_cons_zero, List.set_cons_succ]
        refine stand_take (i := 11) (v := ?_) rfl (by kernel_rfl) (by kernel_rfl) (by kernel_rfl) (by rfl) (fun _ _ _ h => h) (by decide) (by decide) (by rfl) ?_ ?_
        rotate_left
        · (intro w; go_simp; try with_reducible rfl)
        dsimp only [List.set_cons_zero, List.set_cons_succ]
        refine stand_take (i := 12) (v := ?_) rfl (by kernel_rfl) (by kernel_rfl) (by kernel_rfl) (by rfl) (fun _ _ _ h => h) (by decide) (by decide) (by rfl) ?_ ?_
        rotate_left
        · (intro w; go_simp; try with_reducible rfl)
        dsimp only [List.set_cons_zero, List.set_cons_succ]
        refine stand_load3 (i := 13) (v := ?_) rfl (by kernel_rfl) (by kernel_rfl) (by kernel_rfl) (by rfl) (fun _ _ _ h => h) (by decide) (by decide) (by kernel_rfl) (by rfl) ?_ ?_
        rotate_left
        · (intro w hA; (try dsimp only at hA); go_simp; try with_reducible rfl)
        dsimp only [List.set_cons_zero, List.set_cons_succ]
        refine stand_take (i := 15) (v := ?_) rfl (by kernel_rfl) (by kernel_rfl) (by kernel_rfl) (by rfl) (fun _ _ _ h => h) (by decide) (by decide) (by rfl) ?_ ?_
        rotate_left
        · (intro w; go_simp; try with_reducible rfl)
        dsimp only [List.set_cons_zero, List.set_cons_succ]
        refine stand_take (i := 16) (v := ?_) rfl (by kernel_rfl) (by kernel_rfl) (by kernel_rfl) (by rfl) (fun _ _ _ h => h) (by decide) (by decide) (by rfl) ?_ ?_
        rotate_left
        · (intro w; go_simp; try with_reducible rfl)
        dsimp only [List.set_cons_zero, List.set_cons_succ]
        refine stand_load3 (i := 17) (v := ?_) rfl (by kernel_rfl) (by kernel_rfl) (by kernel_rfl) (by rfl) (fun _ _ _ h => h) (by decide) (by decide) (by kernel_rfl) (by rfl) ?_ ?_
        rotate_left
        · (intro w hA; (try dsimp only at hA); go_simp; try with_reducible rfl)
        dsimp only [List.set_cons_zero, List.set_cons_succ]
        refine stand_step (i := 14) (by kernel_rfl) rfl (fun K hK => ?_)
        go_simp
        refine (owner_any _ UD.out.here HX.out).mono ?_
        rintro e w4 ⟨rfl, rfl⟩
        refine hK.out _ _ (fun _ => KEEP.out _ TD.out) (fun _ => trivial) ?_
        clear hK K
        try simp only [put_laid, List.set_cons_zero, List.set_cons_succ]
        refine stand_step (i := 18) (by kernel_rfl) rfl (fun K hK => ?_)
        go_simp
        refine (rowner_any _ UD.out.rs HX.out).mono ?_
        rintro e w4 ⟨rfl, rfl⟩
        refine hK.out _ _ (fun _ => KEEP.out _ TD.out) (fun _ => trivial) ?_
        clear hK K
        try simp only [put_laid, List.set_cons_zero, List.set_cons_succ]
        refine stand_take (i := 19) (v := ?_) rfl (by kernel_rfl) (by kernel_rfl) (by kernel_rfl) (by rfl) (fun _ _ _ h => h) (by decide) (by decide) (by rfl) ?_ ?_
        rotate_left
        · (intro w; go_simp; try with_reducible rfl)
        dsimp only [List.set_cons_zero, List.set_cons_succ]
        refine stand_take (i := 20) (v := ?_) rfl (by kernel_rfl) (by kernel_rfl) (by kernel_rfl) (by rfl) (fun _ _ _ h => h) (by decide) (by decide) (by rfl) ?_ ?_
        rotate_left
        · (intro w; go_simp; try with_reducible rfl)
        dsimp only [List.set_cons_zero, List.set_cons_succ]
        refine stand_take (i := 21) (v := ?_) rfl (by kernel_rfl) (by kernel_rfl) (by kernel_rfl) (by rfl) (fun _ _ _ h => h) (by decide) (by decide) (by rfl) ?_ ?_
        rotate_left
        · (intro w; go_simp; try with_reducible rfl)
        dsimp only [List.set_cons_zero, List.set_cons_succ]
        refine stand_take (i := 22) (v := ?_) rfl (by kernel_rfl) (by kernel_rfl) (by kernel_rfl) (by rfl) (fun _ _ _ h => h) (by decide) (by decide) (by rfl) ?_ ?_
        rotate_left
        · (intro w; go_simp; try with_reducible rfl)
        dsimp only [List.set_cons_zero, List.set_cons_succ]
        refine stand_take (i := 23) (v := ?_) rfl (by kernel_rfl) (by kernel_rfl) (by kernel_rfl) (by rfl) (fun _ _ _ h => h) (by decide) (by decide) (by rfl) ?_ ?_
        rotate_left
        · (intro w; go_simp; try with_reducible rfl)
        dsimp only [List.set_cons_zero, List.set_cons_succ]
        refine stand_load3 (i := 24) (v := ?_) rfl (by kernel_rfl) (by kernel_rfl) (by kernel_rfl) (by rfl) (fun _ _ _ h => h) (by decide) (by decide) (by kernel_rfl) (by rfl) ?_ ?_
        rotate_left
        · (intro w hA; (try dsimp only at hA); go_simp; try with_reducible rfl)
        dsimp only [List.set_cons_zero, List.set_cons_succ]
        refine stand_take (i := 26) (v := ?_) rfl (by kernel_rfl) (by kernel_rfl) (by kernel_rfl) (by rfl) (fun _ _ _ h => h) (by decide) (by decide) (by rfl) ?_ ?_
        rotate_left
        · (intro w; go_simp; try with_reducible rfl)
        dsimp only [List.set_cons_zero, List.set_cons_succ]
        refine stand_take (i := 27) (v := ?_) rfl (by kernel_rfl) (by kernel_rfl) (by kernel_rfl) (by rfl) (fun _ _ _ h => h) (by decide) (by decide) (by rfl) ?_ ?_
        rotate_left
        · (intro w; go_simp; try with_reducible rfl)
        dsimp only [List.set_cons_zero, List.set_cons_succ]
        refine stand_load3 (i := 28) (v := ?_) rfl (by kernel_rfl) (by kernel_rfl) (by kernel_rfl) (by rfl) (fun _ _ _ h => h) (by decide) (by decide) (by kernel_rfl) (by rfl) ?_ ?_
        rotate_left
        · (intro w hA; (try dsimp only at hA); go_simp; try with_reducible rfl)
        dsimp only [List.set_cons_zero, List.set_cons_succ]
        refine stand_step (i := 25) (by kernel_rfl) rfl (fun K hK => ?_)
        go_simp
        refine (held_any _ UD.out.here HH.out HNH.out).mono ?_
        rintro e w7 ⟨b7, c7, rfl, _, i7, _, _, _, t7⟩
        have U7 := Lib.hid (UD.out.new t7)
        have T7 := Lib.hid (TD.out.trans t7)
        have I7 := Lib.hid i7
        clear t7 i7
        refine hK.out _ _ (fun _ => KEEP.out _ T7.out) (fun _ => trivial) ?_
        clear hK K
        try simp only [put_laid, List.set_cons_zero, List.set_cons_succ]
        refine stand_step (i := 29) (by kernel_rfl) rfl (fun K hK => ?_)
        go_simp
        refine (rheld_any _ U7.out.rs HH.out HNH.out).mono ?_
        rintro e w8 ⟨b8, c8, rfl, _, i8, _, _, _, t8⟩
        have U8 := Lib.hid (U7.out.new t8)
        have T8 := Lib.hid (T7.out.trans t8)
        have I78 := Lib.hid (I7.out.turn t8 (fun _ _ => id))
        have I8 := Lib.hid i8
        clear t8 i8
        refine hK.out _ _ (fun _ => KEEP.out _ T8.out) (fun _ => trivial) ?_
        clear hK K
        try simp only [put_laid, List.set_cons_zero, List.set_cons_succ]
        refine stand_step (i := 30) (by kernel_rfl) rfl (fun K hK => ?_)
        go_simp
        refine (same_eq _ I78.out I8.out HNH.out (by omega)).mono ?_
        rintro e w9 ⟨rfl, k9, rfl⟩
        have U9 := Lib.hid (U8.out.new ((Turn.refl (fun _ => False) w8).drewN k9))
        refine hK.out _ _ (fun _ => KEEP.out _ (T8.out.drewN k9)) (fun _ => trivial) ?_
        clear hK K
        try simp only [put_laid, List.set_cons_zero, List.set_cons_succ]
        generalize w8.drewN k9 = w9 at U9 ⊢
        refine stand_take (i := 31) (v := ?_) rfl (by kernel_rfl) (by kernel_rfl) (by kernel_rfl) (by rfl) (fun _ _ _ h => h) (by decide) (by decide) (by rfl) ?_ ?_
        rotate_left
        · (intro w; go_simp; try with_reducible rfl)
        dsimp only [List.set_cons_zero, List.set_cons_succ]
        refine stand_take (i := 32) (v := ?_) rfl (by kernel_rfl) (by kernel_rfl) (by kernel_rfl) (by rfl) (fun _ _ _ h => h) (by decide) (by decide) (by rfl) ?_ ?_
        rotate_left
        · (intro w; go_simp; try with_reducible rfl)
        dsimp only [List.set_cons_zero, List.set_cons_succ]
        refine stand_done (by kernel_rfl) ?_
        go_wp2_with fail
        go_roundw
        case rel => exact ⟨j + 1, v, L, bo, c, n, by omega, by go_num, rfl, U9⟩
        case measure => simp [intOf]; omega
    · go_wp2_with fail
      refine (len_any wr HU.out.here HU.out.rs.nn).mono ?_
      rintro e w2 ⟨rfl, rfl⟩
      go_wp2_with fail
      go_ret
      exact ⟨rfl, HU.out.t⟩

theorem lruns_out {k : Int} {ao : Option Addr} {al ac : Nat} (w : World) (hL : al ≤ maxLen) (h : 100 < al ∨ (40 < k ∧ k ≤ 4096)) :
    Calls Try.prog 3 #[.int .i64 k, .slice ao al ac] w fun e w' => e = .returned (.bool true) ∧ Turn (fun _ => False) w w' := by
  unfold maxLen at hL
  by_cases h1 : 100 < al
  · clear h
    go_enter Try.func3, Try.ntmps3
    go_wp2_with fail
    refine (alive_any w).mono ?_
    rintro e w1 ⟨rfl, t1⟩
    have T1 := Lib.hid t1
    clear t1
    go_wp2_with fail
    go_ret
    exact ⟨rfl, T1.out⟩
  · obtain ⟨h2, h3⟩ : 40 < k ∧ k ≤ 4096 := by omega
    have h4 : al ≤ 100 := by omega
    clear h h1 hL
    go_enter Try.func3, Try.ntmps3
    go_wp2_with fail
    refine (alive_any w).mono ?_
    rintro e w1 ⟨rfl, t1⟩
    have T1 := Lib.hid t1
    clear t1
    go_wp2_with fail
    go_ret
    exact ⟨rfl, T1.out⟩

end Go.Proofs.Ytkgkogbegbodjaa
