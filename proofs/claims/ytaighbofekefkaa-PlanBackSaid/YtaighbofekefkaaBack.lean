/- The walk of PlanBack. -/
import Derived.Test.YtaighbofekefkaaAlive
import Derived.Test.YtaighbofekefkaaClo
import Derived.Test.YtaighbofekefkaaRefB
namespace Go.Proofs.Ytaighbofekefkaa
open Go.RowKit
set_option linter.unusedVariables false

theorem isBytes_append {A B : List Int} (h : IsBytes A) (k : IsBytes B) : IsBytes (A ++ B) := fun x hx => by
  rcases List.mem_append.1 hx with e | e
  · exact h x e
  · exact k x e
theorem encP_len {p : List (List Opr)} (h : rightP p = true) : (encP p).length ≤ 4000 := by
  obtain ⟨h1, h2, h3⟩ := rightP_has h
  have hl : ∀ q : List (List Opr), q.all rightL = true → (q.flatMap encL).length ≤ 385 * q.length := by
    intro q
    induction q with
    | nil => simp
    | cons l q ih =>
      intro hq
      rw [List.all_cons, Bool.and_eq_true] at hq
      have a := encL_len hq.1
      have b := ih hq.2
      rw [List.flatMap_cons, List.length_append, List.length_cons]
      omega
  have := hl p h1
  unfold encP
  rw [List.length_cons]
  omega


set_option maxRecDepth 100000 in
set_option maxHeartbeats 4000000 in
theorem lback_any {ao bo : Option Addr} {n c m d : Nat} {B M : List Int} (w : World) (hB : Ints .u8 w ao B) (hn : B.length = n) (hb : IsBytes B) (hmx : n ≤ maxLen) (hM : Ints .u8 w bo M) (hm : M.length = m) (hmb : IsBytes M) (hmm : m ≤ maxLen) (hnil : bo = none → d = 0) :
    Calls Try.prog 6 #[.slice ao n c, .slice bo m d] w (Says w true) := by
  unfold maxLen at hmx hmm
  obtain ⟨PP, hPP⟩ : ∃ q, (planOf B).1 = q := ⟨_, rfl⟩
  have hr : rightP PP = true := hPP ▸ planOf_right hb
  obtain ⟨us, hus⟩ : ∃ u, usedOf B = u := ⟨_, rfl⟩
  obtain ⟨ub1, ub2⟩ := usedOf_back B
  rw [hus, hn] at ub1
  rw [hus, hn, hPP] at ub2
  obtain ⟨mx, hmxx⟩ : ∃ k, (encP PP).length = k := ⟨_, rfl⟩
  rw [hmxx] at ub2
  have hmx4 : mx ≤ 4000 := hmxx ▸ encP_len hr
  have hmx0 : 0 < mx := by rw [← hmxx]; unfold encP; simp
  have HPP := Lib.hid hPP
  have HU := Lib.hid hus
  have HR := Lib.hid hr
  have HMP := Lib.hid (rightP_mild hr)
  have HMX := Lib.hid hmxx
  have HEB := Lib.hid (encP_bytes hr)
  have HPE := Lib.hid (planOf_enc PP M hr)
  have HUE := Lib.hid ((usedOf_enc PP M hr).trans hmxx)
  have HB := Lib.hid hB
  have HN := Lib.hid hn
  have HBY := Lib.hid hb
  have HM := Lib.hid hM
  have HMN := Lib.hid hm
  have HMB := Lib.hid hmb
  have HNIL := Lib.hid hnil
  clear hPP hr hus hmxx hB hn hb hM hm hmb hnil
  unfold Says
  go_enter Try.func6, Try.ntmps6
  go_wp2_with fail
  refine (alive_any _).mono ?_
  rintro e w1 ⟨rfl, t1⟩
  have TT := Lib.hid t1
  clear t1
  rcases Nat.lt_or_ge 2000 n with hbig | hsmall
  · go_wp2_with fail
    go_ret
    exact ⟨rfl, TT.out⟩
  rcases Nat.lt_or_ge 100 m with hbig2 | hsmall2
  · go_wp2_with fail
    go_ret
    exact ⟨rfl, TT.out⟩
  go_wp2_with fail
  refine (decode_any _ (HB.out.turn TT.out (fun _ _ => id)) HN.out HBY.out (by omega)).mono ?_
  rintro e w2 ⟨⟨po, pl, pc⟩, rfl, g1, t2⟩
  rw [HPP.out] at g1
  rw [HU.out]
  unfold Sl.val
  dsimp only
  have TT := Lib.hid (TT.out.trans t2)
  have G := Lib.hid g1
  have HPL := Lib.hid (show PP.length = pl from g1.len.symm)
  clear g1 t2
  go_wp2_with fail
  refine (encode_yes (s := ⟨po, pl, pc⟩) _ G.out.reads HPL.out HR.out).mono ?_
  rintro e w3 ⟨v1, rfl, o1, t3⟩
  have TT := Lib.hid (TT.out.trans t3)
  have G := Lib.hid (G.out.new t3)
  obtain ⟨gx, cx, rfl, _⟩ := own_form (o1.at HMX.out) hmx0
  have O1 := Lib.hid (own_reads (o1.at HMX.out))
  clear t3 o1
  go_upto_region 7 with fail
  have HZ := Lib.hid (Nat.zero_add mx)
  have TE := Lib.hid ((Turn.refl (fun _ => False) w3).alloc (.cells #[] 5))
  go_wp2_with (first
    | (at_builtin; refine wpList_append_ints_at Try.underlying22 info_u8 (by decide) rfl (.tmp 32) (.tmp 33) rfl w3.heap.size (.slice (some ⟨w3.heap.size, 0, none⟩) 0 0) [] 0 rfl (own_empty (heap_alloc_new w3 _) (Nat.le_refl _)) (some ⟨gx, 0, none⟩) (encP PP) mx cx HMX.out rfl (fun e => by cases e) (O1.out.2.1.turn TE.out (fun _ _ => id)) (by omega) TE.out.size ?_; intro v4 w4 O4 T4 B4; rw [Nat.zero_add, List.nil_append] at O4; have TX4 := Lib.hid (TE.out.and T4.out (fun i hi e => by have := Option.some.inj e; have e2 : w3.heap.size = i := this; omega)))
    | (at_builtin; refine wpList_append_ints_at Try.underlying22 info_u8 (by decide) rfl (.tmp 34) (.tmp 35) rfl w3.heap.size v4 (encP PP) mx rfl O4.out bo M m d HMN.out rfl HNIL.out (HM.out.turn (TT.out.trans TX4.out) (fun _ _ => id)) (by omega) TX4.out.size ?_; intro v5 w5 O5 T5 B5; have TX5 := Lib.hid (TX4.out.and T5.out (fun i hi e => by have := (O4.out.lt i e).1; omega)); obtain ⟨ao5, c5, rfl, _⟩ := own_slice O5.out))
  have I5 := Lib.hid (own_reads O5.out).2.1
  have TT := Lib.hid (TT.out.trans TX5.out)
  have G := Lib.hid (G.out.new TX5.out)
  clear O4 T4 B4 O5 T5 B5 TX4 TX5 TE
  refine (decode_any _ I5.out (by rw [List.length_append, HMX.out, HMN.out]) (isBytes_append HEB.out HMB.out) (by omega)).mono ?_
  rintro e w6 ⟨⟨qo, ql, qc⟩, rfl, g2, t6⟩
  rw [HPE.out] at g2
  rw [HUE.out]
  unfold Sl.val
  dsimp only
  have TT := Lib.hid (TT.out.trans t6)
  have G := Lib.hid (G.out.new t6)
  have Q := Lib.hid g2.reads
  have HQL := Lib.hid (show PP.length = ql from g2.len.symm)
  clear g2 t6
  rcases ub2 with rfl | rfl
  · go_wp2_with fail
    refine (right_any (s := ⟨po, pl, pc⟩) true _ G.out.reads HPL.out HMP.out HR.out).mono ?_
    rintro e w7 ⟨rfl, t7⟩
    have TT := Lib.hid (TT.out.trans t7)
    have G := Lib.hid (G.out.new t7)
    have Q := Lib.hid (Q.out.new t7)
    clear t7
    go_wp2_with fail
    refine (rsame_any (s := ⟨po, pl, pc⟩) (t := ⟨qo, ql, qc⟩) true _ G.out.reads Q.out HPL.out HQL.out HMP.out HMP.out (sameP_refl _)).mono ?_
    rintro e w8 ⟨rfl, t8⟩
    have TT := Lib.hid (TT.out.trans t8)
    have G := Lib.hid (G.out.new t8)
    clear t8
    go_wp2_with fail
    refine (clone_any (s := ⟨po, pl, pc⟩) _ G.out.done HPL.out HMP.out).mono ?_
    rintro e w9 ⟨⟨co, cl, cc⟩, rfl, rc, t9⟩
    unfold Sl.val
    dsimp only
    have TT := Lib.hid (TT.out.trans t9)
    have G := Lib.hid (G.out.new t9)
    have RC := Lib.hid rc
    have HCL := Lib.hid (show PP.length = cl from rc.ok.len.symm)
    clear t9 rc
    go_wp2_with fail
    refine (rsame_any (s := ⟨co, cl, cc⟩) (t := ⟨po, pl, pc⟩) true _ RC.out G.out.reads HCL.out HPL.out HMP.out HMP.out (sameP_refl _)).mono ?_
    rintro e w10 ⟨rfl, t10⟩
    have TT := Lib.hid (TT.out.trans t10)
    clear t10
    go_wp2_with fail
    go_ret
    exact ⟨rfl, TT.out⟩
  · by_cases hq : us = n
    · subst hq
      go_wp2_with fail
      refine (right_any (s := ⟨po, pl, pc⟩) true _ G.out.reads HPL.out HMP.out HR.out).mono ?_
      rintro e w7 ⟨rfl, t7⟩
      have TT := Lib.hid (TT.out.trans t7)
      have G := Lib.hid (G.out.new t7)
      have Q := Lib.hid (Q.out.new t7)
      clear t7
      go_wp2_with fail
      refine (rsame_any (s := ⟨po, pl, pc⟩) (t := ⟨qo, ql, qc⟩) true _ G.out.reads Q.out HPL.out HQL.out HMP.out HMP.out (sameP_refl _)).mono ?_
      rintro e w8 ⟨rfl, t8⟩
      have TT := Lib.hid (TT.out.trans t8)
      have G := Lib.hid (G.out.new t8)
      clear t8
      go_wp2_with fail
      refine (clone_any (s := ⟨po, pl, pc⟩) _ G.out.done HPL.out HMP.out).mono ?_
      rintro e w9 ⟨⟨co, cl, cc⟩, rfl, rc, t9⟩
      unfold Sl.val
      dsimp only
      have TT := Lib.hid (TT.out.trans t9)
      have G := Lib.hid (G.out.new t9)
      have RC := Lib.hid rc
      have HCL := Lib.hid (show PP.length = cl from rc.ok.len.symm)
      clear t9 rc
      go_wp2_with fail
      refine (rsame_any (s := ⟨co, cl, cc⟩) (t := ⟨po, pl, pc⟩) true _ RC.out G.out.reads HCL.out HPL.out HMP.out HMP.out (sameP_refl _)).mono ?_
      rintro e w10 ⟨rfl, t10⟩
      have TT := Lib.hid (TT.out.trans t10)
      clear t10
      go_wp2_with fail
      go_ret
      exact ⟨rfl, TT.out⟩
    · go_wp2_with fail
      refine (right_any (s := ⟨po, pl, pc⟩) true _ G.out.reads HPL.out HMP.out HR.out).mono ?_
      rintro e w7 ⟨rfl, t7⟩
      have TT := Lib.hid (TT.out.trans t7)
      have G := Lib.hid (G.out.new t7)
      have Q := Lib.hid (Q.out.new t7)
      clear t7
      go_wp2_with fail
      refine (rsame_any (s := ⟨po, pl, pc⟩) (t := ⟨qo, ql, qc⟩) true _ G.out.reads Q.out HPL.out HQL.out HMP.out HMP.out (sameP_refl _)).mono ?_
      rintro e w8 ⟨rfl, t8⟩
      have TT := Lib.hid (TT.out.trans t8)
      have G := Lib.hid (G.out.new t8)
      clear t8
      go_wp2_with fail
      refine (clone_any (s := ⟨po, pl, pc⟩) _ G.out.done HPL.out HMP.out).mono ?_
      rintro e w9 ⟨⟨co, cl, cc⟩, rfl, rc, t9⟩
      unfold Sl.val
      dsimp only
      have TT := Lib.hid (TT.out.trans t9)
      have G := Lib.hid (G.out.new t9)
      have RC := Lib.hid rc
      have HCL := Lib.hid (show PP.length = cl from rc.ok.len.symm)
      clear t9 rc
      go_wp2_with fail
      refine (rsame_any (s := ⟨co, cl, cc⟩) (t := ⟨po, pl, pc⟩) true _ RC.out G.out.reads HCL.out HPL.out HMP.out HMP.out (sameP_refl _)).mono ?_
      rintro e w10 ⟨rfl, t10⟩
      have TT := Lib.hid (TT.out.trans t10)
      clear t10
      go_wp2_with fail
      go_ret
      exact ⟨rfl, TT.out⟩

end Go.Proofs.Ytaighbofekefkaa
