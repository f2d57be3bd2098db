/- The walk of RingRows. -/
import Derived.Test.YtakfepgndokdpaaSep
import Derived.Deep.DeepCutAuto
namespace Go.Proofs.Ytakfepgndokdpaa
open Go.RowKit
set_option linter.unusedVariables false

def lenOf : Value → Nat
  | .slice _ n _ => n
  | _ => 0
theorem lenOf_slice (a : Option Addr) (n c : Nat) : lenOf (.slice a n c) = n := rfl

/-- Where the second loop stands: x is out of the ring, if b. -/
def Left (b : Bool) (x : Int) (I O R : List Int) : Prop := if b = true then I = O ++ x :: R else I = O ++ R ∧ R = []
theorem left_start {I O R : List Int} (h : I = O ++ R) : Left (outB R) (outV R) I O (outL R) := by
  cases R with
  | nil => exact ⟨h, rfl⟩
  | cons x T => exact h
theorem left_next {x : Int} {I O R : List Int} (h : Left true x I O R) : Left (outB R) (outV R) I (O ++ [x]) (outL R) :=
  left_start (by rw [List.append_assoc]; exact h)
theorem left_end {x : Int} {I O R : List Int} (h : Left false x I O R) : I = O := by
  obtain ⟨h1, h2⟩ : I = O ++ R ∧ R = [] := h
  rw [h1, h2, List.append_nil]
theorem left_len {x : Int} {I O R : List Int} (h : Left true x I O R) : O.length < I.length := by
  have h' : I = O ++ x :: R := h
  rw [h']; simp

theorem sub_of {ni no nr : Nat} {R I O : List Int} (h : I = O ++ R) (hi : I.length = ni) (ho : O.length = no) (hr : R.length = nr) : no + nr = ni := by
  rw [← hi, ← ho, ← hr, h, List.length_append]

set_option maxRecDepth 100000 in
set_option maxHeartbeats 2000000 in
theorem lrows_any {a : Int} {n : Nat} {ao bg : Option Addr} {cap cg gl : Nat} {L : List Int} {G : List Bool} (w : World) (ha : 0 ≤ a ∧ a ≤ 255) (hn : a % 65 = (n : Int)) (hn64 : n ≤ 64) (hr : Ints .i64 w ao L) (hl : L.length ≤ 300) (hg : Bools w bg G) (hgl : G.length = gl) (hgm : gl ≤ 9223372036854775807) :
    Calls Try.prog 5 #[.int .u8 a, .slice ao L.length cap, .slice bg gl cg] w fun e w' => e = .returned (.bool true) ∧ Turn (fun _ => False) w w' := by
  have HL := Lib.hid hr
  have HG := Lib.hid hg
  have HGL := Lib.hid hgl
  clear hr hg hgl
  go_enter Try.func5, Try.ntmps5
  go_wp2_with fail
  refine (alive_any _).mono ?_
  rintro e w1 ⟨rfl, t1⟩
  have T1 := Lib.hid t1
  clear t1
  go_wp2_with fail
  refine (new_good n w1 hn64).mono ?_
  rintro e w2 ⟨rfl, h2, t2⟩
  have H2 := Lib.hid (h2.less T1.out.size)
  have T2 := Lib.hid (T1.out.trans t2)
  have HM := Lib.hid hn
  clear t2 h2 T1 hn
  go_wp2_with fail
  have HS : Hid (Sep w ((w2.alloc (.cells #[] 2)).alloc (.cells #[] 2)) w1.heap.size n none 0 [] (some ⟨w2.heap.size, 0, none⟩) 0 0 [] (some ⟨w2.heap.size + 1, 0, none⟩) 0 0 []) := Lib.hid
    ⟨H2.out.new (((Turn.refl _ _).alloc _).alloc _), own_empty (new2 w2 _ _) T2.out.size, own_empty (new2' w2 _ _) (Nat.le_succ_of_le T2.out.size),
      fun a e hb => by cases e; have := (H2.out.blocks hb).2; simp at this, fun a e hb => by cases e; have := (H2.out.blocks hb).2; simp at this; omega, fun a b e e' => by cases e; cases e'; simp, (T2.out.alloc _).alloc _⟩
  rw [HM.out]
  generalize w1.heap.size = p at HS ⊢
  clear HM T2 H2
  go_loopw [41, 10, 11] (fun s41 s10 s11 wr => ∃ (k ni ci no co nr c : Nat) (bi bo ao : Option Addr) (R I O : List Int), k ≤ L.length ∧ s41 = .int .i64 k ∧ s10 = .slice bi ni ci ∧ s11 = .slice bo no co ∧ ni ≤ k ∧ nr ≤ n ∧ no ≤ ni ∧ Hid (Sep w wr p n ao c R bi ni ci I bo no co O) ∧ Hid (I = O ++ R) ∧ Hid (R.length = nr)) (fun s41 _ _ _ => L.length - (intOf s41).toNat)
  case atStart => exact ⟨0, 0, 0, 0, 0, 0, 0, _, _, _, [], [], [], Nat.zero_le _, rfl, rfl, rfl, Nat.le_refl _, Nat.zero_le _, Nat.le_refl _, HS, Lib.hid rfl, Lib.hid rfl⟩
  case round =>
    obtain ⟨k, ni, ci, no, co, nr, c, bi, bo, ao', R, I, O, hk, rfl, rfl, rfl, hnik, hnr, hno, S, HE, HR⟩ := hrel
    clear HS
    by_cases hlt : k < L.length
    · obtain ⟨ad, hao, hc⟩ := (HL.out.turn S.out.t (fun _ _ => id)) k hlt
      subst hao
      generalize L.getD k 0 = x at hc
      go_upto_if 48 with (go_at_call 16; refine (put_any x _ S.out.ring).mono ?_; rintro e w3 ⟨rfl, k3⟩; obtain ⟨ao3, c3, s3⟩ := S.out.kept k3; have S3 := Lib.hid s3; clear k3 s3)
      go_cut [10] (fun s10 wx => ∃ (ni ci nr c : Nat) (bi ao : Option Addr) (R I : List Int), s10 = .slice bi ni ci ∧ ni ≤ k + 1 ∧ nr ≤ n ∧ no ≤ ni ∧ Hid (Sep w wx p n ao c R bi ni ci I bo no co O) ∧ Hid (I = O ++ R) ∧ Hid (R.length = nr))
      case first =>
        have hil := S.out.ini.len
        by_cases hp : R.length < n
        · have e1 : putB n R = true := decide_eq_true hp
          have e2 : putL n R x = R ++ [x] := if_pos hp
          rw [e1]
          rw [e2] at S3
          obtain ⟨ni1, hni1⟩ : ∃ m, ni + 1 = m := ⟨_, rfl⟩
          have hq1 : ni1 ≤ k + 1 := by omega
          have hq2 : nr + 1 ≤ n := by have := HR.out; omega
          have hq3 : no ≤ ni1 := by omega
          have hq4 : ni ≤ 1000000 := by omega
          have HI1 := Lib.hid hni1
          have HE1 := Lib.hid (show I ++ [x] = O ++ (R ++ [x]) by rw [HE.out, List.append_assoc])
          have HR1 := Lib.hid (show (R ++ [x]).length = nr + 1 by rw [List.length_append, HR.out]; rfl)
          clear e1 e2 hni1 hil hp hnik
          go_wp2_with (at_builtin; refine wpList_append_one_n (w0 := w3) Try.underlying22 info_int (by decide) rfl (.tmp 49) (.tmp 51) rfl w.heap.size (.slice bi ni ci) I ni x rfl S3.out.ini ni1 HI1.out rfl hq4 S3.out.t.size ?_; intro g4 c4 w4 hg4 h4 t4 b4)
          go_meet
          exact ⟨ni1, c4, nr + 1, c3, _, ao3, R ++ [x], I ++ [x], rfl, hq1, hq2, hq3, Lib.hid (S3.out.inned h4.out t4.out b4.out), HE1, HR1⟩
        · have e1 : putB n R = false := decide_eq_false hp
          have e2 : putL n R x = R := if_neg hp
          have HF := Lib.hid (show R.length = n by have := S.out.ring.le; omega)
          rw [e1]
          rw [e2] at S3
          clear e1 e2 hil hp
          go_wp2_with fail
          refine (full_yes _ S3.out.ring HF.out).mono ?_
          rintro e w4 ⟨rfl, n4, rfl⟩
          go_wp2_with fail
          go_meet
          exact ⟨ni, ci, nr, c3, bi, ao3, R, I, rfl, by omega, hnr, hno, Lib.hid (S3.out.drewN n4), HE, HR⟩
      case rest =>
        clear S S3 HE HR hnr hno hnik
        obtain ⟨ni, ci, nr, c, bi, ao3, R, I, rfl, hnik, hnr, hno, S, HE, HR⟩ := hcut
        go_upto_region 17 with fail
        go_cut [65] (fun s65 wx => ∃ b : Bool, s65 = .bool b ∧ Hid (Sep w wx p n ao3 c R bi ni ci I bo no co O))
        case first =>
          by_cases hg : k < gl
          · obtain ⟨bd, hb, hd⟩ := (HG.out.turn S.out.t (fun _ _ => id)) k (by rw [HGL.out]; exact hg)
            subst hb
            generalize G.getD k false = b at hd
            go_wp2_with fail
            go_meet
            exact ⟨b, rfl, S⟩
          · go_wp2_with fail
            go_meet
            exact ⟨false, rfl, S⟩
        case rest =>
          clear S
          obtain ⟨b, rfl, S⟩ := hcut
          go_upto_if 65 with fail
          go_cut [11] (fun s11 wx => ∃ (no co nr c : Nat) (bo ao : Option Addr) (R O : List Int), s11 = .slice bo no co ∧ nr ≤ n ∧ no ≤ ni ∧ Hid (Sep w wx p n ao c R bi ni ci I bo no co O) ∧ Hid (I = O ++ R) ∧ Hid (R.length = nr))
          case first =>
            cases b with
            | false =>
              go_wp2_with fail
              go_meet
              exact ⟨no, co, nr, c, bo, ao3, R, O, rfl, hnr, hno, S, HE, HR⟩
            | true =>
              by_cases h0 : R = []
              · have H0 := Lib.hid h0
                clear h0
                go_wp2_with fail
                refine (get_empty _ S.out.ring H0.out).mono ?_
                rintro e w5 ⟨rfl, k5⟩
                obtain ⟨ao5, c5, s5⟩ := S.out.kept k5
                rw [← H0.out] at s5
                have S5 := Lib.hid s5
                clear k5 s5
                go_wp2_with fail
                go_meet
                exact ⟨no, co, nr, c5, bo, ao5, R, O, rfl, hnr, hno, S5, HE, HR⟩
              · obtain ⟨y, T, hT⟩ : ∃ y T, R = y :: T := by
                  cases R with
                  | nil => exact absurd rfl h0
                  | cons y T => exact ⟨y, T, rfl⟩
                have hsum := sub_of HE.out S.out.ini.len S.out.out.len HR.out
                have hTl : T.length + 1 = nr := by rw [← HR.out, hT]; rfl
                obtain ⟨no1, hno1⟩ : ∃ m, no + 1 = m := ⟨_, rfl⟩
                obtain ⟨nr1, hnr1⟩ : ∃ m, T.length = m := ⟨_, rfl⟩
                have hq1 : nr1 ≤ n := by omega
                have hq2 : no1 ≤ ni := by omega
                have hq3 : no ≤ 1000000 := by omega
                have HT := Lib.hid hT
                have HN1 := Lib.hid hno1
                have HR1 := Lib.hid hnr1
                have HE1 := Lib.hid (show I = (O ++ [y]) ++ T by rw [HE.out, hT, List.append_assoc]; rfl)
                clear h0 hT hTl hno1 hnr1 hsum
                go_wp2_with fail
                refine (get_one _ S.out.ring HT.out).mono ?_
                rintro e w5 ⟨rfl, k5⟩
                obtain ⟨ao5, c5, s5⟩ := S.out.kept k5
                have S5 := Lib.hid s5
                clear k5 s5
                go_wp2_with (at_builtin; refine wpList_append_one_n (w0 := w5) Try.underlying22 info_int (by decide) rfl (.tmp 72) (.tmp 74) rfl w.heap.size (.slice bo no co) O no y rfl S5.out.out no1 HN1.out rfl hq3 S5.out.t.size ?_; intro g6 c6 w6 hg6 h6 t6 b6)
                go_meet
                exact ⟨no1, c6, nr1, c5, _, ao5, T, O ++ [y], rfl, hq1, hq2, Lib.hid (S5.out.outed h6.out t6.out b6.out), HE1, HR1⟩
          case rest =>
            clear S HE HR hnr hno
            obtain ⟨no, co, nr, c, bo, ao3, R, O, rfl, hnr, hno, S, HE, HR⟩ := hcut
            have hsum := sub_of HE.out S.out.ini.len S.out.out.len HR.out
            have hsub : (ni : Int) - (no : Int) = (nr : Int) := by omega
            clear hsum
            go_wp2_with fail
            refine (len_n _ S.out.ring HR.out).mono ?_
            rintro e w7 ⟨rfl, rfl⟩
            go_wp2_with fail
            refine (len_n _ S.out.ring HR.out).mono ?_
            rintro e w7 ⟨rfl, rfl⟩
            go_wp2_with fail
            go_roundw
            case rel => exact ⟨k + 1, ni, ci, no, co, nr, c, bi, bo, ao3, R, I, O, by omega, by go_num, rfl, rfl, hnik, hnr, hno, S, HE, HR⟩
            case measure => simp [intOf]; omega
    · clear hnr hno
      go_wp2_with fail
      refine (get_any _ S.out.ring).mono ?_
      rintro e w3 ⟨rfl, k3⟩
      obtain ⟨ao3, c3, s3⟩ := S.out.kept k3
      have S3 := Lib.hid s3
      have HE3 := Lib.hid (left_start HE.out)
      clear k3 s3
      generalize outB R = b3 at HE3 ⊢
      generalize outV R = x3 at HE3 ⊢
      generalize outL R = R3 at HE3 S3
      clear S HE HR
      go_wp2_with fail
      go_loopw [16, 17, 11] (fun s16 s17 s11 wr => ∃ (x : Int) (b : Bool) (no co c : Nat) (bo ao : Option Addr) (R O : List Int), s16 = .int .i64 x ∧ s17 = .bool b ∧ s11 = .slice bo no co ∧ Hid (Sep w wr p n ao c R bi ni ci I bo no co O) ∧ Hid (Left b x I O R)) (fun _ _ s11 _ => ni - lenOf s11)
      case atStart => exact ⟨x3, b3, no, co, c3, bo, ao3, R3, O, rfl, rfl, rfl, S3, HE3⟩
      case round =>
        clear S3 HE3
        obtain ⟨x, b, no, co, c, bo, ao3, R, O, rfl, rfl, rfl, S, HE⟩ := hrel
        have hil := S.out.ini.len
        have hol := S.out.out.len
        cases b with
        | true =>
          have hlen := left_len HE.out
          rw [hil, hol] at hlen
          obtain ⟨no1, hno1⟩ : ∃ m, no + 1 = m := ⟨_, rfl⟩
          have hq2 : no1 ≤ ni := by omega
          have hq3 : no ≤ 1000000 := by omega
          have hq4 : ni - no1 < ni - no := by omega
          have HN1 := Lib.hid hno1
          have HE1 := Lib.hid (left_next HE.out)
          clear hno1 hil hol hlen HE
          go_wp2_with (first
            | (at_builtin; refine wpList_append_one_n Try.underlying22 info_int (by decide) rfl (.tmp 102) (.tmp 104) rfl w.heap.size (.slice bo no co) O no x rfl S.out.out no1 HN1.out rfl hq3 S.out.t.size ?_; intro g6 c6 w6 hg6 h6 t6 b6; have S6 := Lib.hid (S.out.outed h6.out t6.out b6.out); clear h6 t6 b6 S)
            | (go_at_call 18; refine (get_any _ S6.out.ring).mono ?_; rintro e w7 ⟨rfl, k7⟩; obtain ⟨ao7, c7, s7⟩ := S6.out.kept k7; have S7 := Lib.hid s7; clear k7 s7))
          go_roundw
          case rel => exact ⟨_, _, no1, c6, c7, _, ao7, _, O ++ [x], rfl, rfl, rfl, S7, HE1⟩
          case measure => simpa [lenOf] using hq4
        | false =>
          have HE1 := Lib.hid (left_end HE.out)
          have hi300 : ni ≤ 1000 := by omega
          have HIL := Lib.hid hil
          have I1 := Lib.hid S.out.ini.ints
          have O1 := Lib.hid (show Ints .i64 wr bo I by rw [HE1.out]; exact S.out.out.ints)
          have HOL := Lib.hid (show no = ni by rw [← hil, ← hol, ← HE1.out])
          clear hil hol HE
          go_wp2_with fail
          rw [HOL.out]
          refine (same_eq _ I1.out O1.out HIL.out hi300).mono ?_
          rintro e w5 ⟨rfl, n5, rfl⟩
          go_wp2_with fail
          go_ret
          exact ⟨rfl, S.out.t.drewN _⟩

end Go.Proofs.Ytakfepgndokdpaa
