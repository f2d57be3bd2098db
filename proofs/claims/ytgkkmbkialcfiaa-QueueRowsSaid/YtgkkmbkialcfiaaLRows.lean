/- The walk of QueueRows. -/
import Derived.Test.YtgkkmbkialcfiaaRefA
namespace Go.Proofs.Ytgkkmbkialcfiaa
open Go.RowKit
set_option linter.unusedVariables false

theorem Here.back' {w w1 wx : World} {p tb eb : Nat} {s : St} (h : Here w1 wx p tb eb s) (t : Turn (fun _ => False) w w1) : Here w wx p tb eb s := ⟨h.q.less t.size, t.trans h.t⟩
theorem new_64 (w : World) : Calls Try.prog 7 #[.int .i64 64, .int .i64 1] w (NewPost 64 1 w) := new_good (n := 64) (m := 1) w (by decide) (by decide)
section
variable {s : St} {x : Int}
theorem isq_one (hm : s.m = 1) : isQ s 0 = true := decide_eq_true ⟨by omega, by omega⟩
theorem list_one (hm : s.m = 1) : listL s 0 = s.M 0 := by
  unfold listL
  rw [isq_one hm]
  rfl
theorem push_yes (hb : pushB s 0 x = true) : (pushS s 0 x).M 0 = s.M 0 ++ [x] := by
  unfold pushS
  rw [if_pos hb]
  exact updM_same s.M 0 _
theorem push_no (hb : pushB s 0 x = false) : pushS s 0 x = s := by
  unfold pushS
  rw [hb]
  rfl
theorem drop_one (hm : s.m = 1) (x : Int) : (inB s x = true ∧ (dropS s x).M 0 = without (s.M 0) x) ∨ (inB s x = false ∧ dropS s x = s) := by
  rcases in_cases s x with ⟨e1, _, e3, _⟩ | ⟨k, hk, _, _, e1, _, e3⟩
  · exact Or.inr ⟨e1, e3⟩
  · obtain rfl : k = 0 := by omega
    exact Or.inl ⟨e1, by rw [e3]; exact updM_same s.M 0 _⟩
theorem drop_gone (hm : s.m = 1) (x : Int) : inB (dropS s x) x = false := by
  refine (in_not fun k hk => ?_).1
  have hk1 : k < 1 := by rw [← hm, ← (drop_same s x).2]; exact hk
  obtain rfl : k = 0 := by omega
  rcases in_cases s x with ⟨_, _, e3, e4⟩ | ⟨k, hk, _, _, _, _, e3⟩
  · rw [e3]; exact e4 0 (by omega)
  · obtain rfl : k = 0 := by omega
    rw [e3]
    show x ∉ updM s.M 0 _ 0
    rw [updM_same]
    exact fun e => (without_mem.1 e).2 rfl
theorem drop_not (h : inB s x = false) : dropS s x = s := by
  rcases in_cases s x with ⟨_, _, e3, _⟩ | ⟨k, hk, _, _, e1, _⟩
  · exact e3
  · rw [h] at e1; cases e1
theorem pop_one {T : List Int} (hF : Fine s) (hm : s.m = 1) (hx : s.M 0 = x :: T) : firstB s 0 = true ∧ firstV s 0 = x ∧ (popS s 0).M 0 = T := by
  have e1 : firstB s 0 = true := by
    unfold firstB
    rw [isq_one hm]
    exact decide_eq_true (by show 0 < (s.M 0).length; rw [hx]; simp)
  have e2 : firstV s 0 = x := by
    unfold firstV
    rw [if_pos e1]
    show (s.M 0).getD 0 0 = x
    rw [hx]; rfl
  refine ⟨e1, e2, ?_⟩
  unfold popS
  rw [if_pos e1, e2]
  have hin : x ∈ s.M 0 := by rw [hx]; simp
  have hn := hF.nd 0 (by omega)
  rcases drop_one hm x with ⟨_, e⟩ | ⟨e, _⟩
  · rw [e, hx]
    rw [hx] at hn
    exact without_mid (u := []) hn
  · rw [(in_at hF (by omega) hin).1] at e; cases e
theorem pop_none (hm : s.m = 1) (hx : s.M 0 = []) : firstB s 0 = false := by
  unfold firstB
  rw [isq_one hm]
  exact decide_eq_false (by show ¬ 0 < (s.M 0).length; rw [hx]; simp)
end

/-- The queues, and the row of what is in, as it is built. -/
structure B1 (w wx : World) (p tb eb : Nat) (s : St) (bo : Option Addr) (no co : Nat) : Prop where
  here : Here w wx p tb eb s
  own : wx.ownsRow w.heap.size 3 1 (.slice bo no co) no ((s.M 0).map (Value.int .i64))
  far : ∀ a, bo = some a → ¬ QB p tb eb a.block
  m : s.m = 1
/-- The queues, and a row that is read. -/
structure B2 (w wx : World) (p tb eb : Nat) (s : St) (I : List Int) (bo : Option Addr) (no co : Nat) : Prop where
  here : Here w wx p tb eb s
  ints : Ints .i64 wx bo I
  len : I.length = no
  far : ∀ a, bo = some a → ¬ QB p tb eb a.block
  m : s.m = 1
section
variable {w wx w' : World} {p tb eb no co : Nat} {s s' : St} {bo : Option Addr} {I : List Int}
theorem B1.kept (h : B1 w wx p tb eb s bo no co) (k : Kept w.heap.size p tb eb s' wx w') (hm : s'.m = s.m) (hM : s'.M 0 = s.M 0) : B1 w w' p tb eb s' bo no co :=
  ⟨h.here.kept k, by rw [hM]; exact own_turn h.own k.2 (fun i hi e => by
    cases bo with
    | none => cases hi
    | some a => rw [own_block] at hi; exact h.far a rfl (by rw [Option.some.inj hi]; exact e)), h.far, hm.trans h.m⟩
theorem B1.grown {g n' c' : Nat} {x : Int} {w1 : World} (h : B1 w wx p tb eb s bo no co) (k : Kept w.heap.size p tb eb s' wx w1) (hm : s'.m = s.m) (hM : s'.M 0 = s.M 0 ++ [x]) (ho : w'.ownsRow w.heap.size 3 1 (.slice (some ⟨g, 0, none⟩) n' c') n' ((s.M 0 ++ [x]).map (Value.int .i64))) (t : Turn (fun i => (Value.slice bo no co).ownBlock = some i) w1 w')
    (b : (Value.slice bo no co).ownBlock = some g ∨ w1.heap.size ≤ g) : B1 w w' p tb eb s' (some ⟨g, 0, none⟩) n' c' := by
  have hh := h.here.kept k
  have hs : ∀ i, QB p tb eb i → ¬ (Value.slice bo no co).ownBlock = some i := fun i hi e => by
    cases bo with
    | none => cases e
    | some a => rw [own_block] at e; exact h.far a rfl (by rw [Option.some.inj e]; exact hi)
  refine ⟨⟨hh.q.turn t hs, hh.t.and t (fun i hi e => by have := (h.own.lt i e).1; omega)⟩, by rw [hM]; exact ho, fun a e hq => ?_, hm.trans h.m⟩
  cases e
  rcases b with b | b
  · exact hs g hq b
  · have := (hh.q.blocks hq).2
    have h2 : g < w1.heap.size := this
    omega
theorem B1.reads (h : B1 w wx p tb eb s bo no co) : B2 w wx p tb eb s (s.M 0) bo no co := ⟨h.here, (own_reads h.own).2.1, (own_reads h.own).1, h.far, h.m⟩
theorem B2.kept (h : B2 w wx p tb eb s I bo no co) (k : Kept w.heap.size p tb eb s' wx w') (hm : s'.m = s.m) : B2 w w' p tb eb s' I bo no co :=
  ⟨h.here.kept k, h.ints.turn k.2 (fun a e => h.far a e), h.len, h.far, hm.trans h.m⟩
theorem B2.new (h : B2 w wx p tb eb s I bo no co) (t : Turn (fun _ => False) wx w') : B2 w w' p tb eb s I bo no co :=
  ⟨h.here.new t, h.ints.turn t (fun _ _ => id), h.len, h.far, h.m⟩
theorem B2.other {J : List Int} {bo' : Option Addr} {n' c' : Nat} (h : B2 w wx p tb eb s I bo no co) (t : Turn (fun _ => False) wx w') (hi : Ints .i64 w' bo' J) (hl : J.length = n') (hb : ∀ ad, bo' = some ad → wx.heap.size ≤ ad.block ∧ ad.block < w'.heap.size) : B2 w w' p tb eb s J bo' n' c' :=
  ⟨h.here.new t, hi, hl, fun a e hq => by have := (hb a e).1; have := (h.here.q.blocks hq).2; omega, h.m⟩
end

theorem lrows_long {ao bo : Option Addr} {al ac bl bc : Nat} (w : World) (h : 100 < al ∨ 100 < bl) (hL : al ≤ maxLen) (hL2 : bl ≤ maxLen) :
    Calls Try.prog 5 #[.slice ao al ac, .slice bo bl bc] w fun e w' => e = .returned (.bool true) ∧ Turn (fun _ => False) w w' := by
  unfold maxLen at hL hL2
  by_cases h1 : 100 < al
  · clear h
    go_enter Try.func5, Try.ntmps5
    go_wp2_with fail
    refine (alive_any w).mono ?_
    rintro e w1 ⟨rfl, t1⟩
    have T1 := Lib.hid t1
    clear t1
    go_wp2_with fail
    refine (new_64 w1).mono ?_
    rintro e w2 ⟨p, tb, eb, rfl, h2⟩
    have T2 := Lib.hid (T1.out.trans h2.t)
    clear h2
    go_wp2_with fail
    go_ret
    exact ⟨rfl, T2.out⟩
  · have h2 : 100 < bl := by omega
    have h3 := Lib.hid (show decide (100 < (bl : Int)) = true from decide_eq_true (by omega))
    clear h
    go_enter Try.func5, Try.ntmps5
    go_wp2_with fail
    refine (alive_any w).mono ?_
    rintro e w1 ⟨rfl, t1⟩
    have T1 := Lib.hid t1
    clear t1
    go_wp2_with fail
    refine (new_64 w1).mono ?_
    rintro e w2 ⟨p, tb, eb, rfl, h2⟩
    have T2 := Lib.hid (T1.out.trans h2.t)
    clear h2
    go_wp2_with fail
    go_ret
    exact ⟨rfl, T2.out⟩

set_option maxRecDepth 100000 in
set_option maxHeartbeats 4000000 in
theorem lrows_any {ao go : Option Addr} {al ac gl gc : Nat} {L G : List Int} (w : World) (hr : Ints .i64 w ao L) (hl : L.length = al) (hal : al ≤ 100) (hg : Ints .i64 w go G) (hgl : G.length = gl) (hgl2 : gl ≤ 100) :
    Calls Try.prog 5 #[.slice ao al ac, .slice go gl gc] w fun e w' => e = .returned (.bool true) ∧ Turn (fun _ => False) w w' := by
  have HL := Lib.hid (And.intro hr hl)
  have HG := Lib.hid (And.intro hg hgl)
  clear hr hl hg hgl
  go_enter Try.func5, Try.ntmps5
  go_wp2_with fail
  refine (alive_any w).mono ?_
  rintro e w1 ⟨rfl, t1⟩
  have T1 := Lib.hid t1
  clear t1
  go_wp2_with fail
  refine (new_64 w1).mono ?_
  rintro e w2 ⟨p, tb, eb, rfl, h2⟩
  have H2 := Lib.hid (h2.back' T1.out)
  clear h2
  go_upto_region 7 with fail
  have HB : Hid (B1 w (w2.alloc (.cells #[] 3)) p tb eb (newS 64 1) (some ⟨w2.heap.size, 0, none⟩) 0 0) := Lib.hid
    ⟨H2.out.new ((Turn.refl (fun _ => False) w2).alloc _), own_empty (heap_alloc_new w2 _) H2.out.t.size, fun a e hq => (by cases e; have := (H2.out.q.blocks hq).2; have h : w2.heap.size < w2.heap.size := this; omega), rfl⟩
  generalize w2.alloc (.cells #[] 3) = w3 at HB ⊢
  clear H2 T1
  go_wp2_with fail
  go_loopw [7, 51] (fun s7 s51 wr => ∃ (k no co : Nat) (bo : Option Addr) (s : St), k ≤ al ∧ s7 = .slice bo no co ∧ s51 = .int .i64 k ∧ no ≤ 64 ∧ Hid (B1 w wr p tb eb s bo no co)) (fun _ s51 _ => al - (intOf s51).toNat)
  case atStart => exact ⟨0, 0, 0, _, _, Nat.zero_le _, rfl, rfl, Nat.zero_le _, HB⟩
  case round =>
    clear HB
    obtain ⟨k, no, co, bo, s, hk, rfl, rfl, hno, HB⟩ := hrel
    by_cases hlt : k < al
    · obtain ⟨ad, hao, hc⟩ := (HL.out.1.turn HB.out.here.t (fun _ _ => id)) k (by rw [HL.out.2]; exact hlt)
      subst hao
      generalize L.getD k 0 = x at hc
      obtain ⟨pb, hpb⟩ : ∃ pb, pushB s 0 x = pb := ⟨_, rfl⟩
      have HPB := Lib.hid hpb
      clear hpb
      go_wp2_with fail
      refine (push_any wr HB.out.here.q HPB.out).mono ?_
      rintro e w4 ⟨rfl, k4⟩
      have K4 := Lib.hid k4
      clear k4
      cases pb with
      | false =>
        have HE := Lib.hid (push_no HPB.out)
        go_wp2_with fail
        go_roundw
        case rel => exact ⟨k + 1, no, co, bo, s, by omega, rfl, by go_num, hno, Lib.hid (HB.out.kept (by rw [← HE.out]; exact K4.out) rfl rfl)⟩
        case measure => simp [intOf]; omega
      | true =>
        have HE := Lib.hid (push_yes HPB.out)
        have h65 : no + 1 ≤ 64 := by
          have h1 := (K4.out.1.fine).len (k := 0) (by rw [(push_same s 0 x).2, HB.out.m]; decide)
          rw [HE.out, List.length_append] at h1
          have h2 := HB.out.own.1
          simp at h1 h2
          omega
        obtain ⟨n1, hn1⟩ : ∃ n1, no + 1 = n1 := ⟨_, rfl⟩
        have hn65 : n1 ≤ 64 := by omega
        have HN1 := Lib.hid hn1
        have HSZ := Lib.hid (show w.heap.size ≤ w4.heap.size from Nat.le_trans HB.out.here.t.size K4.out.2.size)
        have HO := Lib.hid (show w4.ownsRow w.heap.size 3 1 (.slice bo no co) no ((s.M 0).map (Value.int .i64)) from own_turn HB.out.own K4.out.2 (fun i hi e => by
          cases bo with
          | none => cases hi
          | some a => rw [own_block] at hi; exact HB.out.far a rfl (by rw [Option.some.inj hi]; exact e)))
        clear hn1 h65
        go_wp2_with (at_builtin; refine wpList_append_one_n (w0 := w4) Try.underlying29 info_int (by decide) rfl (.tmp 58) (.tmp 60) rfl w.heap.size (.slice bo no co) (s.M 0) no x rfl HO.out n1 HN1.out rfl (by omega) HSZ.out ?_; intro g5 c5 w5 hg5 h5 t5 b5)
        go_roundw
        case rel => exact ⟨k + 1, n1, c5, _, _, by omega, rfl, by go_num, hn65, Lib.hid (HB.out.grown K4.out (push_same s 0 x).2 HE.out h5.out t5.out b5.out)⟩
        case measure => simp [intOf]; omega
    · have HC := Lib.hid HB.out.reads
      clear HB
      go_wp2_with fail
      go_loopw [7, 65] (fun s7 s65 wr => ∃ (k no co : Nat) (bo : Option Addr) (s : St), k ≤ gl ∧ s7 = .slice bo no co ∧ s65 = .int .i64 k ∧ no ≤ 64 ∧ Hid (B2 w wr p tb eb s (s.M 0) bo no co)) (fun _ s65 _ => gl - (intOf s65).toNat)
      case atStart => exact ⟨0, no, co, bo, s, Nat.zero_le _, rfl, rfl, hno, HC⟩
      case round =>
        clear HC hno
        obtain ⟨k, no, co, bo, s, hk, rfl, rfl, hno, HB⟩ := hrel
        by_cases hlt : k < gl
        · obtain ⟨ad, hao, hc⟩ := (HG.out.1.turn HB.out.here.t (fun _ _ => id)) k (by rw [HG.out.2]; exact hlt)
          subst hao
          generalize G.getD k 0 = x at hc
          obtain ⟨db, hdb⟩ : ∃ db, inB s x = db := ⟨_, rfl⟩
          have HDB := Lib.hid hdb
          clear hdb
          go_wp2_with fail
          refine (drop_any wr HB.out.here.q HDB.out).mono ?_
          rintro e w4 ⟨rfl, k4⟩
          have H4 := Lib.hid (HB.out.kept k4 (drop_same s x).2)
          have HGone := Lib.hid (drop_gone HB.out.m x)
          clear k4 hc
          go_upto_if 71 with fail
          go_cut [7] (fun s7 wx => ∃ (no co : Nat) (bo : Option Addr) (s : St), s7 = .slice bo no co ∧ no ≤ 64 ∧ Hid (B2 w wx p tb eb s (s.M 0) bo no co) ∧ Hid (inB s x = false))
          case first =>
            have HOne := Lib.hid (drop_one HB.out.m x)
            cases db with
            | false =>
              have hs : dropS s x = s := drop_not HDB.out
              rw [hs] at H4 HGone
              clear hs
              go_wp2_with fail
              go_meet
              exact ⟨no, co, bo, s, rfl, hno, H4, HGone⟩
            | true =>
              have hM : (dropS s x).M 0 = without (s.M 0) x := by
                rcases HOne.out with ⟨_, e⟩ | ⟨e, _⟩
                · exact e
                · rw [HDB.out] at e; cases e
              obtain ⟨n2, hn2⟩ : ∃ n2, (without (s.M 0) x).length = n2 := ⟨_, rfl⟩
              have hle := without_le (s.M 0) x
              rw [hn2, HB.out.len] at hle
              have hn64 : n2 ≤ 64 := by omega
              have HM := Lib.hid hM
              have HN2 := Lib.hid hn2
              have HW := Lib.hid (without_any (cap := co) (x := x) w4 H4.out.ints H4.out.len (by omega))
              rw [hn2] at HW
              clear hM hn2 hle
              go_wp2_with fail
              refine HW.out.mono ?_
              rintro e w5 ⟨b5, c5, rfl, l5, i5, hb5, _, _, t5⟩
              have H5 := Lib.hid (H4.out.other (n' := n2) (c' := c5) t5 (by rw [← HM.out] at i5; exact i5) (by rw [HM.out]; exact l5) hb5)
              clear l5 i5 hb5 t5 HW
              go_wp2_with fail
              go_meet
              exact ⟨n2, c5, b5, dropS s x, rfl, hn64, H5, HGone⟩
          case rest =>
            clear H4 HGone HB HDB hno
            obtain ⟨no, co, bo, s, rfl, hno, HB, HGone⟩ := hcut
            have HS := Lib.hid (drop_not HGone.out)
            have HLE := Lib.hid (show (listL s 0).length = no by rw [list_one HB.out.m]; exact HB.out.len)
            go_wp2_with fail
            refine (drop_any wc HB.out.here.q HGone.out).mono ?_
            rintro e w5 ⟨rfl, k5⟩
            rw [HS.out] at k5
            have H5 := Lib.hid (HB.out.kept k5 rfl)
            clear k5
            go_wp2_with fail
            refine (len_any w5 H5.out.here.q HLE.out).mono ?_
            rintro e w6 ⟨rfl, t6⟩
            have H6 := Lib.hid (H5.out.new t6)
            clear t6
            go_wp2_with fail
            go_roundw
            case rel => exact ⟨k + 1, no, co, bo, s, by omega, rfl, by go_num, hno, H6⟩
            case measure => simp [intOf]; omega
        · obtain ⟨I, hI⟩ : ∃ I, I = s.M 0 := ⟨_, rfl⟩
          rw [← hI] at HB
          have HI0 := Lib.hid (show s.M 0 = I.drop 0 from hI.symm)
          clear hI
          go_wp2_with fail
          go_loopw [88] (fun s88 wr => ∃ (i : Nat) (s : St), i ≤ no ∧ s88 = .int .i64 i ∧ Hid (B2 w wr p tb eb s I bo no co) ∧ Hid (s.M 0 = I.drop i)) (fun s88 _ => no - (intOf s88).toNat)
          case atStart => exact ⟨0, s, Nat.zero_le _, rfl, HB, HI0⟩
          case round =>
            clear HB HI0
            obtain ⟨i, s, hi, rfl, HB, HI⟩ := hrel
            by_cases hlt2 : i < no
            · obtain ⟨ad, hao, hc⟩ := HB.out.ints i (by rw [HB.out.len]; exact hlt2)
              subst hao
              have hd : s.M 0 = I.getD i 0 :: I.drop (i + 1) := by
                rw [HI.out]
                have hlt3 : i < I.length := by rw [HB.out.len]; exact hlt2
                rw [List.drop_eq_getElem_cons hlt3]
                simp [List.getD, hlt3]
              generalize I.getD i 0 = y at hc hd
              have HP := Lib.hid (pop_one HB.out.here.q.fine HB.out.m hd)
              clear hd
              go_wp2_with fail
              refine (pop_any wr HB.out.here.q HP.out.2.1 HP.out.1).mono ?_
              rintro e w5 ⟨rfl, k5⟩
              have H5 := Lib.hid (HB.out.kept k5 (pop_same s 0).2)
              have HI5 := Lib.hid HP.out.2.2
              clear k5 hc
              go_wp2_with fail
              go_roundw
              case rel => exact ⟨i + 1, _, by omega, by go_num, H5, HI5⟩
              case measure => simp [intOf]; omega
            · have HE := Lib.hid (pop_none HB.out.m (by rw [HI.out]; exact List.drop_eq_nil_of_le (by rw [HB.out.len]; omega)))
              go_wp2_with fail
              refine (pop_any wr HB.out.here.q rfl HE.out).mono ?_
              rintro e w5 ⟨rfl, k5⟩
              have H5 := Lib.hid (HB.out.kept k5 (pop_same s 0).2)
              clear k5
              go_wp2_with fail
              go_ret
              exact ⟨rfl, H5.out.here.t⟩

end Go.Proofs.Ytgkkmbkialcfiaa
