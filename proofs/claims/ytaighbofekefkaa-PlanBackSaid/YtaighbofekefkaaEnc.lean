/- A plan's bytes: the code's Encode. -/
import Derived.Test.YtaighbofekefkaaOpOut
namespace Go.Proofs.Ytaighbofekefkaa
open Go.RowKit
set_option linter.unusedVariables false

theorem encC_len (c : Cas) : (encC c).length ≤ 3 := by unfold encC; split <;> simp
theorem flatC_len : ∀ L : List Cas, (L.flatMap encC).length ≤ 3 * L.length
  | [] => by simp
  | c :: L => by
    have h1 := encC_len c
    have h2 := flatC_len L
    rw [List.flatMap_cons, List.length_append, List.length_cons]
    omega
theorem encO_len {o : Opr} (h : rightO o = true) : (encO o).length ≤ 24 := by
  have hc := (rightO_has h).2.2.2.2.2.2.2.2.1
  have hL := flatC_len o.cases
  have hH : (encH o).length ≤ 6 := by
    unfold encH
    split <;> split <;> split <;> split <;> simp
  unfold encO
  rw [List.length_append]
  omega
theorem flatO_len : ∀ {l : List Opr}, l.all rightO = true → (l.flatMap encO).length ≤ 24 * l.length
  | [], _ => by simp
  | o :: l, h => by
    rw [List.all_cons, Bool.and_eq_true] at h
    have h1 := encO_len h.1
    have h2 := flatO_len h.2
    rw [List.flatMap_cons, List.length_append, List.length_cons]
    omega
theorem rightL_has {l : List Opr} (h : rightL l = true) : l.all rightO = true ∧ l.length ≤ 16 := by
  unfold rightL at h
  simpa using h
theorem encL_len {l : List Opr} (h : rightL l = true) : (encL l).length ≤ 385 := by
  obtain ⟨h1, h2⟩ := rightL_has h
  have h3 := flatO_len h1
  unfold encL
  rw [List.length_cons]
  omega
theorem rightP_has {p : List (List Opr)} (h : rightP p = true) : p.all rightL = true ∧ 1 ≤ p.length ∧ p.length ≤ 8 := by
  unfold rightP at h
  simp only [Bool.and_eq_true, decide_eq_true_eq] at h
  exact ⟨h.1.1, h.1.2, h.2⟩
theorem rightP_mild {p : List (List Opr)} (h : rightP p = true) : MildP p := by
  obtain ⟨h1, h2, h3⟩ := rightP_has h
  refine ⟨by omega, fun l hl => ?_⟩
  obtain ⟨h4, h5⟩ := rightL_has (List.all_eq_true.1 h1 l hl)
  refine ⟨by omega, fun o ho => ?_⟩
  have := (rightO_has (List.all_eq_true.1 h4 o ho)).2.2.2.2.2.2.2.2.1
  omega

/-- What is written up to now. -/
structure So (w wc : World) (v : Value) (out : List Int) (n : Nat) : Prop where
  own : Own wc w.heap.size v out
  len : out.length = n
  t : Turn (fun _ => False) w wc
section
variable {w wc w' : World} {n n' g c : Nat} {v v' : Value} {out out' : List Int} {y : Int}
theorem So.kept (h : So w wc v out n) (k : Grow v wc v' w') : Turn (fun _ => False) w w' := k.kept h.t (fun i e => (h.own.lt i e).1)
theorem So.more (h : So w wc v out n) (o : Own w' w.heap.size v' out') (k : Grow v wc v' w') (hn : out'.length = n') : So w w' v' out' n' := ⟨o, hn, h.kept k⟩
theorem So.one (h : So w wc v out n) (h5 : w'.ownsRow w.heap.size 5 1 (.slice (some ⟨g, 0, none⟩) n' c) n' ((out ++ [y]).map (Value.int .u8))) (t5 : Turn (fun i => v.ownBlock = some i) wc w') (b5 : v.ownBlock = some g ∨ wc.heap.size ≤ g) (hn : n + 1 = n') : So w w' (.slice (some ⟨g, 0, none⟩) n' c) (out ++ [y]) n' :=
  h.more (Own.of h5 rfl) ⟨t5, b5.elim (fun e => Or.inl e.symm) (fun e => Or.inr ⟨g, rfl, e⟩)⟩ (by rw [List.length_append, h.len, ← hn]; rfl)
theorem So.new (h : So w wc v out n) (t : Turn (fun _ => False) wc w') : So w w' v out n := ⟨h.own.new t, h.len, h.t.trans t⟩
theorem So.form (h : So w wc v out n) : ∃ bo c, v = .slice bo n c ∧ n ≤ c := by
  obtain ⟨bo, c, e, h1⟩ := h.own.slice
  rw [h.len] at e h1
  exact ⟨bo, c, e, h1⟩
theorem so_first {w wc : World} {y : Int} {b : Nat} (t : Turn (fun _ => False) w wc) (hb : w.heap.size ≤ b) (h : wc.heap[b]? = some (.cells #[.int .u8 y] 5 (0, 0))) : So w wc (.slice (some ⟨b, 0, none⟩) 1 1) [y] 1 :=
  ⟨Own.of (Row.own (L := [y]) h hb (by simp [maxLen])) rfl, rfl, t⟩
end

theorem encode_no {s : Sl} {n : Nat} {p : List (List Opr)} (w : World) (hP : RPlan w s p) (hn : p.length = n) (hm : MildP p) (hb : rightP p = false) :
    Calls Try.prog 7 #[.slice s.ao n s.cap] w fun e w' => e = .returned (.tuple #[.slice none 0 0, .int .i64 3]) ∧ Turn (fun _ => False) w w' := by
  have HP := Lib.hid hP
  have HN := Lib.hid hn
  have HM := Lib.hid hm
  have HB := Lib.hid hb
  clear hP hn hm hb
  go_enter Try.func7, Try.ntmps7
  go_wp2_with fail
  refine (right_any false _ HP.out HN.out HM.out HB.out).mono ?_
  rintro e w1 ⟨rfl, t1⟩
  go_wp2_with fail
  go_ret2
  exact ⟨rfl, t1⟩

set_option maxRecDepth 100000 in
set_option maxHeartbeats 2000000 in
theorem encode_yes {s : Sl} {n : Nat} {p : List (List Opr)} (w : World) (hP : RPlan w s p) (hn : p.length = n) (hb : rightP p = true) :
    Calls Try.prog 7 #[.slice s.ao n s.cap] w fun e w' => ∃ v, e = .returned (.tuple #[v, .int .i64 0]) ∧ Own w' w.heap.size v (encP p) ∧ Turn (fun _ => False) w w' := by
  obtain ⟨ao, len, c⟩ := s
  have HP := Lib.hid hP
  have HN := Lib.hid hn
  have HM := Lib.hid (rightP_mild hb)
  have HB := Lib.hid hb
  obtain ⟨hr1, hr2, hr3⟩ := rightP_has hb
  rw [hn] at hr2 hr3
  have HR := Lib.hid hr1
  have u1 : IntKind.u8.wrap ((n : Int) - 1) = (n : Int) - 1 := wrap_u8 (by omega)
  clear hP hn hb hr1
  dsimp only
  go_enter Try.func7, Try.ntmps7
  go_wp2_with fail
  refine (right_any true _ HP.out HN.out HM.out HB.out).mono ?_
  rintro e w1 ⟨rfl, t1⟩
  have T1 := Lib.hid t1
  clear t1
  go_upto_region 5 with fail
  have A0 := Lib.hid (so_first (y := (n : Int) - 1) (T1.out.alloc (.cells #[.int .u8 ((n : Int) - 1)] 5)) T1.out.size (heap_alloc_new w1 _))
  go_loopw [4, 19] (fun s4 s19 wr => ∃ (i m cR : Nat) (bR : Option Addr) (outR : List Int), i ≤ n ∧ s19 = .int .i64 i ∧ s4 = .slice bR m cR ∧ m ≤ 1 + 400 * i ∧ Hid (So w wr (.slice bR m cR) outR m) ∧ Hid (outR = ((n : Int) - 1) :: (p.take i).flatMap encL)) (fun _ s19 _ => n - (intOf s19).toNat)
  case atStart => exact ⟨0, _, _, _, _, Nat.zero_le _, rfl, rfl, by omega, A0, Lib.hid (by simp)⟩
  case round =>
    clear A0 T1
    obtain ⟨i, m, cR, bR, outR, hi, rfl, rfl, hmb, A, HO⟩ := hrel
    by_cases hlt : i < n
    · obtain ⟨x, hx⟩ : ∃ x, p[i]? = some x := ⟨_, List.getElem?_eq_getElem (by rw [HN.out]; exact hlt)⟩
      obtain ⟨a, y, ha, hr, hc⟩ := HP.out.at hx
      dsimp only at ha
      subst ha
      obtain ⟨ao', len', cap'⟩ := y
      have hl' : x.length = len' := hr.ok.len.symm
      have hc := A.out.t.cell id hc
      have HX := Lib.hid hx
      have HRR := Lib.hid hr
      have HL' := Lib.hid hl'
      unfold Sl.val at hc
      dsimp only at hc
      have hxr := List.all_eq_true.1 HR.out x (List.mem_of_getElem? hx)
      obtain ⟨hxr1, hxr2⟩ := rightL_has hxr
      rw [hl'] at hxr2
      have HXR := Lib.hid hxr1
      have u2 : IntKind.u8.wrap (len' : Int) = len' := wrap_u8 (by omega)
      obtain ⟨m1, hm1⟩ : ∃ m1, m + 1 = m1 := ⟨_, rfl⟩
      have HM1 := Lib.hid hm1
      have bm1 : m1 ≤ 2 + 400 * i := by omega
      clear hx hr hl' hxr hxr1 hm1
      go_upto_region 8 with (at_builtin; refine wpList_append_one_n Try.underlying22 info_u8 (by decide) rfl (.tmp 23) (.tmp 27) rfl w.heap.size _ _ m (len' : Int) rfl (A.out.own.at A.out.len) m1 HM1.out rfl (by omega) A.out.t.size ?_; intro g ck wk hg h5 t5 b5)
      have AK := Lib.hid (A.out.one h5.out t5.out b5.out HM1.out)
      clear h5 t5 b5 hc
      go_upto_region 9 with fail
      go_loopw [4, 31] (fun s4 s31 wr => ∃ (k mm cR : Nat) (bR : Option Addr) (outK : List Int), k ≤ len' ∧ s31 = .int .i64 k ∧ s4 = .slice bR mm cR ∧ mm ≤ m1 + 24 * k ∧ Hid (So w wr (.slice bR mm cR) outK mm) ∧ Hid (outK = outR ++ ((len' : Int) :: (x.take k).flatMap encO))) (fun _ s31 _ => len' - (intOf s31).toNat)
      case atStart => exact ⟨0, _, _, _, _, Nat.zero_le _, rfl, rfl, by omega, AK, Lib.hid (by simp)⟩
      case round =>
        clear AK
        obtain ⟨k, mm, cK, bK, outK, hk, rfl, rfl, hmm, AK, HK⟩ := hrel
        by_cases hlt2 : k < len'
        · obtain ⟨y, hy⟩ : ∃ y, x[k]? = some y := ⟨_, List.getElem?_eq_getElem (by rw [HL'.out]; exact hlt2)⟩
          obtain ⟨a2, r, ha2, hro, hc⟩ := HRR.out.at hy
          dsimp only at ha2
          subst ha2
          obtain ⟨kind, ch, n', v, ⟨ao2, len2, cap2⟩, els⟩ := r
          obtain ⟨c0, c1, c2, c3, c4, c5⟩ := cells6 hc
          have c0 := AK.out.t.cell id c0
          have c1 := AK.out.t.cell id c1
          have c2 := AK.out.t.cell id c2
          have c3 := AK.out.t.cell id c3
          have c4 := AK.out.t.cell id c4
          have c5 := AK.out.t.cell id c5
          have HY := Lib.hid hy
          have HRO := Lib.hid hro
          have HYR := Lib.hid (List.all_eq_true.1 HXR.out y (List.mem_of_getElem? hy))
          unfold Sl.val at c4
          dsimp only at c0 c1 c2 c3 c4 c5
          clear hy hc hro
          have AN := Lib.hid (AK.out.new ((Turn.refl (fun _ => False) _).alloc (.cells #[.int .i64 kind, .int .i64 ch, .int .i64 n', .int .i64 v, .slice ao2 len2 cap2, .bool els] 29)))
          go_wp2_with fail
          refine (appendop_any w ⟨kind, ch, n', v, ⟨ao2, len2, cap2⟩, els⟩ y _ HRO.out AN.out.t AN.out.own AN.out.len HYR.out (by omega)).mono ?_
          rintro e w5 ⟨v5, rfl, o5, g5⟩
          obtain ⟨m5, hm5⟩ : ∃ m5, (outK ++ encO y).length = m5 := ⟨_, rfl⟩
          have A5 := Lib.hid (AN.out.more o5 g5 hm5)
          have hb5 : m5 ≤ mm + 24 := by
            rw [← hm5, List.length_append, AN.out.len]
            have := encO_len HYR.out
            omega
          have HK5 := Lib.hid (show outK ++ encO y = outR ++ ((len' : Int) :: (x.take (k + 1)).flatMap encO) by
            rw [HK.out, List.take_add_one, HY.out]
            simp)
          clear o5 g5 hm5 c0 c1 c2 c3 c4 c5 AN
          obtain ⟨b5, c5, rfl, _⟩ := A5.out.form
          go_wp2_with fail
          go_roundw
          case rel => exact ⟨k + 1, m5, c5, b5, _, by omega, by go_num, rfl, by omega, A5, HK5⟩
          case measure => simp [intOf]; omega
        · have hkn : k = len' := by omega
          have HO2 := Lib.hid (show outK = ((n : Int) - 1) :: (p.take (i + 1)).flatMap encL by
            rw [HK.out, HO.out, List.take_add_one, HX.out, hkn, ← HL'.out, List.take_length]
            simp [encL])
          have hmm2 : mm ≤ 1 + 400 * (i + 1) := by omega
          clear hkn
          go_wp2_with fail
          go_roundw
          case rel => exact ⟨i + 1, mm, cK, bK, _, by omega, by go_num, rfl, hmm2, AK, HO2⟩
          case measure => simp [intOf]; omega
    · have hin : i = n := by omega
      have HE := Lib.hid (show outR = encP p by
        rw [HO.out, hin, ← HN.out, List.take_length]
        rfl)
      clear hin
      go_wp2_with fail
      go_ret2
      exact ⟨_, rfl, HE.out ▸ A.out.own, A.out.t⟩

end Go.Proofs.Ytaighbofekefkaa
