/- The document's lines of a plan. -/
import Derived.Test.YtfghabjpcjcllaaDoorOpW
import Derived.Test.YtfghabjpcjcllaaDoorMPure
import Derived.Test.YtfghabjpcjcllaaDoorDRight
namespace Go.Proofs.YtfghabjpcjcllaaDoor
open Go.RowKit
set_option linter.unusedVariables false

/-- The text of any plan. -/
def textS (p : List (List Opr)) : Tx := if rightP p = true then textP p else []
def opsT (l : List Opr) : Tx := l.flatMap fun o => opT o ++ [10]
theorem opT_len {o : Opr} (h : rightO o = true) : (opT o).length ≤ 300 := by
  have hf := rightO_has h
  have h1 := cases_len hf.2.2.2.2.2.2.2.2.2.2.2.2.2
  have hch := numT_len (n := o.ch) (by omega)
  have hv := numT_len (n := o.v) (by omega)
  have hn := numT_len (n := o.n) (by omega)
  have a1 : (headT o.kind).length ≤ 10 := by
    rcases (show o.kind = 1 ∨ o.kind = 2 ∨ o.kind = 3 ∨ o.kind = 4 ∨ o.kind = 5 ∨ o.kind = 6 ∨ o.kind = 7 ∨ o.kind = 8 ∨ o.kind = 9 by omega) with e | e | e | e | e | e | e | e | e
    all_goals rw [e]; decide
  have a2 : (chT o).length ≤ 4 := by
    unfold chT
    split
    · simp; omega
    · split <;> simp <;> omega
  have a3 : (vT o).length ≤ 4 := by
    unfold vT
    split <;> simp <;> omega
  have a4 : (elseT o.els).length ≤ 7 := by cases o.els <;> decide
  rw [opT_is]
  simp only [List.length_append]
  omega
theorem opsT_len {l : List Opr} (h : l.all rightO = true) : (opsT l).length ≤ 301 * l.length := by
  induction l with
  | nil => simp [opsT]
  | cons o l ih =>
    rw [List.all_cons, Bool.and_eq_true] at h
    have h1 := ih h.2
    have h2 := opT_len h.1
    unfold opsT at h1 ⊢
    rw [List.flatMap_cons, List.length_append, List.length_append]
    simp only [List.length_cons, List.length_nil]
    omega
theorem textP_row (p : List (List Opr)) (l : List Opr) : textP (p ++ [l]) = textP p ++ ([103, 111, 10] ++ opsT l) := by
  unfold textP
  rw [planLines_append, linesT_append]
  congr 1
  unfold planLines rowLines opsT linesT wGo
  simp [List.flatMap_map]
theorem opsT_snoc (l : List Opr) (o : Opr) : opsT (l ++ [o]) = opsT l ++ (opT o ++ [10]) := by simp [opsT]
theorem textP_cons (p : List (List Opr)) (l : List Opr) : textP (l :: p) = ([103, 111, 10] ++ opsT l) ++ textP p := by
  have := textP_row [] l
  unfold textP at this ⊢
  rw [show l :: p = [l] ++ p from rfl, planLines_append, linesT_append]
  congr 1
theorem textP_len {p : List (List Opr)} (h : p.all rightL = true) : (textP p).length ≤ 5000 * p.length := by
  induction p with
  | nil => simp [textP, planLines, linesT]
  | cons l p ih =>
    rw [List.all_cons, Bool.and_eq_true] at h
    have h1 := ih h.2
    have h3 := rightL_hasW h.1
    have h4 := opsT_len h3.1
    rw [textP_cons, List.length_append, List.length_append]
    simp only [List.length_cons, List.length_nil]
    omega

set_option maxRecDepth 100000 in
set_option maxHeartbeats 2000000 in
theorem rtext_any {s : Sl} {n : Nat} {p : List (List Opr)} (w : World) (hP : RPlan w s p) (hn : p.length = n) (hm : MildP p) : Calls Tryd.prog 9 #[.slice s.ao n s.cap] w (GivesS w (textS p)) := by
  obtain ⟨b, hb⟩ : ∃ b, rightP p = b := ⟨_, rfl⟩
  have CR := Lib.hid (fun w (h : RPlan w s p) => rright_any b w h hn hm hb)
  obtain ⟨ao, len, c⟩ := s
  have HP := Lib.hid hP
  have HN := Lib.hid hn
  have HM := Lib.hid hm
  have hm : n ≤ 1000000 := hn ▸ hm.1
  have hts : textS p = if b = true then textP p else [] := by unfold textS; rw [hb]
  rw [hts]
  clear hP hn hts
  unfold GivesS
  dsimp only
  cases b
  · rw [if_neg (by decide)]
    clear hb
    go_enter Tryd.func9, Tryd.ntmps9
    go_wp2_with fail
    refine (CR.out _ HP.out).mono ?_
    rintro e w1 ⟨rfl, t1⟩
    have T1 := Lib.hid t1
    clear t1
    go_wp2_with fail
    go_ret
    exact ⟨rfl, T1.out⟩
  · rw [if_pos rfl]
    have hall : p.all rightL = true := by
      unfold rightP at hb
      rw [Bool.and_eq_true, Bool.and_eq_true] at hb
      exact hb.1.1
    have hn8 : n ≤ 8 := by
      unfold rightP at hb
      rw [Bool.and_eq_true, Bool.and_eq_true] at hb
      have := of_decide_eq_true hb.2
      rwa [HN.out] at this
    have HALL := Lib.hid hall
    clear hb hall
    go_enter Tryd.func9, Tryd.ntmps9
    go_wp2_with fail
    refine (CR.out _ HP.out).mono ?_
    rintro e w1 ⟨rfl, t1⟩
    have T1 := Lib.hid t1
    clear t1
    go_upto_region 5 with fail
    go_loopw [3, 13] (fun s3 s13 wr => ∃ (i : Nat) (S : ByteArray), i ≤ n ∧ s13 = .int .i64 i ∧ s3 = .string S ∧ Hid (bs (textP (p.take i)) = S) ∧ Hid (Turn (fun _ => False) w wr)) (fun _ s13 _ => n - (intOf s13).toNat)
    case atStart => exact ⟨0, _, Nat.zero_le _, rfl, rfl, Lib.hid rfl, T1⟩
    case round =>
      obtain ⟨i, S, hi, rfl, rfl, HS, HT⟩ := hrel
      by_cases hlt : i < n
      · obtain ⟨x, hx⟩ : ∃ x, p[i]? = some x := ⟨_, List.getElem?_eq_getElem (by rw [HN.out]; exact hlt)⟩
        obtain ⟨a, y, ha, hr, hc⟩ := (HP.out.new HT.out).at hx
        dsimp only at ha
        subst ha
        obtain ⟨ao', len', cap'⟩ := y
        have hl' : x.length = len' := hr.ok.len.symm
        have HX := Lib.hid hx
        have HR := Lib.hid hr
        have HL' := Lib.hid hl'
        unfold Sl.val at hc
        dsimp only at hc
        have hrl := List.all_eq_true.1 HALL.out x (List.mem_of_getElem? hx)
        have hrw := rightL_hasW hrl
        have HRW := Lib.hid hrw.1
        have hl16 : len' ≤ 16 := by rw [← hl']; exact hrw.2
        have hpl := textP_len (p := p.take i) (by rw [List.all_eq_true]; exact fun y hy => List.all_eq_true.1 HALL.out y (List.mem_of_mem_take hy))
        rw [List.length_take] at hpl
        obtain ⟨Y, hY⟩ : ∃ Y, textP (p.take i) = Y := ⟨_, rfl⟩
        have hS := HS.out
        rw [hY] at hpl hS
        have hyl : Y.length ≤ 40000 := by omega
        have HY' := Lib.hid hY
        have HS' := Lib.hid hS
        obtain ⟨S1, h_S1⟩ : ∃ S, bs (Y ++ [103, 111, 10]) = S := ⟨_, rfl⟩
        have f1 : ∀ w, (Op.stringOp BinOp.add S ⟨#[103, 111, 10]⟩).run Tryd.prog w = .ok (.string S1) w := fun w => by
          have hE := HS'.out
          subst hE h_S1
          exact add_text Y [103, 111, 10] (by simp; omega) w
        have HS1 := Lib.hid h_S1
        clear hx hr hl' hrl hrw hpl hY hS h_S1
        go_upto_region 9 with fail
        generalize hwi : wr = wi at HT HR hc ⊢
        clear hwi
        go_loopw [3, 21] (fun s3 s21 wr => ∃ (k : Nat) (S : ByteArray), k ≤ len' ∧ s21 = .int .i64 k ∧ s3 = .string S ∧ Hid (bs (Y ++ [103, 111, 10] ++ opsT (x.take k)) = S) ∧ Hid (Turn (fun _ => False) wi wr)) (fun _ s21 _ => len' - (intOf s21).toNat)
        case atStart => exact ⟨0, _, Nat.zero_le _, rfl, rfl, Lib.hid (by rw [← HS1.out]; simp [opsT]), Lib.hid (Turn.refl _ _)⟩
        case round =>
          obtain ⟨k, Sk, hk, rfl, rfl, HSk, HT2⟩ := hrel
          clear hc
          by_cases hlt2 : k < len'
          · obtain ⟨y, hy⟩ : ∃ y, x[k]? = some y := ⟨_, List.getElem?_eq_getElem (by rw [HL'.out]; exact hlt2)⟩
            obtain ⟨a2, r, ha2, hro, hc⟩ := (HR.out.new HT2.out).at hy
            dsimp only at ha2
            subst ha2
            obtain ⟨kind, ch, n', v, ⟨ao2, len2, cap2⟩, els⟩ := r
            obtain ⟨c0, c1, c2, c3, c4, c5⟩ := cells6 hc
            have HY := Lib.hid hy
            have HRO := Lib.hid hro
            unfold Sl.val at c4
            dsimp only at c0 c1 c2 c3 c4 c5
            clear hy hc hro
            have hro : rightO y = true := List.all_eq_true.1 HRW.out y (List.mem_of_getElem? HY.out)
            have hol := opT_len hro
            have hsl := opsT_len (l := x.take k) (by rw [List.all_eq_true]; exact fun z hz => List.all_eq_true.1 HRW.out z (List.mem_of_mem_take hz))
            rw [List.length_take] at hsl
            obtain ⟨Z, hZ⟩ : ∃ Z, opsT (x.take k) = Z := ⟨_, rfl⟩
            have hS := HSk.out
            rw [hZ] at hsl hS
            have HZ := Lib.hid hZ
            have HSz := Lib.hid hS
            obtain ⟨Q, hQ⟩ : ∃ Q, opT y = Q := ⟨_, rfl⟩
            have hos : opS y = Q := by unfold opS; rw [if_pos hro, hQ]
            have CO := Lib.hid (fun w h => ropt_any ⟨kind, ch, n', v, ⟨ao2, len2, cap2⟩, els⟩ y w h ((HM.out.at HX.out).at HY.out))
            rw [hos] at CO
            rw [hQ] at hol
            have HQ := Lib.hid hQ
            obtain ⟨O1, h_O1⟩ : ∃ S, bs Q = S := ⟨_, rfl⟩
            unfold GivesS at CO
            rw [h_O1] at CO
            obtain ⟨O2, h_O2⟩ : ∃ S, bs (Q ++ [10]) = S := ⟨_, rfl⟩
            obtain ⟨O3, h_O3⟩ : ∃ S, bs ((Y ++ [103, 111, 10] ++ Z) ++ (Q ++ [10])) = S := ⟨_, rfl⟩
            have f2 : ∀ w, (Op.stringOp BinOp.add O1 ⟨#[10]⟩).run Tryd.prog w = .ok (.string O2) w := fun w => by
              subst h_O1 h_O2
              exact add_text Q [10] (by simp; omega) w
            have f3 : ∀ w, (Op.stringOp BinOp.add Sk O2).run Tryd.prog w = .ok (.string O3) w := fun w => by
              have hE := HSz.out
              subst hE h_O2 h_O3
              exact add_text (Y ++ [103, 111, 10] ++ Z) (Q ++ [10]) (by simp only [List.length_append, List.length_cons, List.length_nil]; omega) w
            have HO3 := Lib.hid h_O3
            clear hro hol hsl hZ hS hQ hos h_O1 h_O2 h_O3 hyl
            go_wp2_with fail
            refine (CO.out _ (HRO.out.new ((Turn.refl _ _).alloc _))).mono ?_
            rintro e w3 ⟨rfl, t3⟩
            have T3 := Lib.hid (((Turn.refl (fun _ => False) wr).alloc _).trans t3)
            clear t3 c0 c1 c2 c3 c4 c5
            go_wp2_with fail
            go_roundw
            case rel => exact ⟨k + 1, O3, by omega, by go_num, rfl, Lib.hid (by rw [take_snoc HY.out, opsT_snoc, HZ.out, HQ.out, ← HO3.out, List.append_assoc (Y ++ [103, 111, 10])]), Lib.hid (HT2.out.trans T3.out)⟩
            case measure => simp [intOf]; omega
          · obtain rfl : k = len' := by omega
            have htk : x.take k = x := List.take_of_length_le (by rw [HL'.out]; exact Nat.le_refl _)
            have HE := Lib.hid (show bs (Y ++ [103, 111, 10] ++ opsT x) = Sk by rw [← HSk.out, htk])
            clear htk hyl
            go_wp2_with fail
            go_roundw
            case rel => exact ⟨i + 1, Sk, by omega, by go_num, rfl, Lib.hid (by rw [take_snoc HX.out, textP_row, HY'.out, ← HE.out, List.append_assoc]), Lib.hid (HT.out.trans HT2.out)⟩
            case measure => simp [intOf]; omega
      · obtain rfl : i = n := by omega
        have htk : p.take i = p := List.take_of_length_le (by rw [HN.out]; exact Nat.le_refl _)
        have HE := Lib.hid (show bs (textP p) = S by rw [← HS.out, htk])
        clear htk
        go_wp2_with fail
        go_ret
        exact ⟨by rw [HE.out]; rfl, HT.out⟩
end Go.Proofs.YtfghabjpcjcllaaDoor
