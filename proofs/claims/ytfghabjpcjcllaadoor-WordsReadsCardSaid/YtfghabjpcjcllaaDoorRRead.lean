/- The document's Read: a line as an op. -/
import Derived.Test.YtfghabjpcjcllaaDoorCased
import Derived.Test.YtfghabjpcjcllaaDoorMPure
import Derived.Test.YtfghabjpcjcllaaDoorDRightOp
import Derived.Test.YtfghabjpcjcllaaDoorOpW
import Derived.Test.YtfghabjpcjcllaaDoorMWords
namespace Go.Proofs.YtfghabjpcjcllaaDoor
open Go.RowKit
set_option linter.unusedVariables false

def GivesD (w : World) (o : Option Opr) (e : Ending) (w' : World) : Prop := Turn (fun _ => False) w w' ∧ ∃ (r : OpV) (ok : Bool), e = .returned (.tuple #[r.val, .bool ok]) ∧ ok = o.isSome ∧ ∀ q, o = some q → BOp w' 40 r q
theorem gives_d {w w' : World} {o : Option Opr} {r : OpV} {ok : Bool} (t : Turn (fun _ => False) w w') (h1 : ok = o.isSome) (h2 : ∀ q, o = some q → BOp w' 40 r q) : GivesD w o (.returned (.tuple #[r.val, .bool ok])) w' := ⟨t, r, ok, rfl, h1, h2⟩
abbrev tabR : Array Value := #[.string ⟨#[]⟩, .string ⟨#[109, 97, 107, 101]⟩, .string ⟨#[115, 101, 110, 100]⟩, .string ⟨#[114, 101, 99, 118]⟩, .string ⟨#[]⟩, .string ⟨#[]⟩, .string ⟨#[99, 108, 111, 115, 101]⟩, .string ⟨#[108, 101, 110]⟩, .string ⟨#[99, 97, 112]⟩, .string ⟨#[115, 101, 108, 101, 99, 116]⟩]
theorem tabR_at {k : Nat} {v : Tx} (hv : tabL[k]? = some v) : tabR[k]? = some (.string (bs v)) := by
  have e : tabR = (tabL.map fun t => Value.string (bs t)).toArray := rfl
  rw [e, List.getElem?_toArray, List.getElem?_map, hv]
  rfl
theorem cell_lt {w : World} {a : Addr} {v : Value} (h : w.cell? a = some v) : a.block < w.heap.size := by
  unfold World.cell? at h
  rcases Nat.lt_or_ge a.block w.heap.size with h1 | h1
  · exact h1
  · rw [Array.getElem?_eq_none h1] at h
    cases h
theorem splitG_short (c : UInt8) : ∀ (s cur : Tx) (n : Nat), cur.length + s.length ≤ n → ∀ x ∈ splitG c cur s, x.length ≤ n := by
  intro s
  induction s with
  | nil => intro cur n hn x hx; simp [splitG] at hx; subst hx; simpa using hn
  | cons y s ih =>
    intro cur n hn x hx
    rw [splitG_cons] at hx
    simp only [List.length_cons] at hn
    split at hx
    · rcases List.mem_cons.1 hx with rfl | hx
      · omega
      · exact ih [] n (by simp; omega) x hx
    · exact ih _ n (by simp; omega) x hx
theorem splitG_many (c : UInt8) : ∀ (s cur : Tx), (splitG c cur s).length ≤ s.length + 1 := by
  intro s
  induction s with
  | nil => intro cur; simp [splitG]
  | cons x s ih =>
    intro cur
    rw [splitG_cons]
    split
    · have := ih []
      simp only [List.length_cons]
      omega
    · have := ih (cur ++ [x])
      simp only [List.length_cons]
      omega
theorem casedG_len : ∀ (f : Nat) (cs : List Cas) (e : Bool) (ws : List Tx) (cs' : List Cas) (e' : Bool), casedG f cs e ws = some (cs', e') → cs'.length ≤ cs.length + f
  | f, cs, e, [], cs', e', h => by
    have : casedG f cs e [] = some (cs, e) := by cases f <;> rfl
    rw [this] at h
    cases h
    omega
  | 0, cs, e, x :: r, cs', e', h => by cases h
  | f + 1, cs, e, x :: r, cs', e', h => by
    unfold casedG at h
    split at h
    · cases h
    · split at h
      · have := casedG_len f cs true _ cs' e' h
        omega
      · split at h
        · cases h
        · have := casedG_len f _ e _ cs' e' h
          rw [List.length_append, List.length_singleton] at this
          omega

set_option maxRecDepth 100000 in
set_option maxHeartbeats 8000000 in
theorem rread_any (s : Tx) (w : World) (hl : s.length ≤ 100000) : Calls Tryd.prog 33 #[.string (bs s)] w (GivesD w (readT s)) := by
  have CS := Lib.hid (fun w => rsplit_any s 32 32 s.length w rfl rfl hl)
  have hrd : readT s = readW (splitT 32 s) := rfl
  have HF : Hid (∀ x ∈ splitT 32 s, x.length ≤ 100000) := Lib.hid (splitG_short 32 s [] 100000 (by simpa using hl))
  have hmany := splitG_many 32 s []
  obtain ⟨W, hW⟩ : ∃ x, splitT 32 s = x := ⟨_, rfl⟩
  have hmany : W.length ≤ 100001 := by rw [← hW]; exact Nat.le_trans hmany (by omega)
  have hne : W ≠ [] := by rw [← hW]; exact splitG_ne 32 s []
  rw [hrd]
  rw [hW] at CS HF ⊢
  obtain ⟨w0, r, rfl⟩ : ∃ w0 r, W = w0 :: r := by
    cases W with
    | nil => exact absurd rfl hne
    | cons a b => exact ⟨a, b, rfl⟩
  have HMY : Hid (r.length ≤ 100000) := Lib.hid (by simp only [List.length_cons] at hmany; omega)
  obtain ⟨T, hT⟩ : ∃ x, bs s = x := ⟨_, rfl⟩
  rw [hT] at CS ⊢
  obtain ⟨S0, hS0⟩ : ∃ x, bs w0 = x := ⟨_, rfl⟩
  have HS0 := Lib.hid hS0
  obtain ⟨RR, hRR⟩ : ∃ x, readW (w0 :: r) = x := ⟨_, rfl⟩
  have HRR := Lib.hid hRR
  rw [hRR]
  have Z0 : Hid (Six (w.alloc (.cells #[.int .i64 0, .int .i64 0, .int .i64 0, .int .i64 0, .slice none 0 0, .bool false] 25)) w.heap.size 0 0 0 0 (.slice none 0 0) false) := Lib.hid (blk_new w _ 25)
  have T0 := Lib.hid ((Turn.refl (fun _ => False) w).alloc (.cells #[.int .i64 0, .int .i64 0, .int .i64 0, .int .i64 0, .slice none 0 0, .bool false] 25))
  unfold GivesT at CS
  clear hT hl hrd hne hmany hRR hS0 hW
  go_enter Tryd.func33, Tryd.ntmps33
  go_upto_region 1 with fail
  generalize w.alloc (.cells #[.int .i64 0, .int .i64 0, .int .i64 0, .int .i64 0, .slice none 0 0, .bool false] 25) = w1 at Z0 T0 ⊢
  obtain ⟨rz, hrz⟩ : ∃ b, w.heap.size = b := ⟨_, rfl⟩
  have LOW : Hid (w.heap.size ≤ rz) := Lib.hid (by omega)
  rw [hrz] at Z0 ⊢
  clear hrz
  go_wp2_with fail
  refine (CS.out _).mono ?_
  rintro e w2 ⟨bo, n, c, rfl, ho, hn, t2⟩
  have T2 := Lib.hid (T0.out.trans t2)
  have Z2 := Lib.hid (Z0.out.new t2)
  have hW2 := RTs.of_own ho
  obtain ⟨ad, had, hc0⟩ := hW2.at (i := 0) (x := w0) rfl
  dsimp only at had
  subst had
  rw [addr_zero, HS0.out] at hc0
  have HW := Lib.hid hW2
  have HN := Lib.hid hn
  have hn1 : 1 ≤ n := by rw [← hn]; simp
  clear ho t2 hW2 hn
  go_upto_region 4 with fail
  have TB := Lib.hid ((Turn.refl (fun _ => False) w2).alloc (.cells tabR 9))
  have BT : Hid ((w2.alloc (.cells tabR 9)).heap[w2.heap.size]? = some (.cells tabR 9 (0, 0))) := Lib.hid (heap_alloc_new w2 _)
  obtain ⟨tb, htb⟩ : ∃ b, w2.heap.size = b := ⟨_, rfl⟩
  rw [htb] at BT ⊢
  clear htb
  have hc0 : (w2.alloc (.cells tabR 9)).cell? ad = some (.string S0) := TB.out.cell id hc0
  generalize w2.alloc (.cells tabR 9) = w3 at TB BT hc0 ⊢
  have T3 := Lib.hid (T2.out.trans TB.out)
  have Z3 := Lib.hid (Z2.out.new TB.out)
  have HW := Lib.hid (HW.out.new TB.out)
  clear TB
  go_loopw [5, 18] (fun s5 s18 wr => ∃ (k : Nat), s18 = .int .i64 k ∧ k ≤ 10 ∧ s5 = .int .i64 (kAt w0 k) ∧ wr = w3) (fun _ s18 _ => 10 - (intOf s18).toNat)
  case atStart => exact ⟨0, rfl, by decide, by rw [kAt_zero], rfl⟩
  case round =>
    obtain ⟨k, rfl, hk, rfl, rfl⟩ := hrel
    by_cases hlt : k < 10
    · obtain ⟨v, hv⟩ : ∃ v, tabL[k]? = some v := ⟨_, List.getElem?_eq_getElem (show k < tabL.length from hlt)⟩
      have hst := kAt_step w0 v hv
      obtain ⟨SV, hSV⟩ : ∃ x, bs v = x := ⟨_, rfl⟩
      have hct : wr.cell? ⟨tb, k, none⟩ = some (.string SV) := by
        have := tabR_at hv
        unfold World.cell?
        rw [BT.out, ← hSV]
        exact this
      obtain ⟨b1, hb1⟩ : ∃ b, decide (v = []) = b := ⟨_, rfl⟩
      have hq1 := lit_text v [] hb1
      obtain ⟨b2, hb2⟩ : ∃ b, decide (v = w0) = b := ⟨_, rfl⟩
      have hq2 := eq_text v w0
      rw [hb2, HS0.out, hSV] at hq2
      rw [hSV] at hq1
      obtain ⟨b0, hb0⟩ : ∃ b, decide ((0 : Int) < (k : Int)) = b := ⟨_, rfl⟩
      obtain ⟨kn, hkn⟩ : ∃ n, kAt w0 k = n := ⟨_, rfl⟩
      have hst2 : kAt w0 (k + 1) = if b0 = true ∧ b1 = false ∧ b2 = true then (k : Int) else kn := by
        rw [hst, hkn]
        have e0 : (0 < k) ↔ b0 = true := by rw [← hb0, decide_eq_true_eq]; omega
        have e1 : (v ≠ []) ↔ b1 = false := by rw [← hb1, decide_eq_false_iff_not]
        have e2 : (v = w0) ↔ b2 = true := by rw [← hb2, decide_eq_true_eq]
        simp only [e0, e1, e2]
      rw [hkn]
      have HST := Lib.hid hst2
      clear hst hst2 hv hSV hb1 hb2 hkn
      cases b0
      · have h0 : ¬ ((0 : Int) < (k : Int)) := of_decide_eq_false hb0
        go_wp2_with fail
        go_roundw
        case rel => exact ⟨k + 1, by go_num, by omega, by rw [HST.out]; rfl, trivial⟩
        case measure => simp [intOf]; omega
      · have h0 : (0 : Int) < (k : Int) := of_decide_eq_true hb0
        cases b1
        · cases b2
          · have _u := True.intro
            go_wp2_with fail
            go_roundw
            case rel => exact ⟨k + 1, by go_num, by omega, by rw [HST.out]; rfl, trivial⟩
            case measure => simp [intOf]; omega
          · have _u := True.intro
            go_wp2_with fail
            go_roundw
            case rel => exact ⟨k + 1, by go_num, by omega, by rw [HST.out]; rfl, trivial⟩
            case measure => simp [intOf]; omega
        · have _u := True.intro
          go_wp2_with fail
          go_roundw
          case rel => exact ⟨k + 1, by go_num, by omega, by rw [HST.out]; rfl, trivial⟩
          case measure => simp [intOf]; omega
    · obtain rfl : k = 10 := by omega
      rw [kAt_ten]
      clear BT
      -- the rest behind the first word
      have hsl1 := tail_texts ⟨some ad, n, c⟩ (n := n) (a := 1) hn1
      have HP1 := Lib.hid (part_tail HW.out HN.out (a := 1) hn1)
      obtain ⟨⟨ao1, len1, cap1⟩, hs1⟩ : ∃ s1, partV ⟨some ad, n, c⟩ 1 n = s1 := ⟨_, rfl⟩
      have hl1 : n - 1 = len1 := by rw [← show (partV ⟨some ad, n, c⟩ 1 n).len = n - 1 from rfl, hs1]
      rw [hs1] at hsl1 HP1
      dsimp only at hsl1
      have HP1 : Hid (RTs wr ⟨ao1, len1, cap1⟩ r) := HP1
      have hsl1' : ∀ w, (Instr.slice 53 (.slice (some ad) n c) (some (.int .i64 1)) none none).run Tryd.prog w = .ok (.slice ao1 len1 cap1) w := fun w => hsl1 w
      have HL1 : Hid (r.length = len1) := Lib.hid (by have := HN.out; simp at this; omega)
      have hlen1 : len1 ≤ 100000 := by have := HMY.out; have := HL1.out; omega
      have HFr : Hid (∀ x ∈ r, x.length ≤ 100000) := Lib.hid fun x hx => HF.out x (List.mem_cons_of_mem _ hx)
      clear hsl1 hs1
      by_cases htry : w0 = wTry
      · have hq := lit_text w0 wTry (b := true) (by rw [decide_eq_true_eq]; exact htry)
        have e : headK w0 = 0 := by rw [htry]; decide
        unfold wTry at hq
        rw [HS0.out] at hq
        rw [e]
        cases r with
        | nil =>
          have HNO : Hid (RR = none) := Lib.hid (by rw [← HRR.out]; exact readW_no (rest := []) (by show (if w0 = wTry then _ else _) = _; rw [if_pos htry]))
          obtain rfl : n = 1 := by have := HN.out; simpa using this.symm
          clear e htry
          obtain ⟨⟨z0, z1, z2, z3, z4, z5⟩, y0, y1, y2, y3, y4, y5⟩ := Z3.out.cells
          go_wp2_with fail
          have ZF := Lib.hid (Z3.out.all 0 0 0 0 (.slice none 0 0) false)
          have TF := Lib.hid (T3.out.and (six_turn wr rz (.int .i64 0) (.int .i64 0) (.int .i64 0) (.int .i64 0) (.slice none 0 0) (.bool false)) (fun q hq e => by have := LOW.out; omega))
          clear z0 z1 z2 z3 z4 z5 y0 y1 y2 y3 y4 y5
          generalize ((((((wr.setCell ⟨rz, 0, none⟩ (.int .i64 0)).setCell ⟨rz, 1, none⟩ (.int .i64 0)).setCell ⟨rz, 2, none⟩ (.int .i64 0)).setCell ⟨rz, 3, none⟩ (.int .i64 0)).setCell ⟨rz, 4, none⟩ (.slice none 0 0)).setCell ⟨rz, 5, none⟩ (.bool false)) = wf at ZF TF ⊢
          obtain ⟨⟨k0, k1, k2, k3, k4, k5⟩, _⟩ := ZF.out.cells
          refine bodyPost_ret (v := .tuple #[.agg #[.int .i64 0, .int .i64 0, .int .i64 0, .int .i64 0, .slice none 0 0, .bool false], .bool false]) (by simp [results, Tryd.results33, go_sem, k0, k1, k2, k3, k4, k5]) rfl (gives_d (r := ⟨0, 0, 0, 0, ⟨none, 0, 0⟩, false⟩) TF.out ?_ ?_)
          · rw [HNO.out]; rfl
          · intro q h; rw [HNO.out] at h; cases h
        | cons x q =>
          have hn2 : 2 ≤ n := by have := HN.out; simp only [List.length_cons] at this; omega
          have hn1t : 1 < n := hn2
          obtain ⟨_, had, hc1⟩ := HW.out.at (i := 1) (x := x) rfl
          cases had
          obtain ⟨SX, hSX⟩ : ∃ v, bs x = v := ⟨_, rfl⟩
          rw [hSX] at hc1
          have hc1 : wr.cell? ⟨ad.block, ad.off + 1, none⟩ = some (.string SX) := hc1
          have hsl2 := tail_texts ⟨some ad, n, c⟩ (n := n) (a := 2) hn2
          have HP2 := Lib.hid (part_tail HW.out HN.out (a := 2) hn2)
          obtain ⟨⟨ao2, len2, cap2⟩, hs2⟩ : ∃ s2, partV ⟨some ad, n, c⟩ 2 n = s2 := ⟨_, rfl⟩
          have hl2 : n - 2 = len2 := by rw [← show (partV ⟨some ad, n, c⟩ 2 n).len = n - 2 from rfl, hs2]
          rw [hs2] at hsl2 HP2
          dsimp only at hsl2
          have HP2 : Hid (RTs wr ⟨ao2, len2, cap2⟩ q) := HP2
          have hsl2' : ∀ w, (Instr.slice 53 (.slice (some ad) n c) (some (.int .i64 2)) none none).run Tryd.prog w = .ok (.slice ao2 len2 cap2) w := fun w => hsl2 w
          have HL2 : Hid (q.length = len2) := Lib.hid (by have := HN.out; simp only [List.length_cons] at this; omega)
          have hlen2 : len2 ≤ 100000 := by omega
          have HFq : Hid (∀ z ∈ q, z.length ≤ 100000) := Lib.hid fun z hz => HFr.out z (List.mem_cons_of_mem _ hz)
          clear hsl2 hs2
          by_cases hxs : x = wSend
          · have hq2 := lit_text x wSend (b := true) (by rw [decide_eq_true_eq]; exact hxs)
            have hq3 := lit_text x wRecv (b := false) (by rw [decide_eq_false_iff_not, hxs]; decide)
            unfold wSend at hq2
            unfold wRecv at hq3
            rw [hSX] at hq2 hq3
            have hkr : kindR (w0 :: x :: q) = (4, q) := by
              show (if w0 = wTry then (if x = wSend then _ else _) else _) = _
              rw [if_pos htry, if_pos hxs]
            clear hSX hxs
            obtain ⟨on, hon⟩ : ∃ on, numsV q 2 = on := ⟨_, rfl⟩
            have HON := Lib.hid hon
            have hrr : RR = numR 4 on := by
              rw [← HRR.out, ← hon]
              exact readW_num hkr (by decide) (by decide)
            have HR2 := Lib.hid hrr
            have bv := rhasv_any 4 true
            have CN := Lib.hid (fun w h => rnums_any ⟨ao2, len2, cap2⟩ q 2 len2 on w h HL2.out (by omega) hon HFq.out)
            have TN := Lib.hid (fun ns (h : numsV q 2 = some ns) => (numsV_back h).2)
            clear hon hrr hkr e htry
            unfold GivesN at CN
            dsimp only at CN
            go_wp2_with fail
            refine (bv _ rfl).mono ?_
            rintro e w4 ⟨rfl, rfl⟩
            go_wp2_with fail
            refine (CN.out _ HP2.out).mono ?_
            rintro e w5 ⟨no, n2, c2, rfl, t5, hsome, hnone⟩
            have T3 := Lib.hid (T3.out.trans t5)
            have Z3 := Lib.hid (Z3.out.new t5)
            clear t5
            cases on with
            | none =>
              obtain rfl := hnone rfl
              have HNO : Hid (RR = none) := HR2
              clear hsome hnone bv
              obtain ⟨⟨z0, z1, z2, z3, z4, z5⟩, y0, y1, y2, y3, y4, y5⟩ := Z3.out.cells
              go_wp2_with fail
              have ZF := Lib.hid (Z3.out.all 0 0 0 0 (.slice none 0 0) false)
              have TF := Lib.hid (T3.out.and (six_turn w5 rz (.int .i64 0) (.int .i64 0) (.int .i64 0) (.int .i64 0) (.slice none 0 0) (.bool false)) (fun q hq e => by have := LOW.out; omega))
              clear z0 z1 z2 z3 z4 z5 y0 y1 y2 y3 y4 y5
              generalize ((((((w5.setCell ⟨rz, 0, none⟩ (.int .i64 0)).setCell ⟨rz, 1, none⟩ (.int .i64 0)).setCell ⟨rz, 2, none⟩ (.int .i64 0)).setCell ⟨rz, 3, none⟩ (.int .i64 0)).setCell ⟨rz, 4, none⟩ (.slice none 0 0)).setCell ⟨rz, 5, none⟩ (.bool false)) = wf at ZF TF ⊢
              obtain ⟨⟨k0, k1, k2, k3, k4, k5⟩, _⟩ := ZF.out.cells
              refine bodyPost_ret (v := .tuple #[.agg #[.int .i64 0, .int .i64 0, .int .i64 0, .int .i64 0, .slice none 0 0, .bool false], .bool false]) (by simp [results, Tryd.results33, go_sem, k0, k1, k2, k3, k4, k5]) rfl (gives_d (r := ⟨0, 0, 0, 0, ⟨none, 0, 0⟩, false⟩) TF.out ?_ ?_)
              · rw [HNO.out]; rfl
              · intro q h; rw [HNO.out] at h; cases h
            | some ns =>
              obtain ⟨hln, hI⟩ := hsome ns rfl
              have hnm := TN.out ns HON.out
              obtain rfl : n2 = 2 := by omega
              clear hsome hnone bv hln
              obtain ⟨x, y, rfl⟩ : ∃ x y, ns = [x, y] := by
                match ns, hnm with
                | [x, y], _ => exact ⟨x, y, rfl⟩
              obtain ⟨ad2, rfl, k0⟩ := hI 0 (by simp)
              obtain ⟨_, hE, k1⟩ := hI 1 (by simp)
              cases hE
              simp only [List.getD_cons_zero, List.getD_cons_succ] at k0 k1
              rw [addr_zero] at k0
              have k1 : w5.cell? ⟨ad2.block, ad2.off + 1, none⟩ = some (.int .i64 y) := k1
              have had2 : ad2.block < w5.heap.size := cell_lt k0
              clear hI hnm
              go_upto_region 27 with fail
              have A : Hid (OnS w (w5.alloc (.cells #[.int .i64 4, .int .i64 0, .int .i64 0, .int .i64 0, .slice none 0 0, .bool false] 25)) rz w5.heap.size 4 0 0 0 (.slice none 0 0) false) := Lib.hid ⟨Z3.out.new ((Turn.refl _ _).alloc _), blk_new w5 _ 25, T3.out.alloc _, LOW.out, Blk.lt Z3.out⟩
              have TW := (Turn.refl (fun _ => False) w5).alloc (.cells #[.int .i64 4, .int .i64 0, .int .i64 0, .int .i64 0, .slice none 0 0, .bool false] 25)
              obtain ⟨bx, hbx⟩ : ∃ b, w5.heap.size = b := ⟨_, rfl⟩
              have HBX := Lib.hid hbx
              rw [hbx] at A ⊢
              clear hbx
              have k0 := TW.cell id k0
              have k1 := TW.cell id k1
              clear TW
              generalize w5.alloc (.cells #[.int .i64 4, .int .i64 0, .int .i64 0, .int .i64 0, .slice none 0 0, .bool false] 25) = w6 at A k0 k1 ⊢
              obtain ⟨⟨x0, x1, x2, x3, x4, x5⟩, g0, g1, g2, g3, g4, g5⟩ := A.out.x.cells
              go_upto_region 30 with fail
              have A := Lib.hid (A.out.put1 x)
              have hne : ¬ ad2.block = bx := by have := HBX.out; omega
              have k1 := (set_turn w6 bx 1 (.int .i64 x)).cell (p := ⟨ad2.block, ad2.off + 1, none⟩) hne k1
              clear x0 x1 x2 x3 x4 x5 g0 g1 g2 g3 g4 g5
              clear k0
              generalize w6.setCell ⟨bx, 1, none⟩ (.int .i64 x) = w7 at A k1 ⊢
              obtain ⟨⟨x0, x1, x2, x3, x4, x5⟩, g0, g1, g2, g3, g4, g5⟩ := A.out.x.cells
              go_upto_region 32 with fail
              have A := Lib.hid (A.out.put3 y)
              clear x0 x1 x2 x3 x4 x5 g0 g1 g2 g3 g4 g5
              clear k1
              generalize w7.setCell ⟨bx, 3, none⟩ (.int .i64 y) = w8 at A ⊢
              obtain ⟨bb, hbb⟩ : ∃ b, rightO ⟨4, x, 0, y, [], false⟩ = b := ⟨_, rfl⟩
              have HOK : Hid (RR = if bb = true then some ⟨4, x, 0, y, [], false⟩ else none) := Lib.hid (by rw [HR2.out, ← hbb]; rfl)
              have CRO := Lib.hid (fun w (h : ROp w ⟨4, x, 0, y, ⟨none, 0, 0⟩, false⟩ ⟨4, x, 0, y, [], false⟩) => rrightop_any ⟨4, x, 0, y, ⟨none, 0, 0⟩, false⟩ ⟨4, x, 0, y, [], false⟩ bb w h (by simp) hbb)
              have BO : Hid (BOp w8 40 ⟨4, x, 0, y, ⟨none, 0, 0⟩, false⟩ ⟨4, x, 0, y, [], false⟩) := Lib.hid ⟨⟨rfl, rfl, rfl, rfl, rfl, (GCs.nil w8 40 0).done.r⟩, (GCs.nil w8 40 0).done.typ⟩
              unfold OpV.val Sl.val at CRO
              dsimp only at CRO
              clear hbb
              have TT := Lib.hid (Turn.refl (fun _ => False) w8).drew
              have TD := TT
              have KEEP := Lib.hid (show ∀ w', Turn (fun j => j = rz) w8 w' → (w'.cell? ⟨bx, 0, none⟩ = some (.int .i64 4) ∧ w'.cell? ⟨bx, 1, none⟩ = some (.int .i64 x) ∧ w'.cell? ⟨bx, 2, none⟩ = some (.int .i64 0) ∧ w'.cell? ⟨bx, 3, none⟩ = some (.int .i64 y) ∧ w'.cell? ⟨bx, 4, none⟩ = some (.slice none 0 0) ∧ w'.cell? ⟨bx, 5, none⟩ = some (.bool false)) from fun w' t => (A.out.x.turn t (by have := A.out.nxt; omega)).cells.1)
              refine stand_start (by kernel_rfl) 99 (fun w' => w'.cell? ⟨bx, 0, none⟩ = some (.int .i64 4) ∧ w'.cell? ⟨bx, 1, none⟩ = some (.int .i64 x) ∧ w'.cell? ⟨bx, 2, none⟩ = some (.int .i64 0) ∧ w'.cell? ⟨bx, 3, none⟩ = some (.int .i64 y) ∧ w'.cell? ⟨bx, 4, none⟩ = some (.slice none 0 0) ∧ w'.cell? ⟨bx, 5, none⟩ = some (.bool false)) 99 (fun w' => True) (KEEP.out _ (TD.out.mono fun _ _ e => e.elim)) trivial ?_
              refine stand_load3 (i := 0) (v := ?_) rfl (by kernel_rfl) (by kernel_rfl) (by kernel_rfl) (by rfl) (fun _ _ _ h => h) (by decide) (by decide) (by kernel_rfl) (by rfl) ?_ ?_
              rotate_left
              · (intro w hA; (try dsimp only at hA); go_simp; try with_reducible rfl)
              dsimp only [List.set_cons_zero, List.set_cons_succ]
              refine stand_load3 (i := 1) (v := ?_) rfl (by kernel_rfl) (by kernel_rfl) (by kernel_rfl) (by rfl) (fun _ _ _ h => h) (by decide) (by decide) (by kernel_rfl) (by rfl) ?_ ?_
              rotate_left
              · (intro w hA; (try dsimp only at hA); go_simp; try with_reducible rfl)
              dsimp only [List.set_cons_zero, List.set_cons_succ]
              refine stand_step (i := 2) (by kernel_rfl) rfl (fun K hK => ?_)
              go_simp
              refine (CRO.out _ (BO.out.rd.new TT.out)).mono ?_
              rintro e wn ⟨rfl, t4⟩
              have TT := Lib.hid (TT.out.trans t4)
              clear t4
              refine hK.out _ _ (fun _ => KEEP.out _ (TT.out.mono fun _ _ e => e.elim)) (fun _ => trivial) ?_
              clear hK K
              try simp only [put_laid, List.set_cons_zero, List.set_cons_succ]
              have A4 := Lib.hid (A.out.new TT.out)
              have BO4 := Lib.hid (BO.out.new TT.out)
              obtain ⟨⟨z0, z1, z2, z3, z4, z5⟩, y0, y1, y2, y3, y4, y5⟩ := A4.out.z.cells
              refine stand_step (i := 3) (by kernel_rfl) rfl (fun K hK => ?_)
              go_simp
              have T6 := Lib.hid (six_turn wn rz (.int .i64 4) (.int .i64 x) (.int .i64 0) (.int .i64 y) (.slice none 0 0) (.bool false))
              have ZF := Lib.hid (A4.out.z.all 4 x 0 y (.slice none 0 0) false)
              have TF := Lib.hid (A4.out.t.and T6.out (fun q hq e => by have := A4.out.low; omega))
              have BF := Lib.hid (BO4.out.apart T6.out (fun i _ e => by subst e; exact ⟨_, 25, by decide, A4.out.z⟩))
              have KF := Lib.hid (KEEP.out _ ((TT.out.mono fun _ _ e => e.elim).trans T6.out))
              clear z0 z1 z2 z3 z4 z5 y0 y1 y2 y3 y4 y5 T6
              generalize ((((((wn.setCell ⟨rz, 0, none⟩ (.int .i64 4)).setCell ⟨rz, 1, none⟩ (.int .i64 x)).setCell ⟨rz, 2, none⟩ (.int .i64 0)).setCell ⟨rz, 3, none⟩ (.int .i64 y)).setCell ⟨rz, 4, none⟩ (.slice none 0 0)).setCell ⟨rz, 5, none⟩ (.bool false)) = wf at ZF TF BF KF ⊢
              refine hK.out _ _ (fun _ => KF.out) (fun _ => trivial) ?_
              clear hK K
              try simp only [put_laid, List.set_cons_zero, List.set_cons_succ]
              refine stand_take (i := 4) (v := ?_) rfl (by kernel_rfl) (by kernel_rfl) (by kernel_rfl) (by rfl) (fun _ _ _ h => h) (by decide) (by decide) (by rfl) ?_ ?_
              rotate_left
              · (intro w; go_simp; try with_reducible rfl)
              dsimp only [List.set_cons_zero, List.set_cons_succ]
              refine stand_done (by kernel_rfl) ?_
              go_wp2_with fail
              obtain ⟨⟨k0, k1, k2, k3, k4, k5⟩, _⟩ := ZF.out.cells
              refine bodyPost_ret (v := .tuple #[.agg #[.int .i64 4, .int .i64 x, .int .i64 0, .int .i64 y, (.slice none 0 0), .bool false], .bool bb]) (by simp [results, Tryd.results33, go_sem, k0, k1, k2, k3, k4, k5]) rfl (gives_d (r := ⟨4, x, 0, y, ⟨none, 0, 0⟩, false⟩) TF.out ?_ ?_)
              · rw [HOK.out]; cases bb <;> rfl
              · intro q h
                rw [HOK.out] at h
                cases bb
                · cases h
                · cases h
                  exact BF.out
          · have hq2 := lit_text x wSend (b := false) (by rw [decide_eq_false_iff_not]; exact hxs)
            unfold wSend at hq2
            rw [hSX] at hq2
            by_cases hxr : x = wRecv
            · have hq3 := lit_text x wRecv (b := true) (by rw [decide_eq_true_eq]; exact hxr)
              unfold wRecv at hq3
              rw [hSX] at hq3
              have hkr : kindR (w0 :: x :: q) = (5, q) := by
                show (if w0 = wTry then (if x = wSend then _ else if x = wRecv then _ else _) else _) = _
                rw [if_pos htry, if_neg hxs, if_pos hxr]
              clear hSX hxs hxr
              obtain ⟨on, hon⟩ : ∃ on, numsV q 1 = on := ⟨_, rfl⟩
              have HON := Lib.hid hon
              have hrr : RR = numR 5 on := by
                rw [← HRR.out, ← hon]
                exact readW_num hkr (by decide) (by decide)
              have HR2 := Lib.hid hrr
              have bv := rhasv_any 5 false
              have CN := Lib.hid (fun w h => rnums_any ⟨ao2, len2, cap2⟩ q 1 len2 on w h HL2.out (by omega) hon HFq.out)
              have TN := Lib.hid (fun ns (h : numsV q 1 = some ns) => (numsV_back h).2)
              clear hon hrr hkr e htry
              unfold GivesN at CN
              dsimp only at CN
              go_wp2_with fail
              refine (bv _ rfl).mono ?_
              rintro e w4 ⟨rfl, rfl⟩
              go_wp2_with fail
              refine (CN.out _ HP2.out).mono ?_
              rintro e w5 ⟨no, n2, c2, rfl, t5, hsome, hnone⟩
              have T3 := Lib.hid (T3.out.trans t5)
              have Z3 := Lib.hid (Z3.out.new t5)
              clear t5
              cases on with
              | none =>
                obtain rfl := hnone rfl
                have HNO : Hid (RR = none) := HR2
                clear hsome hnone bv
                obtain ⟨⟨z0, z1, z2, z3, z4, z5⟩, y0, y1, y2, y3, y4, y5⟩ := Z3.out.cells
                go_wp2_with fail
                have ZF := Lib.hid (Z3.out.all 0 0 0 0 (.slice none 0 0) false)
                have TF := Lib.hid (T3.out.and (six_turn w5 rz (.int .i64 0) (.int .i64 0) (.int .i64 0) (.int .i64 0) (.slice none 0 0) (.bool false)) (fun q hq e => by have := LOW.out; omega))
                clear z0 z1 z2 z3 z4 z5 y0 y1 y2 y3 y4 y5
                generalize ((((((w5.setCell ⟨rz, 0, none⟩ (.int .i64 0)).setCell ⟨rz, 1, none⟩ (.int .i64 0)).setCell ⟨rz, 2, none⟩ (.int .i64 0)).setCell ⟨rz, 3, none⟩ (.int .i64 0)).setCell ⟨rz, 4, none⟩ (.slice none 0 0)).setCell ⟨rz, 5, none⟩ (.bool false)) = wf at ZF TF ⊢
                obtain ⟨⟨k0, k1, k2, k3, k4, k5⟩, _⟩ := ZF.out.cells
                refine bodyPost_ret (v := .tuple #[.agg #[.int .i64 0, .int .i64 0, .int .i64 0, .int .i64 0, .slice none 0 0, .bool false], .bool false]) (by simp [results, Tryd.results33, go_sem, k0, k1, k2, k3, k4, k5]) rfl (gives_d (r := ⟨0, 0, 0, 0, ⟨none, 0, 0⟩, false⟩) TF.out ?_ ?_)
                · rw [HNO.out]; rfl
                · intro q h; rw [HNO.out] at h; cases h
              | some ns =>
                obtain ⟨hln, hI⟩ := hsome ns rfl
                have hnm := TN.out ns HON.out
                obtain rfl : n2 = 1 := by omega
                clear hsome hnone bv hln
                obtain ⟨x, rfl⟩ : ∃ x, ns = [x] := by
                  match ns, hnm with
                  | [x], _ => exact ⟨x, rfl⟩
                obtain ⟨ad2, rfl, k0⟩ := hI 0 (by simp)
                simp only [List.getD_cons_zero] at k0
                rw [addr_zero] at k0
                have had2 : ad2.block < w5.heap.size := cell_lt k0
                clear hI hnm
                go_upto_region 27 with fail
                have A : Hid (OnS w (w5.alloc (.cells #[.int .i64 5, .int .i64 0, .int .i64 0, .int .i64 0, .slice none 0 0, .bool false] 25)) rz w5.heap.size 5 0 0 0 (.slice none 0 0) false) := Lib.hid ⟨Z3.out.new ((Turn.refl _ _).alloc _), blk_new w5 _ 25, T3.out.alloc _, LOW.out, Blk.lt Z3.out⟩
                have TW := (Turn.refl (fun _ => False) w5).alloc (.cells #[.int .i64 5, .int .i64 0, .int .i64 0, .int .i64 0, .slice none 0 0, .bool false] 25)
                obtain ⟨bx, hbx⟩ : ∃ b, w5.heap.size = b := ⟨_, rfl⟩
                have HBX := Lib.hid hbx
                rw [hbx] at A ⊢
                clear hbx
                have k0 := TW.cell id k0
                clear TW
                generalize w5.alloc (.cells #[.int .i64 5, .int .i64 0, .int .i64 0, .int .i64 0, .slice none 0 0, .bool false] 25) = w6 at A k0 ⊢
                obtain ⟨⟨x0, x1, x2, x3, x4, x5⟩, g0, g1, g2, g3, g4, g5⟩ := A.out.x.cells
                go_upto_region 32 with fail
                have A := Lib.hid (A.out.put1 x)
                clear x0 x1 x2 x3 x4 x5 g0 g1 g2 g3 g4 g5
                clear k0
                generalize w6.setCell ⟨bx, 1, none⟩ (.int .i64 x) = w7 at A ⊢
                obtain ⟨bb, hbb⟩ : ∃ b, rightO ⟨5, x, 0, 0, [], false⟩ = b := ⟨_, rfl⟩
                have HOK : Hid (RR = if bb = true then some ⟨5, x, 0, 0, [], false⟩ else none) := Lib.hid (by rw [HR2.out, ← hbb]; rfl)
                have CRO := Lib.hid (fun w (h : ROp w ⟨5, x, 0, 0, ⟨none, 0, 0⟩, false⟩ ⟨5, x, 0, 0, [], false⟩) => rrightop_any ⟨5, x, 0, 0, ⟨none, 0, 0⟩, false⟩ ⟨5, x, 0, 0, [], false⟩ bb w h (by simp) hbb)
                have BO : Hid (BOp w7 40 ⟨5, x, 0, 0, ⟨none, 0, 0⟩, false⟩ ⟨5, x, 0, 0, [], false⟩) := Lib.hid ⟨⟨rfl, rfl, rfl, rfl, rfl, (GCs.nil w7 40 0).done.r⟩, (GCs.nil w7 40 0).done.typ⟩
                unfold OpV.val Sl.val at CRO
                dsimp only at CRO
                clear hbb
                have TT := Lib.hid (Turn.refl (fun _ => False) w7).drew
                have TD := TT
                have KEEP := Lib.hid (show ∀ w', Turn (fun j => j = rz) w7 w' → (w'.cell? ⟨bx, 0, none⟩ = some (.int .i64 5) ∧ w'.cell? ⟨bx, 1, none⟩ = some (.int .i64 x) ∧ w'.cell? ⟨bx, 2, none⟩ = some (.int .i64 0) ∧ w'.cell? ⟨bx, 3, none⟩ = some (.int .i64 0) ∧ w'.cell? ⟨bx, 4, none⟩ = some (.slice none 0 0) ∧ w'.cell? ⟨bx, 5, none⟩ = some (.bool false)) from fun w' t => (A.out.x.turn t (by have := A.out.nxt; omega)).cells.1)
                refine stand_start (by kernel_rfl) 99 (fun w' => w'.cell? ⟨bx, 0, none⟩ = some (.int .i64 5) ∧ w'.cell? ⟨bx, 1, none⟩ = some (.int .i64 x) ∧ w'.cell? ⟨bx, 2, none⟩ = some (.int .i64 0) ∧ w'.cell? ⟨bx, 3, none⟩ = some (.int .i64 0) ∧ w'.cell? ⟨bx, 4, none⟩ = some (.slice none 0 0) ∧ w'.cell? ⟨bx, 5, none⟩ = some (.bool false)) 99 (fun w' => True) (KEEP.out _ (TD.out.mono fun _ _ e => e.elim)) trivial ?_
                refine stand_load3 (i := 0) (v := ?_) rfl (by kernel_rfl) (by kernel_rfl) (by kernel_rfl) (by rfl) (fun _ _ _ h => h) (by decide) (by decide) (by kernel_rfl) (by rfl) ?_ ?_
                rotate_left
                · (intro w hA; (try dsimp only at hA); go_simp; try with_reducible rfl)
                dsimp only [List.set_cons_zero, List.set_cons_succ]
                refine stand_load3 (i := 1) (v := ?_) rfl (by kernel_rfl) (by kernel_rfl) (by kernel_rfl) (by rfl) (fun _ _ _ h => h) (by decide) (by decide) (by kernel_rfl) (by rfl) ?_ ?_
                rotate_left
                · (intro w hA; (try dsimp only at hA); go_simp; try with_reducible rfl)
                dsimp only [List.set_cons_zero, List.set_cons_succ]
                refine stand_step (i := 2) (by kernel_rfl) rfl (fun K hK => ?_)
                go_simp
                refine (CRO.out _ (BO.out.rd.new TT.out)).mono ?_
                rintro e wn ⟨rfl, t4⟩
                have TT := Lib.hid (TT.out.trans t4)
                clear t4
                refine hK.out _ _ (fun _ => KEEP.out _ (TT.out.mono fun _ _ e => e.elim)) (fun _ => trivial) ?_
                clear hK K
                try simp only [put_laid, List.set_cons_zero, List.set_cons_succ]
                have A4 := Lib.hid (A.out.new TT.out)
                have BO4 := Lib.hid (BO.out.new TT.out)
                obtain ⟨⟨z0, z1, z2, z3, z4, z5⟩, y0, y1, y2, y3, y4, y5⟩ := A4.out.z.cells
                refine stand_step (i := 3) (by kernel_rfl) rfl (fun K hK => ?_)
                go_simp
                have T6 := Lib.hid (six_turn wn rz (.int .i64 5) (.int .i64 x) (.int .i64 0) (.int .i64 0) (.slice none 0 0) (.bool false))
                have ZF := Lib.hid (A4.out.z.all 5 x 0 0 (.slice none 0 0) false)
                have TF := Lib.hid (A4.out.t.and T6.out (fun q hq e => by have := A4.out.low; omega))
                have BF := Lib.hid (BO4.out.apart T6.out (fun i _ e => by subst e; exact ⟨_, 25, by decide, A4.out.z⟩))
                have KF := Lib.hid (KEEP.out _ ((TT.out.mono fun _ _ e => e.elim).trans T6.out))
                clear z0 z1 z2 z3 z4 z5 y0 y1 y2 y3 y4 y5 T6
                generalize ((((((wn.setCell ⟨rz, 0, none⟩ (.int .i64 5)).setCell ⟨rz, 1, none⟩ (.int .i64 x)).setCell ⟨rz, 2, none⟩ (.int .i64 0)).setCell ⟨rz, 3, none⟩ (.int .i64 0)).setCell ⟨rz, 4, none⟩ (.slice none 0 0)).setCell ⟨rz, 5, none⟩ (.bool false)) = wf at ZF TF BF KF ⊢
                refine hK.out _ _ (fun _ => KF.out) (fun _ => trivial) ?_
                clear hK K
                try simp only [put_laid, List.set_cons_zero, List.set_cons_succ]
                refine stand_take (i := 4) (v := ?_) rfl (by kernel_rfl) (by kernel_rfl) (by kernel_rfl) (by rfl) (fun _ _ _ h => h) (by decide) (by decide) (by rfl) ?_ ?_
                rotate_left
                · (intro w; go_simp; try with_reducible rfl)
                dsimp only [List.set_cons_zero, List.set_cons_succ]
                refine stand_done (by kernel_rfl) ?_
                go_wp2_with fail
                obtain ⟨⟨k0, k1, k2, k3, k4, k5⟩, _⟩ := ZF.out.cells
                refine bodyPost_ret (v := .tuple #[.agg #[.int .i64 5, .int .i64 x, .int .i64 0, .int .i64 0, (.slice none 0 0), .bool false], .bool bb]) (by simp [results, Tryd.results33, go_sem, k0, k1, k2, k3, k4, k5]) rfl (gives_d (r := ⟨5, x, 0, 0, ⟨none, 0, 0⟩, false⟩) TF.out ?_ ?_)
                · rw [HOK.out]; cases bb <;> rfl
                · intro q h
                  rw [HOK.out] at h
                  cases bb
                  · cases h
                  · cases h
                    exact BF.out
            · have hq3 := lit_text x wRecv (b := false) (by rw [decide_eq_false_iff_not]; exact hxr)
              unfold wRecv at hq3
              rw [hSX] at hq3
              have HNO : Hid (RR = none) := Lib.hid (by
                rw [← HRR.out]
                refine readW_no (rest := x :: q) ?_
                show (if w0 = wTry then (if x = wSend then _ else if x = wRecv then _ else _) else _) = _
                rw [if_pos htry, if_neg hxs, if_neg hxr])
              clear hSX hxs hxr e htry
              obtain ⟨⟨z0, z1, z2, z3, z4, z5⟩, y0, y1, y2, y3, y4, y5⟩ := Z3.out.cells
              go_wp2_with fail
              have ZF := Lib.hid (Z3.out.all 0 0 0 0 (.slice none 0 0) false)
              have TF := Lib.hid (T3.out.and (six_turn wr rz (.int .i64 0) (.int .i64 0) (.int .i64 0) (.int .i64 0) (.slice none 0 0) (.bool false)) (fun q hq e => by have := LOW.out; omega))
              clear z0 z1 z2 z3 z4 z5 y0 y1 y2 y3 y4 y5
              generalize ((((((wr.setCell ⟨rz, 0, none⟩ (.int .i64 0)).setCell ⟨rz, 1, none⟩ (.int .i64 0)).setCell ⟨rz, 2, none⟩ (.int .i64 0)).setCell ⟨rz, 3, none⟩ (.int .i64 0)).setCell ⟨rz, 4, none⟩ (.slice none 0 0)).setCell ⟨rz, 5, none⟩ (.bool false)) = wf at ZF TF ⊢
              obtain ⟨⟨k0, k1, k2, k3, k4, k5⟩, _⟩ := ZF.out.cells
              refine bodyPost_ret (v := .tuple #[.agg #[.int .i64 0, .int .i64 0, .int .i64 0, .int .i64 0, .slice none 0 0, .bool false], .bool false]) (by simp [results, Tryd.results33, go_sem, k0, k1, k2, k3, k4, k5]) rfl (gives_d (r := ⟨0, 0, 0, 0, ⟨none, 0, 0⟩, false⟩) TF.out ?_ ?_)
              · rw [HNO.out]; rfl
              · intro q h; rw [HNO.out] at h; cases h
      · have hq := lit_text w0 wTry (b := false) (by rw [decide_eq_false_iff_not]; exact htry)
        unfold wTry at hq
        rw [HS0.out] at hq
        have hkr : kindR (w0 :: r) = (headK w0, r) := by
          show (if w0 = wTry then _ else (headK w0, r)) = _
          rw [if_neg htry]
        rcases headK_cases w0 with ⟨_, e⟩ | ⟨_, e⟩ | ⟨_, e⟩ | ⟨_, e⟩ | ⟨_, e⟩ | ⟨_, e⟩ | ⟨_, e⟩ | ⟨_, _, _, _, _, _, _, e⟩
        · rw [e] at hkr ⊢
          obtain ⟨on, hon⟩ : ∃ on, numsV r 1 = on := ⟨_, rfl⟩
          have HON := Lib.hid hon
          have hrr : RR = numR 1 on := by
            rw [← HRR.out, ← hon]
            exact readW_num hkr (by decide) (by decide)
          have HR2 := Lib.hid hrr
          have bv := rhasv_any 1 false
          have CN := Lib.hid (fun w h => rnums_any ⟨ao1, len1, cap1⟩ r 1 len1 on w h HL1.out (by omega) hon HFr.out)
          have TN := Lib.hid (fun ns (h : numsV r 1 = some ns) => (numsV_back h).2)
          clear hon hrr hkr e htry
          unfold GivesN at CN
          dsimp only at CN
          go_wp2_with fail
          refine (bv _ rfl).mono ?_
          rintro e w4 ⟨rfl, rfl⟩
          go_wp2_with fail
          refine (CN.out _ HP1.out).mono ?_
          rintro e w5 ⟨no, n2, c2, rfl, t5, hsome, hnone⟩
          have T3 := Lib.hid (T3.out.trans t5)
          have Z3 := Lib.hid (Z3.out.new t5)
          clear t5
          cases on with
          | none =>
            obtain rfl := hnone rfl
            have HNO : Hid (RR = none) := HR2
            clear hsome hnone bv
            obtain ⟨⟨z0, z1, z2, z3, z4, z5⟩, y0, y1, y2, y3, y4, y5⟩ := Z3.out.cells
            go_wp2_with fail
            have ZF := Lib.hid (Z3.out.all 0 0 0 0 (.slice none 0 0) false)
            have TF := Lib.hid (T3.out.and (six_turn w5 rz (.int .i64 0) (.int .i64 0) (.int .i64 0) (.int .i64 0) (.slice none 0 0) (.bool false)) (fun q hq e => by have := LOW.out; omega))
            clear z0 z1 z2 z3 z4 z5 y0 y1 y2 y3 y4 y5
            generalize ((((((w5.setCell ⟨rz, 0, none⟩ (.int .i64 0)).setCell ⟨rz, 1, none⟩ (.int .i64 0)).setCell ⟨rz, 2, none⟩ (.int .i64 0)).setCell ⟨rz, 3, none⟩ (.int .i64 0)).setCell ⟨rz, 4, none⟩ (.slice none 0 0)).setCell ⟨rz, 5, none⟩ (.bool false)) = wf at ZF TF ⊢
            obtain ⟨⟨k0, k1, k2, k3, k4, k5⟩, _⟩ := ZF.out.cells
            refine bodyPost_ret (v := .tuple #[.agg #[.int .i64 0, .int .i64 0, .int .i64 0, .int .i64 0, .slice none 0 0, .bool false], .bool false]) (by simp [results, Tryd.results33, go_sem, k0, k1, k2, k3, k4, k5]) rfl (gives_d (r := ⟨0, 0, 0, 0, ⟨none, 0, 0⟩, false⟩) TF.out ?_ ?_)
            · rw [HNO.out]; rfl
            · intro q h; rw [HNO.out] at h; cases h
          | some ns =>
            obtain ⟨hln, hI⟩ := hsome ns rfl
            have hnm := TN.out ns HON.out
            obtain rfl : n2 = 1 := by omega
            clear hsome hnone bv hln
            obtain ⟨x, rfl⟩ : ∃ x, ns = [x] := by
              match ns, hnm with
              | [x], _ => exact ⟨x, rfl⟩
            obtain ⟨ad2, rfl, k0⟩ := hI 0 (by simp)
            simp only [List.getD_cons_zero] at k0
            rw [addr_zero] at k0
            have had2 : ad2.block < w5.heap.size := cell_lt k0
            clear hI hnm
            go_upto_region 27 with fail
            have A : Hid (OnS w (w5.alloc (.cells #[.int .i64 1, .int .i64 0, .int .i64 0, .int .i64 0, .slice none 0 0, .bool false] 25)) rz w5.heap.size 1 0 0 0 (.slice none 0 0) false) := Lib.hid ⟨Z3.out.new ((Turn.refl _ _).alloc _), blk_new w5 _ 25, T3.out.alloc _, LOW.out, Blk.lt Z3.out⟩
            have TW := (Turn.refl (fun _ => False) w5).alloc (.cells #[.int .i64 1, .int .i64 0, .int .i64 0, .int .i64 0, .slice none 0 0, .bool false] 25)
            obtain ⟨bx, hbx⟩ : ∃ b, w5.heap.size = b := ⟨_, rfl⟩
            have HBX := Lib.hid hbx
            rw [hbx] at A ⊢
            clear hbx
            have k0 := TW.cell id k0
            clear TW
            generalize w5.alloc (.cells #[.int .i64 1, .int .i64 0, .int .i64 0, .int .i64 0, .slice none 0 0, .bool false] 25) = w6 at A k0 ⊢
            obtain ⟨⟨x0, x1, x2, x3, x4, x5⟩, g0, g1, g2, g3, g4, g5⟩ := A.out.x.cells
            go_upto_region 32 with fail
            have A := Lib.hid (A.out.put2 x)
            clear x0 x1 x2 x3 x4 x5 g0 g1 g2 g3 g4 g5
            clear k0
            generalize w6.setCell ⟨bx, 2, none⟩ (.int .i64 x) = w7 at A ⊢
            obtain ⟨bb, hbb⟩ : ∃ b, rightO ⟨1, 0, x, 0, [], false⟩ = b := ⟨_, rfl⟩
            have HOK : Hid (RR = if bb = true then some ⟨1, 0, x, 0, [], false⟩ else none) := Lib.hid (by rw [HR2.out, ← hbb]; rfl)
            have CRO := Lib.hid (fun w (h : ROp w ⟨1, 0, x, 0, ⟨none, 0, 0⟩, false⟩ ⟨1, 0, x, 0, [], false⟩) => rrightop_any ⟨1, 0, x, 0, ⟨none, 0, 0⟩, false⟩ ⟨1, 0, x, 0, [], false⟩ bb w h (by simp) hbb)
            have BO : Hid (BOp w7 40 ⟨1, 0, x, 0, ⟨none, 0, 0⟩, false⟩ ⟨1, 0, x, 0, [], false⟩) := Lib.hid ⟨⟨rfl, rfl, rfl, rfl, rfl, (GCs.nil w7 40 0).done.r⟩, (GCs.nil w7 40 0).done.typ⟩
            unfold OpV.val Sl.val at CRO
            dsimp only at CRO
            clear hbb
            have TT := Lib.hid (Turn.refl (fun _ => False) w7).drew
            have TD := TT
            have KEEP := Lib.hid (show ∀ w', Turn (fun j => j = rz) w7 w' → (w'.cell? ⟨bx, 0, none⟩ = some (.int .i64 1) ∧ w'.cell? ⟨bx, 1, none⟩ = some (.int .i64 0) ∧ w'.cell? ⟨bx, 2, none⟩ = some (.int .i64 x) ∧ w'.cell? ⟨bx, 3, none⟩ = some (.int .i64 0) ∧ w'.cell? ⟨bx, 4, none⟩ = some (.slice none 0 0) ∧ w'.cell? ⟨bx, 5, none⟩ = some (.bool false)) from fun w' t => (A.out.x.turn t (by have := A.out.nxt; omega)).cells.1)
            refine stand_start (by kernel_rfl) 99 (fun w' => w'.cell? ⟨bx, 0, none⟩ = some (.int .i64 1) ∧ w'.cell? ⟨bx, 1, none⟩ = some (.int .i64 0) ∧ w'.cell? ⟨bx, 2, none⟩ = some (.int .i64 x) ∧ w'.cell? ⟨bx, 3, none⟩ = some (.int .i64 0) ∧ w'.cell? ⟨bx, 4, none⟩ = some (.slice none 0 0) ∧ w'.cell? ⟨bx, 5, none⟩ = some (.bool false)) 99 (fun w' => True) (KEEP.out _ (TD.out.mono fun _ _ e => e.elim)) trivial ?_
            refine stand_load3 (i := 0) (v := ?_) rfl (by kernel_rfl) (by kernel_rfl) (by kernel_rfl) (by rfl) (fun _ _ _ h => h) (by decide) (by decide) (by kernel_rfl) (by rfl) ?_ ?_
            rotate_left
            · (intro w hA; (try dsimp only at hA); go_simp; try with_reducible rfl)
            dsimp only [List.set_cons_zero, List.set_cons_succ]
            refine stand_load3 (i := 1) (v := ?_) rfl (by kernel_rfl) (by kernel_rfl) (by kernel_rfl) (by rfl) (fun _ _ _ h => h) (by decide) (by decide) (by kernel_rfl) (by rfl) ?_ ?_
            rotate_left
            · (intro w hA; (try dsimp only at hA); go_simp; try with_reducible rfl)
            dsimp only [List.set_cons_zero, List.set_cons_succ]
            refine stand_step (i := 2) (by kernel_rfl) rfl (fun K hK => ?_)
            go_simp
            refine (CRO.out _ (BO.out.rd.new TT.out)).mono ?_
            rintro e wn ⟨rfl, t4⟩
            have TT := Lib.hid (TT.out.trans t4)
            clear t4
            refine hK.out _ _ (fun _ => KEEP.out _ (TT.out.mono fun _ _ e => e.elim)) (fun _ => trivial) ?_
            clear hK K
            try simp only [put_laid, List.set_cons_zero, List.set_cons_succ]
            have A4 := Lib.hid (A.out.new TT.out)
            have BO4 := Lib.hid (BO.out.new TT.out)
            obtain ⟨⟨z0, z1, z2, z3, z4, z5⟩, y0, y1, y2, y3, y4, y5⟩ := A4.out.z.cells
            refine stand_step (i := 3) (by kernel_rfl) rfl (fun K hK => ?_)
            go_simp
            have T6 := Lib.hid (six_turn wn rz (.int .i64 1) (.int .i64 0) (.int .i64 x) (.int .i64 0) (.slice none 0 0) (.bool false))
            have ZF := Lib.hid (A4.out.z.all 1 0 x 0 (.slice none 0 0) false)
            have TF := Lib.hid (A4.out.t.and T6.out (fun q hq e => by have := A4.out.low; omega))
            have BF := Lib.hid (BO4.out.apart T6.out (fun i _ e => by subst e; exact ⟨_, 25, by decide, A4.out.z⟩))
            have KF := Lib.hid (KEEP.out _ ((TT.out.mono fun _ _ e => e.elim).trans T6.out))
            clear z0 z1 z2 z3 z4 z5 y0 y1 y2 y3 y4 y5 T6
            generalize ((((((wn.setCell ⟨rz, 0, none⟩ (.int .i64 1)).setCell ⟨rz, 1, none⟩ (.int .i64 0)).setCell ⟨rz, 2, none⟩ (.int .i64 x)).setCell ⟨rz, 3, none⟩ (.int .i64 0)).setCell ⟨rz, 4, none⟩ (.slice none 0 0)).setCell ⟨rz, 5, none⟩ (.bool false)) = wf at ZF TF BF KF ⊢
            refine hK.out _ _ (fun _ => KF.out) (fun _ => trivial) ?_
            clear hK K
            try simp only [put_laid, List.set_cons_zero, List.set_cons_succ]
            refine stand_take (i := 4) (v := ?_) rfl (by kernel_rfl) (by kernel_rfl) (by kernel_rfl) (by rfl) (fun _ _ _ h => h) (by decide) (by decide) (by rfl) ?_ ?_
            rotate_left
            · (intro w; go_simp; try with_reducible rfl)
            dsimp only [List.set_cons_zero, List.set_cons_succ]
            refine stand_done (by kernel_rfl) ?_
            go_wp2_with fail
            obtain ⟨⟨k0, k1, k2, k3, k4, k5⟩, _⟩ := ZF.out.cells
            refine bodyPost_ret (v := .tuple #[.agg #[.int .i64 1, .int .i64 0, .int .i64 x, .int .i64 0, (.slice none 0 0), .bool false], .bool bb]) (by simp [results, Tryd.results33, go_sem, k0, k1, k2, k3, k4, k5]) rfl (gives_d (r := ⟨1, 0, x, 0, ⟨none, 0, 0⟩, false⟩) TF.out ?_ ?_)
            · rw [HOK.out]; cases bb <;> rfl
            · intro q h
              rw [HOK.out] at h
              cases bb
              · cases h
              · cases h
                exact BF.out
        · rw [e] at hkr ⊢
          obtain ⟨on, hon⟩ : ∃ on, numsV r 2 = on := ⟨_, rfl⟩
          have HON := Lib.hid hon
          have hrr : RR = numR 2 on := by
            rw [← HRR.out, ← hon]
            exact readW_num hkr (by decide) (by decide)
          have HR2 := Lib.hid hrr
          have bv := rhasv_any 2 true
          have CN := Lib.hid (fun w h => rnums_any ⟨ao1, len1, cap1⟩ r 2 len1 on w h HL1.out (by omega) hon HFr.out)
          have TN := Lib.hid (fun ns (h : numsV r 2 = some ns) => (numsV_back h).2)
          clear hon hrr hkr e htry
          unfold GivesN at CN
          dsimp only at CN
          go_wp2_with fail
          refine (bv _ rfl).mono ?_
          rintro e w4 ⟨rfl, rfl⟩
          go_wp2_with fail
          refine (CN.out _ HP1.out).mono ?_
          rintro e w5 ⟨no, n2, c2, rfl, t5, hsome, hnone⟩
          have T3 := Lib.hid (T3.out.trans t5)
          have Z3 := Lib.hid (Z3.out.new t5)
          clear t5
          cases on with
          | none =>
            obtain rfl := hnone rfl
            have HNO : Hid (RR = none) := HR2
            clear hsome hnone bv
            obtain ⟨⟨z0, z1, z2, z3, z4, z5⟩, y0, y1, y2, y3, y4, y5⟩ := Z3.out.cells
            go_wp2_with fail
            have ZF := Lib.hid (Z3.out.all 0 0 0 0 (.slice none 0 0) false)
            have TF := Lib.hid (T3.out.and (six_turn w5 rz (.int .i64 0) (.int .i64 0) (.int .i64 0) (.int .i64 0) (.slice none 0 0) (.bool false)) (fun q hq e => by have := LOW.out; omega))
            clear z0 z1 z2 z3 z4 z5 y0 y1 y2 y3 y4 y5
            generalize ((((((w5.setCell ⟨rz, 0, none⟩ (.int .i64 0)).setCell ⟨rz, 1, none⟩ (.int .i64 0)).setCell ⟨rz, 2, none⟩ (.int .i64 0)).setCell ⟨rz, 3, none⟩ (.int .i64 0)).setCell ⟨rz, 4, none⟩ (.slice none 0 0)).setCell ⟨rz, 5, none⟩ (.bool false)) = wf at ZF TF ⊢
            obtain ⟨⟨k0, k1, k2, k3, k4, k5⟩, _⟩ := ZF.out.cells
            refine bodyPost_ret (v := .tuple #[.agg #[.int .i64 0, .int .i64 0, .int .i64 0, .int .i64 0, .slice none 0 0, .bool false], .bool false]) (by simp [results, Tryd.results33, go_sem, k0, k1, k2, k3, k4, k5]) rfl (gives_d (r := ⟨0, 0, 0, 0, ⟨none, 0, 0⟩, false⟩) TF.out ?_ ?_)
            · rw [HNO.out]; rfl
            · intro q h; rw [HNO.out] at h; cases h
          | some ns =>
            obtain ⟨hln, hI⟩ := hsome ns rfl
            have hnm := TN.out ns HON.out
            obtain rfl : n2 = 2 := by omega
            clear hsome hnone bv hln
            obtain ⟨x, y, rfl⟩ : ∃ x y, ns = [x, y] := by
              match ns, hnm with
              | [x, y], _ => exact ⟨x, y, rfl⟩
            obtain ⟨ad2, rfl, k0⟩ := hI 0 (by simp)
            obtain ⟨_, hE, k1⟩ := hI 1 (by simp)
            cases hE
            simp only [List.getD_cons_zero, List.getD_cons_succ] at k0 k1
            rw [addr_zero] at k0
            have k1 : w5.cell? ⟨ad2.block, ad2.off + 1, none⟩ = some (.int .i64 y) := k1
            have had2 : ad2.block < w5.heap.size := cell_lt k0
            clear hI hnm
            go_upto_region 27 with fail
            have A : Hid (OnS w (w5.alloc (.cells #[.int .i64 2, .int .i64 0, .int .i64 0, .int .i64 0, .slice none 0 0, .bool false] 25)) rz w5.heap.size 2 0 0 0 (.slice none 0 0) false) := Lib.hid ⟨Z3.out.new ((Turn.refl _ _).alloc _), blk_new w5 _ 25, T3.out.alloc _, LOW.out, Blk.lt Z3.out⟩
            have TW := (Turn.refl (fun _ => False) w5).alloc (.cells #[.int .i64 2, .int .i64 0, .int .i64 0, .int .i64 0, .slice none 0 0, .bool false] 25)
            obtain ⟨bx, hbx⟩ : ∃ b, w5.heap.size = b := ⟨_, rfl⟩
            have HBX := Lib.hid hbx
            rw [hbx] at A ⊢
            clear hbx
            have k0 := TW.cell id k0
            have k1 := TW.cell id k1
            clear TW
            generalize w5.alloc (.cells #[.int .i64 2, .int .i64 0, .int .i64 0, .int .i64 0, .slice none 0 0, .bool false] 25) = w6 at A k0 k1 ⊢
            obtain ⟨⟨x0, x1, x2, x3, x4, x5⟩, g0, g1, g2, g3, g4, g5⟩ := A.out.x.cells
            go_upto_region 30 with fail
            have A := Lib.hid (A.out.put1 x)
            have hne : ¬ ad2.block = bx := by have := HBX.out; omega
            have k1 := (set_turn w6 bx 1 (.int .i64 x)).cell (p := ⟨ad2.block, ad2.off + 1, none⟩) hne k1
            clear x0 x1 x2 x3 x4 x5 g0 g1 g2 g3 g4 g5
            clear k0
            generalize w6.setCell ⟨bx, 1, none⟩ (.int .i64 x) = w7 at A k1 ⊢
            obtain ⟨⟨x0, x1, x2, x3, x4, x5⟩, g0, g1, g2, g3, g4, g5⟩ := A.out.x.cells
            go_upto_region 32 with fail
            have A := Lib.hid (A.out.put3 y)
            clear x0 x1 x2 x3 x4 x5 g0 g1 g2 g3 g4 g5
            clear k1
            generalize w7.setCell ⟨bx, 3, none⟩ (.int .i64 y) = w8 at A ⊢
            obtain ⟨bb, hbb⟩ : ∃ b, rightO ⟨2, x, 0, y, [], false⟩ = b := ⟨_, rfl⟩
            have HOK : Hid (RR = if bb = true then some ⟨2, x, 0, y, [], false⟩ else none) := Lib.hid (by rw [HR2.out, ← hbb]; rfl)
            have CRO := Lib.hid (fun w (h : ROp w ⟨2, x, 0, y, ⟨none, 0, 0⟩, false⟩ ⟨2, x, 0, y, [], false⟩) => rrightop_any ⟨2, x, 0, y, ⟨none, 0, 0⟩, false⟩ ⟨2, x, 0, y, [], false⟩ bb w h (by simp) hbb)
            have BO : Hid (BOp w8 40 ⟨2, x, 0, y, ⟨none, 0, 0⟩, false⟩ ⟨2, x, 0, y, [], false⟩) := Lib.hid ⟨⟨rfl, rfl, rfl, rfl, rfl, (GCs.nil w8 40 0).done.r⟩, (GCs.nil w8 40 0).done.typ⟩
            unfold OpV.val Sl.val at CRO
            dsimp only at CRO
            clear hbb
            have TT := Lib.hid (Turn.refl (fun _ => False) w8).drew
            have TD := TT
            have KEEP := Lib.hid (show ∀ w', Turn (fun j => j = rz) w8 w' → (w'.cell? ⟨bx, 0, none⟩ = some (.int .i64 2) ∧ w'.cell? ⟨bx, 1, none⟩ = some (.int .i64 x) ∧ w'.cell? ⟨bx, 2, none⟩ = some (.int .i64 0) ∧ w'.cell? ⟨bx, 3, none⟩ = some (.int .i64 y) ∧ w'.cell? ⟨bx, 4, none⟩ = some (.slice none 0 0) ∧ w'.cell? ⟨bx, 5, none⟩ = some (.bool false)) from fun w' t => (A.out.x.turn t (by have := A.out.nxt; omega)).cells.1)
            refine stand_start (by kernel_rfl) 99 (fun w' => w'.cell? ⟨bx, 0, none⟩ = some (.int .i64 2) ∧ w'.cell? ⟨bx, 1, none⟩ = some (.int .i64 x) ∧ w'.cell? ⟨bx, 2, none⟩ = some (.int .i64 0) ∧ w'.cell? ⟨bx, 3, none⟩ = some (.int .i64 y) ∧ w'.cell? ⟨bx, 4, none⟩ = some (.slice none 0 0) ∧ w'.cell? ⟨bx, 5, none⟩ = some (.bool false)) 99 (fun w' => True) (KEEP.out _ (TD.out.mono fun _ _ e => e.elim)) trivial ?_
            refine stand_load3 (i := 0) (v := ?_) rfl (by kernel_rfl) (by kernel_rfl) (by kernel_rfl) (by rfl) (fun _ _ _ h => h) (by decide) (by decide) (by kernel_rfl) (by rfl) ?_ ?_
            rotate_left
            · (intro w hA; (try dsimp only at hA); go_simp; try with_reducible rfl)
            dsimp only [List.set_cons_zero, List.set_cons_succ]
            refine stand_load3 (i := 1) (v := ?_) rfl (by kernel_rfl) (by kernel_rfl) (by kernel_rfl) (by rfl) (fun _ _ _ h => h) (by decide) (by decide) (by kernel_rfl) (by rfl) ?_ ?_
            rotate_left
            · (intro w hA; (try dsimp only at hA); go_simp; try with_reducible rfl)
            dsimp only [List.set_cons_zero, List.set_cons_succ]
            refine stand_step (i := 2) (by kernel_rfl) rfl (fun K hK => ?_)
            go_simp
            refine (CRO.out _ (BO.out.rd.new TT.out)).mono ?_
            rintro e wn ⟨rfl, t4⟩
            have TT := Lib.hid (TT.out.trans t4)
            clear t4
            refine hK.out _ _ (fun _ => KEEP.out _ (TT.out.mono fun _ _ e => e.elim)) (fun _ => trivial) ?_
            clear hK K
            try simp only [put_laid, List.set_cons_zero, List.set_cons_succ]
            have A4 := Lib.hid (A.out.new TT.out)
            have BO4 := Lib.hid (BO.out.new TT.out)
            obtain ⟨⟨z0, z1, z2, z3, z4, z5⟩, y0, y1, y2, y3, y4, y5⟩ := A4.out.z.cells
            refine stand_step (i := 3) (by kernel_rfl) rfl (fun K hK => ?_)
            go_simp
            have T6 := Lib.hid (six_turn wn rz (.int .i64 2) (.int .i64 x) (.int .i64 0) (.int .i64 y) (.slice none 0 0) (.bool false))
            have ZF := Lib.hid (A4.out.z.all 2 x 0 y (.slice none 0 0) false)
            have TF := Lib.hid (A4.out.t.and T6.out (fun q hq e => by have := A4.out.low; omega))
            have BF := Lib.hid (BO4.out.apart T6.out (fun i _ e => by subst e; exact ⟨_, 25, by decide, A4.out.z⟩))
            have KF := Lib.hid (KEEP.out _ ((TT.out.mono fun _ _ e => e.elim).trans T6.out))
            clear z0 z1 z2 z3 z4 z5 y0 y1 y2 y3 y4 y5 T6
            generalize ((((((wn.setCell ⟨rz, 0, none⟩ (.int .i64 2)).setCell ⟨rz, 1, none⟩ (.int .i64 x)).setCell ⟨rz, 2, none⟩ (.int .i64 0)).setCell ⟨rz, 3, none⟩ (.int .i64 y)).setCell ⟨rz, 4, none⟩ (.slice none 0 0)).setCell ⟨rz, 5, none⟩ (.bool false)) = wf at ZF TF BF KF ⊢
            refine hK.out _ _ (fun _ => KF.out) (fun _ => trivial) ?_
            clear hK K
            try simp only [put_laid, List.set_cons_zero, List.set_cons_succ]
            refine stand_take (i := 4) (v := ?_) rfl (by kernel_rfl) (by kernel_rfl) (by kernel_rfl) (by rfl) (fun _ _ _ h => h) (by decide) (by decide) (by rfl) ?_ ?_
            rotate_left
            · (intro w; go_simp; try with_reducible rfl)
            dsimp only [List.set_cons_zero, List.set_cons_succ]
            refine stand_done (by kernel_rfl) ?_
            go_wp2_with fail
            obtain ⟨⟨k0, k1, k2, k3, k4, k5⟩, _⟩ := ZF.out.cells
            refine bodyPost_ret (v := .tuple #[.agg #[.int .i64 2, .int .i64 x, .int .i64 0, .int .i64 y, (.slice none 0 0), .bool false], .bool bb]) (by simp [results, Tryd.results33, go_sem, k0, k1, k2, k3, k4, k5]) rfl (gives_d (r := ⟨2, x, 0, y, ⟨none, 0, 0⟩, false⟩) TF.out ?_ ?_)
            · rw [HOK.out]; cases bb <;> rfl
            · intro q h
              rw [HOK.out] at h
              cases bb
              · cases h
              · cases h
                exact BF.out
        · rw [e] at hkr ⊢
          obtain ⟨on, hon⟩ : ∃ on, numsV r 1 = on := ⟨_, rfl⟩
          have HON := Lib.hid hon
          have hrr : RR = numR 3 on := by
            rw [← HRR.out, ← hon]
            exact readW_num hkr (by decide) (by decide)
          have HR2 := Lib.hid hrr
          have bv := rhasv_any 3 false
          have CN := Lib.hid (fun w h => rnums_any ⟨ao1, len1, cap1⟩ r 1 len1 on w h HL1.out (by omega) hon HFr.out)
          have TN := Lib.hid (fun ns (h : numsV r 1 = some ns) => (numsV_back h).2)
          clear hon hrr hkr e htry
          unfold GivesN at CN
          dsimp only at CN
          go_wp2_with fail
          refine (bv _ rfl).mono ?_
          rintro e w4 ⟨rfl, rfl⟩
          go_wp2_with fail
          refine (CN.out _ HP1.out).mono ?_
          rintro e w5 ⟨no, n2, c2, rfl, t5, hsome, hnone⟩
          have T3 := Lib.hid (T3.out.trans t5)
          have Z3 := Lib.hid (Z3.out.new t5)
          clear t5
          cases on with
          | none =>
            obtain rfl := hnone rfl
            have HNO : Hid (RR = none) := HR2
            clear hsome hnone bv
            obtain ⟨⟨z0, z1, z2, z3, z4, z5⟩, y0, y1, y2, y3, y4, y5⟩ := Z3.out.cells
            go_wp2_with fail
            have ZF := Lib.hid (Z3.out.all 0 0 0 0 (.slice none 0 0) false)
            have TF := Lib.hid (T3.out.and (six_turn w5 rz (.int .i64 0) (.int .i64 0) (.int .i64 0) (.int .i64 0) (.slice none 0 0) (.bool false)) (fun q hq e => by have := LOW.out; omega))
            clear z0 z1 z2 z3 z4 z5 y0 y1 y2 y3 y4 y5
            generalize ((((((w5.setCell ⟨rz, 0, none⟩ (.int .i64 0)).setCell ⟨rz, 1, none⟩ (.int .i64 0)).setCell ⟨rz, 2, none⟩ (.int .i64 0)).setCell ⟨rz, 3, none⟩ (.int .i64 0)).setCell ⟨rz, 4, none⟩ (.slice none 0 0)).setCell ⟨rz, 5, none⟩ (.bool false)) = wf at ZF TF ⊢
            obtain ⟨⟨k0, k1, k2, k3, k4, k5⟩, _⟩ := ZF.out.cells
            refine bodyPost_ret (v := .tuple #[.agg #[.int .i64 0, .int .i64 0, .int .i64 0, .int .i64 0, .slice none 0 0, .bool false], .bool false]) (by simp [results, Tryd.results33, go_sem, k0, k1, k2, k3, k4, k5]) rfl (gives_d (r := ⟨0, 0, 0, 0, ⟨none, 0, 0⟩, false⟩) TF.out ?_ ?_)
            · rw [HNO.out]; rfl
            · intro q h; rw [HNO.out] at h; cases h
          | some ns =>
            obtain ⟨hln, hI⟩ := hsome ns rfl
            have hnm := TN.out ns HON.out
            obtain rfl : n2 = 1 := by omega
            clear hsome hnone bv hln
            obtain ⟨x, rfl⟩ : ∃ x, ns = [x] := by
              match ns, hnm with
              | [x], _ => exact ⟨x, rfl⟩
            obtain ⟨ad2, rfl, k0⟩ := hI 0 (by simp)
            simp only [List.getD_cons_zero] at k0
            rw [addr_zero] at k0
            have had2 : ad2.block < w5.heap.size := cell_lt k0
            clear hI hnm
            go_upto_region 27 with fail
            have A : Hid (OnS w (w5.alloc (.cells #[.int .i64 3, .int .i64 0, .int .i64 0, .int .i64 0, .slice none 0 0, .bool false] 25)) rz w5.heap.size 3 0 0 0 (.slice none 0 0) false) := Lib.hid ⟨Z3.out.new ((Turn.refl _ _).alloc _), blk_new w5 _ 25, T3.out.alloc _, LOW.out, Blk.lt Z3.out⟩
            have TW := (Turn.refl (fun _ => False) w5).alloc (.cells #[.int .i64 3, .int .i64 0, .int .i64 0, .int .i64 0, .slice none 0 0, .bool false] 25)
            obtain ⟨bx, hbx⟩ : ∃ b, w5.heap.size = b := ⟨_, rfl⟩
            have HBX := Lib.hid hbx
            rw [hbx] at A ⊢
            clear hbx
            have k0 := TW.cell id k0
            clear TW
            generalize w5.alloc (.cells #[.int .i64 3, .int .i64 0, .int .i64 0, .int .i64 0, .slice none 0 0, .bool false] 25) = w6 at A k0 ⊢
            obtain ⟨⟨x0, x1, x2, x3, x4, x5⟩, g0, g1, g2, g3, g4, g5⟩ := A.out.x.cells
            go_upto_region 32 with fail
            have A := Lib.hid (A.out.put1 x)
            clear x0 x1 x2 x3 x4 x5 g0 g1 g2 g3 g4 g5
            clear k0
            generalize w6.setCell ⟨bx, 1, none⟩ (.int .i64 x) = w7 at A ⊢
            obtain ⟨bb, hbb⟩ : ∃ b, rightO ⟨3, x, 0, 0, [], false⟩ = b := ⟨_, rfl⟩
            have HOK : Hid (RR = if bb = true then some ⟨3, x, 0, 0, [], false⟩ else none) := Lib.hid (by rw [HR2.out, ← hbb]; rfl)
            have CRO := Lib.hid (fun w (h : ROp w ⟨3, x, 0, 0, ⟨none, 0, 0⟩, false⟩ ⟨3, x, 0, 0, [], false⟩) => rrightop_any ⟨3, x, 0, 0, ⟨none, 0, 0⟩, false⟩ ⟨3, x, 0, 0, [], false⟩ bb w h (by simp) hbb)
            have BO : Hid (BOp w7 40 ⟨3, x, 0, 0, ⟨none, 0, 0⟩, false⟩ ⟨3, x, 0, 0, [], false⟩) := Lib.hid ⟨⟨rfl, rfl, rfl, rfl, rfl, (GCs.nil w7 40 0).done.r⟩, (GCs.nil w7 40 0).done.typ⟩
            unfold OpV.val Sl.val at CRO
            dsimp only at CRO
            clear hbb
            have TT := Lib.hid (Turn.refl (fun _ => False) w7).drew
            have TD := TT
            have KEEP := Lib.hid (show ∀ w', Turn (fun j => j = rz) w7 w' → (w'.cell? ⟨bx, 0, none⟩ = some (.int .i64 3) ∧ w'.cell? ⟨bx, 1, none⟩ = some (.int .i64 x) ∧ w'.cell? ⟨bx, 2, none⟩ = some (.int .i64 0) ∧ w'.cell? ⟨bx, 3, none⟩ = some (.int .i64 0) ∧ w'.cell? ⟨bx, 4, none⟩ = some (.slice none 0 0) ∧ w'.cell? ⟨bx, 5, none⟩ = some (.bool false)) from fun w' t => (A.out.x.turn t (by have := A.out.nxt; omega)).cells.1)
            refine stand_start (by kernel_rfl) 99 (fun w' => w'.cell? ⟨bx, 0, none⟩ = some (.int .i64 3) ∧ w'.cell? ⟨bx, 1, none⟩ = some (.int .i64 x) ∧ w'.cell? ⟨bx, 2, none⟩ = some (.int .i64 0) ∧ w'.cell? ⟨bx, 3, none⟩ = some (.int .i64 0) ∧ w'.cell? ⟨bx, 4, none⟩ = some (.slice none 0 0) ∧ w'.cell? ⟨bx, 5, none⟩ = some (.bool false)) 99 (fun w' => True) (KEEP.out _ (TD.out.mono fun _ _ e => e.elim)) trivial ?_
            refine stand_load3 (i := 0) (v := ?_) rfl (by kernel_rfl) (by kernel_rfl) (by kernel_rfl) (by rfl) (fun _ _ _ h => h) (by decide) (by decide) (by kernel_rfl) (by rfl) ?_ ?_
            rotate_left
            · (intro w hA; (try dsimp only at hA); go_simp; try with_reducible rfl)
            dsimp only [List.set_cons_zero, List.set_cons_succ]
            refine stand_load3 (i := 1) (v := ?_) rfl (by kernel_rfl) (by kernel_rfl) (by kernel_rfl) (by rfl) (fun _ _ _ h => h) (by decide) (by decide) (by kernel_rfl) (by rfl) ?_ ?_
            rotate_left
            · (intro w hA; (try dsimp only at hA); go_simp; try with_reducible rfl)
            dsimp only [List.set_cons_zero, List.set_cons_succ]
            refine stand_step (i := 2) (by kernel_rfl) rfl (fun K hK => ?_)
            go_simp
            refine (CRO.out _ (BO.out.rd.new TT.out)).mono ?_
            rintro e wn ⟨rfl, t4⟩
            have TT := Lib.hid (TT.out.trans t4)
            clear t4
            refine hK.out _ _ (fun _ => KEEP.out _ (TT.out.mono fun _ _ e => e.elim)) (fun _ => trivial) ?_
            clear hK K
            try simp only [put_laid, List.set_cons_zero, List.set_cons_succ]
            have A4 := Lib.hid (A.out.new TT.out)
            have BO4 := Lib.hid (BO.out.new TT.out)
            obtain ⟨⟨z0, z1, z2, z3, z4, z5⟩, y0, y1, y2, y3, y4, y5⟩ := A4.out.z.cells
            refine stand_step (i := 3) (by kernel_rfl) rfl (fun K hK => ?_)
            go_simp
            have T6 := Lib.hid (six_turn wn rz (.int .i64 3) (.int .i64 x) (.int .i64 0) (.int .i64 0) (.slice none 0 0) (.bool false))
            have ZF := Lib.hid (A4.out.z.all 3 x 0 0 (.slice none 0 0) false)
            have TF := Lib.hid (A4.out.t.and T6.out (fun q hq e => by have := A4.out.low; omega))
            have BF := Lib.hid (BO4.out.apart T6.out (fun i _ e => by subst e; exact ⟨_, 25, by decide, A4.out.z⟩))
            have KF := Lib.hid (KEEP.out _ ((TT.out.mono fun _ _ e => e.elim).trans T6.out))
            clear z0 z1 z2 z3 z4 z5 y0 y1 y2 y3 y4 y5 T6
            generalize ((((((wn.setCell ⟨rz, 0, none⟩ (.int .i64 3)).setCell ⟨rz, 1, none⟩ (.int .i64 x)).setCell ⟨rz, 2, none⟩ (.int .i64 0)).setCell ⟨rz, 3, none⟩ (.int .i64 0)).setCell ⟨rz, 4, none⟩ (.slice none 0 0)).setCell ⟨rz, 5, none⟩ (.bool false)) = wf at ZF TF BF KF ⊢
            refine hK.out _ _ (fun _ => KF.out) (fun _ => trivial) ?_
            clear hK K
            try simp only [put_laid, List.set_cons_zero, List.set_cons_succ]
            refine stand_take (i := 4) (v := ?_) rfl (by kernel_rfl) (by kernel_rfl) (by kernel_rfl) (by rfl) (fun _ _ _ h => h) (by decide) (by decide) (by rfl) ?_ ?_
            rotate_left
            · (intro w; go_simp; try with_reducible rfl)
            dsimp only [List.set_cons_zero, List.set_cons_succ]
            refine stand_done (by kernel_rfl) ?_
            go_wp2_with fail
            obtain ⟨⟨k0, k1, k2, k3, k4, k5⟩, _⟩ := ZF.out.cells
            refine bodyPost_ret (v := .tuple #[.agg #[.int .i64 3, .int .i64 x, .int .i64 0, .int .i64 0, (.slice none 0 0), .bool false], .bool bb]) (by simp [results, Tryd.results33, go_sem, k0, k1, k2, k3, k4, k5]) rfl (gives_d (r := ⟨3, x, 0, 0, ⟨none, 0, 0⟩, false⟩) TF.out ?_ ?_)
            · rw [HOK.out]; cases bb <;> rfl
            · intro q h
              rw [HOK.out] at h
              cases bb
              · cases h
              · cases h
                exact BF.out
        · rw [e] at hkr ⊢
          obtain ⟨on, hon⟩ : ∃ on, numsV r 1 = on := ⟨_, rfl⟩
          have HON := Lib.hid hon
          have hrr : RR = numR 6 on := by
            rw [← HRR.out, ← hon]
            exact readW_num hkr (by decide) (by decide)
          have HR2 := Lib.hid hrr
          have bv := rhasv_any 6 false
          have CN := Lib.hid (fun w h => rnums_any ⟨ao1, len1, cap1⟩ r 1 len1 on w h HL1.out (by omega) hon HFr.out)
          have TN := Lib.hid (fun ns (h : numsV r 1 = some ns) => (numsV_back h).2)
          clear hon hrr hkr e htry
          unfold GivesN at CN
          dsimp only at CN
          go_wp2_with fail
          refine (bv _ rfl).mono ?_
          rintro e w4 ⟨rfl, rfl⟩
          go_wp2_with fail
          refine (CN.out _ HP1.out).mono ?_
          rintro e w5 ⟨no, n2, c2, rfl, t5, hsome, hnone⟩
          have T3 := Lib.hid (T3.out.trans t5)
          have Z3 := Lib.hid (Z3.out.new t5)
          clear t5
          cases on with
          | none =>
            obtain rfl := hnone rfl
            have HNO : Hid (RR = none) := HR2
            clear hsome hnone bv
            obtain ⟨⟨z0, z1, z2, z3, z4, z5⟩, y0, y1, y2, y3, y4, y5⟩ := Z3.out.cells
            go_wp2_with fail
            have ZF := Lib.hid (Z3.out.all 0 0 0 0 (.slice none 0 0) false)
            have TF := Lib.hid (T3.out.and (six_turn w5 rz (.int .i64 0) (.int .i64 0) (.int .i64 0) (.int .i64 0) (.slice none 0 0) (.bool false)) (fun q hq e => by have := LOW.out; omega))
            clear z0 z1 z2 z3 z4 z5 y0 y1 y2 y3 y4 y5
            generalize ((((((w5.setCell ⟨rz, 0, none⟩ (.int .i64 0)).setCell ⟨rz, 1, none⟩ (.int .i64 0)).setCell ⟨rz, 2, none⟩ (.int .i64 0)).setCell ⟨rz, 3, none⟩ (.int .i64 0)).setCell ⟨rz, 4, none⟩ (.slice none 0 0)).setCell ⟨rz, 5, none⟩ (.bool false)) = wf at ZF TF ⊢
            obtain ⟨⟨k0, k1, k2, k3, k4, k5⟩, _⟩ := ZF.out.cells
            refine bodyPost_ret (v := .tuple #[.agg #[.int .i64 0, .int .i64 0, .int .i64 0, .int .i64 0, .slice none 0 0, .bool false], .bool false]) (by simp [results, Tryd.results33, go_sem, k0, k1, k2, k3, k4, k5]) rfl (gives_d (r := ⟨0, 0, 0, 0, ⟨none, 0, 0⟩, false⟩) TF.out ?_ ?_)
            · rw [HNO.out]; rfl
            · intro q h; rw [HNO.out] at h; cases h
          | some ns =>
            obtain ⟨hln, hI⟩ := hsome ns rfl
            have hnm := TN.out ns HON.out
            obtain rfl : n2 = 1 := by omega
            clear hsome hnone bv hln
            obtain ⟨x, rfl⟩ : ∃ x, ns = [x] := by
              match ns, hnm with
              | [x], _ => exact ⟨x, rfl⟩
            obtain ⟨ad2, rfl, k0⟩ := hI 0 (by simp)
            simp only [List.getD_cons_zero] at k0
            rw [addr_zero] at k0
            have had2 : ad2.block < w5.heap.size := cell_lt k0
            clear hI hnm
            go_upto_region 27 with fail
            have A : Hid (OnS w (w5.alloc (.cells #[.int .i64 6, .int .i64 0, .int .i64 0, .int .i64 0, .slice none 0 0, .bool false] 25)) rz w5.heap.size 6 0 0 0 (.slice none 0 0) false) := Lib.hid ⟨Z3.out.new ((Turn.refl _ _).alloc _), blk_new w5 _ 25, T3.out.alloc _, LOW.out, Blk.lt Z3.out⟩
            have TW := (Turn.refl (fun _ => False) w5).alloc (.cells #[.int .i64 6, .int .i64 0, .int .i64 0, .int .i64 0, .slice none 0 0, .bool false] 25)
            obtain ⟨bx, hbx⟩ : ∃ b, w5.heap.size = b := ⟨_, rfl⟩
            have HBX := Lib.hid hbx
            rw [hbx] at A ⊢
            clear hbx
            have k0 := TW.cell id k0
            clear TW
            generalize w5.alloc (.cells #[.int .i64 6, .int .i64 0, .int .i64 0, .int .i64 0, .slice none 0 0, .bool false] 25) = w6 at A k0 ⊢
            obtain ⟨⟨x0, x1, x2, x3, x4, x5⟩, g0, g1, g2, g3, g4, g5⟩ := A.out.x.cells
            go_upto_region 32 with fail
            have A := Lib.hid (A.out.put1 x)
            clear x0 x1 x2 x3 x4 x5 g0 g1 g2 g3 g4 g5
            clear k0
            generalize w6.setCell ⟨bx, 1, none⟩ (.int .i64 x) = w7 at A ⊢
            obtain ⟨bb, hbb⟩ : ∃ b, rightO ⟨6, x, 0, 0, [], false⟩ = b := ⟨_, rfl⟩
            have HOK : Hid (RR = if bb = true then some ⟨6, x, 0, 0, [], false⟩ else none) := Lib.hid (by rw [HR2.out, ← hbb]; rfl)
            have CRO := Lib.hid (fun w (h : ROp w ⟨6, x, 0, 0, ⟨none, 0, 0⟩, false⟩ ⟨6, x, 0, 0, [], false⟩) => rrightop_any ⟨6, x, 0, 0, ⟨none, 0, 0⟩, false⟩ ⟨6, x, 0, 0, [], false⟩ bb w h (by simp) hbb)
            have BO : Hid (BOp w7 40 ⟨6, x, 0, 0, ⟨none, 0, 0⟩, false⟩ ⟨6, x, 0, 0, [], false⟩) := Lib.hid ⟨⟨rfl, rfl, rfl, rfl, rfl, (GCs.nil w7 40 0).done.r⟩, (GCs.nil w7 40 0).done.typ⟩
            unfold OpV.val Sl.val at CRO
            dsimp only at CRO
            clear hbb
            have TT := Lib.hid (Turn.refl (fun _ => False) w7).drew
            have TD := TT
            have KEEP := Lib.hid (show ∀ w', Turn (fun j => j = rz) w7 w' → (w'.cell? ⟨bx, 0, none⟩ = some (.int .i64 6) ∧ w'.cell? ⟨bx, 1, none⟩ = some (.int .i64 x) ∧ w'.cell? ⟨bx, 2, none⟩ = some (.int .i64 0) ∧ w'.cell? ⟨bx, 3, none⟩ = some (.int .i64 0) ∧ w'.cell? ⟨bx, 4, none⟩ = some (.slice none 0 0) ∧ w'.cell? ⟨bx, 5, none⟩ = some (.bool false)) from fun w' t => (A.out.x.turn t (by have := A.out.nxt; omega)).cells.1)
            refine stand_start (by kernel_rfl) 99 (fun w' => w'.cell? ⟨bx, 0, none⟩ = some (.int .i64 6) ∧ w'.cell? ⟨bx, 1, none⟩ = some (.int .i64 x) ∧ w'.cell? ⟨bx, 2, none⟩ = some (.int .i64 0) ∧ w'.cell? ⟨bx, 3, none⟩ = some (.int .i64 0) ∧ w'.cell? ⟨bx, 4, none⟩ = some (.slice none 0 0) ∧ w'.cell? ⟨bx, 5, none⟩ = some (.bool false)) 99 (fun w' => True) (KEEP.out _ (TD.out.mono fun _ _ e => e.elim)) trivial ?_
            refine stand_load3 (i := 0) (v := ?_) rfl (by kernel_rfl) (by kernel_rfl) (by kernel_rfl) (by rfl) (fun _ _ _ h => h) (by decide) (by decide) (by kernel_rfl) (by rfl) ?_ ?_
            rotate_left
            · (intro w hA; (try dsimp only at hA); go_simp; try with_reducible rfl)
            dsimp only [List.set_cons_zero, List.set_cons_succ]
            refine stand_load3 (i := 1) (v := ?_) rfl (by kernel_rfl) (by kernel_rfl) (by kernel_rfl) (by rfl) (fun _ _ _ h => h) (by decide) (by decide) (by kernel_rfl) (by rfl) ?_ ?_
            rotate_left
            · (intro w hA; (try dsimp only at hA); go_simp; try with_reducible rfl)
            dsimp only [List.set_cons_zero, List.set_cons_succ]
            refine stand_step (i := 2) (by kernel_rfl) rfl (fun K hK => ?_)
            go_simp
            refine (CRO.out _ (BO.out.rd.new TT.out)).mono ?_
            rintro e wn ⟨rfl, t4⟩
            have TT := Lib.hid (TT.out.trans t4)
            clear t4
            refine hK.out _ _ (fun _ => KEEP.out _ (TT.out.mono fun _ _ e => e.elim)) (fun _ => trivial) ?_
            clear hK K
            try simp only [put_laid, List.set_cons_zero, List.set_cons_succ]
            have A4 := Lib.hid (A.out.new TT.out)
            have BO4 := Lib.hid (BO.out.new TT.out)
            obtain ⟨⟨z0, z1, z2, z3, z4, z5⟩, y0, y1, y2, y3, y4, y5⟩ := A4.out.z.cells
            refine stand_step (i := 3) (by kernel_rfl) rfl (fun K hK => ?_)
            go_simp
            have T6 := Lib.hid (six_turn wn rz (.int .i64 6) (.int .i64 x) (.int .i64 0) (.int .i64 0) (.slice none 0 0) (.bool false))
            have ZF := Lib.hid (A4.out.z.all 6 x 0 0 (.slice none 0 0) false)
            have TF := Lib.hid (A4.out.t.and T6.out (fun q hq e => by have := A4.out.low; omega))
            have BF := Lib.hid (BO4.out.apart T6.out (fun i _ e => by subst e; exact ⟨_, 25, by decide, A4.out.z⟩))
            have KF := Lib.hid (KEEP.out _ ((TT.out.mono fun _ _ e => e.elim).trans T6.out))
            clear z0 z1 z2 z3 z4 z5 y0 y1 y2 y3 y4 y5 T6
            generalize ((((((wn.setCell ⟨rz, 0, none⟩ (.int .i64 6)).setCell ⟨rz, 1, none⟩ (.int .i64 x)).setCell ⟨rz, 2, none⟩ (.int .i64 0)).setCell ⟨rz, 3, none⟩ (.int .i64 0)).setCell ⟨rz, 4, none⟩ (.slice none 0 0)).setCell ⟨rz, 5, none⟩ (.bool false)) = wf at ZF TF BF KF ⊢
            refine hK.out _ _ (fun _ => KF.out) (fun _ => trivial) ?_
            clear hK K
            try simp only [put_laid, List.set_cons_zero, List.set_cons_succ]
            refine stand_take (i := 4) (v := ?_) rfl (by kernel_rfl) (by kernel_rfl) (by kernel_rfl) (by rfl) (fun _ _ _ h => h) (by decide) (by decide) (by rfl) ?_ ?_
            rotate_left
            · (intro w; go_simp; try with_reducible rfl)
            dsimp only [List.set_cons_zero, List.set_cons_succ]
            refine stand_done (by kernel_rfl) ?_
            go_wp2_with fail
            obtain ⟨⟨k0, k1, k2, k3, k4, k5⟩, _⟩ := ZF.out.cells
            refine bodyPost_ret (v := .tuple #[.agg #[.int .i64 6, .int .i64 x, .int .i64 0, .int .i64 0, (.slice none 0 0), .bool false], .bool bb]) (by simp [results, Tryd.results33, go_sem, k0, k1, k2, k3, k4, k5]) rfl (gives_d (r := ⟨6, x, 0, 0, ⟨none, 0, 0⟩, false⟩) TF.out ?_ ?_)
            · rw [HOK.out]; cases bb <;> rfl
            · intro q h
              rw [HOK.out] at h
              cases bb
              · cases h
              · cases h
                exact BF.out
        · rw [e] at hkr ⊢
          obtain ⟨on, hon⟩ : ∃ on, numsV r 1 = on := ⟨_, rfl⟩
          have HON := Lib.hid hon
          have hrr : RR = numR 7 on := by
            rw [← HRR.out, ← hon]
            exact readW_num hkr (by decide) (by decide)
          have HR2 := Lib.hid hrr
          have bv := rhasv_any 7 false
          have CN := Lib.hid (fun w h => rnums_any ⟨ao1, len1, cap1⟩ r 1 len1 on w h HL1.out (by omega) hon HFr.out)
          have TN := Lib.hid (fun ns (h : numsV r 1 = some ns) => (numsV_back h).2)
          clear hon hrr hkr e htry
          unfold GivesN at CN
          dsimp only at CN
          go_wp2_with fail
          refine (bv _ rfl).mono ?_
          rintro e w4 ⟨rfl, rfl⟩
          go_wp2_with fail
          refine (CN.out _ HP1.out).mono ?_
          rintro e w5 ⟨no, n2, c2, rfl, t5, hsome, hnone⟩
          have T3 := Lib.hid (T3.out.trans t5)
          have Z3 := Lib.hid (Z3.out.new t5)
          clear t5
          cases on with
          | none =>
            obtain rfl := hnone rfl
            have HNO : Hid (RR = none) := HR2
            clear hsome hnone bv
            obtain ⟨⟨z0, z1, z2, z3, z4, z5⟩, y0, y1, y2, y3, y4, y5⟩ := Z3.out.cells
            go_wp2_with fail
            have ZF := Lib.hid (Z3.out.all 0 0 0 0 (.slice none 0 0) false)
            have TF := Lib.hid (T3.out.and (six_turn w5 rz (.int .i64 0) (.int .i64 0) (.int .i64 0) (.int .i64 0) (.slice none 0 0) (.bool false)) (fun q hq e => by have := LOW.out; omega))
            clear z0 z1 z2 z3 z4 z5 y0 y1 y2 y3 y4 y5
            generalize ((((((w5.setCell ⟨rz, 0, none⟩ (.int .i64 0)).setCell ⟨rz, 1, none⟩ (.int .i64 0)).setCell ⟨rz, 2, none⟩ (.int .i64 0)).setCell ⟨rz, 3, none⟩ (.int .i64 0)).setCell ⟨rz, 4, none⟩ (.slice none 0 0)).setCell ⟨rz, 5, none⟩ (.bool false)) = wf at ZF TF ⊢
            obtain ⟨⟨k0, k1, k2, k3, k4, k5⟩, _⟩ := ZF.out.cells
            refine bodyPost_ret (v := .tuple #[.agg #[.int .i64 0, .int .i64 0, .int .i64 0, .int .i64 0, .slice none 0 0, .bool false], .bool false]) (by simp [results, Tryd.results33, go_sem, k0, k1, k2, k3, k4, k5]) rfl (gives_d (r := ⟨0, 0, 0, 0, ⟨none, 0, 0⟩, false⟩) TF.out ?_ ?_)
            · rw [HNO.out]; rfl
            · intro q h; rw [HNO.out] at h; cases h
          | some ns =>
            obtain ⟨hln, hI⟩ := hsome ns rfl
            have hnm := TN.out ns HON.out
            obtain rfl : n2 = 1 := by omega
            clear hsome hnone bv hln
            obtain ⟨x, rfl⟩ : ∃ x, ns = [x] := by
              match ns, hnm with
              | [x], _ => exact ⟨x, rfl⟩
            obtain ⟨ad2, rfl, k0⟩ := hI 0 (by simp)
            simp only [List.getD_cons_zero] at k0
            rw [addr_zero] at k0
            have had2 : ad2.block < w5.heap.size := cell_lt k0
            clear hI hnm
            go_upto_region 27 with fail
            have A : Hid (OnS w (w5.alloc (.cells #[.int .i64 7, .int .i64 0, .int .i64 0, .int .i64 0, .slice none 0 0, .bool false] 25)) rz w5.heap.size 7 0 0 0 (.slice none 0 0) false) := Lib.hid ⟨Z3.out.new ((Turn.refl _ _).alloc _), blk_new w5 _ 25, T3.out.alloc _, LOW.out, Blk.lt Z3.out⟩
            have TW := (Turn.refl (fun _ => False) w5).alloc (.cells #[.int .i64 7, .int .i64 0, .int .i64 0, .int .i64 0, .slice none 0 0, .bool false] 25)
            obtain ⟨bx, hbx⟩ : ∃ b, w5.heap.size = b := ⟨_, rfl⟩
            have HBX := Lib.hid hbx
            rw [hbx] at A ⊢
            clear hbx
            have k0 := TW.cell id k0
            clear TW
            generalize w5.alloc (.cells #[.int .i64 7, .int .i64 0, .int .i64 0, .int .i64 0, .slice none 0 0, .bool false] 25) = w6 at A k0 ⊢
            obtain ⟨⟨x0, x1, x2, x3, x4, x5⟩, g0, g1, g2, g3, g4, g5⟩ := A.out.x.cells
            go_upto_region 32 with fail
            have A := Lib.hid (A.out.put1 x)
            clear x0 x1 x2 x3 x4 x5 g0 g1 g2 g3 g4 g5
            clear k0
            generalize w6.setCell ⟨bx, 1, none⟩ (.int .i64 x) = w7 at A ⊢
            obtain ⟨bb, hbb⟩ : ∃ b, rightO ⟨7, x, 0, 0, [], false⟩ = b := ⟨_, rfl⟩
            have HOK : Hid (RR = if bb = true then some ⟨7, x, 0, 0, [], false⟩ else none) := Lib.hid (by rw [HR2.out, ← hbb]; rfl)
            have CRO := Lib.hid (fun w (h : ROp w ⟨7, x, 0, 0, ⟨none, 0, 0⟩, false⟩ ⟨7, x, 0, 0, [], false⟩) => rrightop_any ⟨7, x, 0, 0, ⟨none, 0, 0⟩, false⟩ ⟨7, x, 0, 0, [], false⟩ bb w h (by simp) hbb)
            have BO : Hid (BOp w7 40 ⟨7, x, 0, 0, ⟨none, 0, 0⟩, false⟩ ⟨7, x, 0, 0, [], false⟩) := Lib.hid ⟨⟨rfl, rfl, rfl, rfl, rfl, (GCs.nil w7 40 0).done.r⟩, (GCs.nil w7 40 0).done.typ⟩
            unfold OpV.val Sl.val at CRO
            dsimp only at CRO
            clear hbb
            have TT := Lib.hid (Turn.refl (fun _ => False) w7).drew
            have TD := TT
            have KEEP := Lib.hid (show ∀ w', Turn (fun j => j = rz) w7 w' → (w'.cell? ⟨bx, 0, none⟩ = some (.int .i64 7) ∧ w'.cell? ⟨bx, 1, none⟩ = some (.int .i64 x) ∧ w'.cell? ⟨bx, 2, none⟩ = some (.int .i64 0) ∧ w'.cell? ⟨bx, 3, none⟩ = some (.int .i64 0) ∧ w'.cell? ⟨bx, 4, none⟩ = some (.slice none 0 0) ∧ w'.cell? ⟨bx, 5, none⟩ = some (.bool false)) from fun w' t => (A.out.x.turn t (by have := A.out.nxt; omega)).cells.1)
            refine stand_start (by kernel_rfl) 99 (fun w' => w'.cell? ⟨bx, 0, none⟩ = some (.int .i64 7) ∧ w'.cell? ⟨bx, 1, none⟩ = some (.int .i64 x) ∧ w'.cell? ⟨bx, 2, none⟩ = some (.int .i64 0) ∧ w'.cell? ⟨bx, 3, none⟩ = some (.int .i64 0) ∧ w'.cell? ⟨bx, 4, none⟩ = some (.slice none 0 0) ∧ w'.cell? ⟨bx, 5, none⟩ = some (.bool false)) 99 (fun w' => True) (KEEP.out _ (TD.out.mono fun _ _ e => e.elim)) trivial ?_
            refine stand_load3 (i := 0) (v := ?_) rfl (by kernel_rfl) (by kernel_rfl) (by kernel_rfl) (by rfl) (fun _ _ _ h => h) (by decide) (by decide) (by kernel_rfl) (by rfl) ?_ ?_
            rotate_left
            · (intro w hA; (try dsimp only at hA); go_simp; try with_reducible rfl)
            dsimp only [List.set_cons_zero, List.set_cons_succ]
            refine stand_load3 (i := 1) (v := ?_) rfl (by kernel_rfl) (by kernel_rfl) (by kernel_rfl) (by rfl) (fun _ _ _ h => h) (by decide) (by decide) (by kernel_rfl) (by rfl) ?_ ?_
            rotate_left
            · (intro w hA; (try dsimp only at hA); go_simp; try with_reducible rfl)
            dsimp only [List.set_cons_zero, List.set_cons_succ]
            refine stand_step (i := 2) (by kernel_rfl) rfl (fun K hK => ?_)
            go_simp
            refine (CRO.out _ (BO.out.rd.new TT.out)).mono ?_
            rintro e wn ⟨rfl, t4⟩
            have TT := Lib.hid (TT.out.trans t4)
            clear t4
            refine hK.out _ _ (fun _ => KEEP.out _ (TT.out.mono fun _ _ e => e.elim)) (fun _ => trivial) ?_
            clear hK K
            try simp only [put_laid, List.set_cons_zero, List.set_cons_succ]
            have A4 := Lib.hid (A.out.new TT.out)
            have BO4 := Lib.hid (BO.out.new TT.out)
            obtain ⟨⟨z0, z1, z2, z3, z4, z5⟩, y0, y1, y2, y3, y4, y5⟩ := A4.out.z.cells
            refine stand_step (i := 3) (by kernel_rfl) rfl (fun K hK => ?_)
            go_simp
            have T6 := Lib.hid (six_turn wn rz (.int .i64 7) (.int .i64 x) (.int .i64 0) (.int .i64 0) (.slice none 0 0) (.bool false))
            have ZF := Lib.hid (A4.out.z.all 7 x 0 0 (.slice none 0 0) false)
            have TF := Lib.hid (A4.out.t.and T6.out (fun q hq e => by have := A4.out.low; omega))
            have BF := Lib.hid (BO4.out.apart T6.out (fun i _ e => by subst e; exact ⟨_, 25, by decide, A4.out.z⟩))
            have KF := Lib.hid (KEEP.out _ ((TT.out.mono fun _ _ e => e.elim).trans T6.out))
            clear z0 z1 z2 z3 z4 z5 y0 y1 y2 y3 y4 y5 T6
            generalize ((((((wn.setCell ⟨rz, 0, none⟩ (.int .i64 7)).setCell ⟨rz, 1, none⟩ (.int .i64 x)).setCell ⟨rz, 2, none⟩ (.int .i64 0)).setCell ⟨rz, 3, none⟩ (.int .i64 0)).setCell ⟨rz, 4, none⟩ (.slice none 0 0)).setCell ⟨rz, 5, none⟩ (.bool false)) = wf at ZF TF BF KF ⊢
            refine hK.out _ _ (fun _ => KF.out) (fun _ => trivial) ?_
            clear hK K
            try simp only [put_laid, List.set_cons_zero, List.set_cons_succ]
            refine stand_take (i := 4) (v := ?_) rfl (by kernel_rfl) (by kernel_rfl) (by kernel_rfl) (by rfl) (fun _ _ _ h => h) (by decide) (by decide) (by rfl) ?_ ?_
            rotate_left
            · (intro w; go_simp; try with_reducible rfl)
            dsimp only [List.set_cons_zero, List.set_cons_succ]
            refine stand_done (by kernel_rfl) ?_
            go_wp2_with fail
            obtain ⟨⟨k0, k1, k2, k3, k4, k5⟩, _⟩ := ZF.out.cells
            refine bodyPost_ret (v := .tuple #[.agg #[.int .i64 7, .int .i64 x, .int .i64 0, .int .i64 0, (.slice none 0 0), .bool false], .bool bb]) (by simp [results, Tryd.results33, go_sem, k0, k1, k2, k3, k4, k5]) rfl (gives_d (r := ⟨7, x, 0, 0, ⟨none, 0, 0⟩, false⟩) TF.out ?_ ?_)
            · rw [HOK.out]; cases bb <;> rfl
            · intro q h
              rw [HOK.out] at h
              cases bb
              · cases h
              · cases h
                exact BF.out
        · rw [e] at hkr ⊢
          obtain ⟨on, hon⟩ : ∃ on, numsV r 1 = on := ⟨_, rfl⟩
          have HON := Lib.hid hon
          have hrr : RR = numR 8 on := by
            rw [← HRR.out, ← hon]
            exact readW_num hkr (by decide) (by decide)
          have HR2 := Lib.hid hrr
          have bv := rhasv_any 8 false
          have CN := Lib.hid (fun w h => rnums_any ⟨ao1, len1, cap1⟩ r 1 len1 on w h HL1.out (by omega) hon HFr.out)
          have TN := Lib.hid (fun ns (h : numsV r 1 = some ns) => (numsV_back h).2)
          clear hon hrr hkr e htry
          unfold GivesN at CN
          dsimp only at CN
          go_wp2_with fail
          refine (bv _ rfl).mono ?_
          rintro e w4 ⟨rfl, rfl⟩
          go_wp2_with fail
          refine (CN.out _ HP1.out).mono ?_
          rintro e w5 ⟨no, n2, c2, rfl, t5, hsome, hnone⟩
          have T3 := Lib.hid (T3.out.trans t5)
          have Z3 := Lib.hid (Z3.out.new t5)
          clear t5
          cases on with
          | none =>
            obtain rfl := hnone rfl
            have HNO : Hid (RR = none) := HR2
            clear hsome hnone bv
            obtain ⟨⟨z0, z1, z2, z3, z4, z5⟩, y0, y1, y2, y3, y4, y5⟩ := Z3.out.cells
            go_wp2_with fail
            have ZF := Lib.hid (Z3.out.all 0 0 0 0 (.slice none 0 0) false)
            have TF := Lib.hid (T3.out.and (six_turn w5 rz (.int .i64 0) (.int .i64 0) (.int .i64 0) (.int .i64 0) (.slice none 0 0) (.bool false)) (fun q hq e => by have := LOW.out; omega))
            clear z0 z1 z2 z3 z4 z5 y0 y1 y2 y3 y4 y5
            generalize ((((((w5.setCell ⟨rz, 0, none⟩ (.int .i64 0)).setCell ⟨rz, 1, none⟩ (.int .i64 0)).setCell ⟨rz, 2, none⟩ (.int .i64 0)).setCell ⟨rz, 3, none⟩ (.int .i64 0)).setCell ⟨rz, 4, none⟩ (.slice none 0 0)).setCell ⟨rz, 5, none⟩ (.bool false)) = wf at ZF TF ⊢
            obtain ⟨⟨k0, k1, k2, k3, k4, k5⟩, _⟩ := ZF.out.cells
            refine bodyPost_ret (v := .tuple #[.agg #[.int .i64 0, .int .i64 0, .int .i64 0, .int .i64 0, .slice none 0 0, .bool false], .bool false]) (by simp [results, Tryd.results33, go_sem, k0, k1, k2, k3, k4, k5]) rfl (gives_d (r := ⟨0, 0, 0, 0, ⟨none, 0, 0⟩, false⟩) TF.out ?_ ?_)
            · rw [HNO.out]; rfl
            · intro q h; rw [HNO.out] at h; cases h
          | some ns =>
            obtain ⟨hln, hI⟩ := hsome ns rfl
            have hnm := TN.out ns HON.out
            obtain rfl : n2 = 1 := by omega
            clear hsome hnone bv hln
            obtain ⟨x, rfl⟩ : ∃ x, ns = [x] := by
              match ns, hnm with
              | [x], _ => exact ⟨x, rfl⟩
            obtain ⟨ad2, rfl, k0⟩ := hI 0 (by simp)
            simp only [List.getD_cons_zero] at k0
            rw [addr_zero] at k0
            have had2 : ad2.block < w5.heap.size := cell_lt k0
            clear hI hnm
            go_upto_region 27 with fail
            have A : Hid (OnS w (w5.alloc (.cells #[.int .i64 8, .int .i64 0, .int .i64 0, .int .i64 0, .slice none 0 0, .bool false] 25)) rz w5.heap.size 8 0 0 0 (.slice none 0 0) false) := Lib.hid ⟨Z3.out.new ((Turn.refl _ _).alloc _), blk_new w5 _ 25, T3.out.alloc _, LOW.out, Blk.lt Z3.out⟩
            have TW := (Turn.refl (fun _ => False) w5).alloc (.cells #[.int .i64 8, .int .i64 0, .int .i64 0, .int .i64 0, .slice none 0 0, .bool false] 25)
            obtain ⟨bx, hbx⟩ : ∃ b, w5.heap.size = b := ⟨_, rfl⟩
            have HBX := Lib.hid hbx
            rw [hbx] at A ⊢
            clear hbx
            have k0 := TW.cell id k0
            clear TW
            generalize w5.alloc (.cells #[.int .i64 8, .int .i64 0, .int .i64 0, .int .i64 0, .slice none 0 0, .bool false] 25) = w6 at A k0 ⊢
            obtain ⟨⟨x0, x1, x2, x3, x4, x5⟩, g0, g1, g2, g3, g4, g5⟩ := A.out.x.cells
            go_upto_region 32 with fail
            have A := Lib.hid (A.out.put1 x)
            clear x0 x1 x2 x3 x4 x5 g0 g1 g2 g3 g4 g5
            clear k0
            generalize w6.setCell ⟨bx, 1, none⟩ (.int .i64 x) = w7 at A ⊢
            obtain ⟨bb, hbb⟩ : ∃ b, rightO ⟨8, x, 0, 0, [], false⟩ = b := ⟨_, rfl⟩
            have HOK : Hid (RR = if bb = true then some ⟨8, x, 0, 0, [], false⟩ else none) := Lib.hid (by rw [HR2.out, ← hbb]; rfl)
            have CRO := Lib.hid (fun w (h : ROp w ⟨8, x, 0, 0, ⟨none, 0, 0⟩, false⟩ ⟨8, x, 0, 0, [], false⟩) => rrightop_any ⟨8, x, 0, 0, ⟨none, 0, 0⟩, false⟩ ⟨8, x, 0, 0, [], false⟩ bb w h (by simp) hbb)
            have BO : Hid (BOp w7 40 ⟨8, x, 0, 0, ⟨none, 0, 0⟩, false⟩ ⟨8, x, 0, 0, [], false⟩) := Lib.hid ⟨⟨rfl, rfl, rfl, rfl, rfl, (GCs.nil w7 40 0).done.r⟩, (GCs.nil w7 40 0).done.typ⟩
            unfold OpV.val Sl.val at CRO
            dsimp only at CRO
            clear hbb
            have TT := Lib.hid (Turn.refl (fun _ => False) w7).drew
            have TD := TT
            have KEEP := Lib.hid (show ∀ w', Turn (fun j => j = rz) w7 w' → (w'.cell? ⟨bx, 0, none⟩ = some (.int .i64 8) ∧ w'.cell? ⟨bx, 1, none⟩ = some (.int .i64 x) ∧ w'.cell? ⟨bx, 2, none⟩ = some (.int .i64 0) ∧ w'.cell? ⟨bx, 3, none⟩ = some (.int .i64 0) ∧ w'.cell? ⟨bx, 4, none⟩ = some (.slice none 0 0) ∧ w'.cell? ⟨bx, 5, none⟩ = some (.bool false)) from fun w' t => (A.out.x.turn t (by have := A.out.nxt; omega)).cells.1)
            refine stand_start (by kernel_rfl) 99 (fun w' => w'.cell? ⟨bx, 0, none⟩ = some (.int .i64 8) ∧ w'.cell? ⟨bx, 1, none⟩ = some (.int .i64 x) ∧ w'.cell? ⟨bx, 2, none⟩ = some (.int .i64 0) ∧ w'.cell? ⟨bx, 3, none⟩ = some (.int .i64 0) ∧ w'.cell? ⟨bx, 4, none⟩ = some (.slice none 0 0) ∧ w'.cell? ⟨bx, 5, none⟩ = some (.bool false)) 99 (fun w' => True) (KEEP.out _ (TD.out.mono fun _ _ e => e.elim)) trivial ?_
            refine stand_load3 (i := 0) (v := ?_) rfl (by kernel_rfl) (by kernel_rfl) (by kernel_rfl) (by rfl) (fun _ _ _ h => h) (by decide) (by decide) (by kernel_rfl) (by rfl) ?_ ?_
            rotate_left
            · (intro w hA; (try dsimp only at hA); go_simp; try with_reducible rfl)
            dsimp only [List.set_cons_zero, List.set_cons_succ]
            refine stand_load3 (i := 1) (v := ?_) rfl (by kernel_rfl) (by kernel_rfl) (by kernel_rfl) (by rfl) (fun _ _ _ h => h) (by decide) (by decide) (by kernel_rfl) (by rfl) ?_ ?_
            rotate_left
            · (intro w hA; (try dsimp only at hA); go_simp; try with_reducible rfl)
            dsimp only [List.set_cons_zero, List.set_cons_succ]
            refine stand_step (i := 2) (by kernel_rfl) rfl (fun K hK => ?_)
            go_simp
            refine (CRO.out _ (BO.out.rd.new TT.out)).mono ?_
            rintro e wn ⟨rfl, t4⟩
            have TT := Lib.hid (TT.out.trans t4)
            clear t4
            refine hK.out _ _ (fun _ => KEEP.out _ (TT.out.mono fun _ _ e => e.elim)) (fun _ => trivial) ?_
            clear hK K
            try simp only [put_laid, List.set_cons_zero, List.set_cons_succ]
            have A4 := Lib.hid (A.out.new TT.out)
            have BO4 := Lib.hid (BO.out.new TT.out)
            obtain ⟨⟨z0, z1, z2, z3, z4, z5⟩, y0, y1, y2, y3, y4, y5⟩ := A4.out.z.cells
            refine stand_step (i := 3) (by kernel_rfl) rfl (fun K hK => ?_)
            go_simp
            have T6 := Lib.hid (six_turn wn rz (.int .i64 8) (.int .i64 x) (.int .i64 0) (.int .i64 0) (.slice none 0 0) (.bool false))
            have ZF := Lib.hid (A4.out.z.all 8 x 0 0 (.slice none 0 0) false)
            have TF := Lib.hid (A4.out.t.and T6.out (fun q hq e => by have := A4.out.low; omega))
            have BF := Lib.hid (BO4.out.apart T6.out (fun i _ e => by subst e; exact ⟨_, 25, by decide, A4.out.z⟩))
            have KF := Lib.hid (KEEP.out _ ((TT.out.mono fun _ _ e => e.elim).trans T6.out))
            clear z0 z1 z2 z3 z4 z5 y0 y1 y2 y3 y4 y5 T6
            generalize ((((((wn.setCell ⟨rz, 0, none⟩ (.int .i64 8)).setCell ⟨rz, 1, none⟩ (.int .i64 x)).setCell ⟨rz, 2, none⟩ (.int .i64 0)).setCell ⟨rz, 3, none⟩ (.int .i64 0)).setCell ⟨rz, 4, none⟩ (.slice none 0 0)).setCell ⟨rz, 5, none⟩ (.bool false)) = wf at ZF TF BF KF ⊢
            refine hK.out _ _ (fun _ => KF.out) (fun _ => trivial) ?_
            clear hK K
            try simp only [put_laid, List.set_cons_zero, List.set_cons_succ]
            refine stand_take (i := 4) (v := ?_) rfl (by kernel_rfl) (by kernel_rfl) (by kernel_rfl) (by rfl) (fun _ _ _ h => h) (by decide) (by decide) (by rfl) ?_ ?_
            rotate_left
            · (intro w; go_simp; try with_reducible rfl)
            dsimp only [List.set_cons_zero, List.set_cons_succ]
            refine stand_done (by kernel_rfl) ?_
            go_wp2_with fail
            obtain ⟨⟨k0, k1, k2, k3, k4, k5⟩, _⟩ := ZF.out.cells
            refine bodyPost_ret (v := .tuple #[.agg #[.int .i64 8, .int .i64 x, .int .i64 0, .int .i64 0, (.slice none 0 0), .bool false], .bool bb]) (by simp [results, Tryd.results33, go_sem, k0, k1, k2, k3, k4, k5]) rfl (gives_d (r := ⟨8, x, 0, 0, ⟨none, 0, 0⟩, false⟩) TF.out ?_ ?_)
            · rw [HOK.out]; cases bb <;> rfl
            · intro q h
              rw [HOK.out] at h
              cases bb
              · cases h
              · cases h
                exact BF.out
        · rw [e] at hkr ⊢
          obtain ⟨oc, hoc⟩ : ∃ oc, casedG len1 [] false r = oc := ⟨_, rfl⟩
          have hrr : RR = casR oc := by rw [← HRR.out, readW_cas hkr, HL1.out, hoc]
          have HR2 := Lib.hid hrr
          have HCL := Lib.hid (show ∀ cs el, oc = some (cs, el) → cs.length ≤ 1000000 from fun cs el h => by have := casedG_len len1 [] false r cs el (hoc.trans h); simp at this; omega)
          have CD := Lib.hid (fun w h => rcased_any ⟨ao1, len1, cap1⟩ r len1 oc w h HL1.out hlen1 hoc HFr.out)
          clear hoc hkr hrr e htry
          unfold GivesO at CD
          dsimp only at CD
          go_wp2_with fail
          refine (CD.out _ HP1.out).mono ?_
          rintro e w5 ⟨t5, ⟨kd, ch, nn, vv, ⟨sao, slen, scap⟩, ee⟩, ok, rfl, hok, hcc⟩
          have T3 := Lib.hid (T3.out.trans t5)
          have Z3 := Lib.hid (Z3.out.new t5)
          have HCC := Lib.hid hcc
          unfold OpV.val Sl.val
          dsimp only
          clear t5 hcc
          go_upto_region 19 with fail
          have A : Hid (OnS w (w5.alloc (.cells #[.int .i64 kd, .int .i64 ch, .int .i64 nn, .int .i64 vv, .slice sao slen scap, .bool ee] 25)) rz w5.heap.size kd ch nn vv (.slice sao slen scap) ee) := Lib.hid ⟨Z3.out.new ((Turn.refl _ _).alloc _), blk_new w5 _ 25, T3.out.alloc _, LOW.out, Blk.lt Z3.out⟩
          have TW := Lib.hid ((Turn.refl (fun _ => False) w5).alloc (.cells #[.int .i64 kd, .int .i64 ch, .int .i64 nn, .int .i64 vv, .slice sao slen scap, .bool ee] 25))
          obtain ⟨bx, hbx⟩ : ∃ b, w5.heap.size = b := ⟨_, rfl⟩
          rw [hbx] at A ⊢
          clear hbx
          generalize w5.alloc (.cells #[.int .i64 kd, .int .i64 ch, .int .i64 nn, .int .i64 vv, .slice sao slen scap, .bool ee] 25) = w6 at A TW ⊢
          cases oc with
          | none =>
            replace hok : ok = false := hok
            subst hok
            have HNO : Hid (RR = none) := HR2
            have TT := Lib.hid (Turn.refl (fun _ => False) w6).drew
            have TD := TT
            have KEEP := Lib.hid (show ∀ w', Turn (fun j => j = rz) w6 w' → (w'.cell? ⟨bx, 0, none⟩ = some (.int .i64 kd) ∧ w'.cell? ⟨bx, 1, none⟩ = some (.int .i64 ch) ∧ w'.cell? ⟨bx, 2, none⟩ = some (.int .i64 nn) ∧ w'.cell? ⟨bx, 3, none⟩ = some (.int .i64 vv) ∧ w'.cell? ⟨bx, 4, none⟩ = some (.slice sao slen scap) ∧ w'.cell? ⟨bx, 5, none⟩ = some (.bool ee)) from fun w' t => (A.out.x.turn t (by have := A.out.nxt; omega)).cells.1)
            refine stand_start (by kernel_rfl) 99 (fun w' => w'.cell? ⟨bx, 0, none⟩ = some (.int .i64 kd) ∧ w'.cell? ⟨bx, 1, none⟩ = some (.int .i64 ch) ∧ w'.cell? ⟨bx, 2, none⟩ = some (.int .i64 nn) ∧ w'.cell? ⟨bx, 3, none⟩ = some (.int .i64 vv) ∧ w'.cell? ⟨bx, 4, none⟩ = some (.slice sao slen scap) ∧ w'.cell? ⟨bx, 5, none⟩ = some (.bool ee)) 99 (fun w' => True) (KEEP.out _ (TD.out.mono fun _ _ e => e.elim)) trivial ?_
            generalize w6.drew = wn at TT TD ⊢
            have A4 := Lib.hid (A.out.new TT.out)
            obtain ⟨⟨z0, z1, z2, z3, z4, z5⟩, y0, y1, y2, y3, y4, y5⟩ := A4.out.z.cells
            refine stand_load3 (i := 0) (v := ?_) rfl (by kernel_rfl) (by kernel_rfl) (by kernel_rfl) (by rfl) (fun _ _ _ h => h) (by decide) (by decide) (by kernel_rfl) (by rfl) ?_ ?_
            rotate_left
            · (intro w hA; (try dsimp only at hA); go_simp; try with_reducible rfl)
            dsimp only [List.set_cons_zero, List.set_cons_succ]
            refine stand_take (i := 1) (v := ?_) rfl (by kernel_rfl) (by kernel_rfl) (by kernel_rfl) (by rfl) (fun _ _ _ h => h) (by decide) (by decide) (by rfl) ?_ ?_
            rotate_left
            · (intro w; go_simp; try with_reducible rfl)
            dsimp only [List.set_cons_zero, List.set_cons_succ]
            refine stand_take (i := 2) (v := ?_) rfl (by kernel_rfl) (by kernel_rfl) (by kernel_rfl) (by rfl) (fun _ _ _ h => h) (by decide) (by decide) (by rfl) ?_ ?_
            rotate_left
            · (intro w; go_simp; try with_reducible rfl)
            dsimp only [List.set_cons_zero, List.set_cons_succ]
            refine stand_skip (i := 3) rfl (by kernel_rfl) (by kernel_rfl) (by kernel_rfl) (by rfl) (fun _ _ _ h => h) (by decide) (by decide) (by rfl) ?_
            dsimp only [List.set_cons_zero, List.set_cons_succ]
            refine stand_skip (i := 4) rfl (by kernel_rfl) (by kernel_rfl) (by kernel_rfl) (by rfl) (fun _ _ _ h => h) (by decide) (by decide) (by rfl) ?_
            dsimp only [List.set_cons_zero, List.set_cons_succ]
            refine stand_take (i := 5) (v := ?_) rfl (by kernel_rfl) (by kernel_rfl) (by kernel_rfl) (by rfl) (fun _ _ _ h => h) (by decide) (by decide) (by rfl) ?_ ?_
            rotate_left
            · (intro w; go_simp; try with_reducible rfl)
            dsimp only [List.set_cons_zero, List.set_cons_succ]
            refine stand_step (i := 6) (by kernel_rfl) rfl (fun K hK => ?_)
            go_simp
            have T6 := Lib.hid (six_turn wn rz (.int .i64 kd) (.int .i64 ch) (.int .i64 nn) (.int .i64 vv) (.slice sao slen scap) (.bool ee))
            have ZF := Lib.hid (A4.out.z.all kd ch nn vv (.slice sao slen scap) ee)
            have TF := Lib.hid (A4.out.t.and T6.out (fun q hq e => by have := A4.out.low; omega))
            have KF := Lib.hid (KEEP.out _ ((TT.out.mono fun _ _ e => e.elim).trans T6.out))
            clear z0 z1 z2 z3 z4 z5 y0 y1 y2 y3 y4 y5 T6
            generalize ((((((wn.setCell ⟨rz, 0, none⟩ (.int .i64 kd)).setCell ⟨rz, 1, none⟩ (.int .i64 ch)).setCell ⟨rz, 2, none⟩ (.int .i64 nn)).setCell ⟨rz, 3, none⟩ (.int .i64 vv)).setCell ⟨rz, 4, none⟩ (.slice sao slen scap)).setCell ⟨rz, 5, none⟩ (.bool ee)) = wf at ZF TF KF ⊢
            refine hK.out _ _ (fun _ => KF.out) (fun _ => trivial) ?_
            clear hK K
            try simp only [put_laid, List.set_cons_zero, List.set_cons_succ]
            refine stand_take (i := 7) (v := ?_) rfl (by kernel_rfl) (by kernel_rfl) (by kernel_rfl) (by rfl) (fun _ _ _ h => h) (by decide) (by decide) (by rfl) ?_ ?_
            rotate_left
            · (intro w; go_simp; try with_reducible rfl)
            dsimp only [List.set_cons_zero, List.set_cons_succ]
            refine stand_done (by kernel_rfl) ?_
            go_wp2_with fail
            obtain ⟨⟨k0, k1, k2, k3, k4, k5⟩, _⟩ := ZF.out.cells
            refine bodyPost_ret (v := .tuple #[.agg #[.int .i64 kd, .int .i64 ch, .int .i64 nn, .int .i64 vv, (.slice sao slen scap), .bool ee], .bool false]) (by simp [results, Tryd.results33, go_sem, k0, k1, k2, k3, k4, k5]) rfl (gives_d (r := ⟨kd, ch, nn, vv, ⟨sao, slen, scap⟩, ee⟩) TF.out ?_ ?_)
            · rw [HNO.out]; rfl
            · intro q h; rw [HNO.out] at h; cases h
          | some pq =>
            obtain ⟨cs, el⟩ := pq
            replace hok : ok = true := hok
            subst hok
            obtain ⟨bb, hbb⟩ : ∃ b, rightO ⟨9, 0, 0, 0, cs, el⟩ = b := ⟨_, rfl⟩
            have HOK : Hid (RR = if bb = true then some ⟨9, 0, 0, 0, cs, el⟩ else none) := Lib.hid (by rw [HR2.out, ← hbb]; rfl)
            have CRO := Lib.hid (fun w (h : ROp w ⟨kd, ch, nn, vv, ⟨sao, slen, scap⟩, ee⟩ ⟨9, 0, 0, 0, cs, el⟩) => rrightop_any ⟨kd, ch, nn, vv, ⟨sao, slen, scap⟩, ee⟩ ⟨9, 0, 0, 0, cs, el⟩ bb w h (HCL.out cs el rfl) hbb)
            have BO : Hid (BOp w6 40 ⟨kd, ch, nn, vv, ⟨sao, slen, scap⟩, ee⟩ ⟨9, 0, 0, 0, cs, el⟩) := Lib.hid ((HCC.out cs el rfl).new TW.out)
            unfold OpV.val Sl.val at CRO
            dsimp only at CRO
            clear hbb HCC
            have TT := Lib.hid (Turn.refl (fun _ => False) w6).drew
            have TD := TT
            have KEEP := Lib.hid (show ∀ w', Turn (fun j => j = rz) w6 w' → (w'.cell? ⟨bx, 0, none⟩ = some (.int .i64 kd) ∧ w'.cell? ⟨bx, 1, none⟩ = some (.int .i64 ch) ∧ w'.cell? ⟨bx, 2, none⟩ = some (.int .i64 nn) ∧ w'.cell? ⟨bx, 3, none⟩ = some (.int .i64 vv) ∧ w'.cell? ⟨bx, 4, none⟩ = some (.slice sao slen scap) ∧ w'.cell? ⟨bx, 5, none⟩ = some (.bool ee)) from fun w' t => (A.out.x.turn t (by have := A.out.nxt; omega)).cells.1)
            refine stand_start (by kernel_rfl) 99 (fun w' => w'.cell? ⟨bx, 0, none⟩ = some (.int .i64 kd) ∧ w'.cell? ⟨bx, 1, none⟩ = some (.int .i64 ch) ∧ w'.cell? ⟨bx, 2, none⟩ = some (.int .i64 nn) ∧ w'.cell? ⟨bx, 3, none⟩ = some (.int .i64 vv) ∧ w'.cell? ⟨bx, 4, none⟩ = some (.slice sao slen scap) ∧ w'.cell? ⟨bx, 5, none⟩ = some (.bool ee)) 99 (fun w' => True) (KEEP.out _ (TD.out.mono fun _ _ e => e.elim)) trivial ?_
            refine stand_load3 (i := 0) (v := ?_) rfl (by kernel_rfl) (by kernel_rfl) (by kernel_rfl) (by rfl) (fun _ _ _ h => h) (by decide) (by decide) (by kernel_rfl) (by rfl) ?_ ?_
            rotate_left
            · (intro w hA; (try dsimp only at hA); go_simp; try with_reducible rfl)
            dsimp only [List.set_cons_zero, List.set_cons_succ]
            refine stand_take (i := 1) (v := ?_) rfl (by kernel_rfl) (by kernel_rfl) (by kernel_rfl) (by rfl) (fun _ _ _ h => h) (by decide) (by decide) (by rfl) ?_ ?_
            rotate_left
            · (intro w; go_simp; try with_reducible rfl)
            dsimp only [List.set_cons_zero, List.set_cons_succ]
            refine stand_take (i := 2) (v := ?_) rfl (by kernel_rfl) (by kernel_rfl) (by kernel_rfl) (by rfl) (fun _ _ _ h => h) (by decide) (by decide) (by rfl) ?_ ?_
            rotate_left
            · (intro w; go_simp; try with_reducible rfl)
            dsimp only [List.set_cons_zero, List.set_cons_succ]
            refine stand_load3 (i := 3) (v := ?_) rfl (by kernel_rfl) (by kernel_rfl) (by kernel_rfl) (by rfl) (fun _ _ _ h => h) (by decide) (by decide) (by kernel_rfl) (by rfl) ?_ ?_
            rotate_left
            · (intro w hA; (try dsimp only at hA); go_simp; try with_reducible rfl)
            dsimp only [List.set_cons_zero, List.set_cons_succ]
            refine stand_step (i := 4) (by kernel_rfl) rfl (fun K hK => ?_)
            go_simp
            refine (CRO.out _ (BO.out.rd.new TT.out)).mono ?_
            rintro e wn ⟨rfl, t4⟩
            have TT := Lib.hid (TT.out.trans t4)
            clear t4
            refine hK.out _ _ (fun _ => KEEP.out _ (TT.out.mono fun _ _ e => e.elim)) (fun _ => trivial) ?_
            clear hK K
            try simp only [put_laid, List.set_cons_zero, List.set_cons_succ]
            have A4 := Lib.hid (A.out.new TT.out)
            have BO4 := Lib.hid (BO.out.new TT.out)
            obtain ⟨⟨z0, z1, z2, z3, z4, z5⟩, y0, y1, y2, y3, y4, y5⟩ := A4.out.z.cells
            refine stand_take (i := 5) (v := ?_) rfl (by kernel_rfl) (by kernel_rfl) (by kernel_rfl) (by rfl) (fun _ _ _ h => h) (by decide) (by decide) (by rfl) ?_ ?_
            rotate_left
            · (intro w; go_simp; try with_reducible rfl)
            dsimp only [List.set_cons_zero, List.set_cons_succ]
            refine stand_step (i := 6) (by kernel_rfl) rfl (fun K hK => ?_)
            go_simp
            have T6 := Lib.hid (six_turn wn rz (.int .i64 kd) (.int .i64 ch) (.int .i64 nn) (.int .i64 vv) (.slice sao slen scap) (.bool ee))
            have ZF := Lib.hid (A4.out.z.all kd ch nn vv (.slice sao slen scap) ee)
            have TF := Lib.hid (A4.out.t.and T6.out (fun q hq e => by have := A4.out.low; omega))
            have BF := Lib.hid (BO4.out.apart T6.out (fun i _ e => by subst e; exact ⟨_, 25, by decide, A4.out.z⟩))
            have KF := Lib.hid (KEEP.out _ ((TT.out.mono fun _ _ e => e.elim).trans T6.out))
            clear z0 z1 z2 z3 z4 z5 y0 y1 y2 y3 y4 y5 T6
            generalize ((((((wn.setCell ⟨rz, 0, none⟩ (.int .i64 kd)).setCell ⟨rz, 1, none⟩ (.int .i64 ch)).setCell ⟨rz, 2, none⟩ (.int .i64 nn)).setCell ⟨rz, 3, none⟩ (.int .i64 vv)).setCell ⟨rz, 4, none⟩ (.slice sao slen scap)).setCell ⟨rz, 5, none⟩ (.bool ee)) = wf at ZF TF BF KF ⊢
            refine hK.out _ _ (fun _ => KF.out) (fun _ => trivial) ?_
            clear hK K
            try simp only [put_laid, List.set_cons_zero, List.set_cons_succ]
            refine stand_take (i := 7) (v := ?_) rfl (by kernel_rfl) (by kernel_rfl) (by kernel_rfl) (by rfl) (fun _ _ _ h => h) (by decide) (by decide) (by rfl) ?_ ?_
            rotate_left
            · (intro w; go_simp; try with_reducible rfl)
            dsimp only [List.set_cons_zero, List.set_cons_succ]
            refine stand_done (by kernel_rfl) ?_
            go_wp2_with fail
            obtain ⟨⟨k0, k1, k2, k3, k4, k5⟩, _⟩ := ZF.out.cells
            refine bodyPost_ret (v := .tuple #[.agg #[.int .i64 kd, .int .i64 ch, .int .i64 nn, .int .i64 vv, (.slice sao slen scap), .bool ee], .bool bb]) (by simp [results, Tryd.results33, go_sem, k0, k1, k2, k3, k4, k5]) rfl (gives_d (r := ⟨kd, ch, nn, vv, ⟨sao, slen, scap⟩, ee⟩) TF.out ?_ ?_)
            · rw [HOK.out]; cases bb <;> rfl
            · intro q h
              rw [HOK.out] at h
              cases bb
              · cases h
              · cases h
                exact BF.out
        · have HNO : Hid (RR = none) := Lib.hid (by rw [← HRR.out]; rw [e] at hkr; exact readW_no hkr)
          rw [e]
          clear hkr e htry
          obtain ⟨⟨z0, z1, z2, z3, z4, z5⟩, y0, y1, y2, y3, y4, y5⟩ := Z3.out.cells
          go_wp2_with fail
          have ZF := Lib.hid (Z3.out.all 0 0 0 0 (.slice none 0 0) false)
          have TF := Lib.hid (T3.out.and (six_turn wr rz (.int .i64 0) (.int .i64 0) (.int .i64 0) (.int .i64 0) (.slice none 0 0) (.bool false)) (fun q hq e => by have := LOW.out; omega))
          clear z0 z1 z2 z3 z4 z5 y0 y1 y2 y3 y4 y5
          generalize ((((((wr.setCell ⟨rz, 0, none⟩ (.int .i64 0)).setCell ⟨rz, 1, none⟩ (.int .i64 0)).setCell ⟨rz, 2, none⟩ (.int .i64 0)).setCell ⟨rz, 3, none⟩ (.int .i64 0)).setCell ⟨rz, 4, none⟩ (.slice none 0 0)).setCell ⟨rz, 5, none⟩ (.bool false)) = wf at ZF TF ⊢
          obtain ⟨⟨k0, k1, k2, k3, k4, k5⟩, _⟩ := ZF.out.cells
          refine bodyPost_ret (v := .tuple #[.agg #[.int .i64 0, .int .i64 0, .int .i64 0, .int .i64 0, .slice none 0 0, .bool false], .bool false]) (by simp [results, Tryd.results33, go_sem, k0, k1, k2, k3, k4, k5]) rfl (gives_d (r := ⟨0, 0, 0, 0, ⟨none, 0, 0⟩, false⟩) TF.out ?_ ?_)
          · rw [HNO.out]; rfl
          · intro q h; rw [HNO.out] at h; cases h
end Go.Proofs.YtfghabjpcjcllaaDoor
