/- The code's guess of an op. -/
import Derived.Test.YtfghabjpcjcllaaDoorCGuessP
import Derived.Test.YtfghabjpcjcllaaDoorTails
import Derived.Test.YtfghabjpcjcllaaDoorOneW
import Derived.Test.YtfghabjpcjcllaaDoorMGMath
namespace Go.Proofs.YtfghabjpcjcllaaDoor
open Go.RowKit
set_option linter.unusedVariables false

/-- An op is answered. -/
def GivesQ (w : World) (q : Opr) (e : Ending) (w' : World) : Prop := Turn (fun _ => False) w w' ∧ ∃ r : OpV, e = .returned r.val ∧ BOp w' 40 r q
theorem gives_q {w w' : World} {q : Opr} {r : OpV} (t : Turn (fun _ => False) w w') (h : BOp w' 40 r q) : GivesQ w q (.returned r.val) w' := ⟨t, r, rfl, h⟩
theorem splitK_len (sep : Tx) (save : Nat) : ∀ (k : Nat) (s : Tx), ∀ q ∈ Lib.splitK sep save k s, q.length ≤ s.length
  | 0, s, q, hq => by
    obtain rfl := List.mem_singleton.1 hq
    exact Nat.le_refl _
  | k + 1, s, q, hq => by
    unfold Lib.splitK at hq
    split at hq
    · obtain rfl := List.mem_singleton.1 hq
      exact Nat.le_refl _
    · rcases List.mem_cons.1 hq with rfl | hq
      · rw [List.length_take]; omega
      · have := splitK_len sep save k _ q hq
        rw [List.length_drop] at this
        omega
theorem splitK_ne (sep : Tx) (save k : Nat) (s : Tx) : ∃ p ps, Lib.splitK sep save k s = p :: ps := by
  cases k with
  | zero => exact ⟨_, _, rfl⟩
  | succ k =>
    unfold Lib.splitK
    split
    · exact ⟨_, _, rfl⟩
    · exact ⟨_, _, rfl⟩
theorem gCases_snoc (ps : List Tx) (q : Tx) : gCases (ps ++ [q]) = if q = wElse then gCases ps else gCases ps ++ [gCase (gPlain q)] := by
  unfold gCases
  rw [List.filter_append]
  by_cases h : q = wElse
  · subst h
    simp
  · rw [if_neg h]
    simp [h]
theorem gElse_snoc (ps : List Tx) (q : Tx) : gElse (ps ++ [q]) = if q = wElse then true else gElse ps := by
  unfold gElse
  rw [List.any_append]
  by_cases h : q = wElse
  · subst h
    simp
  · simp [h]

def gOf : List Tx → Opr
  | [] => ⟨0, 0, 0, 0, [], false⟩
  | p :: ps => ⟨(gPlain p).kind, (gPlain p).ch, (gPlain p).n, (gPlain p).v, gCases ps, gElse ps⟩
theorem gLine_of (t : Tx) : gLine t = gOf (partsT t) := rfl
set_option maxRecDepth 100000 in
set_option maxHeartbeats 4000000 in
theorem guess_any (t : Tx) (w : World) (hl : t.length ≤ 1000) (hG : Gl w) : Calls Tryd.prog 59 #[.string (bs t)] w (GivesQ w (gLine t)) := by
  have CS := Lib.hid (fun w hG => split_any t w (by omega) hG)
  obtain ⟨T, hT⟩ : ∃ S, bs t = S := ⟨_, rfl⟩
  rw [hT] at CS ⊢
  have HL := Lib.hid hl
  have HPL : Hid (∀ q ∈ partsT t, q.length ≤ 100000) := Lib.hid (fun q hq => by have := splitK_len sepB 0 _ t q hq; omega)
  obtain ⟨W, hW⟩ : ∃ x, partsT t = x := ⟨_, rfl⟩
  rw [hW] at CS HPL
  rw [gLine_of, hW]
  obtain ⟨p, ps, hWc⟩ := splitK_ne sepB 0 (Lib.count t sepB) t
  obtain rfl : W = p :: ps := hW.symm.trans hWc
  unfold gOf
  dsimp only
  have CP := Lib.hid (fun w hG => guessp_any p w (HPL.out p (by simp)) hG)
  unfold GivesP at CP
  obtain ⟨⟨kind, ch, nn, v, _, _⟩, hq⟩ : ∃ q, gPlain p = q := ⟨_, rfl⟩
  rw [hq] at CP ⊢
  dsimp only at CP ⊢
  obtain ⟨SP, hSP⟩ : ∃ S, bs p = S := ⟨_, rfl⟩
  rw [hSP] at CP
  have HSP := Lib.hid hSP
  clear hSP hq hWc
  have G := Lib.hid hG
  have Z0 : Hid (Six (w.alloc (.cells #[.int .i64 0, .int .i64 0, .int .i64 0, .int .i64 0, .slice none 0 0, .bool false] 25)) w.heap.size 0 0 0 0 (.slice none 0 0) false) := Lib.hid (blk_new w _ 25)
  have T0 := Lib.hid ((Turn.refl (fun _ => False) w).alloc (.cells #[.int .i64 0, .int .i64 0, .int .i64 0, .int .i64 0, .slice none 0 0, .bool false] 25))
  clear hT hl hG hW
  go_enter Tryd.func59, Tryd.ntmps59
  go_upto_region 1 with fail
  generalize w.alloc (.cells #[.int .i64 0, .int .i64 0, .int .i64 0, .int .i64 0, .slice none 0 0, .bool false] 25) = w1 at Z0 T0 ⊢
  obtain ⟨rz, hrz⟩ : ∃ b, w.heap.size = b := ⟨_, rfl⟩
  have LOW : Hid (w.heap.size ≤ rz) := Lib.hid (by omega)
  rw [hrz] at Z0 ⊢
  clear hrz
  go_wp2_with fail
  refine (CS.out _ (G.out.new T0.out)).mono ?_
  rintro e w2 ⟨⟨ao, n, cap⟩, rfl, hr, t2, hn, hn1, hnt⟩
  dsimp only at hn hn1 hnt ⊢
  have hnl : n ≤ 1001 := by have := HL.out; omega
  have T2 := Lib.hid (T0.out.trans t2)
  have Z2 := Lib.hid (Z0.out.new t2)
  have HR := Lib.hid hr
  obtain ⟨ad, had, hcp⟩ := hr.at (i := 0) (x := p) rfl
  dsimp only at had
  subst had
  rw [addr_zero] at hcp
  have HN := Lib.hid hn
  rw [HSP.out] at hcp
  clear hr t2 hn hnt
  go_wp2_with fail
  refine (CP.out _ (G.out.new T2.out)).mono ?_
  rintro e w3 ⟨rfl, t3⟩
  have T3 := Lib.hid (T2.out.trans t3)
  have Z3 := Lib.hid (Z2.out.new t3)
  have HR := Lib.hid (HR.out.new t3)
  clear t3 hcp
  go_upto_region 3 with fail
  have A : Hid (OnS w (w3.alloc (.cells #[.int .i64 kind, .int .i64 ch, .int .i64 nn, .int .i64 v, .slice none 0 0, .bool false] 25)) rz w3.heap.size kind ch nn v (.slice none 0 0) false) := Lib.hid ⟨Z3.out.new ((Turn.refl _ _).alloc _), blk_new w3 _ 25, T3.out.alloc _, LOW.out, Blk.lt Z3.out⟩
  have GC0 := Lib.hid (GCs.nil (w3.alloc (.cells #[.int .i64 kind, .int .i64 ch, .int .i64 nn, .int .i64 v, .slice none 0 0, .bool false] 25)) 40 (w3.heap.size + 1))
  obtain ⟨bx, hbx⟩ : ∃ b, w3.heap.size = b := ⟨_, rfl⟩
  have TW0 : Hid (Turn (fun i => bx ≤ i) w3 (w3.alloc (.cells #[.int .i64 kind, .int .i64 ch, .int .i64 nn, .int .i64 v, .slice none 0 0, .bool false] 25))) := Lib.hid ((Turn.refl _ w3).alloc _)
  have HBX := Lib.hid hbx
  rw [hbx] at A GC0 ⊢
  clear hbx
  generalize w3.alloc (.cells #[.int .i64 kind, .int .i64 ch, .int .i64 nn, .int .i64 v, .slice none 0 0, .bool false] 25) = w4 at A GC0 TW0 ⊢
  have hsl := tail_texts ⟨some ad, n, cap⟩ (n := n) (a := 1) hn1
  have HP := Lib.hid (part_tail HR.out HN.out.symm (a := 1) hn1)
  obtain ⟨⟨ao1, len1, cap1⟩, hs1⟩ : ∃ s1, partV ⟨some ad, n, cap⟩ 1 n = s1 := ⟨_, rfl⟩
  have hl1 : n - 1 = len1 := by rw [← show (partV ⟨some ad, n, cap⟩ 1 n).len = n - 1 from rfl, hs1]
  rw [hs1] at hsl HP
  dsimp only at hsl
  have hsl' : ∀ w, (Instr.slice 53 (.slice (some ad) n cap) (some (.int .i64 1)) none none).run Tryd.prog w = .ok (.slice ao1 len1 cap1) w := by
    intro w
    exact hsl w
  have HPR : Hid (RTs w3 ⟨ao1, len1, cap1⟩ ps) := HP
  have HN1 : Hid (ps.length = len1) := Lib.hid (by have := HN.out; simp at this; omega)
  have hl1n : len1 ≤ 1000 := by omega
  clear HP HR hs1 hl1 hsl
  go_upto_region 4 with fail
  go_loopw [17] (fun s17 wr => ∃ (k : Nat) (sl : Sl) (cs : List Cas) (els : Bool), s17 = .int .i64 k ∧ k ≤ len1 ∧ cs.length ≤ k ∧ Hid (OnS w wr rz bx kind ch nn v sl.val els) ∧ Hid (GCs wr 40 (bx + 1) sl cs) ∧ Hid (cs = gCases (ps.take k) ∧ els = gElse (ps.take k)) ∧ Hid (Turn (fun i => bx ≤ i) w3 wr)) (fun s17 _ => len1 - (intOf s17).toNat)
  case atStart => exact ⟨0, ⟨none, 0, 0⟩, [], false, rfl, Nat.zero_le _, Nat.le_refl _, A, GC0, Lib.hid ⟨rfl, rfl⟩, TW0⟩
  case round =>
    clear A GC0 TW0 hsl'
    obtain ⟨k, ⟨sao, slen, scap⟩, cs, els, rfl, hk, hcl, A, GC, HE, TW⟩ := hrel
    have A : Hid (OnS w wr rz bx kind ch nn v (.slice sao slen scap) els) := A
    by_cases hlt : k < len1
    · obtain ⟨y, hy⟩ : ∃ y, ps[k]? = some y := ⟨_, List.getElem?_eq_getElem (by rw [HN1.out]; exact hlt)⟩
      obtain ⟨a', ha', hcy⟩ := (HPR.out.new (TW.out.mono fun i hi e => absurd hi (by have := HBX.out; omega))).at hy
      dsimp only at ha'
      subst ha'
      have HTK := Lib.hid (take_snoc hy)
      obtain ⟨yb, hyb⟩ : ∃ yb, decide (y = wElse) = yb := ⟨_, rfl⟩
      have hql := lit_text y wElse hyb
      unfold wElse at hql
      have CP := Lib.hid (fun w hG => guessp_any y w (HPL.out y (List.mem_cons_of_mem _ (List.mem_of_getElem? hy))) hG)
      obtain ⟨Sy, hSy⟩ : ∃ S, bs y = S := ⟨_, rfl⟩
      rw [hSy] at hcy hql CP
      unfold GivesP at CP
      obtain ⟨⟨c0, c1, c2, c3, c4, c5⟩, g0, g1, g2, g3, g4, g5⟩ := A.out.x.cells
      cases yb
      · have HNY := Lib.hid (show y ≠ wElse from of_decide_eq_false hyb)
        clear hyb hy hSy
        obtain ⟨⟨ky, cy, ny, vy, _, _⟩, hq⟩ : ∃ q, gPlain y = q := ⟨_, rfl⟩
        rw [hq] at CP
        dsimp only at CP
        have HQ := Lib.hid hq
        clear hq
        go_wp2_with fail
        refine (CP.out _ (G.out.new A.out.t)).mono ?_
        rintro e w1' ⟨rfl, t1⟩
        have A := Lib.hid (A.out.new t1)
        have GC := Lib.hid (GC.out.new t1)
        have TW := Lib.hid (TW.out.trans (t1.mono fun _ _ e => e.elim))
        clear t1 hcy
        clear c0 c1 c2 c3 c4 c5 g0 g1 g2 g3 g4 g5
        go_upto_region 9 with fail
        have TA := Lib.hid ((Turn.refl (fun _ => False) w1').alloc (.cells #[.int .i64 ky, .int .i64 cy, .int .i64 ny, .int .i64 vy, .slice none 0 0, .bool false] 25))
        have A := Lib.hid (A.out.new TA.out)
        have GC := Lib.hid (GC.out.new TA.out)
        have TW := Lib.hid (TW.out.trans (TA.out.mono fun _ _ e => e.elim))
        have D : Hid (Six (w1'.alloc (.cells #[.int .i64 ky, .int .i64 cy, .int .i64 ny, .int .i64 vy, .slice none 0 0, .bool false] 25)) w1'.heap.size ky cy ny vy (.slice none 0 0) false) := Lib.hid (blk_new w1' _ 25)
        obtain ⟨db, hdb⟩ : ∃ b, w1'.heap.size = b := ⟨_, rfl⟩
        rw [hdb] at D ⊢
        clear TA hdb
        generalize w1'.alloc (.cells #[.int .i64 ky, .int .i64 cy, .int .i64 ny, .int .i64 vy, .slice none 0 0, .bool false] 25) = w2' at A GC TW D ⊢
        obtain ⟨⟨c0, c1, c2, c3, c4, c5⟩, g0, g1, g2, g3, g4, g5⟩ := A.out.x.cells
        obtain ⟨⟨d0, d1, d2, d3, d4, d5⟩, _⟩ := D.out.cells
        have hbx2 : bx + 1 ≤ w2'.heap.size := A.out.x.lt
        obtain ⟨k1, hk1⟩ : ∃ k1, cs.length + 1 = k1 := ⟨_, rfl⟩
        have HK1 := Lib.hid hk1
        have hk1j : k1 ≤ k + 1 := by omega
        clear hk1
        go_upto_region 10 with (at_builtin; refine wpList_append_case Tryd.underlying23 info_case rfl (by decide) rfl (.tmp 27) (.tmp 36) rfl ⟨sao, slen, scap⟩ cs ⟨ky == 2, cy, vy⟩ rfl rfl GC.out rfl k1 HK1.out (by omega) hbx2 ?_; intro g gc w3' hg h3 t3 b3; have A3 := Lib.hid (A.out.turned t3.out (fun q e => by have := GC.out.low q e; omega)); clear c0 c1 c2 c3 c4 c5 g0 g1 g2 g3 g4 g5; obtain ⟨⟨c0, c1, c2, c3, c4, c5⟩, g0, g1, g2, g3, g4, g5⟩ := A3.out.x.cells)
        have A4 := Lib.hid (A3.put4 (.slice (some ⟨g, 0, none⟩) k1 gc))
        have G4 := Lib.hid (h3.out.far (set_turn w3' bx 4 (.slice (some ⟨g, 0, none⟩) k1 gc)) (fun q e => by omega))
        have TW4 := Lib.hid ((TW.out.and t3.out (fun q hq e => by have := GC.out.low q e; omega)).and (set_turn w3' bx 4 (.slice (some ⟨g, 0, none⟩) k1 gc)) (fun q hq e => by omega))
        clear c0 c1 c2 c3 c4 c5 g0 g1 g2 g3 g4 g5
        clear h3 t3 b3 A3 d0 d1 d2 d3 d4 d5
        generalize w3'.setCell ⟨bx, 4, none⟩ (.slice (some ⟨g, 0, none⟩) k1 gc) = w4' at A4 G4 TW4 ⊢
        go_wp2_with fail
        go_roundw
        case rel => exact ⟨k + 1, ⟨some ⟨g, 0, none⟩, k1, gc⟩, cs ++ [⟨ky == 2, cy, vy⟩], els, by go_num, by omega, by rw [List.length_append, List.length_singleton, HK1.out]; exact hk1j, A4, G4, Lib.hid (by
          rw [HTK.out, gCases_snoc, gElse_snoc, if_neg HNY.out, if_neg HNY.out, HQ.out, HE.out.1, HE.out.2]
          exact ⟨rfl, rfl⟩), TW4⟩
        case measure => simp [intOf]; omega
      · have HYY := Lib.hid (show y = wElse from of_decide_eq_true hyb)
        clear hyb hy hSy
        go_wp2_with fail
        have A2 := Lib.hid (A.out.put5 true)
        have G2 := Lib.hid (GC.out.far (set_turn wr bx 5 (.bool true)) (fun q e => by omega))
        have TW2 := Lib.hid (TW.out.and (set_turn wr bx 5 (.bool true)) (fun q hq e => by omega))
        clear c0 c1 c2 c3 c4 c5 g0 g1 g2 g3 g4 g5
        generalize wr.setCell ⟨bx, 5, none⟩ (.bool true) = w2' at A2 G2 TW2 ⊢
        go_roundw
        case rel => exact ⟨k + 1, ⟨sao, slen, scap⟩, cs, true, by go_num, by omega, by omega, A2, G2, Lib.hid (by
          rw [HTK.out, gCases_snoc, gElse_snoc, if_pos HYY.out, if_pos HYY.out, HE.out.1]
          exact ⟨rfl, rfl⟩), TW2⟩
        case measure => simp [intOf]; omega
    · obtain rfl : k = len1 := by omega
      have htk : ps.take k = ps := List.take_of_length_le (by rw [HN1.out]; exact Nat.le_refl _)
      have HE2 := Lib.hid (show cs = gCases ps ∧ els = gElse ps by have := HE.out; rwa [htk] at this)
      clear htk HE
      obtain ⟨⟨c0, c1, c2, c3, c4, c5⟩, g0, g1, g2, g3, g4, g5⟩ := A.out.x.cells
      obtain ⟨⟨z0, z1, z2, z3, z4, z5⟩, y0, y1, y2, y3, y4, y5⟩ := A.out.z.cells
      go_wp2_with fail
      clear c0 c1 c2 c3 c4 c5 g0 g1 g2 g3 g4 g5
      clear z0 z1 z2 z3 z4 z5 y0 y1 y2 y3 y4 y5
      have ZF := Lib.hid (A.out.z.all kind ch nn v (.slice sao slen scap) els)
      have TF := Lib.hid (A.out.t.and (six_turn wr rz (.int .i64 kind) (.int .i64 ch) (.int .i64 nn) (.int .i64 v) (.slice sao slen scap) (.bool els)) (fun q hq e => by have := A.out.low; omega))
      have GF := Lib.hid (GC.out.far (six_turn wr rz (.int .i64 kind) (.int .i64 ch) (.int .i64 nn) (.int .i64 v) (.slice sao slen scap) (.bool els)) (fun q e => by have := A.out.nxt; omega))
      generalize ((((((wr.setCell ⟨rz, 0, none⟩ (.int .i64 kind)).setCell ⟨rz, 1, none⟩ (.int .i64 ch)).setCell ⟨rz, 2, none⟩ (.int .i64 nn)).setCell ⟨rz, 3, none⟩ (.int .i64 v)).setCell ⟨rz, 4, none⟩ (.slice sao slen scap)).setCell ⟨rz, 5, none⟩ (.bool els)) = wf at ZF TF GF ⊢
      obtain ⟨⟨k0, k1, k2, k3, k4, k5⟩, _⟩ := ZF.out.cells
      refine bodyPost_ret (v := .agg #[.int .i64 kind, .int .i64 ch, .int .i64 nn, .int .i64 v, .slice sao slen scap, .bool els]) (by simp [results, Tryd.results59, go_sem, k0, k1, k2, k3, k4, k5]) rfl (gives_q (r := ⟨kind, ch, nn, v, ⟨sao, slen, scap⟩, els⟩) TF.out ?_)
      rw [← HE2.out.1, ← HE2.out.2]
      exact ⟨⟨rfl, rfl, rfl, rfl, rfl, GF.out.done.r⟩, GF.out.done.typ⟩
end Go.Proofs.YtfghabjpcjcllaaDoor
