/- What a line adds to a plan, in the code. -/
import Derived.Test.YtfghabjpcjcllaaDoorCRead
import Derived.Test.YtfghabjpcjcllaaDoorMGen
namespace Go.Proofs.YtfghabjpcjcllaaDoor
open Go.RowKit
set_option linter.unusedVariables false

/-- A plan with a line more is answered, if that may stand there. -/
def GivesA (base : Nat) (s0 : Sl) (V0 : List Sl) (w : World) (p : List (List Opr)) (t : Tx) (e : Ending) (w' : World) : Prop := Turn (Mine s0 V0) w w' ∧ ∃ (s : Sl) (V : List Sl) (q : List (List Opr)) (ok : Bool), e = .returned (.tuple #[s.val, .bool ok]) ∧ (ok = true → addV p t = some q ∧ PG w' 40 25 41 base s V q) ∧ (ok = false → addV p t = none)
theorem gives_a {base : Nat} {s0 : Sl} {V0 : List Sl} {w w' : World} {p q : List (List Opr)} {t : Tx} {s : Sl} {V : List Sl} {ok : Bool} (h1 : Turn (Mine s0 V0) w w') (h2 : ok = true → addV p t = some q ∧ PG w' 40 25 41 base s V q) (h3 : ok = false → addV p t = none) : GivesA base s0 V0 w p t (.returned (.tuple #[s.val, .bool ok])) w' := ⟨h1, s, V, q, ok, rfl, h2, h3⟩
theorem addV_go (p : List (List Opr)) : addV p wGo = if p.length < 8 then some (p ++ [[]]) else none := by unfold addV; rw [if_pos rfl]
theorem addV_nil {t : Tx} (h : t ≠ wGo) : addV [] t = none := by unfold addV; rw [if_neg h, if_pos (Or.inl rfl)]

set_option maxRecDepth 100000 in
set_option maxHeartbeats 4000000 in
theorem add_go (base : Nat) (s : Sl) (V : List Sl) (p : List (List Opr)) (w : World) (hP : PG w 40 25 41 base s V p) (h8 : p.length ≤ 8) (hb : base ≤ w.heap.size) :
    Calls Tryd.prog 31 #[s.val, .string (bs wGo)] w (GivesA base s V w p wGo) := by
  have hq := lit_text wGo wGo (b := true) (by simp)
  unfold wGo at hq
  obtain ⟨T, hT⟩ : ∃ S, bs wGo = S := ⟨_, rfl⟩
  have hT' : bs [103, 111] = T := hT
  rw [hT'] at hq
  rw [hT]
  obtain ⟨ao, len, cap⟩ := s
  obtain ⟨k, hk⟩ : ∃ n, p.length = n := ⟨_, rfl⟩
  obtain rfl : len = k := by rw [← hk]; exact hP.len
  have HP := Lib.hid hP
  have HK := Lib.hid hk
  obtain ⟨k1, hk1⟩ : ∃ n, p.length + 1 = n := ⟨_, rfl⟩
  have HK1 := Lib.hid hk1
  have hk9 : k1 ≤ 9 := by omega
  have hk8 : len ≤ 8 := by omega
  unfold Sl.val
  dsimp only
  clear hP hk hk1 h8 hT hT'
  go_enter Tryd.func31, Tryd.ntmps31
  go_upto_region 2 with fail
  go_wp2_with (at_builtin; refine wpList_append_row (by decide) (by decide) Tryd.underlying22 info_ops rfl (by decide) rfl (.tmp 11) (.tmp 12) rfl ⟨ao, len, cap⟩ V p ⟨none, 0, 0⟩ rfl rfl HP.out (GOps.nil w 40 25 base) (fun b i q h => by simp [Sl.val, Value.ownBlock] at h) rfl k1 HK1.out (by omega) hb ?_; intro g gc w3 hg h3 t3)
  go_ret2
  have hlt : (decide ((len : Int) < 8) = true ↔ p.length < 8) := by rw [decide_eq_true_eq, HK.out]; omega
  refine gives_a (s := ⟨some ⟨g, 0, none⟩, k1, gc⟩) (V := V ++ [⟨none, 0, 0⟩]) (q := p ++ [[]]) (ok := decide ((len : Int) < 8)) (t3.out.mono fun i _ e => Or.inl e) (fun h => ⟨?_, h3.out⟩) (fun h => ?_)
  · rw [addV_go, if_pos (hlt.1 h)]
  · rw [addV_go, if_neg (fun hh => by rw [hlt.2 hh] at h; cases h)]

theorem more_set {p : List (List Opr)} {k : Nat} {l : List Opr} (o : Opr) (hk : p.length = k + 1) (hl : p[k]? = some l) : more p o = p.set k (l ++ [o]) := by
  have hlast : p.getLast? = some l := by rw [List.getLast?_eq_getElem?, hk]; exact hl
  unfold more
  rw [hlast]
  simp only [Option.getD_some]
  apply List.ext_getElem?
  intro i
  rcases Nat.lt_or_ge i k with h | h
  · rw [List.getElem?_append_left (by rw [List.length_dropLast]; omega), List.getElem?_dropLast, if_pos (by omega), List.getElem?_set_ne (by omega)]
  · rcases Nat.eq_or_lt_of_le h with h | h
    · subst h
      rw [List.getElem?_append_right (by rw [List.length_dropLast]; omega), List.getElem?_set_self (by omega), List.length_dropLast, show k - (p.length - 1) = 0 by omega]
      rfl
    · rw [List.getElem?_append_right (by rw [List.length_dropLast]; omega), List.getElem?_eq_none (by simp; omega), List.getElem?_eq_none (by simp; omega)]
set_option maxRecDepth 100000 in
set_option maxHeartbeats 4000000 in
theorem add_op (base : Nat) (s : Sl) (V : List Sl) (p : List (List Opr)) (t : Tx) (w : World) (hP : PG w 40 25 41 base s V p) (h8 : p.length ≤ 8) (h16 : ∀ l ∈ p, l.length ≤ 16) (hb : base ≤ w.heap.size) (ht : t ≠ wGo) (hl : t.length ≤ 100000) (hG : Gl w) :
    Calls Tryd.prog 31 #[s.val, .string (bs t)] w (GivesA base s V w p t) := by
  have hq := lit_text t wGo (b := false) (by rw [decide_eq_false_iff_not]; exact ht)
  unfold wGo at hq
  have CR := Lib.hid (fun w hG => read_any t w hl hG)
  obtain ⟨T, hT⟩ : ∃ S, bs t = S := ⟨_, rfl⟩
  rw [hT] at hq CR ⊢
  have HT := Lib.hid ht
  obtain ⟨ao, len, cap⟩ := s
  have G := Lib.hid hG
  obtain rfl : len = p.length := hP.len
  have HP := Lib.hid hP
  unfold Sl.val
  dsimp only
  clear hT ht hl hG
  rcases Nat.eq_zero_or_pos p.length with h0 | h0
  · have hnil : p = [] := List.eq_nil_of_length_eq_zero h0
    subst hnil
    have HNO := Lib.hid (addV_nil HT.out)
    clear hP h16 h8 h0
    go_enter Tryd.func31, Tryd.ntmps31
    go_wp2_with fail
    go_ret2
    exact gives_a (s := ⟨none, 0, 0⟩) (V := []) (q := []) (ok := false) (Turn.refl _ _) (fun h => by cases h) (fun _ => HNO.out)
  obtain ⟨k, hk⟩ : ∃ k, p.length = k + 1 := ⟨p.length - 1, by omega⟩
  obtain ⟨x, hx⟩ : ∃ x, V[k]? = some x := ⟨_, List.getElem?_eq_getElem (by rw [hP.many]; omega)⟩
  obtain ⟨l, hl⟩ : ∃ l, p[k]? = some l := ⟨_, List.getElem?_eq_getElem (by omega)⟩
  obtain ⟨g, hao, hgb, hcg, hfg, gcur, hgt⟩ := hP.at hx
  dsimp only at hao
  subst hao
  have hX := hP.rows k x l hx hl
  obtain ⟨xao, xlen, xcap⟩ := x
  obtain rfl : xlen = l.length := hX.len
  have hl16 := h16 l (List.mem_of_getElem? hl)
  have hlast : p.getLast? = some l := by rw [List.getLast?_eq_getElem?, hk]; exact hl
  have HLAST := Lib.hid hlast
  have HX := Lib.hid hX
  have HXV := Lib.hid hx
  have HLV := Lib.hid hl
  have HK := Lib.hid hk
  have HGT := Lib.hid (And.intro hgt hgb)
  obtain ⟨ll, hll⟩ : ∃ n, l.length = n := ⟨_, rfl⟩
  have HLL := Lib.hid hll
  rw [hll] at hcg hX hl16
  rw [hk]
  have hI : (((k + 1 : Nat) : Int) - 1) = (k : Int) := by omega
  unfold Sl.val at hcg
  dsimp only at hcg
  have hk8 : k + 1 ≤ 8 := by omega
  clear hP h16 h8 h0 hX hx hl hlast hk hgt hgb hll
  by_cases he : ll = 16
  · subst he
    have HNO : Hid (addV p t = none) := Lib.hid (by
      unfold addV lastLen
      rw [if_neg HT.out, HLAST.out, if_pos (Or.inr (by show 16 ≤ l.length; rw [HLL.out]; exact Nat.le_refl _))])
    go_enter Tryd.func31, Tryd.ntmps31
    go_wp2_with fail
    go_ret2
    exact gives_a (s := ⟨none, 0, 0⟩) (V := []) (q := []) (ok := false) (Turn.refl _ _) (fun h => by cases h) (fun _ => HNO.out)
  have h16 : ((ll : Int) == 16) = false := by rw [beq_eq_false_iff_ne]; omega
  have hk0 : decide ((k : Int) < 0) = false := by rw [decide_eq_false_iff_not]; omega
  have hADD : ∀ b, readC t = b → addV p t = if b = true then some (p.set k (l ++ [gLine t])) else none := fun b hb => by
    unfold addV lastLen
    rw [if_neg HT.out, HLAST.out, if_neg, more_set _ HK.out HLV.out, hb]
    rintro (h | h)
    · have := HK.out
      rw [h] at this
      simp at this
    · have := HLL.out
      simp only [Option.getD_some] at h
      omega
  have HADD := Lib.hid hADD
  obtain ⟨l1, hl1⟩ : ∃ n, ll + 1 = n := ⟨_, rfl⟩
  have HL1 := Lib.hid hl1
  have hl17 : l1 ≤ 17 := by omega
  clear hADD hl1
  go_enter Tryd.func31, Tryd.ntmps31
  go_wp2_with fail
  refine (CR.out _ G.out).mono ?_
  rintro e w1 ⟨t1, ⟨kind, ch, n, v, ⟨ro, rlen, rcap⟩, els⟩, q, ok, rfl, hok, hbo, hqq⟩
  have HQ := Lib.hid (And.intro hok hqq)
  have BO := Lib.hid hbo
  have T1 := Lib.hid t1
  have hcg : w1.cell? ⟨g, k, none⟩ = some (.slice xao ll xcap) := t1.cell id hcg
  clear hok hqq hbo t1
  unfold OpV.val Sl.val
  dsimp only
  go_upto_region 7 with fail
  have T2 := Lib.hid (T1.out.alloc (.cells #[.int .i64 kind, .int .i64 ch, .int .i64 n, .int .i64 v, .slice ro rlen rcap, .bool els] 25))
  have BO := Lib.hid (BO.out.new ((Turn.refl _ w1).alloc (.cells #[.int .i64 kind, .int .i64 ch, .int .i64 n, .int .i64 v, .slice ro rlen rcap, .bool els] 25)))
  have D : Hid (Six (w1.alloc (.cells #[.int .i64 kind, .int .i64 ch, .int .i64 n, .int .i64 v, .slice ro rlen rcap, .bool els] 25)) w1.heap.size kind ch n v (.slice ro rlen rcap) els) := Lib.hid (blk_new w1 _ 25)
  have hcg : (w1.alloc (.cells #[.int .i64 kind, .int .i64 ch, .int .i64 n, .int .i64 v, .slice ro rlen rcap, .bool els] 25)).cell? ⟨g, k, none⟩ = some (.slice xao ll xcap) := ((Turn.refl (fun _ => False) w1).alloc _).cell id hcg
  obtain ⟨bx, hbx⟩ : ∃ b, w1.heap.size = b := ⟨_, rfl⟩
  rw [hbx] at D ⊢
  clear hbx
  generalize w1.alloc (.cells #[.int .i64 kind, .int .i64 ch, .int .i64 n, .int .i64 v, .slice ro rlen rcap, .bool els] 25) = w2 at T2 BO D hcg ⊢
  have TD := Lib.hid (Turn.refl (fun _ => False) w2).drew
  have hlt : (k : Int) < (k : Int) + 1 := by omega
  have KEEP := Lib.hid (show ∀ w', Turn (fun _ => False) w2 w' → (w'.cell? ⟨g, k, none⟩ = some (.slice xao ll xcap) ∧ w'.cell? ⟨bx, 0, none⟩ = some (.int .i64 kind) ∧ w'.cell? ⟨bx, 1, none⟩ = some (.int .i64 ch) ∧ w'.cell? ⟨bx, 2, none⟩ = some (.int .i64 n) ∧ w'.cell? ⟨bx, 3, none⟩ = some (.int .i64 v) ∧ w'.cell? ⟨bx, 4, none⟩ = some (.slice ro rlen rcap) ∧ w'.cell? ⟨bx, 5, none⟩ = some (.bool els)) from fun w' t => ⟨t.cell id hcg, (D.out.new t).cells.1⟩)
  clear hcg
  refine stand_start (by kernel_rfl) 8 (fun w' => w'.cell? ⟨g, k, none⟩ = some (.slice xao ll xcap) ∧ w'.cell? ⟨bx, 0, none⟩ = some (.int .i64 kind) ∧ w'.cell? ⟨bx, 1, none⟩ = some (.int .i64 ch) ∧ w'.cell? ⟨bx, 2, none⟩ = some (.int .i64 n) ∧ w'.cell? ⟨bx, 3, none⟩ = some (.int .i64 v) ∧ w'.cell? ⟨bx, 4, none⟩ = some (.slice ro rlen rcap) ∧ w'.cell? ⟨bx, 5, none⟩ = some (.bool els)) 99 (fun w' => True) (KEEP.out _ TD.out) trivial ?_
  generalize w2.drew = wd at TD ⊢
  refine stand_take (i := 0) (v := ?_) rfl (by kernel_rfl) (by kernel_rfl) (by kernel_rfl) (by rfl) (fun _ _ _ h => h) (by decide) (by decide) (by rfl) ?_ ?_
  rotate_left
  · (intro w; go_simp; try with_reducible rfl)
  dsimp only [List.set_cons_zero, List.set_cons_succ]
  refine stand_take (i := 1) (v := ?_) rfl (by kernel_rfl) (by kernel_rfl) (by kernel_rfl) (by rfl) (fun _ _ _ h => h) (by decide) (by decide) (by rfl) ?_ ?_
  rotate_left
  · (intro w; go_simp; try with_reducible rfl)
  dsimp only [List.set_cons_zero, List.set_cons_succ]
  refine stand_take (i := 2) (v := ?_) rfl (by kernel_rfl) (by kernel_rfl) (by kernel_rfl) (by rfl) (fun _ _ _ h => h) (by decide) (by decide) (by rfl) ?_ ?_
  rotate_left
  · (intro w; go_simp; try with_reducible rfl)
  dsimp only [List.set_cons_zero, List.set_cons_succ]
  refine stand_take (i := 3) (v := ?_) rfl (by kernel_rfl) (by kernel_rfl) (by kernel_rfl) (by rfl) (fun _ _ _ h => h) (by decide) (by decide) (by rfl) ?_ ?_
  rotate_left
  · (intro w; go_simp; try with_reducible rfl)
  dsimp only [List.set_cons_zero, List.set_cons_succ]
  refine stand_take (i := 4) (v := ?_) rfl (by kernel_rfl) (by kernel_rfl) (by kernel_rfl) (by rfl) (fun _ _ _ h => h) (by decide) (by decide) (by rfl) ?_ ?_
  rotate_left
  · (intro w; go_simp; try with_reducible rfl)
  dsimp only [List.set_cons_zero, List.set_cons_succ]
  refine stand_load1 (i := 5) (v := ?_) rfl (by kernel_rfl) (by kernel_rfl) (by kernel_rfl) (by rfl) (fun _ _ _ h => h) (by decide) (by decide) (by kernel_rfl) (by rfl) ?_ ?_
  rotate_left
  · (intro w hA; (try dsimp only at hA); go_simp; try with_reducible rfl)
  dsimp only [List.set_cons_zero, List.set_cons_succ]
  refine stand_load1 (i := 6) (v := ?_) rfl (by kernel_rfl) (by kernel_rfl) (by kernel_rfl) (by rfl) (fun _ _ _ h => h) (by decide) (by decide) (by kernel_rfl) (by rfl) ?_ ?_
  rotate_left
  · (intro w hA; (try dsimp only at hA); go_simp; try with_reducible rfl)
  dsimp only [List.set_cons_zero, List.set_cons_succ]
  refine stand_step (i := 7) (by kernel_rfl) rfl (fun K hK => ?_)
  go_simp
  have T5 := Lib.hid (TD.out.alloc (.cells #[.int .i64 kind, .int .i64 ch, .int .i64 n, .int .i64 v, .slice ro rlen rcap, .bool els] 25))
  refine hK.out _ _ (fun _ => KEEP.out _ T5.out) (fun _ => trivial) ?_
  clear hK K
  try simp only [put_laid, List.set_cons_zero, List.set_cons_succ]
  have C5 := Lib.hid (heap_alloc_new wd (.cells #[.int .i64 kind, .int .i64 ch, .int .i64 n, .int .i64 v, .slice ro rlen rcap, .bool els] 25))
  generalize wd.heap.size = ob at C5 ⊢
  generalize wd.alloc (.cells #[.int .i64 kind, .int .i64 ch, .int .i64 n, .int .i64 v, .slice ro rlen rcap, .bool els] 25) = w5 at T5 C5 ⊢
  have TW5 := Lib.hid (T2.out.trans T5.out)
  have BO5 := Lib.hid (BO.out.new T5.out)
  have P5 := Lib.hid (HP.out.new TW5.out)
  obtain ⟨R, hR1, hR2, hR3⟩ := (HX.out.new TW5.out).has
  have hR2 : w5.ownsRow base 25 6 (.slice xao ll xcap) ll (flat encOV R) := by rw [← HLL.out]; exact hR2
  have hb5 : base ≤ w5.heap.size := Nat.le_trans hb TW5.out.size
  have OW := Lib.hid hR2
  have HRR := Lib.hid (And.intro hR1 hR3)
  clear hR1 hR2 hR3
  refine stand_step (i := 8) (by kernel_rfl) rfl (fun K hK => ?_)
  refine step_append_flat_one encOV_ok (by decide) Tryd.underlying41 info_op rfl (by decide) rfl (.tmp 40) (.tmp 42) rfl base (.slice xao ll xcap) R ll rfl OW.out ob ⟨kind, ch, n, v, ⟨ro, rlen, rcap⟩, els⟩ rfl C5.out l1 HL1.out (by omega) hb5 ?_
  intro g2 gc w6 hg2 h6 t6 h6g
  have apC : Apart w5 40 (fun i => (Value.slice xao ll xcap).ownBlock = some i) := apart_own OW.out (by decide)
  have GY : Hid (GOps w6 40 25 base ⟨some ⟨g2, 0, none⟩, l1, gc⟩ (l ++ [q])) := Lib.hid ⟨by rw [List.length_append, HLL.out]; exact HL1.out.symm, R ++ [⟨kind, ch, n, v, ⟨ro, rlen, rcap⟩, els⟩], by rw [List.length_append, List.length_append, HRR.out.1]; rfl, by
    have e : (l ++ [q]).length = l1 := by rw [List.length_append, HLL.out]; exact HL1.out
    rw [e]
    exact h6.out, snoc_each HRR.out.1 (fun i r o hr ho => (HRR.out.2 i r o hr ho).apart t6.out apC) (BO5.out.apart t6.out apC)⟩
  have hxv : (⟨xao, l.length, xcap⟩ : Sl).val = .slice xao ll xcap := by unfold Sl.val; rw [HLL.out]
  have T6x : Turn (fun b => (⟨xao, l.length, xcap⟩ : Sl).val.ownBlock = some b) w5 w6 := by rw [hxv]; exact t6.out
  have GR := Lib.hid (P5.out.grown (o := q) (by decide) (by decide) (by decide) HXV.out HLV.out rfl T6x GY.out (fun b hb => by
    have e : g2 = b := by simpa [Sl.val, Value.ownBlock] using hb
    subst e
    rw [hxv]
    exact h6g.out))
  have hne : ¬ ((Value.slice xao ll xcap).ownBlock = some g) := fun e => by
    obtain ⟨cur, hc⟩ := own_type OW.out g e
    rw [TW5.out.heap id HGT.out.1] at hc
    simp at hc
  have hf6 : w6.frozen? ⟨g, k, none⟩ = false := by
    have := t6.out.heap hne (TW5.out.heap id HGT.out.1)
    simp [World.frozen?, this]
  have hc6 : w6.cell? ⟨g, k, none⟩ = some (.slice xao ll xcap) := t6.out.cell hne ((KEEP.out _ T5.out).1)
  refine hK.out _ _ (past (by kernel_rfl)) (fun _ => trivial) ?_
  clear hK K
  try simp only [put_laid, List.set_cons_zero, List.set_cons_succ]
  refine stand_take (i := 9) (v := ?_) rfl (by kernel_rfl) (by kernel_rfl) (by kernel_rfl) (by rfl) (fun _ _ _ h => h) (by decide) (by decide) (by rfl) ?_ ?_
  rotate_left
  · (intro w; go_simp; try with_reducible rfl)
  dsimp only [List.set_cons_zero, List.set_cons_succ]
  refine stand_step (i := 10) (by kernel_rfl) rfl (fun K hK => ?_)
  go_simp
  refine hK.out _ _ (past (by kernel_rfl)) (fun _ => trivial) ?_
  clear hK K
  try simp only [put_laid, List.set_cons_zero, List.set_cons_succ]
  refine stand_done (by kernel_rfl) ?_
  have GRF : Hid (PG (w6.setCell ⟨g, k, none⟩ (.slice (some ⟨g2, 0, none⟩) l1 gc)) 40 25 41 base ⟨some ⟨g, 0, none⟩, p.length, cap⟩ (V.set k ⟨some ⟨g2, 0, none⟩, l1, gc⟩) (p.set k (l ++ [q])) ∧ Turn (Mine ⟨some ⟨g, 0, none⟩, p.length, cap⟩ V) w5 (w6.setCell ⟨g, k, none⟩ (.slice (some ⟨g2, 0, none⟩) l1 gc))) := GR
  clear hf6 hc6 h6 t6 h6g apC T6x GR hne hxv
  generalize w6.setCell ⟨g, k, none⟩ (.slice (some ⟨g2, 0, none⟩) l1 gc) = w7 at GRF ⊢
  have TF := Lib.hid ((TW5.out.mono (S' := Mine ⟨some ⟨g, 0, none⟩, p.length, cap⟩ V) fun _ _ e => e.elim).trans GRF.out.2)
  have hfin : GivesA base ⟨some ⟨g, 0, none⟩, p.length, cap⟩ V w p t (.returned (.tuple #[.slice (some ⟨g, 0, none⟩) (k + 1) cap, .bool ok])) w7 := by
    have hs : (⟨some ⟨g, 0, none⟩, p.length, cap⟩ : Sl).val = .slice (some ⟨g, 0, none⟩) (k + 1) cap := by unfold Sl.val; rw [HK.out]
    rw [← hs]
    refine gives_a (V := V.set k ⟨some ⟨g2, 0, none⟩, l1, gc⟩) (q := p.set k (l ++ [q])) TF.out (fun h => ⟨?_, GRF.out.1⟩) (fun h => ?_)
    · rw [HADD.out ok HQ.out.1.symm, if_pos h, HQ.out.2 h]
    · rw [HADD.out ok HQ.out.1.symm, h]
      rfl
  have HFIN := Lib.hid hfin
  clear hfin
  go_wp2_with fail
  go_ret2
  exact HFIN.out
end Go.Proofs.YtfghabjpcjcllaaDoor
