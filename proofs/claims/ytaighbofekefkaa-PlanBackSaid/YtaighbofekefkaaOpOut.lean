/- Bytes that are written: an op's. The code's. -/
import Derived.Test.YtaighbofekefkaaBytes
namespace Go.Proofs.Ytaighbofekefkaa
open Go.RowKit
set_option linter.unusedVariables false

theorem rightO_has {o : Opr} (h : rightO o = true) : 1 ≤ o.kind ∧ o.kind ≤ 9 ∧ 0 ≤ o.ch ∧ o.ch ≤ 8 ∧ 0 ≤ o.n ∧ o.n ≤ 4 ∧ 0 ≤ o.v ∧ o.v ≤ 255 ∧ o.cases.length ≤ 6 ∧ (hasCh o.kind = true ∨ o.ch = 0) ∧ (hasV o.kind = true ∨ o.v = 0) ∧ (o.kind = 1 ∨ o.n = 0) ∧ (o.kind = 9 ∨ (o.els = false ∧ o.cases.length = 0)) ∧ o.cases.all rightC = true := by
  unfold rightO rightF at h
  rw [Bool.and_eq_true] at h
  obtain ⟨h, hc⟩ := h
  simp only [Bool.and_eq_true, Bool.or_eq_true, decide_eq_true_eq, beq_iff_eq, Bool.not_eq_true'] at h
  grind
theorem at6_of {w : World} {b : Nat} {kind ch n v : Int} {s : Value} {els : Bool} {e : TypeId} (h : w.heap[b]? = some (.cells #[.int .i64 kind, .int .i64 ch, .int .i64 n, .int .i64 v, s, .bool els] e (0, 0))) : At6 w b kind ch n v s els := by
  constructor <;> (unfold World.cell?; rw [h]; rfl)

/-- Where the walk stands: what is written, the op's box, how the row has grown. -/
structure Sa (w : World) (base : Nat) (v0 : Value) (BB : Nat) (cur : Array Value) (wc : World) (v : Value) (out : List Int) (n : Nat) : Prop where
  own : Own wc base v out
  len : out.length = n
  box : wc.heap[BB]? = some (.cells cur 29 (0, 0))
  grow : Grow v0 w v wc
section
variable {w wc w' : World} {base BB n n' g c : Nat} {v0 v v' : Value} {cur : Array Value} {out out' : List Int} {y : Int}
theorem Sa.one (h : Sa w base v0 BB cur wc v out n) (h5 : w'.ownsRow base 5 1 (.slice (some ⟨g, 0, none⟩) n' c) n' ((out ++ [y]).map (Value.int .u8))) (t5 : Turn (fun i => v.ownBlock = some i) wc w') (b5 : v.ownBlock = some g ∨ wc.heap.size ≤ g) (hn : n + 1 = n') : Sa w base v0 BB cur w' (.slice (some ⟨g, 0, none⟩) n' c) (out ++ [y]) n' :=
  ⟨Own.of h5 rfl, by rw [List.length_append, h.len, ← hn]; rfl, h.own.beside (by decide) t5 h.box, h.grow.trans ⟨t5, b5.elim (fun e => Or.inl e.symm) (fun e => Or.inr ⟨g, rfl, e⟩)⟩⟩
theorem Sa.more (h : Sa w base v0 BB cur wc v out n) (o : Own w' base v' out') (k : Grow v wc v' w') (hn : out'.length = n') : Sa w base v0 BB cur w' v' out' n' :=
  ⟨o, hn, h.own.beside (by decide) k.t h.box, h.grow.trans k⟩
theorem Sa.new (h : Sa w base v0 BB cur wc v out n) (t : Turn (fun _ => False) wc w') : Sa w base v0 BB cur w' v out n :=
  ⟨h.own.new t, h.len, t.heap id h.box, h.grow.new t⟩
theorem Sa.as (h : Sa w base v0 BB cur wc v out n) (e : out = out') : Sa w base v0 BB cur wc v out' n := e ▸ h
theorem Sa.many {k : Nat} {L : List Cas} (h : Sa w base v0 BB cur wc v out n) (hk : k ≤ 0) : Sa w base v0 BB cur wc v out n ∧ out = out ++ (L.take k).flatMap encC := ⟨h, by simp [show k = 0 by omega]⟩
theorem Sa.form (h : Sa w base v0 BB cur wc v out n) : ∃ bo c, v = .slice bo n c ∧ n ≤ c := by
  obtain ⟨bo, c, e, h1⟩ := h.own.slice
  rw [h.len] at e h1
  exact ⟨bo, c, e, h1⟩
end



set_option maxRecDepth 100000 in
set_option maxHeartbeats 2000000 in
theorem appendop_any {n c : Nat} {bo : Option Addr} {out : List Int} (w0 : World) (r : OpV) (o : Opr) (w : World) (ho : ROp w0 r o) (t0 : Turn (fun _ => False) w0 w) (h : Own w w0.heap.size (.slice bo n c) out) (hn : out.length = n) (hx : rightO o = true) (hl : n ≤ 400000) :
    Calls Try.prog 21 #[.slice bo n c, r.val] w (Adds w0.heap.size (.slice bo n c) (out ++ encO o) w) := by
  have hf := rightO_has hx
  obtain ⟨kind, ch, nn, v, ⟨ao, len, cap⟩, els⟩ := r
  obtain ⟨kind', ch', n', v', L, els'⟩ := o
  obtain ⟨e1, e2, e3, e4, e5, hcs⟩ := ho
  dsimp only at e1 e2 e3 e4 e5 hcs
  subst e1 e2 e3 e4 e5
  have hlen : L.length = len := hcs.ok.len.symm
  have HL := Lib.hid hcs.has
  have HLN := Lib.hid hlen
  dsimp only at HL hf
  rw [hlen] at hf
  obtain ⟨k1, k9, q1, q2, q3, q4, q5, q6, q7, q8, q9, q10, q11, q12⟩ := hf
  clear hcs hx hlen
  have HW := Lib.hid h
  have HN := Lib.hid hn
  have HR := Lib.hid q12
  clear h hn q12
  unfold OpV.val Sl.val
  dsimp only
  rcases (show kind = 1 ∨ kind = 9 ∨ (2 ≤ kind ∧ kind ≤ 8) by omega) with rfl | rfl | ⟨p1, p2⟩
  · have B1 : hasCh 1 = false := rfl
    have B0 : ((1 : Int) == 1) = true := rfl
    have B2 : hasV 1 = false := rfl
    have B9 : ((1 : Int) == 9) = false := rfl
    obtain ⟨rfl, hl1⟩ : els = false ∧ len = 0 := q11.resolve_left (by omega)
    have hl0 : 0 ≥ len := by omega
    clear hl1 q10 q11 q8 q9 k1 k9
    have u3 : IntKind.u8.wrap nn = nn := wrap_u8 (by omega)
    go_enter Try.func21, Try.ntmps21
    go_upto_region 1 with fail
    have A := Lib.hid (Sa.mk (w := w) (v0 := .slice bo n c) (HW.out.new ((Turn.refl (fun _ => False) w).alloc (.cells #[.int .i64 1, .int .i64 ch, .int .i64 nn, .int .i64 v, .slice ao len cap, .bool false] 29))) HN.out (heap_alloc_new w _) ((Grow.refl _ w).new ((Turn.refl (fun _ => False) w).alloc _)))
    obtain ⟨BB, hBB⟩ : ∃ b, w.heap.size = b := ⟨_, rfl⟩
    have HBB := Lib.hid hBB
    rw [hBB] at A ⊢
    generalize w.alloc (.cells #[.int .i64 1, .int .i64 ch, .int .i64 nn, .int .i64 v, .slice ao len cap, .bool false] 29) = wa at A ⊢
    clear hBB
    obtain ⟨c0, c1, c2, c3, c4, c5⟩ := at6_of A.out.box
    obtain ⟨n1, hn2⟩ : ∃ m, n + 1 = m := ⟨_, rfl⟩
    have HN2 := Lib.hid hn2
    have BN2 : n1 ≤ n + 1 := by omega
    clear hn2
    go_upto_region 2 with (at_builtin; refine wpList_append_one_n Try.underlying22 info_u8 (by decide) rfl (.tmp 7) (.tmp 12) rfl w0.heap.size _ _ n (0) rfl (A.out.own.at A.out.len) n1 HN2.out rfl (by omega) (Nat.le_trans t0.size A.out.grow.t.size) ?_; intro g N2c wN2 hg h5 t5 b5)
    have A := Lib.hid (A.out.one h5.out t5.out b5.out HN2.out)
    clear h5 t5 b5 c0 c1 c2 c3 c4 c5
    obtain ⟨c0, c1, c2, c3, c4, c5⟩ := at6_of A.out.box
    go_wp2_with fail
    refine (hasch_any _ false _ B1).mono ?_
    rintro e w8 ⟨rfl, rfl⟩
    go_wp2_with fail
    refine (hasn_any _ true _ B0).mono ?_
    rintro e w8 ⟨rfl, rfl⟩
    obtain ⟨n2, hn2⟩ : ∃ m, n1 + 1 = m := ⟨_, rfl⟩
    have HN2 := Lib.hid hn2
    have BN2 : n2 ≤ n + 2 := by omega
    clear hn2
    go_upto_region 6 with (at_builtin; refine wpList_append_one_n Try.underlying22 info_u8 (by decide) rfl (.tmp 26) (.tmp 30) rfl w0.heap.size _ _ n1 (nn) rfl (A.out.own.at A.out.len) n2 HN2.out rfl (by omega) (Nat.le_trans t0.size A.out.grow.t.size) ?_; intro g N2c wN2 hg h5 t5 b5)
    have A := Lib.hid (A.out.one h5.out t5.out b5.out HN2.out)
    clear h5 t5 b5 c0 c1 c2 c3 c4 c5
    obtain ⟨c0, c1, c2, c3, c4, c5⟩ := at6_of A.out.box
    go_wp2_with fail
    refine (hasv_any _ false _ B2).mono ?_
    rintro e w8 ⟨rfl, rfl⟩
    have HLE := Lib.hid (show L = [] from List.eq_nil_of_length_eq_zero (by have := HLN.out; omega))
    have A0 := Lib.hid (A.out.as (out' := out ++ encO (⟨1, ch, nn, v, L, false⟩ : Opr)) (by rw [HLE.out]; simp [encO, encH, B1, B2]))
    go_wp2_with fail
    go_ret
    exact ⟨_, rfl, A0.out.own, A0.out.grow⟩
  · have B1 : hasCh 9 = false := rfl
    have B0 : ((9 : Int) == 1) = false := rfl
    have B2 : hasV 9 = false := rfl
    have hl6 : len ≤ 6 := by omega
    clear q10 q11 q8 q9 k1 k9
    have u4 : IntKind.u8.wrap (len : Int) = len := wrap_u8 (by omega)
    go_enter Try.func21, Try.ntmps21
    go_upto_region 1 with fail
    have A := Lib.hid (Sa.mk (w := w) (v0 := .slice bo n c) (HW.out.new ((Turn.refl (fun _ => False) w).alloc (.cells #[.int .i64 9, .int .i64 ch, .int .i64 nn, .int .i64 v, .slice ao len cap, .bool els] 29))) HN.out (heap_alloc_new w _) ((Grow.refl _ w).new ((Turn.refl (fun _ => False) w).alloc _)))
    obtain ⟨BB, hBB⟩ : ∃ b, w.heap.size = b := ⟨_, rfl⟩
    have HBB := Lib.hid hBB
    rw [hBB] at A ⊢
    generalize w.alloc (.cells #[.int .i64 9, .int .i64 ch, .int .i64 nn, .int .i64 v, .slice ao len cap, .bool els] 29) = wa at A ⊢
    clear hBB
    obtain ⟨c0, c1, c2, c3, c4, c5⟩ := at6_of A.out.box
    obtain ⟨n1, hn2⟩ : ∃ m, n + 1 = m := ⟨_, rfl⟩
    have HN2 := Lib.hid hn2
    have BN2 : n1 ≤ n + 1 := by omega
    clear hn2
    go_upto_region 2 with (at_builtin; refine wpList_append_one_n Try.underlying22 info_u8 (by decide) rfl (.tmp 7) (.tmp 12) rfl w0.heap.size _ _ n (8) rfl (A.out.own.at A.out.len) n1 HN2.out rfl (by omega) (Nat.le_trans t0.size A.out.grow.t.size) ?_; intro g N2c wN2 hg h5 t5 b5)
    have A := Lib.hid (A.out.one h5.out t5.out b5.out HN2.out)
    clear h5 t5 b5 c0 c1 c2 c3 c4 c5
    obtain ⟨c0, c1, c2, c3, c4, c5⟩ := at6_of A.out.box
    go_wp2_with fail
    refine (hasch_any _ false _ B1).mono ?_
    rintro e w8 ⟨rfl, rfl⟩
    go_wp2_with fail
    refine (hasn_any _ false _ B0).mono ?_
    rintro e w8 ⟨rfl, rfl⟩
    go_wp2_with fail
    refine (hasv_any _ false _ B2).mono ?_
    rintro e w8 ⟨rfl, rfl⟩
    go_upto_region 9 with fail
    generalize hwx : wN2 = wx at A c0 c1 c2 c3 c4 c5 ⊢
    have TD := Lib.hid (Turn.refl (fun _ => False) wx).drew
    have KEEP := Lib.hid (show ∀ w', Turn (fun _ => False) wx w' → (w'.cell? ⟨BB, 4, none⟩ = some (.slice ao len cap) ∧ w'.cell? ⟨BB, 5, none⟩ = some (.bool els)) from fun w' t => ⟨t.cell id c4, t.cell id c5⟩)
    clear c0 c1 c2 c3 c4 c5 hwx
    refine stand_start (by kernel_rfl) 9 (fun w' => w'.cell? ⟨BB, 4, none⟩ = some (.slice ao len cap) ∧ w'.cell? ⟨BB, 5, none⟩ = some (.bool els)) 99 (fun w' => True) (KEEP.out _ TD.out) trivial ?_
    refine stand_take (i := 0) (v := ?_) rfl (by kernel_rfl) (by kernel_rfl) (by kernel_rfl) (by rfl) (fun _ _ _ h => h) (by decide) (by decide) (by rfl) ?_ ?_
    rotate_left
    · (intro w; go_simp; try with_reducible rfl)
    dsimp only [List.set_cons_zero, List.set_cons_succ]
    refine stand_take (i := 1) (v := ?_) rfl (by kernel_rfl) (by kernel_rfl) (by kernel_rfl) (by rfl) (fun _ _ _ h => h) (by decide) (by decide) (by rfl) ?_ ?_
    rotate_left
    · (intro w; go_simp; try with_reducible rfl)
    dsimp only [List.set_cons_zero, List.set_cons_succ]
    refine stand_load1 (i := 2) (v := ?_) rfl (by kernel_rfl) (by kernel_rfl) (by kernel_rfl) (by rfl) (fun _ _ _ h => h) (by decide) (by decide) (by kernel_rfl) (by rfl) ?_ ?_
    rotate_left
    · (intro w hA; (try dsimp only at hA); go_simp; try with_reducible rfl)
    dsimp only [List.set_cons_zero, List.set_cons_succ]
    refine stand_take (i := 3) (v := ?_) rfl (by kernel_rfl) (by kernel_rfl) (by kernel_rfl) (by rfl) (fun _ _ _ h => h) (by decide) (by decide) (by rfl) ?_ ?_
    rotate_left
    · (intro w; go_simp; try with_reducible rfl)
    dsimp only [List.set_cons_zero, List.set_cons_succ]
    refine stand_take (i := 4) (v := ?_) rfl (by kernel_rfl) (by kernel_rfl) (by kernel_rfl) (by rfl) (fun _ _ _ h => h) (by decide) (by decide) (by rfl) ?_ ?_
    rotate_left
    · (intro w; go_simp; try with_reducible rfl)
    dsimp only [List.set_cons_zero, List.set_cons_succ]
    refine stand_take (i := 5) (v := ?_) rfl (by kernel_rfl) (by kernel_rfl) (by kernel_rfl) (by rfl) (fun _ _ _ h => h) (by decide) (by decide) (by rfl) ?_ ?_
    rotate_left
    · (intro w; go_simp; try with_reducible rfl)
    dsimp only [List.set_cons_zero, List.set_cons_succ]
    refine stand_load1 (i := 6) (v := ?_) rfl (by kernel_rfl) (by kernel_rfl) (by kernel_rfl) (by rfl) (fun _ _ _ h => h) (by decide) (by decide) (by kernel_rfl) (by rfl) ?_ ?_
    rotate_left
    · (intro w hA; (try dsimp only at hA); go_simp; try with_reducible rfl)
    dsimp only [List.set_cons_zero, List.set_cons_succ]
    refine stand_step (i := 7) (by kernel_rfl) rfl (fun K hK => ?_)
    go_simp
    refine (odd_any _ _).mono ?_
    rintro e w4 ⟨rfl, rfl⟩
    refine hK.out _ _ (fun _ => KEEP.out _ TD.out) (fun _ => trivial) ?_
    clear hK K
    try simp only [put_laid, List.set_cons_zero, List.set_cons_succ]
    refine stand_step (i := 8) (by kernel_rfl) rfl (fun K hK => ?_)
    go_simp
    have TE := Lib.hid (((Turn.refl (fun _ => False) wx).alloc (.cells #[.int .u8 (len : Int), .int .u8 (flagI els)] 5)).drew)
    refine hK.out _ _ (fun _ => KEEP.out _ TE.out) (fun _ => trivial) ?_
    clear hK K
    try simp only [put_laid, List.set_cons_zero, List.set_cons_succ]
    have HB2 := Lib.hid (two_ints (show (wx.alloc (.cells #[.int .u8 (len : Int), .int .u8 (flagI els)] 5)).drew.heap[wx.heap.size]? = _ from heap_alloc_new wx (.cells #[.int .u8 (len : Int), .int .u8 (flagI els)] 5)))
    have A2 := Lib.hid (A.out.new TE.out)
    generalize (wx.alloc (.cells #[.int .u8 (len : Int), .int .u8 (flagI els)] 5)).drew = w2 at TE HB2 A2 ⊢
    refine stand_step (i := 9) (by kernel_rfl) rfl (fun K hK => ?_)
    refine step_append_ints Try.underlying22 info_u8 (by decide) rfl (.tmp 44) (.tmp 52) rfl w0.heap.size _ _ n1 rfl (A2.out.own.at A2.out.len) ⟨_, 0, none⟩ [(len : Int), flagI els] 2 2 rfl rfl HB2.out (by omega) (Nat.le_trans t0.size A2.out.grow.t.size) ?_
    intro v3 w3 h3 t3 b3
    obtain ⟨n3, hn3⟩ : ∃ n3, n1 + 2 = n3 := ⟨_, rfl⟩
    have A3 := Lib.hid (A2.out.more (n' := n3) (Own.of h3.out rfl) (Grow.mk t3.out (b3.out.imp id (fun e => ⟨_, e, Nat.le_refl _⟩))) (by rw [List.length_append, A2.out.len]; exact hn3))
    refine hK.out _ _ (past (by kernel_rfl)) (fun _ => trivial) ?_
    clear hK K
    try simp only [put_laid, List.set_cons_zero, List.set_cons_succ]
    clear h3 t3 b3
    refine stand_take (i := 10) (v := ?_) rfl (by kernel_rfl) (by kernel_rfl) (by kernel_rfl) (by rfl) (fun _ _ _ h => h) (by decide) (by decide) (by rfl) ?_ ?_
    rotate_left
    · (intro w; go_simp; try with_reducible rfl)
    dsimp only [List.set_cons_zero, List.set_cons_succ]
    refine stand_done (by kernel_rfl) ?_
    obtain ⟨b3, c3', rfl, _⟩ := A3.out.form
    have A := Lib.hid (A3.out.as (out' := out ++ encH ⟨9, ch, nn, v, L, els⟩) (by simp [encH, B1, B2, HLN.out]))
    obtain ⟨c0, c1, c2, c3, c4, c5⟩ := at6_of A.out.box
    have A0 := Lib.hid (A.out.many (L := L) (Nat.zero_le 0))
    go_upto_region 11 with fail
    clear c0 c1 c2 c3 c4 c5 A
    go_loopw [0, 57] (fun s0 s57 wr => ∃ (i m cR : Nat) (bR : Option Addr) (outR : List Int), i ≤ len ∧ s57 = .int .i64 i ∧ s0 = .slice bR m cR ∧ m ≤ n + 5 + 3 * i ∧ Hid (Sa w w0.heap.size (.slice bo n c) BB #[.int .i64 9, .int .i64 ch, .int .i64 nn, .int .i64 v, .slice ao len cap, .bool els] wr (.slice bR m cR) outR m) ∧ Hid (outR = out ++ encH (⟨9, ch, nn, v, L, els⟩ : Opr) ++ (L.take i).flatMap encC)) (fun _ s57 _ => len - (intOf s57).toNat)
    case atStart => exact ⟨0, _, _, _, _, Nat.zero_le _, rfl, rfl, by omega, Lib.hid A0.out.1, Lib.hid A0.out.2⟩
    case round =>
      clear A0
      obtain ⟨i, m, cR, bR, outR, hi, rfl, rfl, hmb, A, HO⟩ := hrel
      by_cases hlt : i < len
      · obtain ⟨x, hx⟩ : ∃ x, L[i]? = some x := ⟨_, List.getElem?_eq_getElem (by rw [HLN.out]; exact hlt)⟩
        have TS := Lib.hid (A.out.grow.kept t0 (fun j e => (HW.out.lt j e).1))
        obtain ⟨a, rfl, hc⟩ := (HL.out.new TS.out) i x hx
        obtain ⟨d0, d1, d2⟩ := cells3 hc
        have HX := Lib.hid hx
        have HXR := Lib.hid (List.all_eq_true.1 HR.out x (List.mem_of_getElem? hx))
        clear hx hc
        go_wp2_with fail
        have AN := Lib.hid (A.out.new ((Turn.refl (fun _ => False) wr).alloc (.cells #[.bool x.send, .int .i64 x.ch, .int .i64 x.v] 45)))
        refine (appendcase_any x _ AN.out.own AN.out.len HXR.out (by omega) (Nat.le_trans t0.size AN.out.grow.t.size)).mono ?_
        rintro e w5 ⟨v5, rfl, o5, g5⟩
        obtain ⟨m5, hm5⟩ : ∃ m5, (outR ++ encC x).length = m5 := ⟨_, rfl⟩
        have A5 := Lib.hid (AN.out.more o5 g5 hm5)
        have hb5 : m5 ≤ m + 3 := by
          rw [← hm5, List.length_append, A.out.len]
          have : (encC x).length ≤ 3 := by unfold encC; split <;> simp
          omega
        have HO5 := Lib.hid (show outR ++ encC x = out ++ encH (⟨9, ch, nn, v, L, els⟩ : Opr) ++ (L.take (i + 1)).flatMap encC by
          rw [HO.out, List.take_add_one, HX.out]
          simp)
        clear o5 g5 hm5 d0 d1 d2 AN
        obtain ⟨b5, c5, rfl, _⟩ := A5.out.form
        go_wp2_with fail
        go_roundw
        case rel => exact ⟨i + 1, m5, c5, b5, _, by omega, by go_num, rfl, by omega, A5, HO5⟩
        case measure => simp [intOf]; omega
      · have hin : i = len := by omega
        have HE := Lib.hid (show outR = out ++ encO (⟨9, ch, nn, v, L, els⟩ : Opr) by
          rw [HO.out, hin, ← HLN.out, List.take_length]
          simp [encO])
        clear hin
        go_wp2_with fail
        go_ret
        exact ⟨_, rfl, HE.out ▸ A.out.own, A.out.grow⟩
  · have B1 : hasCh kind = true := by simp [hasCh, p1, p2]
    have B0 : (kind == 1) = false := by simp; omega
    have B9 : (kind == 9) = false := by simp; omega
    obtain ⟨rfl⟩ : nn = 0 := by omega
    obtain ⟨rfl, hl1⟩ : els = false ∧ len = 0 := q11.resolve_left (by omega)
    have hl0 : 0 ≥ len := by omega
    clear hl1 q10 q11 q8 q9
    have u1 : IntKind.u8.wrap (kind - 1) = kind - 1 := wrap_u8 (by omega)
    have u2 : IntKind.u8.wrap ch = ch := wrap_u8 (by omega)
    have u3 : IntKind.u8.wrap v = v := wrap_u8 (by omega)
    go_enter Try.func21, Try.ntmps21
    go_upto_region 1 with fail
    have A := Lib.hid (Sa.mk (w := w) (v0 := .slice bo n c) (HW.out.new ((Turn.refl (fun _ => False) w).alloc (.cells #[.int .i64 kind, .int .i64 ch, .int .i64 0, .int .i64 v, .slice ao len cap, .bool false] 29))) HN.out (heap_alloc_new w _) ((Grow.refl _ w).new ((Turn.refl (fun _ => False) w).alloc _)))
    obtain ⟨BB, hBB⟩ : ∃ b, w.heap.size = b := ⟨_, rfl⟩
    have HBB := Lib.hid hBB
    rw [hBB] at A ⊢
    generalize w.alloc (.cells #[.int .i64 kind, .int .i64 ch, .int .i64 0, .int .i64 v, .slice ao len cap, .bool false] 29) = wa at A ⊢
    clear hBB
    obtain ⟨c0, c1, c2, c3, c4, c5⟩ := at6_of A.out.box
    obtain ⟨n1, hn2⟩ : ∃ m, n + 1 = m := ⟨_, rfl⟩
    have HN2 := Lib.hid hn2
    have BN2 : n1 ≤ n + 1 := by omega
    clear hn2
    go_upto_region 2 with (at_builtin; refine wpList_append_one_n Try.underlying22 info_u8 (by decide) rfl (.tmp 7) (.tmp 12) rfl w0.heap.size _ _ n (kind-1) rfl (A.out.own.at A.out.len) n1 HN2.out rfl (by omega) (Nat.le_trans t0.size A.out.grow.t.size) ?_; intro g N2c wN2 hg h5 t5 b5)
    have A := Lib.hid (A.out.one h5.out t5.out b5.out HN2.out)
    clear h5 t5 b5 c0 c1 c2 c3 c4 c5
    obtain ⟨c0, c1, c2, c3, c4, c5⟩ := at6_of A.out.box
    go_wp2_with fail
    refine (hasch_any _ true _ B1).mono ?_
    rintro e w8 ⟨rfl, rfl⟩
    obtain ⟨n2, hn2⟩ : ∃ m, n1 + 1 = m := ⟨_, rfl⟩
    have HN2 := Lib.hid hn2
    have BN2 : n2 ≤ n + 2 := by omega
    clear hn2
    go_upto_region 4 with (at_builtin; refine wpList_append_one_n Try.underlying22 info_u8 (by decide) rfl (.tmp 17) (.tmp 21) rfl w0.heap.size _ _ n1 (ch) rfl (A.out.own.at A.out.len) n2 HN2.out rfl (by omega) (Nat.le_trans t0.size A.out.grow.t.size) ?_; intro g N2c wN2 hg h5 t5 b5)
    have A := Lib.hid (A.out.one h5.out t5.out b5.out HN2.out)
    clear h5 t5 b5 c0 c1 c2 c3 c4 c5
    obtain ⟨c0, c1, c2, c3, c4, c5⟩ := at6_of A.out.box
    go_wp2_with fail
    refine (hasn_any _ false _ B0).mono ?_
    rintro e w8 ⟨rfl, rfl⟩
    obtain ⟨bv, B2⟩ : ∃ b, hasV kind = b := ⟨_, rfl⟩
    cases bv
    · go_wp2_with fail
      refine (hasv_any _ false _ B2).mono ?_
      rintro e w8 ⟨rfl, rfl⟩
      have HLE := Lib.hid (show L = [] from List.eq_nil_of_length_eq_zero (by have := HLN.out; omega))
      have A0 := Lib.hid (A.out.as (out' := out ++ encO (⟨kind, ch, 0, v, L, false⟩ : Opr)) (by rw [HLE.out]; simp [encO, encH, B1, B0, B2, B9]))
      go_wp2_with fail
      go_ret
      exact ⟨_, rfl, A0.out.own, A0.out.grow⟩
    · go_wp2_with fail
      refine (hasv_any _ true _ B2).mono ?_
      rintro e w8 ⟨rfl, rfl⟩
      obtain ⟨n3, hn2⟩ : ∃ m, n2 + 1 = m := ⟨_, rfl⟩
      have HN2 := Lib.hid hn2
      have BN2 : n3 ≤ n + 3 := by omega
      clear hn2
      go_upto_region 8 with (at_builtin; refine wpList_append_one_n Try.underlying22 info_u8 (by decide) rfl (.tmp 35) (.tmp 39) rfl w0.heap.size _ _ n2 (v) rfl (A.out.own.at A.out.len) n3 HN2.out rfl (by omega) (Nat.le_trans t0.size A.out.grow.t.size) ?_; intro g N2c wN2 hg h5 t5 b5)
      have A := Lib.hid (A.out.one h5.out t5.out b5.out HN2.out)
      clear h5 t5 b5 c0 c1 c2 c3 c4 c5
      obtain ⟨c0, c1, c2, c3, c4, c5⟩ := at6_of A.out.box
      have HLE := Lib.hid (show L = [] from List.eq_nil_of_length_eq_zero (by have := HLN.out; omega))
      have A0 := Lib.hid (A.out.as (out' := out ++ encO (⟨kind, ch, 0, v, L, false⟩ : Opr)) (by rw [HLE.out]; simp [encO, encH, B1, B0, B2, B9]))
      go_wp2_with fail
      go_ret
      exact ⟨_, rfl, A0.out.own, A0.out.grow⟩

end Go.Proofs.Ytaighbofekefkaa
