/- The walk of PoolAll. -/
import Derived.Test.YtmjenbkhmhpleaaNew
import Derived.Deep.DeepCutAuto
namespace Go.Proofs.Ytmjenbkhmhpleaa
open Go.RowKit
set_option linter.unusedVariables false

def lenOf : Value → Nat
  | .slice _ n _ => n
  | _ => 0

/-- The things L are out, and no others. -/
structure Out (s : St) (L : List Int) : Prop where
  live : ∀ y, liveB s y = decide (y ∈ L)
  nd : L.Nodup
  cnt : cnt s = L.length
theorem Out.took {s s' : St} {L : List Int} {x : Int} (h : Out s L) (t : Took s s' x) : Out s' (L ++ [x]) := by
  have hx : x ∉ L := by
    have h1 := h.live x
    rw [t.out] at h1
    exact of_decide_eq_false h1.symm
  refine ⟨fun y => ?_, ?_, ?_⟩
  · rw [t.live y, h.live y, ← Bool.decide_or, decide_eq_decide, List.mem_append, List.mem_singleton]
  · rw [List.nodup_append]
    refine ⟨h.nd, by simp, ?_⟩
    intro a ha b hb e
    have : b = x := by simpa using hb
    exact hx (this ▸ e ▸ ha)
  · rw [t.cnt, h.cnt, List.length_append]; simp
theorem Out.held {s s' : St} {L : List Int} (h : Out s L) (t : Held s s') : Out s' L :=
  ⟨fun y => by rw [t.live y, h.live y], h.nd, by rw [t.cnt, h.cnt]⟩
theorem Out.gave {s s' : St} {L : List Int} {x : Int} (h : Out s (x :: L)) (t : Gave s s' x) : Out s' L := by
  have hn := List.nodup_cons.1 h.nd
  refine ⟨fun y => ?_, hn.2, ?_⟩
  · rw [t.live y, h.live y]
    by_cases hy : y = x
    · subst hy
      rw [decide_eq_true (rfl : y = y), Bool.not_true, Bool.and_false, decide_eq_false hn.1]
    · rw [decide_eq_false hy, Bool.not_false, Bool.and_true, decide_eq_decide, List.mem_cons]
      exact ⟨fun e => e.resolve_left hy, Or.inr⟩
  · rw [t.cnt, h.cnt]; simp
theorem take_out {s : St} (h : Good s) (hn : s.n = 1) (hb : takeB s 0 = false) : cnt s = s.size := by
  have ht : takerB s 0 = true := decide_eq_true (by omega)
  unfold takeB at hb
  rw [if_pos ht] at hb
  unfold takeN at hb
  have hf := h.fresh
  by_cases he : (pulled s (0 : Int).toNat).M (0 : Int).toNat = []
  · rw [if_pos he] at hb
    by_cases hlt : s.fresh < s.size
    · rw [if_pos hlt] at hb; cases hb
    · have he' : moveM s.M s.n 0 (pullK s 0) 0 = [] := he
      rw [move_j] at he'
      unfold shT at he'
      obtain ⟨h1, h2⟩ := List.append_eq_nil_iff.1 he'
      have h2' : ((s.M s.n).drop ((s.M s.n).length - pullK s 0)).length = 0 := by
        have := congrArg List.length h2
        simpa using this
      rw [List.length_drop] at h2'
      have hk : pullK s 0 = min (s.M s.n).length (half1 s.most) := by unfold pullK; rw [if_pos h1]
      have hh : 1 ≤ half1 s.most := by unfold half1; omega
      have hm : (s.M s.n).length = 0 := by omega
      have h0 : (s.M 0).length = 0 := by rw [h1]; rfl
      have hl : s.len = 0 := by
        unfold St.len
        rw [hn] at hm ⊢
        show 0 + (s.M 0).length + (s.M 1).length = 0
        omega
      unfold cnt
      rw [hl]
      omega
  · rw [if_neg he] at hb; cases hb

/-- What stands behind a Take that told x and b: L was out ahead of it. -/
def Pend (s : St) (n : Nat) (L : List Int) (x : Int) (b : Bool) : Prop := Good s ∧ s.n = 1 ∧ s.size = n ∧ (b = true → Out s (L ++ [x])) ∧ (b = false → Out s L ∧ L.length = n)
theorem pend_take {s : St} {n : Nat} {L : List Int} (hG : Good s) (hn : s.n = 1) (hs : s.size = n) (h : Out s L) : Pend (takeS s 0) n L (takeX s 0) (takeB s 0) := by
  obtain ⟨e1, e2, _⟩ := take_same s 0
  refine ⟨take_good hG 0, e1.trans hn, e2.trans hs, fun hb => h.took (take_true hG hb), fun hb => ⟨h.held (take_false hG hb), ?_⟩⟩
  have h1 := take_out hG hn hb
  rw [h.cnt, hs] at h1
  omega
theorem pend_next {s : St} {n : Nat} {L : List Int} {x : Int} (h : Pend s n L x true) : Pend (takeS s 0) n (L ++ [x]) (takeX s 0) (takeB s 0) := pend_take h.1 h.2.1 h.2.2.1 (h.2.2.2.1 rfl)
theorem pend_lt {s : St} {n : Nat} {L : List Int} {x : Int} (h : Pend s n L x true) : L.length < n := by
  have h1 := (h.2.2.2.1 rfl).cnt
  have h2 := h.1.fresh
  unfold cnt at h1
  rw [List.length_append] at h1
  have h3 := h.2.2.1
  simp at h1
  omega

/-- A pool, and a row of the call's own beside it. -/
structure Both (w0 wx : World) (p q : Nat) (s : St) (R : Nat → Rw) (bl : Option Addr) (nl cl : Nat) (L : List Int) : Prop where
  inn : In w0 wx p q s R
  own : wx.ownsRow w0.heap.size 3 1 (.slice bl nl cl) nl (L.map (Value.int .i64))
  far : ∀ k, (Value.slice bl nl cl).ownBlock = some k → ¬ PB p q s.n R k
section
variable {w0 wx w' : World} {p q nl cl : Nat} {s s' : St} {R : Nat → Rw} {bl : Option Addr} {L L' : List Int}
theorem Both.kept (h : Both w0 wx p q s R bl nl cl L) (hG : Good s') (hn : s'.n = s.n) (k : Kept wx w' w0.heap.size p q s.n R s') : ∃ R', Both w0 w' p q s' R' bl nl cl L := by
  obtain ⟨R', h1, t1, b1⟩ := k
  refine ⟨R', ⟨h1, hG, h.inn.t.and t1 (fun i hi e => by have := (h.inn.pool.blocks e).1; omega)⟩, own_turn h.own t1 (fun k hk e => h.far k hk e), fun k hk e => ?_⟩
  rw [hn] at e
  rcases b1 k e with e | e
  · exact h.far k hk e
  · have := (h.own.lt k hk).2; omega
theorem Both.new (h : Both w0 wx p q s R bl nl cl L) (t : Turn (fun _ => False) wx w') : Both w0 w' p q s R bl nl cl L := ⟨h.inn.new t, own_turn h.own t (fun _ _ => id), h.far⟩
theorem Both.drewN (h : Both w0 wx p q s R bl nl cl L) (k : Nat) : Both w0 (wx.drewN k) p q s R bl nl cl L := h.new ((Turn.refl _ _).drewN k)
theorem Both.grown {g n' c' : Nat} (h : Both w0 wx p q s R bl nl cl L) (ho : w'.ownsRow w0.heap.size 3 1 (.slice (some ⟨g, 0, none⟩) n' c') n' (L'.map (Value.int .i64))) (t : Turn (fun i => (Value.slice bl nl cl).ownBlock = some i) wx w')
    (b : (Value.slice bl nl cl).ownBlock = some g ∨ wx.heap.size ≤ g) : Both w0 w' p q s R (some ⟨g, 0, none⟩) n' c' L' := by
  refine ⟨⟨h.inn.pool.turn t (fun i hi e => h.far i e hi), h.inn.good, h.inn.t.and t (fun i hi e => by have := (h.own.lt i e).1; omega)⟩, ho, fun k hk e => ?_⟩
  have hk' : g = k := by rw [own_block] at hk; exact Option.some.inj hk
  subst hk'
  rcases b with b | b
  · exact h.far g b e
  · have := (h.inn.pool.blocks e).2; omega
theorem Both.len (h : Both w0 wx p q s R bl nl cl L) : L.length = nl := by have := h.own.1; simpa using this
theorem Both.ints (h : Both w0 wx p q s R bl nl cl L) : Ints .i64 wx bl L := (own_reads h.own).2.1
theorem Both.empty (h : In w0 wx p q s R) : Both w0 (wx.alloc (.cells #[] 3)) p q s R (some ⟨wx.heap.size, 0, none⟩) 0 0 [] :=
  ⟨h.new ((Turn.refl _ _).alloc _), own_empty (heap_alloc_new wx _) h.t.size, fun k hk e => by
    have hk' : wx.heap.size = k := by rw [own_block] at hk; exact Option.some.inj hk
    have := (h.pool.blocks e).2
    omega⟩
end

theorem new_at {a b c : Int} {n size most : Nat} (w : World) (ha : a = (size : Int)) (hb : b = (n : Int)) (hc : c = (most : Int)) (hn : n ≤ 8) (hs : size ≤ 64) (hm : 1 ≤ most ∧ most ≤ 16) :
    Calls Try.prog 8 #[.int .i64 a, .int .i64 b, .int .i64 c] w (NewPost n size most w) := by
  subst ha
  subst hb
  subst hc
  exact new_good w hn hs hm
theorem count_at' {base p q : Nat} {s : St} {R : Nat → Rw} {x : Int} (w : World) (h : IsPool w base p q s R) (hG : Good s) (hx : cnt s = x) :
    Calls Try.prog 12 #[.pointer (some ⟨p, 0, none⟩)] w (IsInt x w) := by
  subst hx
  exact count_any w h hG

theorem wf_u8 {x : Int} (h : (Lit.int .u8 x).wf = true) : 0 ≤ x ∧ x ≤ 255 := by
  simpa [Lit.wf, IntKind.min, IntKind.max, IntKind.signed, IntKind.bits] using h

set_option maxRecDepth 100000 in
set_option maxHeartbeats 2000000 in
theorem lall_any {a b c : Int} (w : World) (ha : 0 ≤ a ∧ a ≤ 255) (hb : 0 ≤ b ∧ b ≤ 255) (hc : 0 ≤ c ∧ c ≤ 255) :
    Calls Try.prog 6 #[.int .u8 a, .int .u8 b, .int .u8 c] w fun e w' => e = .returned (.bool true) ∧ Turn (fun _ => False) w w' := by
  obtain ⟨n, hn⟩ : ∃ n : Nat, a % 65 = (n : Int) := ⟨(a % 65).toNat, by omega⟩
  obtain ⟨m, hm⟩ : ∃ m : Nat, b % 16 = (m : Int) := ⟨(b % 16).toNat, by omega⟩
  obtain ⟨r, hr⟩ : ∃ r : Nat, c % 4 = (r : Int) := ⟨(c % 4).toNat, by omega⟩
  have hn64 : n ≤ 64 := by omega
  have hm15 : m ≤ 15 := by omega
  have hr3 : r ≤ 3 := by omega
  obtain ⟨ha1, ha2⟩ := ha
  obtain ⟨hb1, hb2⟩ := hb
  obtain ⟨hc1, hc2⟩ := hc
  go_enter Try.func6, Try.ntmps6
  go_wp2_with fail
  refine (alive_any _).mono ?_
  rintro e w1 ⟨rfl, t1⟩
  have T1 := Lib.hid t1
  clear t1
  go_wp2_with fail
  refine (new_at (n := 1) (size := n) (most := 1 + m) w1 rfl rfl (by omega) (by decide) hn64 (by omega)).mono ?_
  rintro e w2 ⟨p, q, rfl, hp, hq, h2, t2⟩
  have H2 : Hid (In w w2 p q (newS 1 n (1 + m)) R0) := Lib.hid ⟨h2.less T1.out.size, newS_good (by decide) hn64 (by omega), T1.out.trans t2⟩
  have HN := Lib.hid hn
  clear h2 t2 T1 hn hm hp hq
  go_wp2_with fail
  rw [HN.out]
  go_loopw [10] (fun i wr => ∃ (k : Nat) (s : St) (R : Nat → Rw), k ≤ 4 ∧ i = .int .i64 k ∧ Hid (In w wr p q s R) ∧ Hid (Out s [] ∧ s.n = 1 ∧ s.size = n)) (fun i _ => 5 - (intOf i).toNat)
  case atStart => exact ⟨0, _, R0, by omega, rfl, H2, Lib.hid ⟨⟨fun y => by rw [newS_live]; simp, List.nodup_nil, newS_cnt 1 n (1 + m)⟩, rfl, rfl⟩⟩
  case round =>
    clear H2
    obtain ⟨k, s, R, hk, rfl, HI, HO⟩ := hrel
    by_cases hkr : k ≤ r
    · have hk3 : k + 1 ≤ 4 := by omega
      go_wp2_with fail
      have HB0 := Lib.hid (Both.empty HI.out)
      generalize wr.heap.size = b0 at HB0 ⊢
      generalize wr.alloc (.cells #[] 3) = wa at HB0 ⊢
      refine (take_any 0 _ HB0.out.inn.pool HB0.out.inn.good).mono ?_
      rintro e w3 ⟨rfl, k3⟩
      obtain ⟨R3, h3⟩ := HB0.out.kept (take_good HB0.out.inn.good 0) (take_same _ _).1 k3
      have HB3 := Lib.hid h3
      have HP3 := Lib.hid (pend_take HI.out.good HO.out.2.1 HO.out.2.2 HO.out.1)
      clear h3 k3 HB0 HI HO
      generalize takeS s 0 = s3 at HB3 HP3
      generalize takeX s 0 = x3 at HP3 ⊢
      generalize takeB s 0 = v3 at HP3 ⊢
      go_wp2_with fail
      go_loopw [11, 12, 13] (fun l x v wr => ∃ (nl cl : Nat) (bl : Option Addr) (L : List Int) (s : St) (R : Nat → Rw) (x0 : Int) (v0 : Bool), l = .slice bl nl cl ∧ x = .int .i64 x0 ∧ v = .bool v0 ∧ nl ≤ n ∧ Hid (Both w wr p q s R bl nl cl L) ∧ Hid (Pend s n L x0 v0)) (fun l _ _ _ => n - lenOf l)
      case atStart => exact ⟨0, 0, _, [], s3, R3, x3, v3, rfl, rfl, rfl, Nat.zero_le _, HB3, HP3⟩
      case round =>
        clear HB3 HP3
        obtain ⟨nl, cl, bl, L, s, R, x0, v0, rfl, rfl, rfl, hnl, HB, HP⟩ := hrel
        cases v0 with
        | true =>
          have hlt := pend_lt HP.out
          rw [HB.out.len] at hlt
          obtain ⟨n1, hn1⟩ : ∃ n1, nl + 1 = n1 := ⟨_, rfl⟩
          have HN1 := Lib.hid hn1
          have hq1 : n1 ≤ n := by omega
          have hq2 : nl ≤ 1000000 := by omega
          have hq3 : n - n1 < n - nl := by omega
          have HPN := Lib.hid (pend_next HP.out)
          clear hn1
          go_wp2_with (at_builtin; refine wpList_append_one_n (w0 := wr) Try.underlying23 info_int (by decide) rfl (.tmp 61) (.tmp 63) rfl w.heap.size (.slice bl nl cl) L nl x0 rfl HB.out.own n1 HN1.out rfl hq2 HB.out.inn.t.size ?_; intro g4 c4 w4 hg4 h4 t4 b4; have HB4 := Lib.hid (HB.out.grown h4.out t4.out b4.out); clear h4 t4 b4 HB)
          refine (take_any 0 _ HB4.out.inn.pool HB4.out.inn.good).mono ?_
          rintro e w5 ⟨rfl, k5⟩
          obtain ⟨R5, h5⟩ := HB4.out.kept (take_good HB4.out.inn.good 0) (take_same _ _).1 k5
          have HB5 := Lib.hid h5
          clear h5 k5 HB4
          go_wp2_with fail
          go_roundw
          case rel => exact ⟨n1, c4, _, L ++ [x0], _, R5, _, _, rfl, rfl, rfl, hq1, HB5, HPN⟩
          case measure => simpa [lenOf] using hq3
        | false =>
          obtain ⟨hO, hL⟩ := HP.out.2.2.2.2 rfl
          have e1 : nl = n := HB.out.len.symm.trans hL
          subst e1
          have HO := Lib.hid hO
          have HC := Lib.hid (show cnt s = (nl : Int) by rw [hO.cnt, hL])
          have HS := Lib.hid (And.intro HP.out.2.1 HP.out.2.2.1)
          have HL := Lib.hid hL
          clear hO hL HP
          go_wp2_with fail
          refine (count_at' _ HB.out.inn.pool HB.out.inn.good HC.out).mono ?_
          rintro e w6 ⟨rfl, n6, rfl⟩
          have HB6 := Lib.hid (HB.out.drewN n6)
          clear HB
          generalize wr.drewN n6 = w6 at HB6 ⊢
          go_wp2_with fail
          go_loopw [77] (fun i wr => ∃ (j : Nat) (s : St) (R : Nat → Rw), j ≤ nl ∧ i = .int .i64 j ∧ Hid (Both w wr p q s R bl nl cl L) ∧ Hid (Out s (L.drop j) ∧ s.n = 1 ∧ s.size = nl)) (fun i _ => nl - (intOf i).toNat)
          case atStart => exact ⟨0, s, R, Nat.zero_le _, rfl, HB6, Lib.hid ⟨HO.out, HS.out.1, HS.out.2⟩⟩
          case round =>
            clear HB6 HO HC HS
            obtain ⟨j, s, R, hj, rfl, HB, HO⟩ := hrel
            by_cases hlt : j < nl
            · obtain ⟨ad, hao, hcell⟩ := HB.out.ints j (by rw [HL.out]; exact hlt)
              subst hao
              have hdrop : L.drop j = L.getD j 0 :: L.drop (j + 1) := by
                have h1 : j < L.length := by rw [HL.out]; exact hlt
                rw [List.drop_eq_getElem_cons h1]
                simp [List.getD, h1]
              generalize L.getD j 0 = x at hcell hdrop
              have hO := HO.out.1
              rw [hdrop] at hO
              have ht : takerB s 0 = true := decide_eq_true (by have := HO.out.2.1; omega)
              have hg1 : giveB s 0 x = true := by unfold giveB; rw [ht, hO.live x]; simp
              have hG1 := give_true HB.out.inn.good hg1
              have hO2 := hO.gave hG1
              have ht2 : takerB (giveS s 0 x) 0 = true := decide_eq_true (by rw [hG1.same.1]; have := HO.out.2.1; omega)
              have hg2 : giveB (giveS s 0 x) 0 x = false := by
                unfold giveB
                rw [ht2, hO2.live x, decide_eq_false (List.nodup_cons.1 hO.nd).1]
                rfl
              have HG1 := Lib.hid hg1
              have HG2 := Lib.hid hg2
              have HGG := Lib.hid hG1
              have HO2 := Lib.hid (show Out (giveS s 0 x) (L.drop (j + 1)) ∧ (giveS s 0 x).n = 1 ∧ (giveS s 0 x).size = nl from ⟨hO2, hG1.same.1.trans HO.out.2.1, hG1.same.2.1.trans HO.out.2.2⟩)
              clear hdrop hO ht hg1 hG1 hO2 ht2 hg2
              go_wp2_with fail
              refine (give_at _ HB.out.inn.pool HB.out.inn.good HG1.out).mono ?_
              rintro e w7 ⟨rfl, k7⟩
              obtain ⟨R7, h7⟩ := HB.out.kept HGG.out.good HGG.out.same.1 k7
              have HB7 := Lib.hid h7
              clear h7 k7
              go_wp2_with fail
              refine (give_at _ HB7.out.inn.pool HB7.out.inn.good HG2.out).mono ?_
              rintro e w8 ⟨rfl, k8⟩
              rw [give_false HG2.out] at k8
              obtain ⟨R8, h8⟩ := HB7.out.kept HGG.out.good rfl k8
              have HB8 := Lib.hid h8
              clear h8 k8
              go_wp2_with fail
              go_roundw
              case rel => exact ⟨j + 1, _, R8, by omega, by go_num, HB8, HO2⟩
              case measure => simp [intOf]; omega
            · have hj2 : j = nl := by omega
              have HF := Lib.hid (show Out s [] ∧ s.n = 1 ∧ s.size = nl by
                have := HO.out
                rw [hj2, List.drop_eq_nil_of_le (by rw [HL.out]; exact Nat.le_refl _)] at this
                exact this)
              clear hj2
              go_wp2_with fail
              go_roundw
              case rel => exact ⟨k + 1, s, R, hk3, by go_num, Lib.hid HB.out.inn, HF⟩
              case measure => simp [intOf]; omega
    · go_wp2_with fail
      refine (count_at' _ HI.out.pool HI.out.good HO.out.1.cnt).mono ?_
      rintro e w6 ⟨rfl, n6, rfl⟩
      go_wp2_with fail
      go_ret
      exact ⟨rfl, (HI.out.drewN n6).t⟩

end Go.Proofs.Ytmjenbkhmhpleaa
