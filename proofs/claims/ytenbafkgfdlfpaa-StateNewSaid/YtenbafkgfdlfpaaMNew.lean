/- Texts put together: KNew, KMake, KNewL, KNewG, KNewAny, KAlive, KLaw. -/
import Derived.Test.YtenbafkgfdlfpaaMNewP
import Derived.Test.YtenbafkgfdlfpaaKCan
import Derived.Test.YtenbafkgfdlfpaaKCRight
import Derived.Test.YtenbafkgfdlfpaaKOf
import Derived.Test.YtenbafkgfdlfpaaGRace
import Derived.Test.YtenbafkgfdlfpaaGMake
import Derived.Test.YtenbafkgfdlfpaaGFlat
import Derived.Test.YtenbafkgfdlfpaaMStep
import Derived.Test.YtenbafkgfdlfpaaKState
import Derived.Test.YtenbafkgfdlfpaaKNewD
import Derived.Test.YtenbafkgfdlfpaaMSame
/- The code's New. -/
namespace Go.Proofs.Ytenbafkgfdlfpaa
open Go.RowKit
set_option linter.unusedVariables false

/-- What the code's New gives. -/
def CodeNew (p : List (List Opr)) (su ca : Int) (dr : List Int) (w : World) (e : Ending) (w' : World) : Prop :=
  Turn (fun _ => False) w w' ∧ (rightP p = false → e = .returned (.tuple #[.pointer none, .int .i64 3])) ∧ (rightP p = true → R5.C5.canB su p.length ca = false → e = .returned (.tuple #[.pointer none, .int .i64 1])) ∧
    (rightP p = true → R5.C5.canB su p.length ca = true → ∃ base y tag, e = .returned (.tuple #[ptr y.p, .int .i64 0]) ∧ IsW base tag w' y ∧ y.st = newS p su ca dr ∧ (y.G.length = p.length ∧ y.B.length = p.length))

set_option maxRecDepth 100000 in
set_option maxHeartbeats 8000000 in
theorem new_bad {s ds : Sl} {p : List (List Opr)} {n : Nat} {su ca : Int} {dr : List Int} (w : World) (hP : RPlan w s p) (hn : p.length = n) (hm : WideP p) (hn8 : rightP p = true → n ≤ 8) (hb : rightP p = false ∨ R5.C5.canB su n ca = false) :
    Calls Try.prog 5 #[.slice s.ao n s.cap, .agg #[.int .i64 su, .int .i64 ca], .slice ds.ao ds.len ds.cap] w (CodeNew p su ca dr w) := by
  have HP := Lib.hid hP
  have HN := Lib.hid hn
  have HM := Lib.hid hm
  have HN8 := Lib.hid hn8
  have HB := Lib.hid hb
  clear hP hn hm hn8 hb
  go_enter Try.func5, Try.ntmps5
  go_upto_region 1 with fail
  refine at_world (φ := fun w' => Hid (Boxes w w' [(w.heap.size, 24, [.int .i64 su, .int .i64 ca])])) (Lib.hid (boxes1 w 24 [.int .i64 su, .int .i64 ca])) ?_
  intro w1 B1
  generalize hb4 : w.heap.size = b4 at B1 ⊢
  cases hrp : rightP p with
  | false =>
    have HRP := Lib.hid hrp
    clear hrp
    go_wp2_with fail
    refine (right_any false w1 (HP.out.new B1.out.t) HN.out HM.out HRP.out).mono ?_
    rintro e w2 ⟨rfl, t2⟩
    have T2 := Lib.hid (B1.out.t.trans t2)
    clear t2 B1
    go_wp2_with fail
    go_ret2
    exact ⟨T2.out, fun _ => rfl, fun e => absurd (HRP.out.symm.trans e) (by decide), fun e => absurd (HRP.out.symm.trans e) (by decide)⟩
  | true =>
    have HRP := Lib.hid hrp
    have hnn := HN8.out hrp
    clear hrp
    go_wp2_with fail
    refine (right_any true w1 (HP.out.new B1.out.t) HN.out HM.out HRP.out).mono ?_
    rintro e w2 ⟨rfl, t2⟩
    have B2 := Lib.hid (B1.out.new t2)
    clear t2 B1
    have hcb : R5.C5.canB su n ca = false := by
      rcases HB.out with h | h
      · exact absurd (HRP.out.symm.trans h) (by decide)
      · exact h
    have HCB := Lib.hid hcb
    have hcan : su < 0 ∨ 64 < su ∨ ca < 1 ∨ 16 < ca := by
      unfold R5.C5.canB at hcb
      have := of_decide_eq_false hcb
      omega
    clear hcb
    have F0 := B2.out.f 0 rfl
    by_cases h1 : su < 0
    · go_wp2_with fail
      go_ret2
      exact ⟨B2.out.t, fun e => absurd (HRP.out.symm.trans e) (by decide), fun _ _ => rfl, fun _ e => by rw [HN.out] at e; exact absurd (HCB.out.symm.trans e) (by decide)⟩
    by_cases h2 : 64 < su
    · go_wp2_with fail
      go_ret2
      exact ⟨B2.out.t, fun e => absurd (HRP.out.symm.trans e) (by decide), fun _ _ => rfl, fun _ e => by rw [HN.out] at e; exact absurd (HCB.out.symm.trans e) (by decide)⟩
    by_cases h3 : ca < 1
    · go_wp2_with fail
      go_ret2
      exact ⟨B2.out.t, fun e => absurd (HRP.out.symm.trans e) (by decide), fun _ _ => rfl, fun _ e => by rw [HN.out] at e; exact absurd (HCB.out.symm.trans e) (by decide)⟩
    have h4 : 16 < ca := by omega
    go_wp2_with fail
    go_ret2
    exact ⟨B2.out.t, fun e => absurd (HRP.out.symm.trans e) (by decide), fun _ _ => rfl, fun _ e => by rw [HN.out] at e; exact absurd (HCB.out.symm.trans e) (by decide)⟩

end Go.Proofs.Ytenbafkgfdlfpaa
/- A slice that is made, as an operation of a race. -/
namespace Go.Proofs.Ytenbafkgfdlfpaa
open Go.RowKit
set_option linter.unusedVariables false

theorem exec_make {P : Program} {z : Value} {t e : TypeId} {size by_ : Nat} (ht : P.underlying t = some (.slice e)) (hinfo : (P.info? e).map (fun i => (i.zero, i.size, i.bytes)) = some (some z, size, by_)) (hby : by_ ≤ 100)
    {o : Oper} {ev : Operand → Value} (l c : Operand) (hop : o.op = Op.makeSlice t l c) (n : Nat) (hl : ev l = .int .i64 n) (hc : ev c = .int .i64 n) (hn : n ≤ 1000000) (w : World) :
    ∃ w', (execOp ev o).run P w = .ok (.value (.slice (some ⟨w.heap.size, 0, none⟩) n n)) w' ∧ w'.ownsRow w.heap.size e size (.slice (some ⟨w.heap.size, 0, none⟩) n n) n (madeCells z.cells (n * size)).toList ∧ Turn (fun _ => False) w w' := by
  obtain ⟨i0, hi, hz0, hz1, hz2⟩ := info_parts hinfo
  have hb : i0.bytes * n ≤ 100 * 1000000 := Nat.mul_le_mul (by omega) hn
  obtain ⟨w', hrun, r1, r2⟩ := run_make_full (P := P) w w.heap.size t e i0 z size ht hi hz0 hz1 .i64 .i64 n (by omega) (by unfold maxLen; omega) (Nat.le_refl _)
  refine ⟨w', ?_, r1, (Turn.refl _ _).grown r2 (by simp)⟩
  simp [execOp, hop, hl, hc, hrun]

theorem made_flat_of {α : Type} {enc : α → List Value} {size : Nat} (he : Enc enc size) (hs : 0 < size) {z : Array Value} {x : α} (hz : z.toList = enc x) (n : Nat) : (madeCells z (n * size)).toList = flat enc (List.replicate n x) := by
  have hzs : z.size = size := by
    have := congrArg List.length hz
    rw [he.len] at this
    simpa using this
  apply List.ext_getElem?
  intro k
  by_cases hk : k < n * size
  · have hq : k / size < n := (Nat.div_lt_iff_lt_mul hs).2 hk
    have hr : k % size < size := Nat.mod_lt _ hs
    have e : k / size * size + k % size = k := by have := Nat.div_add_mod k size; rw [Nat.mul_comm] at this; exact this
    have h2 := flat_get he (L := List.replicate n x) (j := k / size) (i := k % size) (x := x) (by simp [hq]) hr
    rw [e] at h2
    rw [h2, ← hz, Array.getElem?_toList, Array.getElem?_toList]
    simp [madeCells, hk, hzs, hr]
  · have h1 : (flat enc (List.replicate n x)).length = n * size := by rw [flat_length he, List.length_replicate]
    rw [List.getElem?_eq_none (l := flat enc (List.replicate n x)) (by rw [h1]; omega)]
    simp [madeCells, hk]

end Go.Proofs.Ytenbafkgfdlfpaa
/- What the code's New builds: the box of a state that grows, and its three rows. -/
namespace Go.Proofs.Ytenbafkgfdlfpaa
open Go.RowKit
set_option linter.unusedVariables false

def zg (l : List Opr) : Gr := ⟨l, 0, 0, 0, false, 0, false, 0, 0, 0, 0, 0, 0, 0, 0, ⟨0, 0, 0, false, 0⟩, [], [], [], [], 0⟩
theorem clear_zg (l : List Opr) : clearG (zg l) = freshG l 0 := rfl

/-! ### Facts on lists -/
theorem rightL_has' {l : List Opr} (h : rightL l = true) : l.all rightO = true ∧ l.length ≤ 16 := by
  unfold rightL at h
  simp only [Bool.and_eq_true, decide_eq_true_eq] at h
  exact h
theorem rightO_cases {o : Opr} (h : rightO o = true) : o.cases.length ≤ 6 := by
  rw [rightO_code] at h
  simp only [Bool.and_eq_true, decide_eq_true_eq] at h
  exact h.1.2
theorem rightP_has {p : List (List Opr)} (h : rightP p = true) : p.all rightL = true ∧ 1 ≤ p.length ∧ p.length ≤ 8 := by
  unfold rightP at h
  simp only [Bool.and_eq_true, decide_eq_true_eq] at h
  exact ⟨h.1.1, h.1.2, h.2⟩
theorem rightP_mild {p : List (List Opr)} (h : rightP p = true) : MildP p := by
  obtain ⟨h1, h2, h3⟩ := rightP_has h
  refine ⟨by omega, fun l hl => ?_⟩
  obtain ⟨h4, h5⟩ := rightL_has' (List.all_eq_true.1 h1 l hl)
  refine ⟨by omega, fun o ho => ?_⟩
  have := rightO_cases (List.all_eq_true.1 h4 o ho)
  omega
theorem tot_nil (v : Int) : ∀ n, R5.tot (fun _ => []) v n = 0
  | 0 => rfl
  | n + 1 => by
    show R5.tot (fun _ => []) v n + _ = 0
    rw [tot_nil v n]
    rfl
theorem good_new {n m c : Nat} (hn : n ≤ 8) (hm : m ≤ 64) (hc : 1 ≤ c ∧ c ≤ 16) : R5.Good ⟨n, m, c, 0, fun _ => []⟩ :=
  ⟨hn, hm, hc, Nat.zero_le _, fun i _ => Nat.zero_le _, fun v => by
    show R5.tot (fun _ => []) v (n + 1) ≤ 1
    rw [tot_nil]; omega, fun v hv => by
    have h : 0 < R5.tot (fun _ => []) v (n + 1) := hv
    rw [tot_nil] at h; omega⟩
theorem tame_new {p : List (List Opr)} (h : rightP p = true) : ∀ g ∈ p.map (fun ops => freshG ops 0), Tame g := by
  intro g hg
  obtain ⟨l, hl, rfl⟩ := List.mem_map.1 hg
  exact ⟨(rightP_mild h).2 l hl, Nat.zero_le _, Nat.zero_le _, Nat.zero_le _, Nat.zero_le _⟩
theorem new_ofok {p : List (List Opr)} {n m c : Nat} {dr : List Int} (hn : p.length = n) (hr : rightP p = true) (hm : m ≤ 64) (hc : 1 ≤ c ∧ c ≤ 16) (hd : dr.length ≤ 300 ∧ ∀ x ∈ dr, 0 ≤ x ∧ x ≤ 65535) : OfOk (newS p (m : Int) (c : Int) dr) n := by
  have h8 := (rightP_has hr).2.2
  refine ⟨?_, by omega, hn, good_new (by omega) hm hc, rfl, tame_new hr, ?_, ?_, Nat.zero_le _, hd, ⟨by show (0 : Int) ≤ 0; omega, Int.natCast_nonneg _⟩⟩
  · show (p.map _).length = n
    rw [List.length_map, hn]
  · intro g hg
    obtain ⟨l, hl, rfl⟩ := List.mem_map.1 hg
    exact ⟨by show (0 : Int) ≤ 0; omega, by show (0 : Int) ≤ 2; omega⟩
  · show (List.replicate m sd0).length ≤ 1000
    rw [List.length_replicate]; omega
/-- The world of such a state can be told. -/
theorem new_wok {p : List (List Opr)} {n m c : Nat} {dr : List Int} {y : WV} (hn : p.length = n) (hr : rightP p = true) (hm : m ≤ 64) (hc : 1 ≤ c ∧ c ≤ 16) (hy : y.st = newS p (m : Int) (c : Int) dr) (hg : y.G.length = n) (hb : y.B.length = n) : WOk y n := by
  have h8 := (rightP_has hr).2.2
  have e1 : y.pl = ⟨p.length, m, c, 0, fun _ => []⟩ := congrArg St.pool hy
  have e2 : List.zipWith merge y.G y.B = p.map (fun ops => freshG ops 0) := congrArg St.gs hy
  have e3 : y.S = List.replicate m sd0 := congrArg St.sudogs hy
  have e4 : y.dl = [] := congrArg St.done hy
  refine ⟨hg, hb, by rw [e1]; exact hn, by omega, by rw [e1]; exact good_new (by omega) hm hc, fun z hz => ?_, by rw [e3, List.length_replicate]; omega, by rw [e4]; exact Nat.zero_le _⟩
  obtain ⟨k, hk⟩ := List.getElem?_of_mem hz
  have hkl := (List.getElem?_eq_some_iff.1 hk).1
  obtain ⟨b, hb'⟩ : ∃ b, y.B[k]? = some b := ⟨_, List.getElem?_eq_getElem (by omega)⟩
  have hmm : (List.zipWith merge y.G y.B)[k]? = some (merge z b) := by rw [List.getElem?_zipWith, hk, hb']
  have hmem := List.mem_of_getElem? hmm
  rw [e2] at hmem
  have h := tame_new hr _ hmem
  exact ⟨h.ops, h.order, h.locks, h.sgs, h.wakes⟩

/-- The box, the rows. -/
structure CN (w0 : World) (b8 : Nat) (k8 : List Value) (gs : Sl) (X : List GV) (cs sd : Sl) (n m : Nat) (w : World) : Prop where
  bx : Boxes w0 w [(b8, 41, k8)]
  og : w.ownsRow w0.heap.size 50 25 gs.val gs.len (flat GV.cs X)
  oc : w.ownsRow w0.heap.size 38 1 cs.val n (flat IV.cs (List.replicate n ⟨[], zSl⟩))
  os : w.ownsRow w0.heap.size 57 7 sd.val m (flat Sd.cs (List.replicate m sd0))
  cl : cs.len = n
  sl : sd.len = m
  ng : ∀ k, gs.val.ownBlock = some k → k ≠ b8 ∧ cs.val.ownBlock ≠ some k ∧ sd.val.ownBlock ≠ some k
  nc : ∀ k, cs.val.ownBlock = some k → k ≠ b8
  ns : ∀ k, sd.val.ownBlock = some k → k ≠ b8
section
variable {w0 w w4 w5 : World} {b8 : Nat} {k8 : List Value} {gs cs sd : Sl} {X : List GV} {n m : Nat}
theorem CN.new (h : CN w0 b8 k8 gs X cs sd n m w) (t : Turn (fun _ => False) w w4) : CN w0 b8 k8 gs X cs sd n m w4 :=
  ⟨h.bx.new t, own_turn h.og t (fun _ _ => id), own_turn h.oc t (fun _ _ => id), own_turn h.os t (fun _ _ => id), h.cl, h.sl, h.ng, h.nc, h.ns⟩
theorem CN.put (h : CN w0 b8 k8 gs X cs sd n m w) (k : Nat) (u : Value) : CN w0 b8 (k8.set k u) gs X cs sd n m (w.setCell ⟨b8, k, none⟩ u) := by
  have t := set_turn w b8 k u
  exact ⟨h.bx.put 0 rfl k u, own_turn h.og t (fun k hk e => (h.ng k hk).1 e), own_turn h.oc t (fun k hk e => h.nc k hk e), own_turn h.os t (fun k hk e => h.ns k hk e), h.cl, h.sl, h.ng, h.nc, h.ns⟩
theorem CN.grow (h : CN w0 b8 k8 gs X cs sd n m w) {g l c : Nat} {L' : List GV} (own : w5.ownsRow w0.heap.size 50 25 (.slice (some ⟨g, 0, none⟩) l c) l (flat GV.cs L')) (t : Turn (fun i => gs.val.ownBlock = some i) w w5) (hg : gs.val.ownBlock = some g ∨ w.heap.size ≤ g) : CN w0 b8 k8 ⟨some ⟨g, 0, none⟩, l, c⟩ L' cs sd n m w5 := by
  refine ⟨⟨h.bx.t.and t (fun i hi e => by have := (h.og.lt i e).1; omega), h.bx.low, h.bx.one, fun x hx => (h.bx.blk x hx).turn t (fun e => ?_)⟩, own, own_turn h.oc t (fun k hk e => (h.ng k e).2.1 hk), own_turn h.os t (fun k hk e => (h.ng k e).2.2 hk), h.cl, h.sl, fun k hk => ?_, h.nc, h.ns⟩
  · simp only [List.mem_singleton] at hx
    subst hx
    exact (h.ng _ e).1 rfl
  · have hk' : g = k := Option.some.inj hk
    subst hk'
    rcases hg with q | q
    · exact h.ng _ q
    · have h1 := (h.bx.at 0 rfl).lt
      exact ⟨by omega, fun e => by have := (h.oc.lt _ e).2; omega, fun e => by have := (h.os.lt _ e).2; omega⟩
end
/-- The goroutines of the first i lists. -/
structure CNs (w0 : World) (p : List (List Opr)) (i : Nat) (gs : Sl) (X : List GV) : Prop where
  gl : gs.len = i
  g : ∀ (k : Nat) l, k < i → p[k]? = some l → ∃ v : Sl, X[k]? = some ⟨freshG l 0, v, zSl, zSl, zSl, zSl⟩ ∧ ROps w0 v l
theorem CNs.more {w0 : World} {p : List (List Opr)} {i : Nat} {gs : Sl} {X : List GV} (h : CNs w0 p i gs X) (hX : X.length = i) {l : List Opr} (hl : p[i]? = some l) {v : Sl} {U : GV} (hU : U = ⟨clearG (zg l), v, zSl, zSl, zSl, zSl⟩) (hv : ROps w0 v l) {a : Option Addr} {c : Nat} : CNs w0 p (i + 1) ⟨a, i + 1, c⟩ (X ++ [U]) := by
  refine ⟨rfl, fun k l' hk hl' => ?_⟩
  by_cases hki : k = i
  · subst hki
    obtain rfl := Option.some.inj (hl.symm.trans hl')
    exact ⟨v, by simp [hX, hU, clear_zg], hv⟩
  · obtain ⟨u, h1, h2⟩ := h.g k l' (by omega) hl'
    exact ⟨u, by rw [List.getElem?_append_left (by omega)]; exact h1, h2⟩

theorem cn_rs {w0 w : World} {p : List (List Opr)} {m n : Nat} {ca : Int} {dr : List Int} {b8 : Nat} {k8 : List Value} {ds gs cs sd : Sl} {X : List GV} (hn : p.length = n) (H : CN w0 b8 k8 gs X cs sd n m w) (h : CNs w0 p n gs X) (hd : ds.Ok dr.length) (hr : Ints .u16 w0 ds.ao dr) : RS (fun _ => True) w (dnZ p (m : Int) ca dr ds gs cs sd) := by
  have t := H.bx.t
  have og := H.og
  rw [h.gl] at og
  have hXl : X.length = n := own_len gv_ok (by decide) og
  have hgx : ∀ (k : Nat) l, p[k]? = some l → ∃ v : Sl, X[k]? = some ⟨freshG l 0, v, zSl, zSl, zSl, zSl⟩ ∧ ROps w0 v l := fun k l hl => h.g k l (by have := (List.getElem?_eq_some_iff.1 hl).1; omega) hl
  refine ⟨?_, ?_, ?_, ?_, ?_, ?_⟩
  · refine rrow_own' gv_ok (by decide) og h.gl (fun x hx => ?_) ?_ (fun _ _ => trivial)
    · obtain ⟨k, hk⟩ := List.getElem?_of_mem hx
      obtain ⟨l, hl⟩ : ∃ l, p[k]? = some l := ⟨_, List.getElem?_eq_getElem (by have := (List.getElem?_eq_some_iff.1 hk).1; omega)⟩
      obtain ⟨v, h1, h2⟩ := hgx k l hl
      obtain rfl := Option.some.inj (h1.symm.trans hk)
      exact ⟨⟨w0, h2, t, fun _ _ => trivial⟩, ri_nil _ _ _, ri_nil _ _ _, ri_nil _ _ _, ri_nil _ _ _⟩
    · show X.map GV.g = p.map fun ops => freshG ops 0
      apply List.ext_getElem?
      intro k
      rw [List.getElem?_map, List.getElem?_map]
      cases hl : p[k]? with
      | none =>
        have : X[k]? = none := List.getElem?_eq_none (by have := List.getElem?_eq_none_iff.1 hl; omega)
        rw [this]
        rfl
      | some l =>
        obtain ⟨v, h1, _⟩ := hgx k l hl
        rw [h1]
        rfl
  · exact ⟨⟨rfl, fun _ => rfl⟩, fun _ _ => trivial, [], rfl, fun j x hx => (by simp at hx), fun x hx => (by cases hx)⟩
  · exact flat_rrow sd_ok (by decide) H.os H.sl (fun _ _ => trivial)
  · have hcl := H.cl
    have oc := H.oc
    obtain ⟨ao, len, c⟩ := cs
    have hcp : len = p.length := hcl.trans hn.symm
    obtain ⟨ao', c', e1, q1, q2, q3, q4⟩ := own_slice oc
    cases e1
    refine ⟨⟨fun j hj => ?_, fun j hj => absurd hj (Nat.not_lt_zero _), fun _ _ => trivial, fun _ => rfl, fun _ _ => trivial, q3⟩, hcl.trans hn.symm, rfl⟩
    have hj' : j < p.length := hj
    have h1 : (List.replicate len (⟨[], zSl⟩ : IV))[j]? = some ⟨[], zSl⟩ := by rw [List.getElem?_replicate, if_pos (by rw [hcp]; exact hj')]
    obtain ⟨ad, q5, q6⟩ := Has.of_own iv_ok (by decide) oc j _ h1
    refine ⟨ad, none, 0, q5, ?_, fun i hi => absurd hi (Nat.not_lt_zero _), fun _ _ => trivial, fun _ => rfl, Nat.le_refl _⟩
    have := q6 0 _ rfl
    rw [add_two, Nat.add_zero, Nat.mul_one] at this
    exact this
  · exact ⟨hd, hr.turn t (fun _ _ => id), fun _ _ => trivial⟩
  · exact ⟨⟨rfl, fun _ => rfl⟩, fun _ _ => trivial, [], rfl, fun j x hx => (by simp at hx), fun _ _ => trivial⟩

/-- What each of the three that race has given. -/
structure NwR (n m : Nat) (i lo hi : Nat) (v : Value) (w : World) : Prop where
  a : i = 3 → v = .slice (some ⟨lo, 0, none⟩) m m ∧ w.ownsRow lo 57 7 (.slice (some ⟨lo, 0, none⟩) m m) m (flat Sd.cs (List.replicate m sd0)) ∧ lo < hi
  b : i = 6 → v = .slice (some ⟨lo, 0, none⟩) n n ∧ w.ownsRow lo 38 1 (.slice (some ⟨lo, 0, none⟩) n n) n (flat IV.cs (List.replicate n ⟨[], zSl⟩)) ∧ lo < hi
  c : i = 9 → v = .pointer (some ⟨lo, 0, none⟩) ∧ Blk w lo 41 zS.cs ∧ lo < hi
theorem NwR.stay {n m i lo hi : Nat} {v : Value} {w w' : World} (h : NwR n m i lo hi v w) (t : Turn (fun _ => False) w w') : NwR n m i lo hi v w' :=
  ⟨fun e => ⟨(h.a e).1, own_turn (h.a e).2.1 t (fun _ _ => id), (h.a e).2.2⟩, fun e => ⟨(h.b e).1, own_turn (h.b e).2.1 t (fun _ _ => id), (h.b e).2.2⟩, fun e => ⟨(h.c e).1, (h.c e).2.1.new t, (h.c e).2.2⟩⟩
theorem nw3 {n m : Nat} {w w' : World} (h : w'.ownsRow w.heap.size 57 7 (.slice (some ⟨w.heap.size, 0, none⟩) m m) m (madeCells (Value.cells (.agg sd0.cs.toArray)) (m * 7)).toList) : NwR n m 3 w.heap.size w'.heap.size (.slice (some ⟨w.heap.size, 0, none⟩) m m) w' :=
  ⟨fun _ => ⟨rfl, by have e := made_flat_of (z := Value.cells (.agg sd0.cs.toArray)) sd_ok (by decide) (x := sd0) rfl m; rw [e] at h; exact h, (h.lt _ rfl).2⟩, fun e => absurd e (by decide), fun e => absurd e (by decide)⟩
theorem nw6 {n m : Nat} {w w' : World} (h : w'.ownsRow w.heap.size 38 1 (.slice (some ⟨w.heap.size, 0, none⟩) n n) n (madeCells (Value.cells (.slice none 0 0)) (n * 1)).toList) : NwR n m 6 w.heap.size w'.heap.size (.slice (some ⟨w.heap.size, 0, none⟩) n n) w' :=
  ⟨fun e => absurd e (by decide), fun _ => ⟨rfl, by have e := made_flat_of (z := Value.cells (.slice none 0 0)) iv_ok (by decide) (x := ⟨[], zSl⟩) rfl n; rw [e] at h; exact h, (h.lt _ rfl).2⟩, fun e => absurd e (by decide)⟩
theorem race3 {o : Oper} {ev : Operand → Value} (l c : Operand) (hop : o.op = Op.makeSlice 36 l c) (m n : Nat) (hl : ev l = .int .i64 m) (hc : ev c = .int .i64 m) (hm : m ≤ 1000000) (w : World) : ∃ v w', (execOp ev o).run Try.prog w = .ok (.value v) w' ∧ Turn (fun _ => False) w w' ∧ NwR n m 3 w.heap.size w'.heap.size v w' := by
  obtain ⟨w', q1, q2, q3⟩ := exec_make Try.underlying36 info_sudog (by decide) l c hop m hl hc hm w
  exact ⟨_, w', q1, q3, nw3 q2⟩
theorem race6 {o : Oper} {ev : Operand → Value} (l c : Operand) (hop : o.op = Op.makeSlice 37 l c) (m n : Nat) (hl : ev l = .int .i64 n) (hc : ev c = .int .i64 n) (hm : n ≤ 1000000) (w : World) : ∃ v w', (execOp ev o).run Try.prog w = .ok (.value v) w' ∧ Turn (fun _ => False) w w' ∧ NwR n m 6 w.heap.size w'.heap.size v w' := by
  obtain ⟨w', q1, q2, q3⟩ := exec_make Try.underlying37 info_intsD (by decide) l c hop n hl hc hm w
  exact ⟨_, w', q1, q3, nw6 q2⟩
theorem nw9 (n m : Nat) (w : World) : NwR n m 9 w.heap.size (w.alloc (.cells zS.cs.toArray 41)).heap.size (.pointer (some ⟨w.heap.size, 0, none⟩)) (w.alloc (.cells zS.cs.toArray 41)) :=
  ⟨fun e => absurd e (by decide), fun e => absurd e (by decide), fun _ => ⟨rfl, blk_new w _ _, by simp⟩⟩
/-- The box at the end of the race, its state stored. -/
theorem cn_of {w wd w5 w6 : World} {b8 l3 h3 l6 h6 n m : Nat} {k8 : List Value} {v3 v6 : Value} (T : Turn (fun _ => False) w wd) (T5 : Turn (fun _ => False) wd w5) (t6 : Turn (fun i => i = b8) w5 w6) (k : Blk w6 b8 41 k8) (hb : w.heap.size ≤ b8)
    (r3 : NwR n m 3 l3 h3 v3 w5) (r6 : NwR n m 6 l6 h6 v6 w5) (q3 : wd.heap.size ≤ l3 ∧ l3 ≠ b8) (q6 : wd.heap.size ≤ l6 ∧ l6 ≠ b8) (hk : k8.length = 12) (hk1 : ∀ v ∈ k8, v.oneCell' = true) :
    CN w b8 k8 zSl [] ⟨some ⟨l6, 0, none⟩, n, n⟩ ⟨some ⟨l3, 0, none⟩, m, m⟩ n m w6 := by
  have hs := T.size
  refine ⟨⟨(T.trans T5).and t6 (fun i hi e => by omega), by intro x hx; simp only [List.mem_singleton] at hx; subst hx; exact hb, by simp, by intro x hx; simp only [List.mem_singleton] at hx; subst hx; exact k⟩, own_nil, ?_, ?_, rfl, rfl, fun k hk => (by cases hk), fun k hk e => ?_, fun k hk e => ?_⟩
  · exact own_less (own_turn (r6.b rfl).2.1 t6 (fun k hk e => q6.2 ((Option.some.inj hk).trans e))) (by omega)
  · exact own_less (own_turn (r3.a rfl).2.1 t6 (fun k hk e => q3.2 ((Option.some.inj hk).trans e))) (by omega)
  · exact q6.2 ((Option.some.inj hk).trans e)
  · exact q3.2 ((Option.some.inj hk).trans e)
theorem cfg2_at {w : World} {b : Nat} {x y : Value} (h : ∀ k, w.cell? ⟨b, k, none⟩ = ([x, y] : List Value)[k]?) : At w ⟨b, 0, none⟩ [x, y] := fun i u hu => by
  rw [Addr.add_lit, Nat.zero_add, h]
  exact hu

end Go.Proofs.Ytenbafkgfdlfpaa
/- The code's New, where all is well. -/
namespace Go.Proofs.Ytenbafkgfdlfpaa
open Go.RowKit
set_option linter.unusedVariables false

set_option maxRecDepth 100000 in
set_option maxHeartbeats 8000000 in
theorem new_good {s ds : Sl} {p : List (List Opr)} {n m c : Nat} {dr : List Int} (w : World) (hP : RPlan w s p) (hn : p.length = n) (hm : m ≤ 64) (hc : 1 ≤ c ∧ c ≤ 16) (hr : rightP p = true) (hd : ds.Ok dr.length) (hi : Ints .u16 w ds.ao dr) (hdr : dr.length ≤ 300 ∧ ∀ x ∈ dr, 0 ≤ x ∧ x ≤ 65535) :
    Calls Try.prog 5 #[.slice s.ao n s.cap, .agg #[.int .i64 (m : Int), .int .i64 (c : Int)], .slice ds.ao ds.len ds.cap] w (CodeNew p (m : Int) (c : Int) dr w) := by
  have h8 := (rightP_has hr).2.2
  have hn8 : n ≤ 8 := by omega
  have HP := Lib.hid hP
  have HN := Lib.hid hn
  have HR := Lib.hid hr
  have HM := Lib.hid (show WideP p from ⟨by omega, fun l hl => ⟨((rightP_mild hr).2 l hl).1, trivial⟩⟩)
  have HDS := Lib.hid hd
  have HI := Lib.hid hi
  have HDR := Lib.hid hdr
  have HCAN := Lib.hid (show ¬ R5.C5.canB (m : Int) p.length (c : Int) = false from fun e => by
    unfold R5.C5.canB at e
    have := of_decide_eq_false e
    omega)
  clear hP hn hr hd hi hdr h8
  go_enter Try.func5, Try.ntmps5
  go_upto_region 1 with fail
  refine at_world (φ := fun w' => Hid (Boxes w w' [(w.heap.size, 24, [.int .i64 (m : Int), .int .i64 (c : Int)])])) (Lib.hid (boxes1 w 24 [.int .i64 (m : Int), .int .i64 (c : Int)])) ?_
  intro w1 B1
  generalize hb4 : w.heap.size = b4 at B1 ⊢
  go_wp2_with fail
  refine (right_any true w1 (HP.out.new B1.out.t) HN.out HM.out HR.out).mono ?_
  rintro e w2 ⟨rfl, t2⟩
  have B2 := Lib.hid (B1.out.new t2)
  clear t2 B1
  have F0 := B2.out.f 0 rfl
  go_upto_region 5 with fail
  go_cut [8] (fun s8 wx => ∃ (b8 : Nat) (cs sd : Sl), s8 = .pointer (some ⟨b8, 0, none⟩) ∧ Hid (CN w b8 (dnC (m : Int) (c : Int) ds zSl cs sd) zSl [] cs sd n m wx))
  case first =>
    refine stand_start (by kernel_rfl) 99 (fun w' => ∀ k, w'.cell? ⟨b4, k, none⟩ = ([.int .i64 (m : Int), .int .i64 (c : Int)] : List Value)[k]?) 99 (fun _ => True) F0 trivial ?_
    have HB := Lib.hid B2.out.drew
    clear F0 B2
    generalize w2.drew = wd at HB ⊢
    refine stand_load3 (i := 0) (v := .agg [.int .i64 (m : Int), .int .i64 (c : Int)].toArray) rfl (by kernel_rfl) (by kernel_rfl) (by kernel_rfl) (by rfl) (fun _ _ _ h => h) (by decide) (by decide) (by kernel_rfl) (by rfl) (fun w hA => exec_at (cfg2_at hA) t_config2 rfl rfl) ?_
    dsimp only [List.set_cons_zero, List.set_cons_succ]
    refine stand_take (i := 1) (v := ?_) rfl (by kernel_rfl) (by kernel_rfl) (by kernel_rfl) (by rfl) (fun _ _ _ h => h) (by decide) (by decide) (by rfl) ?_ ?_
    rotate_left
    · (intro w; go_simp; try with_reducible rfl)
    dsimp only [List.set_cons_zero, List.set_cons_succ]
    refine stand_load3 (i := 2) (v := .int .i64 (m : Int)) rfl (by kernel_rfl) (by kernel_rfl) (by kernel_rfl) (by rfl) (fun _ _ _ h => h) (by decide) (by decide) (by kernel_rfl) (by rfl) ?_ ?_
    · (intro w hA; have hA0 : w.cell? ⟨b4, 0, none⟩ = some (.int .i64 (m : Int)) := hA 0; clear hA; go_simp; try with_reducible rfl)
    dsimp only [List.set_cons_zero, List.set_cons_succ]
    refine stand_take (i := 4) (v := ?_) rfl (by kernel_rfl) (by kernel_rfl) (by kernel_rfl) (by rfl) (fun _ _ _ h => h) (by decide) (by decide) (by rfl) ?_ ?_
    rotate_left
    · (intro w; go_simp; try with_reducible rfl)
    dsimp only [List.set_cons_zero, List.set_cons_succ]
    refine stand_take (i := 5) (v := ?_) rfl (by kernel_rfl) (by kernel_rfl) (by kernel_rfl) (by rfl) (fun _ _ _ h => h) (by decide) (by decide) (by rfl) ?_ ?_
    rotate_left
    · (intro w; go_simp; try with_reducible rfl)
    dsimp only [List.set_cons_zero, List.set_cons_succ]
    refine stand_take (i := 7) (v := ?_) rfl (by kernel_rfl) (by kernel_rfl) (by kernel_rfl) (by rfl) (fun _ _ _ h => h) (by decide) (by decide) (by rfl) ?_ ?_
    rotate_left
    · (intro w; go_simp; try with_reducible rfl)
    dsimp only [List.set_cons_zero, List.set_cons_succ]
    refine stand_race_laid (n := 2) [3, 6, 9] [35, 38, 8] [3, 6] [35, 38] (NwR n m) (by decide) (by kernel_rfl) (by decide) (by rfl) (by rfl) ?_ (fun w' t => (HB.out.new t).f 0 rfl) (fun _ _ => trivial) ?_ ?_
    · intro i hi
      simp only [List.mem_cons, List.not_mem_nil, or_false] at hi
      rcases hi with rfl | rfl | rfl
      · refine ⟨⟨_, rfl, rfl, (by intro cs b e; cases e), .inr fun w' t => ?_⟩, fun _ _ _ _ _ h t => h.stay t⟩
        exact race3 (.tmp 34) (.tmp 34) rfl m n rfl rfl (by omega) w'
      · refine ⟨⟨_, rfl, rfl, (by intro cs b e; cases e), .inr fun w' t => ?_⟩, fun _ _ _ _ _ h t => h.stay t⟩
        exact race6 (.tmp 37) (.tmp 37) rfl m n rfl rfl (by omega) w'
      · exact ⟨⟨_, rfl, rfl, (by intro cs b e; cases e), .inr fun w' t => ⟨.pointer (some ⟨w'.heap.size, 0, none⟩), w'.alloc (.cells zS.cs.toArray 41), by go_simp; rfl, (Turn.refl _ _).alloc _, nw9 n m w'⟩⟩, fun _ _ _ _ _ h t => h.stay t⟩
    · intro V lo hi w5 HQ
      have r3 := HQ.got 3 (by simp)
      have r6 := HQ.got 6 (by simp)
      obtain ⟨v9, k9, l9⟩ := (HQ.got 9 (by simp)).c rfl
      have l3 := (r3.a rfl).2.2
      have l6 := (r6.b rfl).2.2
      have m3 := HQ.lim 3 (by simp)
      have m6 := HQ.lim 6 (by simp)
      have m9 := HQ.lim 9 (by simp)
      have o3 := HQ.off 3 (by simp) 9 (by simp) (by decide)
      have o6 := HQ.off 6 (by simp) 9 (by simp) (by decide)
      have hs0 := HB.out.t.size
      have R3 := Lib.hid r3
      have R6 := Lib.hid r6
      have HT := Lib.hid HQ.t
      simp only [setAll, List.map_cons, List.map_nil, List.set_cons_succ, List.set_cons_zero, (r3.a rfl).1, (r6.b rfl).1, v9]
      clear r3 r6 v9 HQ
      generalize hL3 : lo 3 = x3 at *
      generalize hL6 : lo 6 = x6 at *
      generalize hL9 : lo 9 = x9 at *
      refine stand_take (i := 8) (v := ?_) rfl (by kernel_rfl) (by kernel_rfl) (by kernel_rfl) (by rfl) (fun _ _ _ h => h) (by decide) (by decide) (by rfl) ?_ ?_
      rotate_left
      · (intro w; go_simp; try with_reducible rfl)
      dsimp only [List.set_cons_zero, List.set_cons_succ]
      refine stand_step (i := 10) (by kernel_rfl) rfl (fun K hK => ?_)
      refine step_store_at rfl rfl rfl (cs := dnC (m : Int) (c : Int) ds zSl ⟨some ⟨x6, 0, none⟩, n, n⟩ ⟨some ⟨x3, 0, none⟩, m, m⟩) rfl (k9.store _ rfl t_state (dnC_one _ _ _ _ _ _)) ?_
      have t6 := row_turn w5 x9 (dnC (m : Int) (c : Int) ds zSl ⟨some ⟨x6, 0, none⟩, n, n⟩ ⟨some ⟨x3, 0, none⟩, m, m⟩).toArray
      have b6 := k9.row (dnC (m : Int) (c : Int) ds zSl ⟨some ⟨x6, 0, none⟩, n, n⟩ ⟨some ⟨x3, 0, none⟩, m, m⟩)
      generalize w5.setRow x9 (dnC (m : Int) (c : Int) ds zSl ⟨some ⟨x6, 0, none⟩, n, n⟩ ⟨some ⟨x3, 0, none⟩, m, m⟩).toArray = w6 at t6 b6 ⊢
      have hb4 : b4 < wd.heap.size := (HB.out.at 0 rfl).lt
      refine hK.out _ _ (fun _ => fun k => blk_f (((HB.out.at 0 rfl).new HT.out).turn t6 (fun e => by omega)) k) (fun _ => trivial) ?_
      clear hK K
      refine stand_done (by kernel_rfl) ?_
      have HC := Lib.hid (cn_of HB.out.t HT.out t6 b6 (by omega) R3.out R6.out ⟨m3.1, by omega⟩ ⟨m6.1, by omega⟩ rfl (dnC_one _ _ _ _ _ _))
      clear t6 b6 k9
      go_wp2_with fail
      go_meet
      exact ⟨_, _, _, rfl, HC⟩
    · intro V lo hi w5 HQ
      have r3 := HQ.got 3 (by simp)
      have r6 := HQ.got 6 (by simp)
      have l3 := (r3.a rfl).2.2
      have l6 := (r6.b rfl).2.2
      have m3 := HQ.lim 3 (by simp)
      have m6 := HQ.lim 6 (by simp)
      have hs0 := HB.out.t.size
      have R3 := Lib.hid r3
      have R6 := Lib.hid r6
      have HT := Lib.hid HQ.t
      simp only [setAll, List.map_cons, List.map_nil, List.set_cons_succ, List.set_cons_zero, (r3.a rfl).1, (r6.b rfl).1]
      clear r3 r6 HQ
      generalize hL3 : lo 3 = x3 at *
      generalize hL6 : lo 6 = x6 at *
      refine stand_take (i := 8) (v := ?_) rfl (by kernel_rfl) (by kernel_rfl) (by kernel_rfl) (by rfl) (fun _ _ _ h => h) (by decide) (by decide) (by rfl) ?_ ?_
      rotate_left
      · (intro w; go_simp; try with_reducible rfl)
      dsimp only [List.set_cons_zero, List.set_cons_succ]
      obtain ⟨x9, hx9⟩ : ∃ x9, w5.heap.size = x9 := ⟨_, rfl⟩
      have k9 : Blk (w5.alloc (.cells zS.cs.toArray 41)) x9 41 zS.cs := by rw [← hx9]; exact blk_new w5 _ _
      have t5 : Turn (fun _ => False) w5 (w5.alloc (.cells zS.cs.toArray 41)) := (Turn.refl _ _).alloc _
      refine stand_step (i := 9) (by kernel_rfl) rfl (fun K hK => ?_)
      refine step_at (φ := fun w' => Blk w' x9 41 zS.cs ∧ Turn (fun _ => False) w5 w') (w' := w5.alloc (.cells zS.cs.toArray 41)) (v := .pointer (some ⟨x9, 0, none⟩)) rfl (by go_simp; rfl) ⟨k9, t5⟩ ?_
      clear k9 t5
      rintro w6 ⟨k9, t5⟩
      refine hK.out _ _ (fun _ => ((HB.out.new HT.out).new t5).f 0 rfl) (fun _ => trivial) ?_
      clear hK K
      try simp only [put_laid, List.set_cons_zero, List.set_cons_succ]
      refine stand_step (i := 10) (by kernel_rfl) rfl (fun K hK => ?_)
      refine step_store_at rfl rfl rfl (cs := dnC (m : Int) (c : Int) ds zSl ⟨some ⟨x6, 0, none⟩, n, n⟩ ⟨some ⟨x3, 0, none⟩, m, m⟩) rfl (k9.store _ rfl t_state (dnC_one _ _ _ _ _ _)) ?_
      have t6 := row_turn w6 x9 (dnC (m : Int) (c : Int) ds zSl ⟨some ⟨x6, 0, none⟩, n, n⟩ ⟨some ⟨x3, 0, none⟩, m, m⟩).toArray
      have b6 := k9.row (dnC (m : Int) (c : Int) ds zSl ⟨some ⟨x6, 0, none⟩, n, n⟩ ⟨some ⟨x3, 0, none⟩, m, m⟩)
      generalize w6.setRow x9 (dnC (m : Int) (c : Int) ds zSl ⟨some ⟨x6, 0, none⟩, n, n⟩ ⟨some ⟨x3, 0, none⟩, m, m⟩).toArray = w7 at t6 b6 ⊢
      have hb4 : b4 < wd.heap.size := (HB.out.at 0 rfl).lt
      have hs5 := HT.out.size
      refine hK.out _ _ (fun _ => fun k => blk_f ((((HB.out.at 0 rfl).new HT.out).new t5).turn t6 (fun e => by omega)) k) (fun _ => trivial) ?_
      clear hK K
      refine stand_done (by kernel_rfl) ?_
      have HC := Lib.hid (cn_of HB.out.t (HT.out.trans t5) t6 b6 (by omega) (R3.out.stay t5) (R6.out.stay t5) ⟨m3.1, by omega⟩ ⟨m6.1, by omega⟩ rfl (dnC_one _ _ _ _ _ _))
      clear t6 b6 k9 t5
      go_wp2_with fail
      go_meet
      exact ⟨_, _, _, rfl, HC⟩
  case rest =>
    obtain ⟨b8, cs, sd, rfl, HC0⟩ := hcut
    clear F0 B2
    obtain ⟨so, sl, sc⟩ := s
    dsimp only at HP ⊢
    go_upto_region 7 with fail
    go_loopw [43] (fun s43 wr => ∃ (i : Nat) (gs : Sl) (X : List GV), i ≤ n ∧ s43 = .int .i64 i ∧ Hid (CN w b8 (dnC (m : Int) (c : Int) ds gs cs sd) gs X cs sd n m wr) ∧ Hid (CNs w p i gs X)) (fun s43 _ => n - (intOf s43).toNat)
    case atStart => exact ⟨0, zSl, [], Nat.zero_le _, rfl, HC0, Lib.hid ⟨rfl, fun k l hk => absurd hk (Nat.not_lt_zero _)⟩⟩
    case round =>
      clear HC0
      obtain ⟨i, ⟨ga, gl, gc⟩, X, hi, rfl, HD, HS⟩ := hrel
      have e1 : gl = i := HS.out.gl
      subst e1
      by_cases hlt : gl < n
      · obtain ⟨l, hl⟩ : ∃ l, p[gl]? = some l := ⟨_, List.getElem?_eq_getElem (by rw [HN.out]; exact hlt)⟩
        obtain ⟨a, ⟨xo, xl, xc⟩, ha, hx, hcc⟩ := HP.out.at hl
        dsimp only at ha
        subst ha
        have hcx : wr.cell? (a.add gl) = some (.slice xo xl xc) := HD.out.bx.t.cell id hcc
        have HX := Lib.hid hx
        have HLL := Lib.hid hl
        have G0 : wr.cell? ⟨b8, 3, none⟩ = some (.slice ga gl gc) := HD.out.bx.f 0 rfl 3
        clear hcc hx hl
        go_upto_region 9 with fail
        clear hcx
        refine stand_start (by kernel_rfl) 6 (fun w' => w'.cell? ⟨b8, 3, none⟩ = some (.slice ga gl gc)) 99 (fun _ => True) G0 trivial ?_
        have HDD := Lib.hid (HD.out.new (Turn.refl _ _).drew)
        clear G0 HD
        generalize wr.drew = wd at HDD ⊢
        refine stand_take (i := 0) (v := ?_) rfl (by kernel_rfl) (by kernel_rfl) (by kernel_rfl) (by rfl) (fun _ _ _ h => h) (by decide) (by decide) (by rfl) ?_ ?_
        rotate_left
        · (intro w; go_simp; try with_reducible rfl)
        dsimp only [List.set_cons_zero, List.set_cons_succ]
        refine stand_load1 (i := 1) (v := .slice ga gl gc) rfl (by kernel_rfl) (by kernel_rfl) (by kernel_rfl) (by rfl) (fun _ _ _ h => h) (by decide) (by decide) (by kernel_rfl) (by rfl) ?_ ?_
        · (intro w hA; go_simp; try with_reducible rfl)
        dsimp only [List.set_cons_zero, List.set_cons_succ]
        refine stand_take (i := 2) (v := ?_) rfl (by kernel_rfl) (by kernel_rfl) (by kernel_rfl) (by rfl) (fun _ _ _ h => h) (by decide) (by decide) (by rfl) ?_ ?_
        rotate_left
        · (intro w; go_simp; try with_reducible rfl)
        dsimp only [List.set_cons_zero, List.set_cons_succ]
        refine stand_take (i := 3) (v := ?_) rfl (by kernel_rfl) (by kernel_rfl) (by kernel_rfl) (by rfl) (fun _ _ _ h => h) (by decide) (by decide) (by rfl) ?_ ?_
        rotate_left
        · (intro w; go_simp; try with_reducible rfl)
        dsimp only [List.set_cons_zero, List.set_cons_succ]
        refine stand_step (i := 4) (by kernel_rfl) rfl (fun K hK => ?_)
        go_simp
        refine (emptied_any (x := ⟨zg l, ⟨xo, xl, xc⟩, zSl, zSl, zSl, zSl⟩) wd).mono ?_
        rintro e w6 ⟨rfl, t6⟩
        have HD6 := Lib.hid (HDD.out.new t6)
        refine hK.out _ _ (fun _ => HD6.out.bx.f 0 rfl 3) (fun _ => trivial) ?_
        clear hK K
        try dsimp only
        clear t6 HDD
        obtain ⟨U, hU⟩ : ∃ U : GV, U = ⟨clearG (zg l), ⟨xo, xl, xc⟩, zSl, zSl, zSl, zSl⟩ := ⟨_, rfl⟩
        have HU := Lib.hid hU
        rw [← hU]
        clear hU
        obtain ⟨b9, hb9⟩ : ∃ b9, w6.heap.size = b9 := ⟨_, rfl⟩
        have K9 : Hid ((w6.alloc (.cells U.cs.toArray 50)).heap[b9]? = some (.cells U.cs.toArray 50 (0, 0))) := Lib.hid (by rw [← hb9]; exact heap_alloc_new w6 _)
        have T9 : Hid (Turn (fun _ => False) w6 (w6.alloc (.cells U.cs.toArray 50))) := Lib.hid ((Turn.refl _ _).alloc _)
        refine stand_step (i := 5) (by kernel_rfl) rfl (fun K hK => ?_)
        refine step_at (φ := fun w' => Hid (w'.heap[b9]? = some (.cells U.cs.toArray 50 (0, 0))) ∧ Hid (Turn (fun _ => False) w6 w')) (w' := w6.alloc (.cells U.cs.toArray 50)) (v := .slice (some ⟨b9, 0, none⟩) 1 1) rfl (by go_simp; rw [fold_set U.cs]; rfl) ⟨K9, T9⟩ ?_
        clear K9 T9 hb9
        rintro w7 ⟨K9, T9⟩
        have HD7 := Lib.hid (HD6.out.new T9.out)
        refine hK.out _ _ (fun _ => HD7.out.bx.f 0 rfl 3) (fun _ => trivial) ?_
        clear hK K
        try simp only [put_laid, List.set_cons_zero, List.set_cons_succ]
        refine stand_step (i := 6) (by kernel_rfl) rfl (fun K hK => ?_)
        refine step_append_great_one gv_ok (by decide) Try.underlying34 info_g rfl (by decide) rfl (.tmp 48) (.tmp 52) rfl w.heap.size (.slice ga gl gc) X gl rfl HD7.out.og b9 U rfl K9.out (gl + 1) rfl (by omega) HD7.out.bx.t.size ?_
        intro g c' w8 hg8 h8 t8 u8
        have HD8 := Lib.hid (HD7.out.grow h8.out t8.out u8.out)
        refine hK.out _ _ (past (by kernel_rfl)) (fun _ => trivial) ?_
        clear hK K
        try simp only [put_laid, List.set_cons_zero, List.set_cons_succ]
        refine stand_take (i := 7) (v := ?_) rfl (by kernel_rfl) (by kernel_rfl) (by kernel_rfl) (by rfl) (fun _ _ _ h => h) (by decide) (by decide) (by rfl) ?_ ?_
        rotate_left
        · (intro w; go_simp; try with_reducible rfl)
        dsimp only [List.set_cons_zero, List.set_cons_succ]
        have d0 : w8.cell? ⟨b8, 3, none⟩ = some (.slice ga gl gc) := HD8.out.bx.f 0 rfl 3
        have d1 : w8.frozen? ⟨b8, 3, none⟩ = false := HD8.out.bx.r 0 rfl 3
        refine stand_step (i := 8) (by kernel_rfl) rfl (fun K hK => ?_)
        go_simp
        refine hK.out _ _ (past (by kernel_rfl)) (fun _ => trivial) ?_
        clear d0 d1 hK K
        refine stand_done (by kernel_rfl) ?_
        have HD9 : Hid (CN w b8 (dnC (m : Int) (c : Int) ds ⟨some ⟨g, 0, none⟩, gl + 1, c'⟩ cs sd) ⟨some ⟨g, 0, none⟩, gl + 1, c'⟩ (X ++ [U]) cs sd n m (w8.setCell ⟨b8, 3, none⟩ (.slice (some ⟨g, 0, none⟩) (gl + 1) c'))) := Lib.hid (HD8.out.put 3 (.slice (some ⟨g, 0, none⟩) (gl + 1) c'))
        have HXL := Lib.hid (own_len gv_ok (by decide) HD7.out.og)
        have HS9 : Hid (CNs w p (gl + 1) ⟨some ⟨g, 0, none⟩, gl + 1, c'⟩ (X ++ [U])) := Lib.hid (HS.out.more HXL.out HLL.out HU.out HX.out)
        clear HD6 HD7 HD8 T9 K9 h8 t8 u8 HS HXL
        generalize w8.setCell ⟨b8, 3, none⟩ (.slice (some ⟨g, 0, none⟩) (gl + 1) c') = w9 at HD9 ⊢
        go_wp2_with fail
        go_roundw
        case rel => exact ⟨gl + 1, ⟨some ⟨g, 0, none⟩, gl + 1, c'⟩, X ++ [U], by omega, by go_num, HD9, HS9⟩
        case measure => simp [intOf]; omega
      · obtain rfl : gl = n := by omega
        have hrs := cn_rs (ca := (c : Int)) HN.out HD.out HS.out HDS.out HI.out
        have HRS := Lib.hid hrs
        have hcs : (dnZ p (m : Int) (c : Int) dr ds ⟨ga, gl, gc⟩ cs sd).cs = dnC (m : Int) (c : Int) ds ⟨ga, gl, gc⟩ cs sd := dn_cs (by omega) (by omega)
        have L1 := (HD.out.bx.at 0 rfl).load (P := Try.prog) (t := 41) t_state
        rw [← hcs] at L1
        have HT := Lib.hid HD.out.bx.t
        obtain ⟨z, hz⟩ : ∃ z, dnZ p (m : Int) (c : Int) dr ds ⟨ga, gl, gc⟩ cs sd = z := ⟨_, rfl⟩
        have HZS := Lib.hid (show z.s = newS p (m : Int) (c : Int) dr by rw [← hz]; rfl)
        rw [hz] at L1 HRS
        clear hrs hcs hz
        go_wp2_with (refine wpList_load_at rfl rfl rfl L1 ?_)
        refine (of_any (x := z) (n := gl) wr HRS.out (by rw [HZS.out]; exact new_ofok HN.out HR.out hm hc HDR.out)).mono ?_
        rintro e w9 ⟨y, tag, rfl, q1, q2, q3, t9⟩
        have Q1 := Lib.hid q1
        have Q2 := Lib.hid q2
        have Q3 := Lib.hid q3
        have T9 := Lib.hid (HT.out.trans t9)
        clear q1 q2 q3 t9 L1
        go_wp2_with fail
        go_ret2
        exact ⟨T9.out, fun e => absurd (HR.out.symm.trans e) (by decide), fun _ e => absurd e HCAN.out, fun _ _ => ⟨_, y, tag, rfl, Q1.out, by rw [Q2.out, HZS.out], by rw [HN.out]; exact Q3.out⟩⟩

end Go.Proofs.Ytenbafkgfdlfpaa
/- The code's New, whole. -/
namespace Go.Proofs.Ytenbafkgfdlfpaa
open Go.RowKit
set_option linter.unusedVariables false

theorem new_any {s ds : Sl} {p : List (List Opr)} {n : Nat} {su ca : Int} {dr : List Int} (w : World) (hP : RPlan w s p) (hn : p.length = n) (hm : WideP p) (hd : ds.Ok dr.length) (hi : Ints .u16 w ds.ao dr) (hdr : dr.length ≤ 300 ∧ ∀ x ∈ dr, 0 ≤ x ∧ x ≤ 65535) :
    Calls Try.prog 5 #[.slice s.ao n s.cap, .agg #[.int .i64 su, .int .i64 ca], .slice ds.ao ds.len ds.cap] w (CodeNew p su ca dr w) := by
  have h8 : rightP p = true → n ≤ 8 := fun h => by have := (rightP_has h).2.2; omega
  cases hr : rightP p with
  | false => exact new_bad w hP hn hm h8 (.inl hr)
  | true =>
    cases hc : R5.C5.canB su n ca with
    | false => exact new_bad w hP hn hm h8 (.inr hc)
    | true =>
      have h1 : (0 ≤ su ∧ su ≤ 64) ∧ (1 ≤ ca ∧ ca ≤ 16) := by
        unfold R5.C5.canB at hc
        have := of_decide_eq_true hc
        omega
      obtain ⟨m, rfl⟩ : ∃ m : Nat, su = (m : Int) := ⟨su.toNat, by omega⟩
      obtain ⟨c, rfl⟩ : ∃ c : Nat, ca = (c : Int) := ⟨ca.toNat, by omega⟩
      exact new_good w hP hn (by omega) (by omega) hr hd hi hdr

end Go.Proofs.Ytenbafkgfdlfpaa
/- The chapter's example. -/
namespace Go.Proofs.Ytenbafkgfdlfpaa
open Go.RowKit
set_option linter.unusedVariables false

theorem alive_plan {w : World} {b : Nat} {e : TypeId} (h : w.heap[b]? = some (.cells (encSV zSl).toArray e (0, 0))) : RPlan w ⟨some ⟨b, 0, none⟩, 1, 1⟩ [[]] := by
  refine ⟨⟨rfl, Nat.le_refl _, by show 1 ≤ maxLen; unfold maxLen; decide, fun e => by cases e⟩, [zSl], rfl, has_one h, fun i x l hx hl => ?_⟩
  have hi0 : i = 0 := by
    cases i with
    | zero => rfl
    | succ j => simp at hx
  subst hi0
  obtain rfl : zSl = x := by simpa using hx
  obtain rfl : [] = l := by simpa using hl
  exact ⟨⟨rfl, Nat.le_refl _, Nat.zero_le _, fun _ => rfl⟩, [], rfl, fun j x hx => by simp at hx, fun i r o hr => by simp at hr⟩

set_option maxRecDepth 100000 in
set_option maxHeartbeats 4000000 in
theorem alive_any (w : World) : Calls Try.prog 4 #[] w fun e w' => e = .returned (.bool true) ∧ Turn (fun _ => False) w w' := by
  go_enter Try.func4, Try.ntmps4
  go_wp2_with fail
  have HP := Lib.hid (alive_plan (heap_alloc_new w (.cells (encSV zSl).toArray 29)))
  refine (new_any (s := ⟨some ⟨w.heap.size, 0, none⟩, 1, 1⟩) (ds := zSl) (p := [[]]) (n := 1) (su := 0) (ca := 1) (dr := []) _ HP.out rfl ⟨by decide, fun l hl => ⟨by simp at hl; subst hl; decide, trivial⟩⟩ ⟨rfl, Nat.le_refl _, Nat.zero_le _, fun _ => rfl⟩ (fun j hj => absurd hj (Nat.not_lt_zero _)) ⟨Nat.zero_le _, fun x hx => by cases hx⟩).mono ?_
  rintro e w2 ⟨t2, -, -, h4⟩
  obtain ⟨base, y, tag, rfl, hW, hS, hG, hB⟩ := h4 rfl rfl
  have HW := Lib.hid hW
  have HS := Lib.hid hS
  have HO := Lib.hid (new_wok (p := [[]]) (n := 1) (m := 0) (c := 1) (dr := []) (y := y) rfl rfl (by decide) (by decide) hS hG hB)
  have T2 := Lib.hid (((Turn.refl (fun _ => False) w).alloc (.cells (encSV zSl).toArray 29)).trans t2)
  clear hW hS hG hB h4 t2 HP
  go_wp2_with fail
  refine (state_any w2 HW.out HO.out).mono ?_
  rintro e w3 ⟨z, rfl, hz, hrs, t3⟩
  obtain ⟨X, hX1, hX2, hX3⟩ := hrs.gs.has
  have hgl : z.gs.len = 1 := hrs.gs.ok.len.trans (by rw [hz, HS.out]; rfl)
  have hcl : z.ch.len = 0 := hrs.ch.ok.len.trans (by rw [hz, HS.out]; rfl)
  have hst : z.s.step = 0 := by rw [hz, HS.out]; rfl
  have hXm : X.map GV.g = [freshG [] 0] := by rw [hX1, hz, HS.out]; rfl
  obtain ⟨x, hx, hxg⟩ : ∃ x, X[0]? = some x ∧ x.g = freshG [] 0 := by
    cases X with
    | nil => simp at hXm
    | cons x X => exact ⟨x, rfl, by simp at hXm; exact hXm.1⟩
  obtain ⟨ad, had, hcells⟩ := hX2 0 x hx
  have B3 := Lib.hid (boxes1 w3 41 zS.cs)
  have T3 := Lib.hid (T2.out.trans t3)
  obtain ⟨b3, hb3⟩ : ∃ b3, w3.heap.size = b3 := ⟨_, rfl⟩
  rw [hb3] at B3
  have HC := Lib.hid (show ∀ w', Turn (fun _ => False) w3 w' → w'.cell? ⟨ad.block, ad.off + 7, none⟩ = some (.int .i64 (-1)) from fun w' t => t.cell id (show w3.cell? ⟨ad.block, ad.off + 7, none⟩ = some (.int .i64 (-1)) from hcells 7 (.int .i64 (-1)) (by show some (Value.int .i64 x.g.param) = _; rw [hxg]; rfl)))
  have HGL := Lib.hid hgl
  have HCL := Lib.hid hcl
  have HST := Lib.hid hst
  have HAD := Lib.hid had
  clear hX1 hX2 hX3 hgl hcl hst hXm hxg hx hcells t3 hrs hz had
  go_upto_region 5 with (refine wpList_store_box rfl rfl B3.out 0 rfl rfl z.cs rfl rfl t_state (sv_ok.one _) ?_; intro w5 B5 T5)
  have F2 : w5.cell? ⟨b3, 2, none⟩ = some (.int .i64 0) := by rw [B5.out.f 0 rfl 2, ← HST.out]; rfl
  have F3 : w5.cell? ⟨b3, 3, none⟩ = some (.slice (some ad) 1 z.gs.cap) := by rw [B5.out.f 0 rfl 3, ← HGL.out, ← HAD.out]; rfl
  have F4 : w5.cell? ⟨b3, 4, none⟩ = some (.slice z.ch.ao 0 z.ch.cap) := by rw [B5.out.f 0 rfl 4, ← HCL.out]; rfl
  have F7 := HC.out w5 B5.out.t
  go_wp2_with fail
  go_ret
  exact ⟨rfl, T3.out.trans B5.out.t⟩

end Go.Proofs.Ytenbafkgfdlfpaa
/- The law StateNew. -/
namespace Go.Proofs.Ytenbafkgfdlfpaa
open Go.RowKit
set_option linter.unusedVariables false

theorem new_smok {p : List (List Opr)} {n m c : Nat} {dr : List Int} (hn : p.length = n) (hr : rightP p = true) (hm : m ≤ 64) (hc : 1 ≤ c ∧ c ≤ 16) (hd : dr.length ≤ 300) : SmOk (newS p (m : Int) (c : Int) dr) n := by
  have h8 := (rightP_has hr).2.2
  refine ⟨?_, by omega, hn, good_new (by omega) hm hc, rfl, tame_new hr, ?_, rfl, hd⟩
  · show (p.map _).length = n
    rw [List.length_map, hn]
  · show (List.replicate m sd0).length ≤ 1000
    rw [List.length_replicate]; omega
theorem given_part {a b c d : Value} : ∀ j v, ([b, c] : List Value)[j]? = some v → ([a, b, c, d] : List Value)[1 + j]? = some v := fun j v hv => by
  match j with
  | 0 => exact hv
  | 1 => exact hv
  | j + 2 => simp at hv

theorem all_at {w : World} {b : Nat} {cs : List Value} (h : ∀ k, w.cell? ⟨b, k, none⟩ = cs[k]?) : At w ⟨b, 0, none⟩ cs := fun i u hu => by
  rw [Addr.add_lit, Nat.zero_add, h]
  exact hu

set_option maxRecDepth 100000 in
set_option maxHeartbeats 8000000 in
theorem law_any {s ds : Sl} {p : List (List Opr)} {su ca : Int} {dr : List Int} (w : World) (hP : RPlan w s p) (hd : ds.Ok dr.length) (hi : Ints .u16 w ds.ao dr) (hdr : ∀ x ∈ dr, 0 ≤ x ∧ x ≤ 65535) :
    Calls Try.prog 3 #[.agg #[s.val, .int .i64 su, .int .i64 ca, ds.val]] w fun e w' => e = .returned (.bool true) ∧ Turn (fun _ => False) w w' := by
  obtain ⟨so, n, sc⟩ := s
  obtain ⟨dao, dl, dc⟩ := ds
  have hn : p.length = n := hP.ok.len.symm
  have hnm : n ≤ maxLen := Nat.le_trans hP.ok.cap hP.ok.max
  have hdn : dr.length = dl := hd.len.symm
  have hdm : dl ≤ maxLen := Nat.le_trans hd.cap hd.max
  unfold maxLen at hnm hdm
  have HP := Lib.hid hP
  have HN := Lib.hid hn
  have HDO := Lib.hid hd
  have HI := Lib.hid hi
  have HDN := Lib.hid hdn
  have HDR := Lib.hid hdr
  clear hP hn hd hi hdn hdr
  unfold Sl.val
  dsimp only
  go_enter Try.func3, Try.ntmps3
  go_upto_region 1 with fail
  refine at_world (φ := fun w' => Hid (Boxes w w' [(w.heap.size, 27, [.slice so n sc, .int .i64 su, .int .i64 ca, .slice dao dl dc])])) (Lib.hid (boxes1 w 27 [.slice so n sc, .int .i64 su, .int .i64 ca, .slice dao dl dc])) ?_
  intro w1 B1
  generalize w.heap.size = b1 at B1 ⊢
  go_wp2_with fail
  refine (alive_any w1).mono ?_
  rintro e w2 ⟨rfl, t2⟩
  have B2 := Lib.hid (B1.out.new t2)
  have F0 := B2.out.f 0 rfl
  clear t2 B1
  rcases Nat.lt_or_ge 20 n with hbig | hn20
  · go_wp2_with fail
    go_ret
    exact ⟨rfl, B2.out.t⟩
  rcases Nat.lt_or_ge 300 dl with hbig | hd300
  · go_wp2_with fail
    go_ret
    exact ⟨rfl, B2.out.t⟩
  clear hnm hdm
  go_upto_region 6 with fail
  clear F0
  go_loopw [24] (fun s24 wr => ∃ i : Nat, i ≤ n ∧ s24 = .int .i64 i ∧ Hid (∀ (j : Nat) l, j < i → p[j]? = some l → l.length ≤ 40) ∧ Hid (Boxes w wr [(b1, 27, [.slice so n sc, .int .i64 su, .int .i64 ca, .slice dao dl dc])])) (fun s24 _ => n - (intOf s24).toNat)
  case atStart => exact ⟨0, Nat.zero_le _, rfl, Lib.hid fun j l hj => absurd hj (Nat.not_lt_zero _), B2⟩
  case round =>
    clear B2
    obtain ⟨i, hi, rfl, HA, HBX⟩ := hrel
    by_cases hlt : i < n
    · obtain ⟨l, hl⟩ : ∃ l, p[i]? = some l := ⟨_, List.getElem?_eq_getElem (by rw [HN.out]; exact hlt)⟩
      obtain ⟨a, ⟨xo, xl, xc⟩, ha, hx, hcc⟩ := HP.out.at hl
      dsimp only at ha
      subst ha
      have hcx : wr.cell? (a.add i) = some (.slice xo xl xc) := HBX.out.t.cell id hcc
      have hxl : l.length = xl := hx.ok.len.symm
      have hxm : xl ≤ maxLen := Nat.le_trans hx.ok.cap hx.ok.max
      unfold maxLen at hxm
      have HXL := Lib.hid hxl
      have HLL := Lib.hid hl
      clear hcc hx hl hxl
      rcases Nat.lt_or_ge 40 xl with hbig | h40
      · go_wp2_with fail
        go_ret
        exact ⟨rfl, HBX.out.t⟩
      · clear hxm
        go_wp2_with fail
        go_roundw
        case rel =>
          refine ⟨i + 1, by omega, by go_num, Lib.hid fun j y hj hy => ?_, HBX⟩
          rcases Nat.lt_or_ge j i with h | h
          · exact HA.out j y h hy
          · obtain rfl : j = i := by omega
            obtain rfl := Option.some.inj (HLL.out.symm.trans hy)
            rw [HXL.out]
            exact h40
        case measure => simp [intOf]; omega
    · have HWP := Lib.hid (show WideP p from ⟨by rw [HN.out]; omega, fun l hl => ⟨by
        obtain ⟨j, hj⟩ := List.getElem?_of_mem hl
        have := HA.out j l (by have := (List.getElem?_eq_some_iff.1 hj).1; rw [HN.out] at this; omega) hj
        omega, trivial⟩⟩)
      have F0 := HBX.out.f 0 rfl
      go_wp2_with (refine wpList_load_part rfl rfl HBX.out 0 rfl 1 [.int .i64 su, .int .i64 ca] rfl given_part t_config2 ?_)
      refine (new_any (s := ⟨so, n, sc⟩) (ds := ⟨dao, dl, dc⟩) (p := p) (n := n) (su := su) (ca := ca) (dr := dr) wr (HP.out.new HBX.out.t) HN.out HWP.out HDO.out (HI.out.turn HBX.out.t (fun _ _ => id)) ⟨by rw [HDN.out]; exact hd300, HDR.out⟩).mono ?_
      rintro e w3 ⟨t3, c1, c2, c3⟩
      have T3 := Lib.hid t3
      clear t3 F0
      cases hr : rightP p with
      | false =>
        obtain rfl := c1 hr
        have HRP := Lib.hid hr
        clear c1 c2 c3 hr
        have HB3 := Lib.hid (HBX.out.new T3.out)
        have F0 := HB3.out.f 0 rfl
        go_wp2_with (refine wpList_load_part rfl rfl HB3.out 0 rfl 1 [.int .i64 su, .int .i64 ca] rfl given_part t_config2 ?_)
        refine (docnew_any (s := ⟨so, n, sc⟩) (ds := ⟨dao, dl, dc⟩) (p := p) (n := n) (su := su) (ca := ca) (dr := dr) w3 (HP.out.new HB3.out.t) HN.out HWP.out HDO.out (HI.out.turn HB3.out.t (fun _ _ => id))).mono ?_
        rintro e w4 ⟨t4, d1, d2, d3⟩
        clear F0
        obtain ⟨z, rfl⟩ := d1 HRP.out
        have T4 := Lib.hid t4
        have HB4 := Lib.hid (HB3.out.new T4.out)
        obtain ⟨b7, hb7⟩ : ∃ b7, w4.heap.size = b7 := ⟨_, rfl⟩
        have BA := Lib.hid (HB4.out.alloc 41 zS.cs)
        rw [hb7] at BA
        clear d1 d2 d3 t4
        go_wp2_with (refine wpList_store_box rfl rfl BA.out 1 rfl rfl z.cs rfl rfl t_state (sv_ok.one _) ?_; intro w5 B5 T5)
        go_ret
        exact ⟨rfl, B5.out.t⟩
      | true =>
        have HRP := Lib.hid hr
        cases hc : R5.C5.canB su p.length ca with
        | false =>
          obtain rfl := c2 hr hc
          have HCB := Lib.hid hc
          clear c1 c2 c3 hr hc
          have HB3 := Lib.hid (HBX.out.new T3.out)
          have F0 := HB3.out.f 0 rfl
          go_wp2_with (refine wpList_load_part rfl rfl HB3.out 0 rfl 1 [.int .i64 su, .int .i64 ca] rfl given_part t_config2 ?_)
          refine (docnew_any (s := ⟨so, n, sc⟩) (ds := ⟨dao, dl, dc⟩) (p := p) (n := n) (su := su) (ca := ca) (dr := dr) w3 (HP.out.new HB3.out.t) HN.out HWP.out HDO.out (HI.out.turn HB3.out.t (fun _ _ => id))).mono ?_
          rintro e w4 ⟨t4, d1, d2, d3⟩
          clear F0
          obtain ⟨z, rfl⟩ := d2 HRP.out HCB.out
          have T4 := Lib.hid t4
          have HB4 := Lib.hid (HB3.out.new T4.out)
          obtain ⟨b7, hb7⟩ : ∃ b7, w4.heap.size = b7 := ⟨_, rfl⟩
          have BA := Lib.hid (HB4.out.alloc 41 zS.cs)
          rw [hb7] at BA
          clear d1 d2 d3 t4
          go_wp2_with (refine wpList_store_box rfl rfl BA.out 1 rfl rfl z.cs rfl rfl t_state (sv_ok.one _) ?_; intro w5 B5 T5)
          go_ret
          exact ⟨rfl, B5.out.t⟩
        | true =>
          obtain ⟨base, y, tag, rfl, hW, hS, hG, hBl⟩ := c3 hr hc
          have HCB := Lib.hid hc
          have h1 : (0 ≤ su ∧ su ≤ 64) ∧ (1 ≤ ca ∧ ca ≤ 16) := by
            unfold R5.C5.canB at hc
            have := of_decide_eq_true hc
            omega
          have hok : WOk y n ∧ SmOk (newS p su ca dr) n := by
            obtain ⟨m, hm⟩ : ∃ m : Nat, su = (m : Int) := ⟨su.toNat, by omega⟩
            obtain ⟨c, hcc⟩ : ∃ c : Nat, ca = (c : Int) := ⟨ca.toNat, by omega⟩
            rw [hm, hcc] at hS ⊢
            exact ⟨new_wok HN.out hr (by omega) (by omega) hS (hG.trans HN.out) (hBl.trans HN.out), new_smok HN.out hr (by omega) (by omega) (by rw [HDN.out]; exact hd300)⟩
          have HOK := Lib.hid hok
          have HW := Lib.hid hW
          have HS := Lib.hid hS
          clear c1 c2 c3 hr hc h1 hok hW hS hG hBl
          have HB3 := Lib.hid (HBX.out.new T3.out)
          have F0 := HB3.out.f 0 rfl
          go_wp2_with (refine wpList_load_part rfl rfl HB3.out 0 rfl 1 [.int .i64 su, .int .i64 ca] rfl given_part t_config2 ?_)
          refine (docnew_any (s := ⟨so, n, sc⟩) (ds := ⟨dao, dl, dc⟩) (p := p) (n := n) (su := su) (ca := ca) (dr := dr) w3 (HP.out.new HB3.out.t) HN.out HWP.out HDO.out (HI.out.turn HB3.out.t (fun _ _ => id))).mono ?_
          rintro e w4 ⟨t4, d1, d2, d3⟩
          clear F0
          obtain ⟨z, rfl, hz, hrs⟩ := d3 HRP.out HCB.out
          have HZ := Lib.hid hz
          have HRS := Lib.hid hrs
          clear hz hrs
          have T4 := Lib.hid t4
          have HB4 := Lib.hid (HB3.out.new T4.out)
          obtain ⟨b7, hb7⟩ : ∃ b7, w4.heap.size = b7 := ⟨_, rfl⟩
          have BA := Lib.hid (HB4.out.alloc 41 zS.cs)
          rw [hb7] at BA
          clear d1 d2 d3 t4
          go_upto_region 15 with (refine wpList_store_box rfl rfl BA.out 1 rfl rfl z.cs rfl rfl t_state (sv_ok.one _) ?_; intro w5 B5 T5)
          have T45 := Lib.hid (show Turn (fun _ => False) w4 w5 from ((Turn.refl (fun _ => False) w4).alloc _).and T5.out (fun i hi e => by omega))
          have A0 : ∀ k, w5.cell? ⟨b7, k, none⟩ = z.cs[k]? := B5.out.f 1 rfl
          refine stand_start (by kernel_rfl) 99 (fun w' => ∀ k, w'.cell? ⟨b7, k, none⟩ = z.cs[k]?) 99 (fun _ => True) A0 trivial ?_
          have HBD := Lib.hid B5.out.drew
          have HWD := Lib.hid ((HW.out.new (T4.out.trans T45.out)).new (Turn.refl _ _).drew)
          have HRD := Lib.hid ((HRS.out.new T45.out).new (Turn.refl _ _).drew)
          clear A0 B5 T5 BA HB4 HB3 HRS HW T45
          generalize w5.drew = wd at HBD HWD HRD ⊢
          refine stand_take (i := 0) (v := ?_) rfl (by kernel_rfl) (by kernel_rfl) (by kernel_rfl) (by rfl) (fun _ _ _ h => h) (by decide) (by decide) (by rfl) ?_ ?_
          rotate_left
          · (intro w; go_simp; try with_reducible rfl)
          dsimp only [List.set_cons_zero, List.set_cons_succ]
          refine stand_take (i := 1) (v := ?_) rfl (by kernel_rfl) (by kernel_rfl) (by kernel_rfl) (by rfl) (fun _ _ _ h => h) (by decide) (by decide) (by rfl) ?_ ?_
          rotate_left
          · (intro w; go_simp; try with_reducible rfl)
          dsimp only [List.set_cons_zero, List.set_cons_succ]
          refine stand_take (i := 2) (v := ?_) rfl (by kernel_rfl) (by kernel_rfl) (by kernel_rfl) (by rfl) (fun _ _ _ h => h) (by decide) (by decide) (by rfl) ?_ ?_
          rotate_left
          · (intro w; go_simp; try with_reducible rfl)
          dsimp only [List.set_cons_zero, List.set_cons_succ]
          refine stand_take (i := 3) (v := ?_) rfl (by kernel_rfl) (by kernel_rfl) (by kernel_rfl) (by rfl) (fun _ _ _ h => h) (by decide) (by decide) (by rfl) ?_ ?_
          rotate_left
          · (intro w; go_simp; try with_reducible rfl)
          dsimp only [List.set_cons_zero, List.set_cons_succ]
          refine stand_take (i := 4) (v := ?_) rfl (by kernel_rfl) (by kernel_rfl) (by kernel_rfl) (by rfl) (fun _ _ _ h => h) (by decide) (by decide) (by rfl) ?_ ?_
          rotate_left
          · (intro w; go_simp; try with_reducible rfl)
          dsimp only [List.set_cons_zero, List.set_cons_succ]
          refine stand_take (i := 5) (v := ?_) rfl (by kernel_rfl) (by kernel_rfl) (by kernel_rfl) (by rfl) (fun _ _ _ h => h) (by decide) (by decide) (by rfl) ?_ ?_
          rotate_left
          · (intro w; go_simp; try with_reducible rfl)
          dsimp only [List.set_cons_zero, List.set_cons_succ]
          refine stand_take (i := 6) (v := ?_) rfl (by kernel_rfl) (by kernel_rfl) (by kernel_rfl) (by rfl) (fun _ _ _ h => h) (by decide) (by decide) (by rfl) ?_ ?_
          rotate_left
          · (intro w; go_simp; try with_reducible rfl)
          dsimp only [List.set_cons_zero, List.set_cons_succ]
          refine stand_take (i := 7) (v := ?_) rfl (by kernel_rfl) (by kernel_rfl) (by kernel_rfl) (by rfl) (fun _ _ _ h => h) (by decide) (by decide) (by rfl) ?_ ?_
          rotate_left
          · (intro w; go_simp; try with_reducible rfl)
          dsimp only [List.set_cons_zero, List.set_cons_succ]
          refine stand_load3 (i := 9) (v := .agg z.cs.toArray) rfl (by kernel_rfl) (by kernel_rfl) (by kernel_rfl) (by rfl) (fun _ _ _ h => h) (by decide) (by decide) (by kernel_rfl) (by rfl) (fun w hA => exec_at (all_at hA) t_state rfl rfl) ?_
          dsimp only [List.set_cons_zero, List.set_cons_succ]
          refine stand_step (i := 8) (by kernel_rfl) rfl (fun K hK => ?_)
          go_simp
          refine (state_any wd HWD.out HOK.out.1).mono ?_
          rintro e w6 ⟨z2, rfl, hz2, hrs2, t6⟩
          have HZ2 := Lib.hid hz2
          have HR2 := Lib.hid hrs2
          have HB6 := Lib.hid (HBD.out.new t6)
          have HR6 := Lib.hid (HRD.out.new t6)
          clear hz2 hrs2 t6
          refine hK.out _ _ (fun _ => HB6.out.f 1 rfl) (fun _ => trivial) ?_
          clear hK K
          try simp only [put_laid, List.set_cons_zero, List.set_cons_succ]
          refine stand_step (i := 10) (by kernel_rfl) rfl (fun K hK => ?_)
          go_simp
          refine (same_same (x := z2) (y := z) (n := n) w6 HR2.out HR6.out (by rw [HZ.out, HZ2.out, HS.out]) (by rw [HZ2.out, HS.out]; exact HOK.out.2)).mono ?_
          rintro e w7 ⟨rfl, t7⟩
          have HB7 := Lib.hid (HB6.out.new t7)
          clear t7
          refine hK.out _ _ (fun _ => HB7.out.f 1 rfl) (fun _ => trivial) ?_
          clear hK K
          try simp only [put_laid, List.set_cons_zero, List.set_cons_succ]
          refine stand_take (i := 11) (v := ?_) rfl (by kernel_rfl) (by kernel_rfl) (by kernel_rfl) (by rfl) (fun _ _ _ h => h) (by decide) (by decide) (by rfl) ?_ ?_
          rotate_left
          · (intro w; go_simp; try with_reducible rfl)
          dsimp only [List.set_cons_zero, List.set_cons_succ]
          refine stand_take (i := 12) (v := ?_) rfl (by kernel_rfl) (by kernel_rfl) (by kernel_rfl) (by rfl) (fun _ _ _ h => h) (by decide) (by decide) (by rfl) ?_ ?_
          rotate_left
          · (intro w; go_simp; try with_reducible rfl)
          dsimp only [List.set_cons_zero, List.set_cons_succ]
          refine stand_done (by kernel_rfl) ?_
          go_wp2_with fail
          go_ret
          exact ⟨rfl, HB7.out.t⟩

end Go.Proofs.Ytenbafkgfdlfpaa
