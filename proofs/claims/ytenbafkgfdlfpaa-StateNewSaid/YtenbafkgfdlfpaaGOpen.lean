/- A plan, and an op, that came in. General, over any program. -/
import Derived.Test.YtenbafkgfdlfpaaGNest
import Derived.Test.YtenbafkgfdlfpaaGTrips
namespace Go.Proofs.Ytenbafkgfdlfpaa
open Go.ChangeShapes Go.WideShapes Go.Joins Go.Deep

/-- An int's or an int64's bounds. -/
def W64 (n : Int) : Prop := -9223372036854775808 ≤ n ∧ n ≤ 9223372036854775807
theorem W64.of {n : Int} (h : (Lit.int .i64 n).wf = true) : W64 n := wf_i64 h
structure WfC (c : Cas) : Prop where
  ch : W64 c.ch
  v : W64 c.v
structure WfO (o : Opr) : Prop where
  kind : W64 o.kind
  ch : W64 o.ch
  n : W64 o.n
  v : W64 o.v
  cases : ∀ c ∈ o.cases, WfC c

/-- What there is at each number, as a list. -/
theorem list_of {α : Type} {n : Nat} {φ : Nat → α → Prop} (h : ∀ i, i < n → ∃ x, φ i x) : ∃ L : List α, L.length = n ∧ ∀ (i : Nat) x, L[i]? = some x → φ i x := by
  induction n with
  | zero => exact ⟨[], rfl, fun i x hx => by simp at hx⟩
  | succ n ih =>
    obtain ⟨L, hl, hL⟩ := ih fun i hi => h i (by omega)
    obtain ⟨y, hy⟩ := h n (by omega)
    refine ⟨L ++ [y], by simp [hl], fun i x hx => ?_⟩
    rcases Nat.lt_or_ge i n with hi | hi
    · rw [List.getElem?_append_left (by omega)] at hx
      exact hL i x hx
    · rw [List.getElem?_append_right (by omega), hl] at hx
      have e : i - n = 0 := by
        rcases Nat.eq_zero_or_pos (i - n) with h0 | h0
        · exact h0
        · rw [List.getElem?_eq_none (by simp only [List.length_singleton]; omega)] at hx; cases hx
      rw [e] at hx
      obtain rfl : y = x := by simpa using hx
      obtain rfl : i = n := by omega
      exact hy

section
variable {H : Type} {enc : TypeId × Value → H} {P : Program} {w : World} {base : Nat} {held : Bool}
/-- A slice that came in: its parts, and each thing's cells. -/
theorem open_sl {t e : TypeId} {fuel : Nat} {u : Value} {x : DataW H × List MemPlace} (ht : P.underlying t = some (.slice e)) (h : DataW.trod enc P w base (fun _ => true) held fuel t [u] = some x) :
    ∃ s : Sl, u = s.val ∧ s.Ok s.len ∧ ∀ i, i < s.len → ∃ a n y cs', s.ao = some a ∧ cs'.length = P.cellsOf e ∧ (∀ j, j < P.cellsOf e → w.cell? ((a.add (i * P.cellsOf e)).add j) = cs'[j]?) ∧ DataW.trod enc P w base (fun _ => true) held n e cs' = some y := by
  rcases open_slice ht h with ⟨h0, _⟩ | ⟨a, len, cap, m, n, D, Pl, hcs, _, hl, hm, hmm, _, hx⟩
  · exact ⟨⟨none, 0, 0⟩, (List.cons.inj h0).1, ⟨rfl, Nat.le_refl _, Nat.zero_le _, fun _ => rfl⟩, fun i hi => absurd hi (Nat.not_lt_zero _)⟩
  · refine ⟨⟨some a, len, cap⟩, (List.cons.inj hcs).1, ⟨rfl, hl, hm, fun h => by cases h⟩, fun i hi => ?_⟩
    have hi' : i < len := hi
    have hmc : m = cap := by simpa using hmm
    obtain ⟨cs', h1, h2⟩ := hx i (by omega)
    obtain ⟨_, hlen, hcell⟩ := World.cells?_some h1
    exact ⟨a, n, _, cs', rfl, hlen, hcell, h2⟩

theorem open_cs {t e : TypeId} {f0 f1 f2 : Field} {fuel : Nat} {u : Value} {x : DataW H × List MemPlace} (ht : P.underlying t = some (.slice e)) (he : P.underlying e = some (.struct #[f0, f1, f2])) (hone : oneCellFields P #[f0, f1, f2] = true) (ce : P.cellsOf e = 3)
    (u0 : P.underlying f0.type = some .bool) (u1 : P.underlying f1.type = some (.int .i64)) (u2 : P.underlying f2.type = some (.int .i64)) (h : DataW.trod enc P w base (fun _ => true) held fuel t [u] = some x) :
    ∃ (s : Sl) (L : List Cas), u = s.val ∧ RCs w s L ∧ ∀ c ∈ L, WfC c := by
  obtain ⟨s, hu, hok, hall⟩ := open_sl ht h
  obtain ⟨L, hl, hL⟩ := list_of (n := s.len) (φ := fun i (c : Cas) => WfC c ∧ ∃ a, s.ao = some a ∧ ∀ j u, (encCV c)[j]? = some u → w.cell? ((a.add (i * 3)).add j) = some u) fun i hi => by
    obtain ⟨a, n, y, cs', ha, hlen, hcell, h2⟩ := hall i hi
    rw [ce] at hlen hcell
    obtain ⟨ys, n', _, _, _, hyl, hf⟩ := DataW.trod_struct he h2
    obtain ⟨o0, s0⟩ := hone_of hone 0 f0 rfl
    obtain ⟨o1, s1⟩ := hone_of hone 1 f1 rfl
    obtain ⟨o2, s2⟩ := hone_of hone 2 f2 rfl
    match ys, hyl, cs', hlen with
    | [y0, y1, y2], _, [v0, v1, v2], _ =>
      have g0 := hf 0 f0 rfl
      have g1 := hf 1 f1 rfl
      have g2 := hf 2 f2 rfl
      simp [o0, o1, o2, s0, s1, s2] at g0 g1 g2
      obtain ⟨b0, c0, _⟩ := DataW.trod_bool u0 g0
      obtain ⟨n1, c1, _, w1⟩ := DataW.trod_int u1 g1
      obtain ⟨n2, c2, _, w2⟩ := DataW.trod_int u2 g2
      obtain rfl := (List.cons.inj c0).1
      obtain rfl := (List.cons.inj c1).1
      obtain rfl := (List.cons.inj c2).1
      refine ⟨⟨b0, n1, n2⟩, ⟨.of w1, .of w2⟩, a, ha, fun j u hj => ?_⟩
      have hj3 : j < 3 := (List.getElem?_eq_some_iff.1 hj).1
      rw [hcell j hj3]
      exact hj
  refine ⟨s, L, hu, ⟨hl ▸ hok, fun j c hc => (hL j c hc).2⟩, fun c hc => ?_⟩
  obtain ⟨i, hi⟩ := List.mem_iff_getElem?.1 hc
  exact (hL i c hi).1

/-- An op's six cells. -/
theorem open_op {t e : TypeId} {f0 f1 f2 f3 f4 f5 g0 g1 g2 : Field} {fuel : Nat} {cs : List Value} {x : DataW H × List MemPlace} (ht : P.underlying t = some (.struct #[f0, f1, f2, f3, f4, f5])) (hone : oneCellFields P #[f0, f1, f2, f3, f4, f5] = true) (hl : cs.length = 6)
    (u0 : P.underlying f0.type = some (.int .i64)) (u1 : P.underlying f1.type = some (.int .i64)) (u2 : P.underlying f2.type = some (.int .i64)) (u3 : P.underlying f3.type = some (.int .i64)) (u4 : P.underlying f4.type = some (.slice e)) (u5 : P.underlying f5.type = some .bool)
    (he : P.underlying e = some (.struct #[g0, g1, g2])) (honeC : oneCellFields P #[g0, g1, g2] = true) (ce : P.cellsOf e = 3) (k0 : P.underlying g0.type = some .bool) (k1 : P.underlying g1.type = some (.int .i64)) (k2 : P.underlying g2.type = some (.int .i64))
    (h : DataW.trod enc P w base (fun _ => true) held fuel t cs = some x) : ∃ (r : OpV) (o : Opr), cs = encOV r ∧ ROp w r o ∧ WfO o := by
  obtain ⟨ys, n', _, _, _, hyl, hf⟩ := DataW.trod_struct ht h
  obtain ⟨o0, s0⟩ := hone_of hone 0 f0 rfl
  obtain ⟨o1, s1⟩ := hone_of hone 1 f1 rfl
  obtain ⟨o2, s2⟩ := hone_of hone 2 f2 rfl
  obtain ⟨o3, s3⟩ := hone_of hone 3 f3 rfl
  obtain ⟨o4, s4⟩ := hone_of hone 4 f4 rfl
  obtain ⟨o5, s5⟩ := hone_of hone 5 f5 rfl
  match ys, hyl, cs, hl with
  | [y0, y1, y2, y3, y4, y5], _, [v0, v1, v2, v3, v4, v5], _ =>
    have q0 := hf 0 f0 rfl
    have q1 := hf 1 f1 rfl
    have q2 := hf 2 f2 rfl
    have q3 := hf 3 f3 rfl
    have q4 := hf 4 f4 rfl
    have q5 := hf 5 f5 rfl
    simp [o0, o1, o2, o3, o4, o5, s0, s1, s2, s3, s4, s5] at q0 q1 q2 q3 q4 q5
    obtain ⟨n0, c0, _, w0⟩ := DataW.trod_int u0 q0
    obtain ⟨n1, c1, _, w1⟩ := DataW.trod_int u1 q1
    obtain ⟨n2, c2, _, w2⟩ := DataW.trod_int u2 q2
    obtain ⟨n3, c3, _, w3⟩ := DataW.trod_int u3 q3
    obtain ⟨b5, c5, _⟩ := DataW.trod_bool u5 q5
    obtain ⟨s, L, hs, hL, hwf⟩ := open_cs u4 he honeC ce k0 k1 k2 q4
    obtain rfl := (List.cons.inj c0).1
    obtain rfl := (List.cons.inj c1).1
    obtain rfl := (List.cons.inj c2).1
    obtain rfl := (List.cons.inj c3).1
    obtain rfl := (List.cons.inj c5).1
    subst hs
    exact ⟨⟨n0, n1, n2, n3, s, b5⟩, ⟨n0, n1, n2, n3, L, b5⟩, rfl, ⟨rfl, rfl, rfl, rfl, rfl, hL⟩, ⟨.of w0, .of w1, .of w2, .of w3, hwf⟩⟩

theorem open_ops {tl t e : TypeId} {f0 f1 f2 f3 f4 f5 g0 g1 g2 : Field} {fuel : Nat} {u : Value} {x : DataW H × List MemPlace} (hs : P.underlying tl = some (.slice t)) (ct : P.cellsOf t = 6) (ht : P.underlying t = some (.struct #[f0, f1, f2, f3, f4, f5])) (hone : oneCellFields P #[f0, f1, f2, f3, f4, f5] = true)
    (u0 : P.underlying f0.type = some (.int .i64)) (u1 : P.underlying f1.type = some (.int .i64)) (u2 : P.underlying f2.type = some (.int .i64)) (u3 : P.underlying f3.type = some (.int .i64)) (u4 : P.underlying f4.type = some (.slice e)) (u5 : P.underlying f5.type = some .bool)
    (he : P.underlying e = some (.struct #[g0, g1, g2])) (honeC : oneCellFields P #[g0, g1, g2] = true) (ce : P.cellsOf e = 3) (k0 : P.underlying g0.type = some .bool) (k1 : P.underlying g1.type = some (.int .i64)) (k2 : P.underlying g2.type = some (.int .i64))
    (h : DataW.trod enc P w base (fun _ => true) held fuel tl [u] = some x) : ∃ (s : Sl) (l : List Opr), u = s.val ∧ ROps w s l ∧ ∀ o ∈ l, WfO o := by
  obtain ⟨s, hu, hok, hall⟩ := open_sl hs h
  obtain ⟨L, hl, hL⟩ := list_of (n := s.len) (φ := fun i (q : OpV × Opr) => ROp w q.1 q.2 ∧ WfO q.2 ∧ ∃ a, s.ao = some a ∧ ∀ j u, (encOV q.1)[j]? = some u → w.cell? ((a.add (i * 6)).add j) = some u) fun i hi => by
    obtain ⟨a, n, y, cs', ha, hlen, hcell, h2⟩ := hall i hi
    rw [ct] at hlen hcell
    obtain ⟨r, o, hr, ho, hw⟩ := open_op ht hone hlen u0 u1 u2 u3 u4 u5 he honeC ce k0 k1 k2 h2
    refine ⟨(r, o), ho, hw, a, ha, fun j u hj => ?_⟩
    have hj6 : j < 6 := (List.getElem?_eq_some_iff.1 hj).1
    rw [hcell j hj6, hr]
    exact hj
  refine ⟨s, L.map (·.2), hu, ⟨?_, L.map (·.1), by simp, fun j r hr => ?_, fun i r o hr ho => ?_⟩, fun o ho => ?_⟩
  · rw [List.length_map, hl]; exact hok
  · rw [List.getElem?_map] at hr
    obtain ⟨q, hq, rfl⟩ := Option.map_eq_some_iff.1 hr
    exact (hL j q hq).2.2
  · rw [List.getElem?_map] at hr ho
    obtain ⟨q, hq, rfl⟩ := Option.map_eq_some_iff.1 hr
    obtain ⟨q', hq', rfl⟩ := Option.map_eq_some_iff.1 ho
    rw [hq] at hq'
    obtain rfl := Option.some.inj hq'
    exact (hL i q hq).1
  · obtain ⟨q, hq, rfl⟩ := List.mem_map.1 ho
    obtain ⟨i, hi⟩ := List.mem_iff_getElem?.1 hq
    exact (hL i q hi).2.1

theorem open_plan {tp tl t e : TypeId} {f0 f1 f2 f3 f4 f5 g0 g1 g2 : Field} {fuel : Nat} {u : Value} {x : DataW H × List MemPlace} (hp : P.underlying tp = some (.slice tl)) (cl : P.cellsOf tl = 1) (hs : P.underlying tl = some (.slice t)) (ct : P.cellsOf t = 6) (ht : P.underlying t = some (.struct #[f0, f1, f2, f3, f4, f5])) (hone : oneCellFields P #[f0, f1, f2, f3, f4, f5] = true)
    (u0 : P.underlying f0.type = some (.int .i64)) (u1 : P.underlying f1.type = some (.int .i64)) (u2 : P.underlying f2.type = some (.int .i64)) (u3 : P.underlying f3.type = some (.int .i64)) (u4 : P.underlying f4.type = some (.slice e)) (u5 : P.underlying f5.type = some .bool)
    (he : P.underlying e = some (.struct #[g0, g1, g2])) (honeC : oneCellFields P #[g0, g1, g2] = true) (ce : P.cellsOf e = 3) (k0 : P.underlying g0.type = some .bool) (k1 : P.underlying g1.type = some (.int .i64)) (k2 : P.underlying g2.type = some (.int .i64))
    (h : DataW.trod enc P w base (fun _ => true) held fuel tp [u] = some x) : ∃ (s : Sl) (p : List (List Opr)), u = s.val ∧ RPlan w s p ∧ ∀ l ∈ p, ∀ o ∈ l, WfO o := by
  obtain ⟨s, hu, hok, hall⟩ := open_sl hp h
  obtain ⟨L, hl, hL⟩ := list_of (n := s.len) (φ := fun i (q : Sl × List Opr) => ROps w q.1 q.2 ∧ (∀ o ∈ q.2, WfO o) ∧ ∃ a, s.ao = some a ∧ ∀ j u, (encSV q.1)[j]? = some u → w.cell? ((a.add (i * 1)).add j) = some u) fun i hi => by
    obtain ⟨a, n, y, cs', ha, hlen, hcell, h2⟩ := hall i hi
    rw [cl] at hlen hcell
    match cs', hlen with
    | [v], _ =>
      obtain ⟨s', l, hv, hr, hw⟩ := open_ops hs ct ht hone u0 u1 u2 u3 u4 u5 he honeC ce k0 k1 k2 h2
      refine ⟨(s', l), hr, hw, a, ha, fun j u hj => ?_⟩
      have hj1 : j < 1 := (List.getElem?_eq_some_iff.1 hj).1
      rw [hcell j hj1, hv]
      exact hj
  refine ⟨s, L.map (·.2), hu, ⟨?_, L.map (·.1), by simp, fun j r hr => ?_, fun i r o hr ho => ?_⟩, fun o ho => ?_⟩
  · rw [List.length_map, hl]; exact hok
  · rw [List.getElem?_map] at hr
    obtain ⟨q, hq, rfl⟩ := Option.map_eq_some_iff.1 hr
    exact (hL j q hq).2.2
  · rw [List.getElem?_map] at hr ho
    obtain ⟨q, hq, rfl⟩ := Option.map_eq_some_iff.1 hr
    obtain ⟨q', hq', rfl⟩ := Option.map_eq_some_iff.1 ho
    rw [hq] at hq'
    obtain rfl := Option.some.inj hq'
    exact (hL i q hq).1
  · obtain ⟨q, hq, rfl⟩ := List.mem_map.1 ho
    obtain ⟨i, hi⟩ := List.mem_iff_getElem?.1 hq
    exact (hL i q hi).2.1
end

end Go.Proofs.Ytenbafkgfdlfpaa
