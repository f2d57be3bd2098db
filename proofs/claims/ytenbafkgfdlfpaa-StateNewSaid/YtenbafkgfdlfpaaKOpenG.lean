/- How a machine begins: a plan, two numbers, and drawn numbers that came in as one argument. General, over any program. -/
import Derived.Test.YtenbafkgfdlfpaaGOpen
import Derived.Lib.SmallJoins
import Derived.ChangeSlices
namespace Go.Proofs.Ytenbafkgfdlfpaa
open Go.ChangeShapes Go.WideShapes Go.Joins Go.Deep

section
variable {H : Type} {enc : TypeId × Value → H} {P : Program} {w : World} {base : Nat} {held : Bool}
theorem open_u16s {t e : TypeId} {fuel : Nat} {u : Value} {x : DataW H × List MemPlace} (ht : P.underlying t = some (.slice e)) (he : P.underlying e = some (.int .u16)) (hc : P.cellsOf e = 1) (h : DataW.trod enc P w base (fun _ => true) held fuel t [u] = some x) :
    ∃ (s : Sl) (L : List Int), u = s.val ∧ s.Ok L.length ∧ Ints .u16 w s.ao L ∧ ∀ n ∈ L, 0 ≤ n ∧ n ≤ 65535 := by
  rcases open_ints ht he hc h with ⟨hcs, _⟩ | ⟨a, len, cap, zs, hcs, _, hl, hm, hz, _, hcell, hwf⟩
  · exact ⟨⟨none, 0, 0⟩, [], (List.cons.inj hcs).1, ⟨rfl, Nat.le_refl _, Nat.zero_le _, fun _ => rfl⟩, fun j hj => absurd hj (Nat.not_lt_zero _), fun n hn => by cases hn⟩
  · have hz' : zs.length = cap := by simpa using hz
    have htl : (zs.take len).length = len := by rw [List.length_take]; omega
    refine ⟨⟨some a, len, cap⟩, zs.take len, (List.cons.inj hcs).1, ⟨htl.symm, hl, hm, fun e => by cases e⟩, fun j hj => ⟨a, rfl, ?_⟩, fun n hn => wf_u16 (hwf n (List.mem_of_mem_take hn))⟩
    rw [htl] at hj
    have h1 := hcell j (by omega)
    rw [h1]
    have h2 : (zs.take len).getD j 0 = zs.getD j 0 := by simp [List.getD, hj]
    rw [h2]
theorem open_given {rr : Reach} {b0 : Nat} {tg tl t e du : TypeId} {q0 q1 q2 c0 c1 f0 f1 f2 f3 f4 f5 g0 g1 g2 : Field} {v : Value} {d : DataW H} {p : List MemPlace} (hg : P.underlying tg = some (.struct #[q0, q1, q2])) (hC : P.cellsOf tg = 4)
    (a0 : q0.offset = 0) (b00 : P.cellsOf q0.type = 1) (a1 : q1.offset = 1) (b1 : P.cellsOf q1.type = 2) (a2 : q2.offset = 3) (b2 : P.cellsOf q2.type = 1)
    (hc : P.underlying q1.type = some (.struct #[c0, c1])) (honeG : oneCellFields P #[c0, c1] = true) (v0 : P.underlying c0.type = some (.int .i64)) (v1 : P.underlying c1.type = some (.int .i64))
    (hd : P.underlying q2.type = some (.slice du)) (hdu : P.underlying du = some (.int .u16)) (cdu : P.cellsOf du = 1)
    (hp : P.underlying q0.type = some (.slice tl)) (cl : P.cellsOf tl = 1) (hs : P.underlying tl = some (.slice t)) (ct : P.cellsOf t = 6) (ht : P.underlying t = some (.struct #[f0, f1, f2, f3, f4, f5])) (hone : oneCellFields P #[f0, f1, f2, f3, f4, f5] = true)
    (u0 : P.underlying f0.type = some (.int .i64)) (u1 : P.underlying f1.type = some (.int .i64)) (u2 : P.underlying f2.type = some (.int .i64)) (u3 : P.underlying f3.type = some (.int .i64)) (u4 : P.underlying f4.type = some (.slice e)) (u5 : P.underlying f5.type = some .bool)
    (he : P.underlying e = some (.struct #[g0, g1, g2])) (honeC : oneCellFields P #[g0, g1, g2] = true) (ce : P.cellsOf e = 3) (k0 : P.underlying g0.type = some .bool) (k1 : P.underlying g1.type = some (.int .i64)) (k2 : P.underlying g2.type = some (.int .i64))
    (hv : Value.okWide P w rr b0 tg v) (h : DataW.Trod enc P w base (fun _ => true) held tg v d p) :
    ∃ (s : Sl) (q : List (List Opr)) (su ca : Int) (ds : Sl) (dr : List Int), v = .agg #[s.val, .int .i64 su, .int .i64 ca, ds.val] ∧ RPlan w s q ∧ ds.Ok dr.length ∧ Ints .u16 w ds.ao dr ∧ ∀ x ∈ dr, 0 ≤ x ∧ x ≤ 65535 := by
  obtain ⟨cs, rfl, hsz⟩ := okWide_struct hg hv
  obtain ⟨x0, x1, x2, x3, rfl⟩ := array4 (hsz.trans hC)
  obtain ⟨fuel, hf⟩ := h
  obtain ⟨xs, n', _, _, _, hlen, hfs⟩ := DataW.trod_struct hg hf
  match xs, hlen with
  | [y0, y1, y2], _ =>
    have r0 := hfs 0 q0 rfl
    have r1 := hfs 1 q1 rfl
    have r2 := hfs 2 q2 rfl
    simp [Value.cells, a0, a1, a2, b00, b1, b2] at r0 r1 r2
    obtain ⟨s, q, e0, hr, _⟩ := open_plan hp cl hs ct ht hone u0 u1 u2 u3 u4 u5 he honeC ce k0 k1 k2 r0
    obtain ⟨zs, n2, _, _, _, hlen2, hfs2⟩ := DataW.trod_struct hc r1
    obtain ⟨ds, dr, e3, h1, h2, h3⟩ := open_u16s hd hdu cdu r2
    obtain ⟨o0, s0⟩ := hone_of honeG 0 c0 rfl
    obtain ⟨o1, s1⟩ := hone_of honeG 1 c1 rfl
    match zs, hlen2 with
    | [z0, z1], _ =>
      have m0 := hfs2 0 c0 rfl
      have m1 := hfs2 1 c1 rfl
      simp [o0, o1, s0, s1] at m0 m1
      obtain ⟨su, e1, _, _⟩ := DataW.trod_int v0 m0
      obtain ⟨ca, e2, _, _⟩ := DataW.trod_int v1 m1
      obtain rfl := (List.cons.inj e1).1
      obtain rfl := (List.cons.inj e2).1
      subst e0 e3
      exact ⟨s, q, su, ca, ds, dr, rfl, hr, h1, h2, h3⟩
end

end Go.Proofs.Ytenbafkgfdlfpaa
