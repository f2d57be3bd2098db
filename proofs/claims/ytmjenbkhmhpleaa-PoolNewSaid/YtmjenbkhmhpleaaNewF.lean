/- The document's pool that came in. -/
import Derived.Test.YtmjenbkhmhpleaaNewE
import Derived.Deep.Matrix
import Derived.Deep.Slices
import Derived.ChangeSame
import Derived.ChangeArms
import Derived.Lib.SmallJoins
import Derived.Deep.Fields
namespace Go.Proofs.Ytmjenbkhmhpleaa
open Go.ChangeShapes Go.WideShapes Go.Joins Go.Deep
set_option linter.unusedVariables false

/-- A pool of the document that came in. -/
structure PoolArg (w : World) (n : Nat) (M : Nat → List Int) (ca : Option Addr) (cc : Nat) (ma : Option Addr) (nm mc : Nat) : Prop where
  came : Came w n M ca cc
  mid : Ints .i64 w ma (M n)
  midN : ma = none → mc = 0
  nm : (M n).length = nm
theorem array5 {α : Type} {cs : Array α} (h : cs.size = 5) : ∃ c0 c1 c2 c3 c4, cs = #[c0, c1, c2, c3, c4] := by
  obtain ⟨l⟩ := cs
  match l, h with
  | [c0, c1, c2, c3, c4], _ => exact ⟨c0, c1, c2, c3, c4, rfl⟩

section
variable {H : Type} {enc : TypeId × Value → H} {P : Program} {w : World} {base : Nat} {held : Bool}
theorem open_row {t e : TypeId} {fuel : Nat} {v : Value} {x : DataW H × List MemPlace} (ht : P.underlying t = some (.slice e)) (he : P.underlying e = some (.int .i64)) (hc : P.cellsOf e = 1)
    (h : DataW.trod enc P w base (fun _ => true) held fuel t [v] = some x) : ∃ a len cap, ∃ L : List Int, v = .slice a len cap ∧ Ints .i64 w a L ∧ (a = none → cap = 0) ∧ L.length = len := by
  rcases open_ints ht he hc h with ⟨hcs, _⟩ | ⟨a, len, cap, zs, hcs, _, hl, hm, hz, _, hcell, _⟩
  · exact ⟨none, 0, 0, [], (List.cons.inj hcs).1, fun j hj => (Nat.not_lt_zero _ hj).elim, fun _ => rfl, rfl⟩
  · have hz' : zs.length = cap := by simpa using hz
    refine ⟨some a, len, cap, zs.take len, (List.cons.inj hcs).1, fun j hj => ⟨a, rfl, ?_⟩, fun e => absurd e (by simp), by rw [List.length_take]; omega⟩
    have hj' : j < len := by simp at hj; omega
    rw [hcell j (by omega)]
    simp [List.getD, hj']
theorem open_rows {t e q : TypeId} {fuel : Nat} {v : Value} {x : DataW H × List MemPlace} (ht : P.underlying t = some (.slice e)) (he : P.underlying e = some (.slice q)) (hq : P.underlying q = some (.int .i64)) (ce : P.cellsOf e = 1) (cq : P.cellsOf q = 1)
    (h : DataW.trod enc P w base (fun _ => true) held fuel t [v] = some x) : ∃ a len cap, ∃ M : Nat → List Int, v = .slice a len cap ∧ Came w len M a cap := by
  rcases open_int_rows ht he hq ce cq h with ⟨hcs, _⟩ | ⟨a, len, cap, A, L, C, Z, hcs, _, hl, hm, _, hrow⟩
  · exact ⟨none, 0, 0, fun _ => [], (List.cons.inj hcs).1, fun j hj => absurd hj (Nat.not_lt_zero _), fun _ => rfl⟩
  · refine ⟨some a, len, cap, fun j => (Z j).take (L j), (List.cons.inj hcs).1, fun j hj => ?_, fun e => by cases e⟩
    obtain ⟨h1, h2, h3, h4, _, h5, h6⟩ := hrow j (by omega)
    have hlen : ((Z j).take (L j)).length = L j := by simp; omega
    refine ⟨a, A j, C j, rfl, by rw [hlen]; exact h1, fun i hi => ?_, h5, by rw [hlen]; exact h2⟩
    rw [hlen] at hi
    cases hA : A j with
    | none => have := h5 hA; omega
    | some a' =>
      refine ⟨a', rfl, ?_⟩
      rw [(h6 a' hA).2 i (by omega)]
      simp [List.getD, hi]
theorem Came.but {w : World} {n cc : Nat} {M : Nat → List Int} {ca : Option Addr} (h : Came w n M ca cc) (L : List Int) : Came w n (fun j => if j < n then M j else L) ca cc := by
  refine ⟨fun j hj => ?_, h.nil⟩
  have := h.row j hj
  rw [if_pos hj]
  exact this

theorem open_pool {r : Reach} {b0 : Nat} {t e2 q2 q3 : TypeId} {f0 f1 f2 f3 f4 : Field} {v : Value} {d : DataW H} {p : List MemPlace} (hs : P.underlying t = some (.struct #[f0, f1, f2, f3, f4])) (hone : oneCellFields P #[f0, f1, f2, f3, f4] = true) (hC : P.cellsOf t = 5)
    (u0 : P.underlying f0.type = some (.int .i64)) (u1 : P.underlying f1.type = some (.int .i64)) (u2 : P.underlying f2.type = some (.slice e2)) (u2e : P.underlying e2 = some (.slice q2)) (u2q : P.underlying q2 = some (.int .i64)) (ce : P.cellsOf e2 = 1) (cq : P.cellsOf q2 = 1)
    (u3 : P.underlying f3.type = some (.slice q3)) (u3q : P.underlying q3 = some (.int .i64)) (cq3 : P.cellsOf q3 = 1) (u4 : P.underlying f4.type = some (.int .i64))
    (hv : Value.okWide P w r b0 t v) (h : DataW.Trod enc P w base (fun _ => true) held t v d p) :
    ∃ (a b f : Int) (ca : Option Addr) (n cc : Nat) (ma : Option Addr) (nm mc : Nat) (M : Nat → List Int), v = .agg #[.int .i64 a, .int .i64 b, .slice ca n cc, .slice ma nm mc, .int .i64 f] ∧ PoolArg w n M ca cc ma nm mc := by
  obtain ⟨cs, rfl, hsz⟩ := okWide_struct hs hv
  obtain ⟨c0, c1, c2, c3, c4, rfl⟩ := array5 (hsz.trans hC)
  obtain ⟨fuel, hf⟩ := h
  obtain ⟨xs, n', _, _, _, hlen, hfs⟩ := DataW.trod_struct hs hf
  obtain ⟨o0, k0⟩ := hone_of hone 0 f0 rfl
  obtain ⟨o1, k1⟩ := hone_of hone 1 f1 rfl
  obtain ⟨o2, k2⟩ := hone_of hone 2 f2 rfl
  obtain ⟨o3, k3⟩ := hone_of hone 3 f3 rfl
  obtain ⟨o4, k4⟩ := hone_of hone 4 f4 rfl
  match xs, hlen with
  | [y0, y1, y2, y3, y4], _ =>
    have g0 := hfs 0 f0 rfl
    have g1 := hfs 1 f1 rfl
    have g2 := hfs 2 f2 rfl
    have g3 := hfs 3 f3 rfl
    have g4 := hfs 4 f4 rfl
    simp [Value.cells, o0, o1, o2, o3, o4, k0, k1, k2, k3, k4] at g0 g1 g2 g3 g4
    obtain ⟨a, e0, _, _⟩ := DataW.trod_int u0 g0
    obtain ⟨b, e1, _, _⟩ := DataW.trod_int u1 g1
    obtain ⟨f, e4, _, _⟩ := DataW.trod_int u4 g4
    obtain ⟨ca, n, cc, M, h2, hcame⟩ := open_rows u2 u2e u2q ce cq g2
    obtain ⟨ma, nm, mc, L, h3, hi, hN, hnm⟩ := open_row u3 u3q cq3 g3
    obtain rfl := (List.cons.inj e0).1
    obtain rfl := (List.cons.inj e1).1
    obtain rfl := (List.cons.inj e4).1
    subst h2
    subst h3
    have hL : (if n < n then M n else L) = L := if_neg (Nat.lt_irrefl n)
    exact ⟨a, b, f, ca, n, cc, ma, nm, mc, fun j => if j < n then M j else L, rfl, hcame.but L, by show Ints .i64 w ma (if n < n then M n else L); rw [hL]; exact hi, hN, by show (if n < n then M n else L).length = nm; rw [hL]; exact hnm⟩
end

end Go.Proofs.Ytmjenbkhmhpleaa
