/- The code's Of: what it asks; how a world is put together. -/
import Derived.Test.YtenbafkgfdlfpaaKAsm
import Derived.Test.YtenbafkgfdlfpaaKGsW
namespace Go.Proofs.Ytenbafkgfdlfpaa
open Go.RowKit
set_option linter.unusedVariables false

theorem good_ok {s : R5.St} (h : R5.Good s) : R5.C5.okB s.fresh (R5.rowsL s.M (s.n + 1)) = true := by
  refine decide_eq_true ⟨fun x hx => ?_, List.nodup_iff_count.2 fun v => ?_⟩
  · refine h.low x ?_
    have : 0 < (R5.rowsL s.M (s.n + 1)).count x := List.count_pos_iff.2 hx
    rwa [R5.count_rowsL] at this
  · rw [R5.count_rowsL]
    exact h.once v

theorem at_then {φ : World → Prop} {K : Act → World → Prop} {Q' : Exit → Act → World → Prop} {x : Exit} {a : Act} {W : World} (h : φ W) (k : ∀ w', φ w' → Exit.then K Q' x a w') : Exit.then K Q' x a W := k W h
/-- What Of asks of a state that has no channel. -/
structure OfOk (s : St) (n : Nat) : Prop where
  gl : s.gs.length = n
  n8 : n ≤ 8
  pool : s.pool.n = n
  good : R5.Good s.pool
  chans : s.chans = []
  tame : ∀ g ∈ s.gs, Tame g
  st : ∀ g ∈ s.gs, 0 ≤ g.status ∧ g.status ≤ 2
  sd : s.sudogs.length ≤ 1000
  dn : s.done.length ≤ 100000
  dr : s.draws.length ≤ 300 ∧ ∀ x ∈ s.draws, 0 ≤ x ∧ x ≤ 65535
  drawn : 0 ≤ s.drawn ∧ s.drawn ≤ s.draws.length
/-- The bench where the first i are set. -/
structure Set_ (l : List Gr) (i : Nat) (B : List C8.One) : Prop where
  len : B.length = l.length
  set : ∀ (k : Nat) g, k < i → l[k]? = some g → B[k]? = some (g.status, g.token)
theorem Set_.more {l : List Gr} {i : Nat} {B : List C8.One} (h : Set_ l i B) {g : Gr} (hg : l[i]? = some g) (hs : 0 ≤ g.status ∧ g.status ≤ 2) : Set_ l (i + 1) (C8.doL (C8.setF g.status g.token) B i) := by
  have hi := (List.getElem?_eq_some_iff.1 hg).1
  have hb : B[i]? = some (B[i]'(by rw [h.len]; exact hi)) := List.getElem?_eq_getElem _
  have e : C8.doL (C8.setF g.status g.token) B i = B.set i (g.status, g.token) := by
    unfold C8.doL C8.at_
    rw [if_pos (by omega), Int.toNat_natCast, hb]
    simp [C8.setF, hs]
  rw [e]
  refine ⟨by rw [List.length_set]; exact h.len, fun k x hk hx => ?_⟩
  by_cases hki : k = i
  · subst hki
    obtain rfl := Option.some.inj (hg.symm.trans hx)
    simp [h.len, hi]
  · rw [List.getElem?_set_ne (fun e => hki e.symm)]
    exact h.set k x (by omega) hx
theorem cfg_at {w : World} {b : Nat} {x : SV} (h : ∀ k, w.cell? ⟨b, k, none⟩ = x.cs[k]?) : At w ⟨b, 0, none⟩ [.int .i64 (x.s.pool.size : Int), .int .i64 (x.s.pool.most : Int)] := fun i u hu => by
  rw [Addr.add_lit, Nat.zero_add, h]
  match i with
  | 0 => exact hu
  | 1 => exact hu
  | i + 2 => simp at hu
theorem t_config : Struct Try.prog 24 2 := ⟨⟨_, Try.underlying24, rfl⟩, by kernel_rfl⟩

theorem merged {Y : List GV} {l : List Gr} {B : List C8.One} (hY : Y.map GV.g = l) (hB : Set_ l l.length B) : List.zipWith merge Y B = l := by
  apply List.ext_getElem?
  intro k
  rw [List.getElem?_zipWith]
  cases hk : l[k]? with
  | none =>
    have hl : Y[k]? = none := by
      have := congrArg (fun z : List Gr => z[k]?) hY
      simp only [List.getElem?_map, hk] at this
      simpa using this
    rw [hl]
  | some g =>
    have hlt := (List.getElem?_eq_some_iff.1 hk).1
    obtain ⟨y, hy, hg⟩ : ∃ y, Y[k]? = some y ∧ y.g = g := by
      have := congrArg (fun z : List Gr => z[k]?) hY
      simp only [List.getElem?_map, hk] at this
      obtain ⟨y, h1, h2⟩ := Option.map_eq_some_iff.1 this
      exact ⟨y, h1, h2⟩
    rw [hy, hB.set k g hlt hk]
    show some (merge y (g.status, g.token)) = some g
    unfold merge
    rw [hg]
theorem set_zero (l : List Gr) {n : Nat} (hl : l.length = n) (hn : n ≤ 8) : Set_ l 0 (C8.allRun (C8.newN n)) := by
  refine ⟨?_, fun k g hk => absurd hk (Nat.not_lt_zero _)⟩
  rw [C8.allRun_length, hl]
  unfold C8.newN
  omega
theorem sk_of {L : List Int} {d : Int} (h : 0 ≤ d ∧ d ≤ L.length) : 0 + (C1.sk L 0 d).toNat = d.toNat := by
  unfold C1.sk
  omega
theorem came_of {D : Nat → Prop} {w : World} {ca mi : Sl} {p : R5.St} (h : RPl D w ca mi p) : R5.C5.Came w p.n p.M ca.ao ca.cap :=
  ⟨fun j hj => by
    obtain ⟨ad, a, c, h1, h2, h3, h4, h5, h6⟩ := h.r.row j hj
    exact ⟨ad, a, c, h1, h2, h3, h5, h6⟩, h.r.caN⟩
theorem Asm.other {base a2 a3 a4 a5 a6 a7 a8 : Nat} {x : WV} {cs : List Value} {w : World} (h : Asm base a2 a3 a4 a5 a6 a7 a8 x cs w) (qp tb eb : Nat) (q : C6.St) (pp pq : Nat) (R : Nat → R5.C5.Rw) : Asm base a2 a3 a4 a5 a6 a7 a8 { x with qp := qp, tb := tb, eb := eb, q := q, pp := pp, pq := pq, R := R } cs w :=
  ⟨h.box, h.ord, h.gs, h.g, h.bench, h.tb', h.locks, h.tl, h.sd, h.dice, h.td, h.dr, h.dn⟩
theorem asm_made {wd w2 w3 w4 w5 w6 w7 w8 w9 : World} {s0 p gl bp lp dp dg sl nl : Nat} {bv lv : Value} {B : List C8.One} {L : List Int} {ga sa ra na : Option Addr} {gc sc rc nc : Nat} {Y : List GV} {S : List Sd} {draws : List Int} {dl : List Mk} {step : Int} {pl : R5.St} {cs : List Value}
    (hp : w8.heap.size = p) (h1 : s0 < wd.heap.size) (t2 : Turn (fun _ => False) wd w2) (t3 : Turn (fun _ => False) w2 w3) (t4 : Turn (fun _ => False) w3 w4) (t5 : Turn (fun _ => False) w4 w5) (t6 : Turn (fun _ => False) w5 w6) (t7 : Turn (fun _ => False) w6 w7) (t8 : Turn (fun _ => False) w7 w8) (t9 : Turn (fun _ => False) w8 w9)
    (P9 : Blk w9 p 75 cs) (O2 : w2.ownsRow wd.heap.size 50 25 (Sl.val ⟨ga, gl, gc⟩) gl (flat GV.cs Y)) (HC : ∀ y ∈ Y, CG (fun b => wd.heap.size ≤ b ∧ b < w2.heap.size ∧ (Sl.val ⟨ga, gl, gc⟩).ownBlock ≠ some b) w2 y) (B3 : C8.IsB w3 w2.heap.size bp bv B) (L4 : C7.IsL w4 w3.heap.size lp lv L)
    (O5 : w5.ownsRow w4.heap.size 57 7 (Sl.val ⟨sa, sl, sc⟩) sl (flat Sd.cs S)) (D6 : C1.IsDice w6 dp dg draws 0 ∧ w5.heap.size ≤ dp ∧ w5.heap.size ≤ dg) (O7 : w7.ownsRow w6.heap.size 64 1 (Sl.val ⟨ra, draws.length, rc⟩) draws.length (draws.map (Value.int .u16))) (O8 : w8.ownsRow w7.heap.size 66 13 (Sl.val ⟨na, nl, nc⟩) nl (flat Mk.cs dl)) :
    Asm s0 w2.heap.size w3.heap.size w4.heap.size w5.heap.size w6.heap.size w7.heap.size w8.heap.size ⟨p, step, ⟨ga, gl, gc⟩, Y, bp, bv, B, lp, lv, L, 0, 0, 0, ⟨0, 0, fun _ => []⟩, ⟨sa, sl, sc⟩, S, 0, 0, fun _ => ⟨none, 0, []⟩, pl, dp, dg, draws, 0, ⟨ra, draws.length, rc⟩, ⟨na, nl, nc⟩, dl⟩ cs w9 := by
  have z2 := t2.size
  have z3 := t3.size
  have z4 := t4.size
  have z5 := t5.size
  have z6 := t6.size
  have z7 := t7.size
  have z8 := t8.size
  have t79 := t8.trans t9
  have t69 := t7.trans t79
  have t59 := t6.trans t69
  have t49 := t5.trans t59
  have t39 := t4.trans t49
  have t29 := t3.trans t39
  have l2 := O2.lt
  refine ⟨P9, ⟨by omega, z3, z4, z5, z6, z7, z8, by dsimp only; omega⟩, ⟨own_turn (own_less O2 (by omega)) t29 (fun _ _ => id), fun k hk => ⟨by have := (l2 k hk).1; omega, (l2 k hk).2⟩⟩, fun z hz => ((HC z hz).keep t29 (fun _ _ => id)).mono (fun b hb => ⟨⟨by omega, hb.2.1⟩, hb.2.2⟩),
    B3.new t39, fun i hi => (B3.blocks hi).2, L4.new t49, fun i hi => (L4.blocks hi).2, ⟨own_turn (own_less O5 (by omega)) t59 (fun _ _ => id), fun k hk => O5.lt k hk⟩, D6.1.turn t69 id id, ⟨⟨D6.2.1, (Array.getElem?_eq_some_iff.1 D6.1.box).1⟩, ⟨D6.2.2, (Array.getElem?_eq_some_iff.1 D6.1.row).1⟩⟩,
    ((ri_own O7 rfl rfl).keep t79 (fun _ _ => id)).mono (fun b hb => hb), ⟨own_turn (own_less O8 (by omega)) t9 (fun _ _ => id), fun k hk => O8.lt k hk⟩⟩

end Go.Proofs.Ytenbafkgfdlfpaa
