/- Texts put together: KNewA, KNewP. -/
import Derived.Test.YtenbafkgfdlfpaaKInts
import Derived.Test.YtenbafkgfdlfpaaKW
import Derived.Test.YtenbafkgfdlfpaaMStep
import Derived.Test.YtenbafkgfdlfpaaGRace
/- A state that grows: boxes, and its three rows. Made by gen_new.py. -/
namespace Go.Proofs.Ytenbafkgfdlfpaa
open Go.RowKit
set_option linter.unusedVariables false

/-- Boxes up to block bm; behind them three rows of one's own. -/
structure DN (w0 : World) (l : List (Nat × TypeId × List Value)) (bm : Nat) (gs : Sl) (X : List GV) (cs : Sl) (Z : List IV) (sd : Sl) (S : List Sd) (w : World) : Prop where
  bx : Boxes w0 w l
  lo : (∀ x ∈ l, x.1 ≤ bm) ∧ w0.heap.size ≤ bm ∧ bm < w.heap.size
  og : w.ownsRow (bm + 1) 50 25 gs.val gs.len (flat GV.cs X)
  oc : w.ownsRow (bm + 1) 38 1 cs.val cs.len (flat IV.cs Z)
  os : w.ownsRow (bm + 1) 57 7 sd.val sd.len (flat Sd.cs S)
  a1 : ∀ k, gs.val.ownBlock = some k → cs.val.ownBlock ≠ some k
  a2 : ∀ k, gs.val.ownBlock = some k → sd.val.ownBlock ≠ some k
  a3 : ∀ k, cs.val.ownBlock = some k → sd.val.ownBlock ≠ some k
section
variable {w0 w w4 w5 : World} {l : List (Nat × TypeId × List Value)} {bm : Nat} {gs : Sl} {X : List GV} {cs : Sl} {Z : List IV} {sd : Sl} {S : List Sd}
theorem DN.new (h : DN w0 l bm gs X cs Z sd S w) (t : Turn (fun _ => False) w w4) : DN w0 l bm gs X cs Z sd S w4 :=
  ⟨h.bx.new t, ⟨h.lo.1, h.lo.2.1, Nat.lt_of_lt_of_le h.lo.2.2 t.size⟩, own_turn h.og t (fun _ _ => id), own_turn h.oc t (fun _ _ => id), own_turn h.os t (fun _ _ => id), h.a1, h.a2, h.a3⟩
/-- A cell of a box. -/
theorem DN.put (h : DN w0 l bm gs X cs Z sd S w) (i : Nat) {b : Nat} {e : TypeId} {c : List Value} (hi : l[i]? = some (b, e, c)) (k : Nat) (u : Value) : DN w0 (l.set i (b, e, c.set k u)) bm gs X cs Z sd S (w.setCell ⟨b, k, none⟩ u) := by
  have t := set_turn w b k u
  have hb : b ≤ bm := h.lo.1 _ (List.mem_of_getElem? hi)
  refine ⟨h.bx.put i hi k u, ⟨fun x hx => ?_, h.lo.2.1, Nat.lt_of_lt_of_le h.lo.2.2 t.size⟩, own_turn h.og t (fun k hk e => by have := (h.og.lt k hk).1; omega), own_turn h.oc t (fun k hk e => by have := (h.oc.lt k hk).1; omega), own_turn h.os t (fun k hk e => by have := (h.os.lt k hk).1; omega), h.a1, h.a2, h.a3⟩
  rcases List.mem_or_eq_of_mem_set hx with hx | rfl
  · exact h.lo.1 x hx
  · exact hb
/-- The row gs has grown. -/
theorem DN.grow_gs (h : DN w0 l bm gs X cs Z sd S w) {g n c : Nat} {L' : List GV} (own : w5.ownsRow (bm + 1) 50 25 (.slice (some ⟨g, 0, none⟩) n c) n (flat GV.cs L')) (t : Turn (fun i => gs.val.ownBlock = some i) w w5) (hg : gs.val.ownBlock = some g ∨ w.heap.size ≤ g) : DN w0 l bm ⟨some ⟨g, 0, none⟩, n, c⟩ L' cs Z sd S w5 := by
  have hq : ∀ k, gs.val.ownBlock = some k → bm + 1 ≤ k ∧ k < w.heap.size := fun k hk => h.og.lt k hk
  have hbx : Boxes w0 w5 l := ⟨h.bx.t.and t (fun i hi e => by have := hq i e; have := h.lo.2.1; omega), h.bx.low, h.bx.one, fun x hx => (h.bx.blk x hx).turn t (fun e => by have := hq _ e; have := h.lo.1 x hx; omega)⟩
  refine ⟨hbx, ⟨h.lo.1, h.lo.2.1, Nat.lt_of_lt_of_le h.lo.2.2 t.size⟩, own, own_turn h.oc t (fun k hk e => h.a1 k e hk), own_turn h.os t (fun k hk e => h.a2 k e hk), ?_, ?_, ?_⟩
  · exact fun k hk e => by
      have hk' : g = k := Option.some.inj hk
      subst hk'
      rcases hg with q | q
      · exact h.a1 _ q e
      · have := (h.oc.lt _ e).2; omega
  · exact fun k hk e => by
      have hk' : g = k := Option.some.inj hk
      subst hk'
      rcases hg with q | q
      · exact h.a2 _ q e
      · have := (h.os.lt _ e).2; omega
  · exact h.a3
/-- The row cs has grown. -/
theorem DN.grow_cs (h : DN w0 l bm gs X cs Z sd S w) {g n c : Nat} {L' : List IV} (own : w5.ownsRow (bm + 1) 38 1 (.slice (some ⟨g, 0, none⟩) n c) n (flat IV.cs L')) (t : Turn (fun i => cs.val.ownBlock = some i) w w5) (hg : cs.val.ownBlock = some g ∨ w.heap.size ≤ g) : DN w0 l bm gs X ⟨some ⟨g, 0, none⟩, n, c⟩ L' sd S w5 := by
  have hq : ∀ k, cs.val.ownBlock = some k → bm + 1 ≤ k ∧ k < w.heap.size := fun k hk => h.oc.lt k hk
  have hbx : Boxes w0 w5 l := ⟨h.bx.t.and t (fun i hi e => by have := hq i e; have := h.lo.2.1; omega), h.bx.low, h.bx.one, fun x hx => (h.bx.blk x hx).turn t (fun e => by have := hq _ e; have := h.lo.1 x hx; omega)⟩
  refine ⟨hbx, ⟨h.lo.1, h.lo.2.1, Nat.lt_of_lt_of_le h.lo.2.2 t.size⟩, own_turn h.og t (fun k hk e => h.a1 k hk e), own, own_turn h.os t (fun k hk e => h.a3 k e hk), ?_, ?_, ?_⟩
  · exact fun k hk e => by
      have hk' : g = k := Option.some.inj e
      subst hk'
      rcases hg with q | q
      · exact h.a1 _ hk q
      · have := (h.og.lt _ hk).2; omega
  · exact h.a2
  · exact fun k hk e => by
      have hk' : g = k := Option.some.inj hk
      subst hk'
      rcases hg with q | q
      · exact h.a3 _ q e
      · have := (h.os.lt _ e).2; omega
/-- The row sd has grown. -/
theorem DN.grow_sd (h : DN w0 l bm gs X cs Z sd S w) {g n c : Nat} {L' : List Sd} (own : w5.ownsRow (bm + 1) 57 7 (.slice (some ⟨g, 0, none⟩) n c) n (flat Sd.cs L')) (t : Turn (fun i => sd.val.ownBlock = some i) w w5) (hg : sd.val.ownBlock = some g ∨ w.heap.size ≤ g) : DN w0 l bm gs X cs Z ⟨some ⟨g, 0, none⟩, n, c⟩ L' w5 := by
  have hq : ∀ k, sd.val.ownBlock = some k → bm + 1 ≤ k ∧ k < w.heap.size := fun k hk => h.os.lt k hk
  have hbx : Boxes w0 w5 l := ⟨h.bx.t.and t (fun i hi e => by have := hq i e; have := h.lo.2.1; omega), h.bx.low, h.bx.one, fun x hx => (h.bx.blk x hx).turn t (fun e => by have := hq _ e; have := h.lo.1 x hx; omega)⟩
  refine ⟨hbx, ⟨h.lo.1, h.lo.2.1, Nat.lt_of_lt_of_le h.lo.2.2 t.size⟩, own_turn h.og t (fun k hk e => h.a2 k hk e), own_turn h.oc t (fun k hk e => h.a3 k hk e), own, ?_, ?_, ?_⟩
  · exact h.a1
  · exact fun k hk e => by
      have hk' : g = k := Option.some.inj e
      subst hk'
      rcases hg with q | q
      · exact h.a2 _ hk q
      · have := (h.og.lt _ hk).2; omega
  · exact fun k hk e => by
      have hk' : g = k := Option.some.inj e
      subst hk'
      rcases hg with q | q
      · exact h.a3 _ hk q
      · have := (h.oc.lt _ hk).2; omega
end
end Go.Proofs.Ytenbafkgfdlfpaa
/- The state that New builds: what is said of it. -/
namespace Go.Proofs.Ytenbafkgfdlfpaa
open Go.RowKit
set_option linter.unusedVariables false

theorem t_config2 : Struct Try.prog 24 2 := ⟨⟨_, Try.underlying24, rfl⟩, by kernel_rfl⟩
def dnC (su ca : Int) (ds gs cs sd : Sl) : List Value := [.int .i64 su, .int .i64 ca, .int .i64 0, gs.val, zSl.val, sd.val, cs.val, zSl.val, .int .i64 0, ds.val, .int .i64 0, zSl.val]
@[go_sem] theorem dnC3 (su ca : Int) (ds gs cs sd : Sl) : (dnC su ca ds gs cs sd)[3]? = some gs.val := rfl
@[go_sem] theorem dnC5 (su ca : Int) (ds gs cs sd : Sl) : (dnC su ca ds gs cs sd)[5]? = some sd.val := rfl
@[go_sem] theorem dnC6 (su ca : Int) (ds gs cs sd : Sl) : (dnC su ca ds gs cs sd)[6]? = some cs.val := rfl
theorem dnC_one (su ca : Int) (ds gs cs sd : Sl) : ∀ v ∈ dnC su ca ds gs cs sd, v.oneCell' = true := fun v hv => by
  simp [dnC] at hv
  rcases hv with rfl | rfl | rfl | rfl | rfl | rfl | rfl | rfl | rfl | rfl | rfl | rfl <;> rfl
theorem info_intsD : (Try.prog.info? 38).map (fun i => (i.zero, i.size, i.bytes)) = some (some (.slice none 0 0), 1, 24) := by kernel_rfl
/-- The goroutines of the first i lists, and their caches. -/
structure DNs (w0 : World) (p : List (List Opr)) (i : Nat) (gs : Sl) (X : List GV) (cs : Sl) (Z : List IV) (w : World) : Prop where
  gl : gs.len = i
  cl : cs.len = i
  g : ∀ (k : Nat) l, k < i → p[k]? = some l → ∃ v : Sl, X[k]? = some ⟨freshG l 0, v, zSl, zSl, zSl, zSl⟩ ∧ ROps w0 v l
  c : ∀ (k : Nat), k < i → ∃ bz, Z[k]? = some ⟨[], ⟨some ⟨bz, 0, none⟩, 0, 0⟩⟩ ∧ bz < w.heap.size
theorem grow_or {w : World} {v : Value} {g n c : Nat} (h : (Value.slice (some ⟨g, 0, none⟩) n c).ownBlock = v.ownBlock ∨ (Value.slice (some ⟨g, 0, none⟩) n c).ownBlock = some w.heap.size) : v.ownBlock = some g ∨ w.heap.size ≤ g := by
  rcases h with q | q
  · exact .inl q.symm
  · exact .inr (Nat.le_of_eq (Option.some.inj q).symm)
theorem has_one {α : Type} {enc : α → List Value} {size : Nat} {w : World} {b : Nat} {e : TypeId} {y : α} (h : w.heap[b]? = some (.cells (enc y).toArray e (0, 0))) : Has enc size w (some ⟨b, 0, none⟩) [y] := by
  intro j x hj
  have hj0 : j = 0 := by
    cases j with
    | zero => rfl
    | succ j => simp at hj
  subst hj0
  obtain rfl : y = x := by simpa using hj
  refine ⟨_, rfl, fun i u hu => ?_⟩
  rw [Nat.zero_mul, Addr.add_lit, Addr.add_lit, Nat.zero_add]
  unfold World.cell?
  rw [h]
  simpa using hu
theorem fold_get : ∀ (L : List Value) (k : Nat) (z : Array Value) (i : Nat), ((L.zipIdx k).foldl (fun cs x => cs.setIfInBounds x.snd x.fst) z)[i]? = if k ≤ i ∧ i < k + L.length ∧ i < z.size then L[i - k]? else z[i]? := by
  intro L
  induction L with
  | nil =>
    intro k z i
    rw [if_neg (by simp; omega)]
    rfl
  | cons v L ih =>
    intro k z i
    rw [List.zipIdx_cons, List.foldl_cons, ih]
    simp only [Array.size_setIfInBounds, List.length_cons]
    by_cases h1 : k + 1 ≤ i ∧ i < k + 1 + L.length ∧ i < z.size
    · rw [if_pos h1, if_pos (by omega), show i - k = (i - (k + 1)) + 1 by omega, List.getElem?_cons_succ]
    · rw [if_neg h1, Array.getElem?_setIfInBounds]
      by_cases h2 : k = i
      · subst h2
        by_cases h3 : k < z.size
        · rw [if_pos rfl, if_pos h3, if_pos (by omega)]
          simp
        · rw [if_pos rfl, if_neg h3, if_neg (by omega)]
          simp [Array.getElem?_eq_none (Nat.le_of_not_lt h3)]
      · rw [if_neg h2, if_neg (by omega)]
theorem fold_set (L : List Value) (z : Array Value) (h : z.size = L.length) : List.foldl (fun cs x => cs.setIfInBounds x.snd x.fst) z L.zipIdx = L.toArray := by
  apply Array.ext_getElem?
  intro i
  rw [fold_get]
  by_cases hi : i < L.length
  · rw [if_pos (by omega)]
    simp
  · rw [if_neg (by omega), Array.getElem?_eq_none (by omega)]
    simp; omega
theorem DNs.up {w0 w w' : World} {p : List (List Opr)} {i : Nat} {gs cs : Sl} {X : List GV} {Z : List IV} (h : DNs w0 p i gs X cs Z w) (t : w.heap.size ≤ w'.heap.size) : DNs w0 p i gs X cs Z w' :=
  ⟨h.gl, h.cl, h.g, fun k hk => by
    obtain ⟨bz, h1, h2⟩ := h.c k hk
    exact ⟨bz, h1, Nat.lt_of_lt_of_le h2 t⟩⟩
theorem DNs.more {w0 wd w9 w' : World} {p : List (List Opr)} {i : Nat} {gs cs : Sl} {X : List GV} {Z : List IV} (h : DNs w0 p i gs X cs Z wd) (hX : X.length = i) (hZ : Z.length = i) {l : List Opr} (hl : p[i]? = some l) {v : Sl} {U : GV} (hU : U = ⟨freshG l 0, v, zSl, zSl, zSl, zSl⟩) (hv : ROps w0 v l) (h9 : w9.heap.size < w'.heap.size) (hd : wd.heap.size ≤ w9.heap.size) {a b : Option Addr} {c d : Nat} :
    DNs w0 p (i + 1) ⟨a, i + 1, c⟩ (X ++ [U]) ⟨b, i + 1, d⟩ (Z ++ [⟨[], ⟨some ⟨w9.heap.size, 0, none⟩, 0, 0⟩⟩]) w' := by
  refine ⟨rfl, rfl, fun k l' hk hl' => ?_, fun k hk => ?_⟩
  · by_cases hki : k = i
    · subst hki
      obtain rfl := Option.some.inj (hl.symm.trans hl')
      exact ⟨v, by simp [hX, hU], hv⟩
    · obtain ⟨u, h1, h2⟩ := h.g k l' (by omega) hl'
      exact ⟨u, by rw [List.getElem?_append_left (by omega)]; exact h1, h2⟩
  · by_cases hki : k = i
    · subst hki
      exact ⟨w9.heap.size, by simp [hZ], h9⟩
    · obtain ⟨bz, h1, h2⟩ := h.c k (by omega)
      exact ⟨bz, by rw [List.getElem?_append_left (by omega)]; exact h1, by omega⟩
theorem dn_start {w w5 : World} {b4 b6 b8 : Nat} {c4 c6 c8 : List Value} (h : Boxes w w5 [(b4, 24, c4), (b6, 41, c6), (b8, 41, c8)]) (h1 : b4 ≤ b8) (h2 : b6 ≤ b8) : DN w [(b4, 24, c4), (b6, 41, c6), (b8, 41, c8)] b8 zSl [] zSl [] zSl [] w5 :=
  ⟨h, ⟨fun x hx => by simp only [List.mem_cons, List.not_mem_nil, or_false] at hx; rcases hx with rfl | rfl | rfl <;> dsimp only <;> omega, h.low _ (by simp : (b8, 41, c8) ∈ _), (h.at 2 rfl).lt⟩, own_nil, own_nil, own_nil, fun k hk => (by cases hk), fun k hk => (by cases hk), fun k hk => (by cases hk)⟩

/-- The state that New has built. -/
def dnZ (p : List (List Opr)) (su ca : Int) (dr : List Int) (ds gs cs sd : Sl) : SV := ⟨newS p su ca dr, gs, zSl, sd, cs, zSl, ds, zSl⟩
theorem dn_cs {p : List (List Opr)} {su ca : Int} {dr : List Int} {ds gs cs sd : Sl} (h1 : 0 ≤ su) (h2 : 0 ≤ ca) : (dnZ p su ca dr ds gs cs sd).cs = dnC su ca ds gs cs sd := by
  show [Value.int .i64 ((su.toNat : Nat) : Int), Value.int .i64 ((ca.toNat : Nat) : Int), _, _, _, _, _, _, _, _, _, _] = _
  rw [Int.toNat_of_nonneg h1, Int.toNat_of_nonneg h2]
  rfl
theorem dn_rs {w0 w : World} {p : List (List Opr)} {su ca : Int} {dr : List Int} {ds gs cs sd : Sl} {X : List GV} {Z : List IV} {bm n : Nat} (hn : p.length = n) (t : Turn (fun _ => False) w0 w) (og : w.ownsRow bm 50 25 gs.val n (flat GV.cs X)) (oc : w.ownsRow bm 38 1 cs.val n (flat IV.cs Z)) (os : w.ownsRow bm 57 7 sd.val su.toNat (flat Sd.cs (List.replicate su.toNat sd0))) (h : DNs w0 p n gs X cs Z w) (hd : ds.Ok dr.length) (hr : Ints .u16 w0 ds.ao dr) (hsd : sd.len = su.toNat) :
    RS (fun _ => True) w (dnZ p su ca dr ds gs cs sd) := by
  have hXl : X.length = n := own_len gv_ok (by decide) og
  have hgx : ∀ (k : Nat) l, p[k]? = some l → ∃ v : Sl, X[k]? = some ⟨freshG l 0, v, zSl, zSl, zSl, zSl⟩ ∧ ROps w0 v l := fun k l hl => h.g k l (by have := (List.getElem?_eq_some_iff.1 hl).1; omega) hl
  refine ⟨?_, ?_, ?_, ?_, ?_, ?_⟩
  · refine rrow_own' gv_ok (by decide) og h.gl (fun x hx => ?_) ?_ (fun _ _ => trivial)
    · obtain ⟨k, hk⟩ := List.getElem?_of_mem hx
      obtain ⟨l, hl⟩ : ∃ l, p[k]? = some l := ⟨_, List.getElem?_eq_getElem (by have := (List.getElem?_eq_some_iff.1 hk).1; omega)⟩
      obtain ⟨v, h1, h2⟩ := hgx k l hl
      obtain rfl := Option.some.inj (h1.symm.trans hk)
      exact ⟨⟨w0, h2, t, fun _ _ => trivial⟩, ri_nil _ _ _, ri_nil _ _ _, ri_nil _ _ _, ri_nil _ _ _⟩
    · show X.map GV.g = p.map fun ops => freshG ops 0
      apply List.ext_getElem?
      intro k
      rw [List.getElem?_map, List.getElem?_map]
      cases hl : p[k]? with
      | none =>
        have : X[k]? = none := List.getElem?_eq_none (by have := List.getElem?_eq_none_iff.1 hl; omega)
        rw [this]
        rfl
      | some l =>
        obtain ⟨v, h1, _⟩ := hgx k l hl
        rw [h1]
        rfl
  · exact ⟨⟨rfl, fun _ => rfl⟩, fun _ _ => trivial, [], rfl, fun j x hx => (by simp at hx), fun x hx => (by cases hx)⟩
  · exact flat_rrow sd_ok (by decide) os hsd (fun _ _ => trivial)
  · have hcl := h.cl
    obtain ⟨ao, len, c⟩ := cs
    obtain ⟨ao', c', e1, q1, q2, q3, q4⟩ := own_slice oc
    cases e1
    refine ⟨⟨fun j hj => ?_, fun j hj => absurd hj (Nat.not_lt_zero _), fun _ _ => trivial, fun _ => rfl, fun _ _ => trivial, q3⟩, hn.symm, rfl⟩
    obtain ⟨bz, h1, h2⟩ := h.c j (by have : j < p.length := hj; omega)
    obtain ⟨ad, q5, q6⟩ := Has.of_own iv_ok (by decide) oc j _ h1
    refine ⟨ad, some ⟨bz, 0, none⟩, 0, q5, ?_, fun i hi => absurd hi (Nat.not_lt_zero _), fun _ _ => trivial, fun e => (by cases e), Nat.le_refl _⟩
    have := q6 0 _ rfl
    rw [add_two, Nat.add_zero, Nat.mul_one] at this
    exact this
  · exact ⟨hd, hr.turn t (fun _ _ => id), fun _ _ => trivial⟩
  · exact ⟨⟨rfl, fun _ => rfl⟩, fun _ _ => trivial, [], rfl, fun j x hx => (by simp at hx), fun _ _ => trivial⟩


end Go.Proofs.Ytenbafkgfdlfpaa
