/- All that a walk through the document's engine holds, in one fact: its boxes, and what it can read. -/
import Derived.Test.YtenbafkgfdlfpaaEState
import Derived.Test.YtenbafkgfdlfpaaGApp
namespace Go.Proofs.Ytenbafkgfdlfpaa
open Go.RowKit
set_option linter.unusedVariables false

theorem st_g {s : St} {g n : Nat} (hn : s.gs.length = n) (hg : g < n) : s.gs[g]? = some (s.g g) := by
  unfold St.g ix
  rw [Int.toNat_natCast]
  simp [List.getD, show g < s.gs.length by omega]
theorem st_d {s : St} {g n : Nat} (hn : s.sudogs.length = n) (hg : g < n) : s.sudogs[g]? = some (s.d g) := by
  unfold St.d ix
  rw [Int.toNat_natCast]
  simp [List.getD, show g < s.sudogs.length by omega]
theorem st_c {s : St} {ch : Int} {k n : Nat} (hn : s.chans.length = n) (hk : ch - 1 = (k : Int)) (hg : k < n) : s.chans[k]? = some (s.c ch) := by
  unfold St.c ix
  rw [hk, Int.toNat_natCast]
  simp [List.getD, show k < s.chans.length by omega]

/-- These cells lie there. -/
def At (w : World) (a : Addr) (cs : List Value) : Prop := ∀ i u, cs[i]? = some u → w.cell? (a.add i) = some u
section
variable {w w' : World} {a : Addr} {cs : List Value} {S : Nat → Prop}
theorem At.keep (h : At w a cs) (t : Turn S w w') (hs : ¬ S a.block) : At w' a cs := fun i u hu => t.cell (by rw [block_add]; exact hs) (h i u hu)
theorem At.new (h : At w a cs) (t : Turn (fun _ => False) w w') : At w' a cs := h.keep t id
theorem At.c0 (h : At w a cs) (hl : 0 < cs.length) : w.cell? a = cs[0]? := by
  have hu := List.getElem?_eq_getElem hl
  have := h 0 _ hu
  rw [Addr.add_zero'] at this
  rw [this, hu]
theorem At.c1 (h : At w a cs) (n : Nat) (hn : cs.length = n) : ∀ k, k + 1 < n → w.cell? ⟨a.block, a.off + (k + 1), none⟩ = cs[k + 1]? := fun k hk => by
  have hu := List.getElem?_eq_getElem (show k + 1 < cs.length by omega)
  have := h (k + 1) _ hu
  rw [hu]
  rwa [Addr.add_succ'] at this
theorem At.load {P : Program} {t : TypeId} (h : At w a cs) (ht : Struct P t cs.length) : (Instr.loadAt t (.pointer (some a))).run P w = .ok (.agg cs.toArray) w := by
  obtain ⟨⟨d, hu, hd⟩, hi⟩ := ht
  have hl : (loadCells a cs.length).run P w = .ok cs.toArray w := run_loadCells_list (P := P) w _ cs h
  cases hq : P.info? t with
  | none => simp [hq] at hi
  | some i =>
    have hs : i.size = cs.length := by simpa [hq] using hi
    have hagg : (isAgg t).run P w = .ok true w := by
      unfold isAgg
      rw [Sem.run_bind, run_underlying hu w]
      cases d <;> simp_all
    simp [Instr.loadAt, Instr.sureAddr, loadVar, Sem.run_bind, hagg, sizeOf, typeInfo, hq, hs, hl]
end
theorem rrow_lies {ρ α : Type} {enc : ρ → List Value} {size : Nat} {R : (Nat → Prop) → World → ρ → Prop} {pr : ρ → α} {D : Nat → Prop} {w : World} {s : Sl} {l : List α} (h : RRow enc size R pr D w s l) {i : Nat} {y : α} (hy : l[i]? = some y) :
    ∃ ad X, s.ao = some ad ∧ pr X = y ∧ R D w X ∧ At w (ad.add (i * size)) (enc X) := by
  obtain ⟨Xs, h1, h2, h3⟩ := h.has
  subst h1
  rw [List.getElem?_map] at hy
  obtain ⟨X, hX, rfl⟩ := Option.map_eq_some_iff.1 hy
  obtain ⟨a, ha, hc⟩ := h2 i X hX
  exact ⟨a, X, ha, rfl, h3 X (List.mem_of_getElem? hX), hc⟩

theorem put_none (a : Act) (v : Value) : a.put none v = a := rfl
theorem g_withG {s : St} {o g : Nat} {y : Gr} (ho : o < s.gs.length) : (s.withG o y).g g = if g = o then y else s.g g := by
  unfold St.g St.withG ix putI
  simp only [Int.toNat_natCast]
  by_cases h : g = o
  · subst h
    rw [if_pos rfl]
    simp [List.getD, ho]
  · rw [if_neg h]
    simp [List.getD, List.getElem?_set_ne (fun e => h e.symm)]
/-! ### How long a state's rows are -/
theorem withG_len (s : St) (g : Int) (x : Gr) : (s.withG g x).gs.length = s.gs.length := by simp [St.withG, putI]
theorem withC_len (s : St) (c : Int) (x : Ch) : (s.withC c x).chans.length = s.chans.length := by simp [St.withC, putI]
theorem withS_len (s : St) (i : Int) (x : Sd) : (s.withS i x).sudogs.length = s.sudogs.length := by simp [St.withS, putI]

/-! ### The document's pool, and other structs, as they lie -/
structure PV where
  p : R5.St
  ca : Sl
  mi : Sl
def PV.cs (x : PV) : List Value := [.int .i64 (x.p.size : Int), .int .i64 (x.p.most : Int), x.ca.val, x.mi.val, .int .i64 (x.p.fresh : Int)]
@[reducible] def PV.val (x : PV) : Value := .agg x.cs.toArray
@[go_sem] theorem PV.c0 (x : PV) : x.cs[0]? = some (.int .i64 (x.p.size : Int)) := rfl
@[go_sem] theorem PV.c1 (x : PV) : x.cs[1]? = some (.int .i64 (x.p.most : Int)) := rfl
@[go_sem] theorem PV.c2 (x : PV) : x.cs[2]? = some x.ca.val := rfl
@[go_sem] theorem PV.c3 (x : PV) : x.cs[3]? = some x.mi.val := rfl
@[go_sem] theorem PV.c4 (x : PV) : x.cs[4]? = some (.int .i64 (x.p.fresh : Int)) := rfl
@[go_sem] theorem PV.lenc (x : PV) : x.cs.length = 5 := rfl
theorem pv_ok : Enc PV.cs 5 := ⟨fun _ => rfl, fun x u hu => by simp [PV.cs] at hu; rcases hu with rfl | rfl | rfl | rfl | rfl <;> rfl⟩
def RP (D : Nat → Prop) (w : World) (x : PV) : Prop := RPl D w x.ca x.mi x.p
def zP : PV := ⟨⟨0, 0, 0, 0, fun _ => []⟩, zSl, zSl⟩
def zO : OpV := ⟨0, 0, 0, 0, zSl, false⟩
def zR : Rs := ⟨0, 0, 0, false, 0⟩
def zM : Mk := ⟨0, 0, 0, 0, 0, 0, 0, 0, zR⟩
def zK : Cas := ⟨false, 0, 0⟩
theorem t_op : Struct Try.prog 88 6 := ⟨⟨_, Try.underlying88, rfl⟩, by kernel_rfl⟩
theorem t_case : Struct Try.prog 117 3 := ⟨⟨_, Try.underlying117, rfl⟩, by kernel_rfl⟩

/-- What can be read. -/
inductive Raw where
  | s (x : SV)
  | g (x : GV)
  | c (x : CV)
  | i (v : Sl) (L : List Int)
  | u (v : Sl) (L : List Int)
  | o (r : OpV) (p : Opr)
  | p (x : PV)
def ROpD (D : Nat → Prop) (w : World) (r : OpV) (o : Opr) : Prop := ∃ wb, ROp wb r o ∧ Turn (fun _ => False) wb w ∧ ∀ i, i < wb.heap.size → D i
def Raw.Read (D : Nat → Prop) (w : World) : Raw → Prop
  | .s y => RS D w y
  | .g y => RG D w y
  | .c y => RC D w y
  | .i v L => RI .i64 D w v L
  | .u v L => RI .u16 D w v L
  | .o y q => ROpD D w y q
  | .p y => RP D w y
section
variable {D D' S : Nat → Prop} {w w' : World} {r : Raw}
theorem Raw.keep (h : r.Read D w) (t : Turn S w w') (hs : ∀ i, D i → ¬ S i) : r.Read D w' := by
  cases r with
  | s y => exact RS.keep h t hs
  | g y => exact RG.keep h t hs
  | c y => exact RC.keep h t hs
  | i v L => exact RI.keep h t hs
  | u v L => exact RI.keep h t hs
  | o y q =>
    obtain ⟨wb, h1, h2, h3⟩ := h
    exact ⟨wb, h1, h2.and t (fun i hi e => hs i (h3 i hi) e), h3⟩
  | p y => exact RPl.keep h t hs
theorem Raw.mono (h : r.Read D w) (hd : ∀ i, D i → D' i) : r.Read D' w := by
  cases r with
  | s y => exact RS.mono h hd
  | g y => exact RG.mono h hd
  | c y => exact RC.mono h hd
  | i v L => exact RI.mono h hd
  | u v L => exact RI.mono h hd
  | o y q =>
    obtain ⟨wb, h1, h2, h3⟩ := h
    exact ⟨wb, h1, h2, fun i hi => hd i (h3 i hi)⟩
  | p y => exact RPl.mono h hd
end
/-- What lies in D, or was made since w0, but for the boxes. -/
def Fr (D : Nat → Prop) (w0 w : World) (l : List (Nat × TypeId × List Value)) (i : Nat) : Prop := D i ∨ (w0.heap.size ≤ i ∧ i < w.heap.size ∧ ∀ x ∈ l, x.1 ≠ i)
structure Env (D : Nat → Prop) (w0 w : World) (l : List (Nat × TypeId × List Value)) (xs : List Raw) : Prop where
  B : Boxes w0 w l
  hD : ∀ i, D i → i < w0.heap.size
  rd : ∀ r ∈ xs, r.Read (Fr D w0 w l) w
section
variable {D : Nat → Prop} {w0 w w' : World} {l : List (Nat × TypeId × List Value)} {xs : List Raw}
theorem Env.start (hD : ∀ i, D i → i < w.heap.size) (h : ∀ r ∈ xs, r.Read D w) : Env D w w [] xs := ⟨Boxes.start w, hD, fun r hr => Raw.mono (h r hr) (fun i hi => .inl hi)⟩
theorem Env.one {r : Raw} (hD : ∀ i, D i → i < w.heap.size) (h : r.Read D w) : Env D w w [] [r] := Env.start hD fun x hx => by
  obtain rfl : x = r := by simpa using hx
  exact h
theorem Env.two {r q : Raw} (hD : ∀ i, D i → i < w.heap.size) (h : r.Read D w) (k : q.Read D w) : Env D w w [] [r, q] := Env.start hD fun x hx => by
  have hx' : x = r ∨ x = q := by simpa using hx
  rcases hx' with rfl | rfl
  · exact h
  · exact k
theorem Env.lt (E : Env D w0 w l xs) : ∀ i, Fr D w0 w l i → i < w.heap.size := fun i h => by
  rcases h with h | h
  · have := E.hD i h; have := E.B.t.size; omega
  · exact h.2.1
theorem Env.alloc (E : Env D w0 w l xs) (e : TypeId) (cs : List Value) : Env D w0 (w.alloc (.cells cs.toArray e)) (l ++ [(w.heap.size, e, cs)]) xs := by
  refine ⟨E.B.alloc e cs, E.hD, fun r hr => ?_⟩
  have t : Turn (fun _ => False) w (w.alloc (.cells cs.toArray e)) := (Turn.refl _ w).alloc _
  refine Raw.mono (Raw.keep (E.rd r hr) t (fun _ _ => id)) (fun i hi => ?_)
  rcases hi with hi | ⟨h1, h2, h3⟩
  · exact .inl hi
  · refine .inr ⟨h1, by have := t.size; omega, fun x hx => ?_⟩
    rcases List.mem_append.1 hx with hx | hx
    · exact h3 x hx
    · obtain rfl : x = _ := by simpa using hx
      show w.heap.size ≠ i
      omega
theorem Env.new (E : Env D w0 w l xs) (t : Turn (fun _ => False) w w') : Env D w0 w' l xs := by
  refine ⟨E.B.new t, E.hD, fun r hr => ?_⟩
  refine Raw.mono (Raw.keep (E.rd r hr) t (fun _ _ => id)) (fun i hi => ?_)
  rcases hi with hi | ⟨h1, h2, h3⟩
  · exact .inl hi
  · exact .inr ⟨h1, by have := t.size; omega, h3⟩
theorem Env.drew (E : Env D w0 w l xs) : Env D w0 w.drew l xs := E.new (Turn.refl _ w).drew
theorem Env.turned (E : Env D w0 w l xs) (i : Nat) {b : Nat} {e : TypeId} {cs cs' : List Value} (hi : l[i]? = some (b, e, cs)) (t : Turn (fun k => k = b) w w') (hb : Blk w' b e cs') : Env D w0 w' (l.set i (b, e, cs')) xs := by
  refine ⟨E.B.turned i hi t hb, E.hD, fun r hr => ?_⟩
  have hlow := E.B.low _ (List.mem_of_getElem? hi)
  have key : ∀ i, Fr D w0 w l i → ¬ i = b := fun k hk e' => by
    subst e'
    rcases hk with hk | hk
    · have := E.hD _ hk
      dsimp only at hlow
      omega
    · exact hk.2.2 _ (List.mem_of_getElem? hi) rfl
  refine Raw.mono (Raw.keep (E.rd r hr) t key) (fun k hk => ?_)
  rcases hk with hk | ⟨h1, h2, h3⟩
  · exact .inl hk
  · refine .inr ⟨h1, by have := t.size; omega, fun x hx => ?_⟩
    rcases List.mem_or_eq_of_mem_set hx with hx | rfl
    · exact h3 x hx
    · exact h3 (b, e, cs) (List.mem_of_getElem? hi)
theorem Env.put (E : Env D w0 w l xs) (i : Nat) {b : Nat} {e : TypeId} {cs : List Value} (hi : l[i]? = some (b, e, cs)) (k : Nat) (u : Value) : Env D w0 (w.setCell ⟨b, k, none⟩ u) (l.set i (b, e, cs.set k u)) xs :=
  E.turned i hi (set_turn w b k u) ((E.B.at i hi).set k u)
/-- A struct within a box is written. -/
theorem Env.part (E : Env D w0 w l xs) (i : Nat) {b : Nat} {e : TypeId} {cs : List Value} (hi : l[i]? = some (b, e, cs)) (o : Nat) (ps : List Value) (ho : o + ps.length ≤ cs.length) : Env D w0 (w.setCells b o ps) (l.set i (b, e, cs.take o ++ ps ++ cs.drop (o + ps.length))) xs := by
  refine E.turned i hi (cells_turn b ps o w) ?_
  rcases Blk.cells b e ps o cs w (E.B.at i hi) with h | h
  · exact h
  · omega
theorem Env.know (E : Env D w0 w l xs) {r : Raw} (h : r.Read (Fr D w0 w l) w) : Env D w0 w l (xs ++ [r]) := ⟨E.B, E.hD, fun x hx => by
  rcases List.mem_append.1 hx with hx | hx
  · exact E.rd x hx
  · obtain rfl : x = r := by simpa using hx
    exact h⟩
theorem Env.less (E : Env D w0 w l xs) (n : Nat) : Env D w0 w l (xs.take n) := ⟨E.B, E.hD, fun r hr => E.rd r (List.mem_of_mem_take hr)⟩
/-- What is at a number isn't told any more. -/
theorem Env.drops (E : Env D w0 w l xs) (n : Nat) : Env D w0 w l (xs.take n ++ xs.drop (n + 1)) := ⟨E.B, E.hD, fun r hr => E.rd r (by
  rcases List.mem_append.1 hr with h | h
  · exact List.mem_of_mem_take h
  · exact List.mem_of_mem_drop h)⟩
theorem Env.call (E : Env D w0 w l xs) (t : Turn (fun _ => False) w w') {r : Raw} (h : r.Read (Dn (Fr D w0 w l) w w') w') : Env D w0 w' l (xs ++ [r]) := by
  refine (E.new t).know (Raw.mono h fun i hi => ?_)
  rcases hi with (hi | ⟨h1, h2, h3⟩) | ⟨h1, h2⟩
  · exact .inl hi
  · exact .inr ⟨h1, by have := t.size; omega, h3⟩
  · refine .inr ⟨by have := E.B.t.size; omega, h2, fun x hx e => ?_⟩
    have := (E.B.blk x hx).lt
    omega
/-- The first boxes. -/
theorem Env.boxed (E : Env D w0 w0 [] xs) (B : Boxes w0 w l) : Env D w0 w l xs := ⟨B, E.hD, fun r hr => Raw.mono (Raw.keep (E.rd r hr) B.t (fun _ _ => id)) (fun i hi => by
  rcases hi with hi | ⟨h1, h2, _⟩
  · exact .inl hi
  · omega)⟩
theorem Env.s (E : Env D w0 w l xs) (i : Nat) {x : SV} (hi : xs[i]? = some (.s x)) : RS (Fr D w0 w l) w x := E.rd _ (List.mem_of_getElem? hi)
theorem Env.g (E : Env D w0 w l xs) (i : Nat) {x : GV} (hi : xs[i]? = some (.g x)) : RG (Fr D w0 w l) w x := E.rd _ (List.mem_of_getElem? hi)
theorem Env.c (E : Env D w0 w l xs) (i : Nat) {x : CV} (hi : xs[i]? = some (.c x)) : RC (Fr D w0 w l) w x := E.rd _ (List.mem_of_getElem? hi)
theorem Env.i (E : Env D w0 w l xs) (i : Nat) {v : Sl} {L : List Int} (hi : xs[i]? = some (.i v L)) : RI .i64 (Fr D w0 w l) w v L := E.rd _ (List.mem_of_getElem? hi)
theorem Env.o (E : Env D w0 w l xs) (i : Nat) {r : OpV} {o : Opr} (hi : xs[i]? = some (.o r o)) : ROpD (Fr D w0 w l) w r o := E.rd _ (List.mem_of_getElem? hi)
theorem Env.p (E : Env D w0 w l xs) (i : Nat) {x : PV} (hi : xs[i]? = some (.p x)) : RP (Fr D w0 w l) w x := E.rd _ (List.mem_of_getElem? hi)
/-- What a callee answers that makes a state, and a bool; a number; both. -/
def GivesB (D : Nat → Prop) (w : World) (s' : St) (b : Bool) (e : Ending) (w' : World) : Prop := ∃ y : SV, e = .returned (.tuple #[y.val, .bool b]) ∧ y.s = s' ∧ RS (Dn D w w') w' y ∧ Turn (fun _ => False) w w'
def GivesV (D : Nat → Prop) (w : World) (s' : St) (v : Int) (e : Ending) (w' : World) : Prop := ∃ y : SV, e = .returned (.tuple #[y.val, .int .i64 v]) ∧ y.s = s' ∧ RS (Dn D w w') w' y ∧ Turn (fun _ => False) w w'
def GivesI (D : Nat → Prop) (w : World) (s' : St) (v : Int) (b : Bool) (e : Ending) (w' : World) : Prop := ∃ y : SV, e = .returned (.tuple #[y.val, .int .i64 v, .bool b]) ∧ y.s = s' ∧ RS (Dn D w w') w' y ∧ Turn (fun _ => False) w w'
def GivesP (D : Nat → Prop) (w : World) (p : R5.St) (e : Ending) (w' : World) : Prop := ∃ y : PV, e = .returned y.val ∧ y.p = p ∧ RP (Dn D w w') w' y ∧ Turn (fun _ => False) w w'
def GivesPB (D : Nat → Prop) (w : World) (p : R5.St) (b : Bool) (e : Ending) (w' : World) : Prop := ∃ y : PV, e = .returned (.tuple #[y.val, .bool b]) ∧ y.p = p ∧ RP (Dn D w w') w' y ∧ Turn (fun _ => False) w w'
def GivesPI (D : Nat → Prop) (w : World) (p : R5.St) (v : Int) (b : Bool) (e : Ending) (w' : World) : Prop := ∃ y : PV, e = .returned (.tuple #[y.val, .int .i64 v, .bool b]) ∧ y.p = p ∧ RP (Dn D w w') w' y ∧ Turn (fun _ => False) w w'
theorem Env.givesB (E : Env D w0 w l xs) {s' : St} {b : Bool} {e : Ending} (h : GivesB (Fr D w0 w l) w s' b e w') : ∃ y : SV, e = .returned (.tuple #[y.val, .bool b]) ∧ Hid (y.s = s') ∧ Hid (Env D w0 w' l (xs ++ [.s y])) := by
  obtain ⟨y, h1, h2, h3, h4⟩ := h
  exact ⟨y, h1, h2, E.call (r := .s y) h4 h3⟩
theorem Env.givesV (E : Env D w0 w l xs) {s' : St} {v : Int} {e : Ending} (h : GivesV (Fr D w0 w l) w s' v e w') : ∃ y : SV, e = .returned (.tuple #[y.val, .int .i64 v]) ∧ Hid (y.s = s') ∧ Hid (Env D w0 w' l (xs ++ [.s y])) := by
  obtain ⟨y, h1, h2, h3, h4⟩ := h
  exact ⟨y, h1, h2, E.call (r := .s y) h4 h3⟩
theorem Env.givesI (E : Env D w0 w l xs) {s' : St} {v : Int} {b : Bool} {e : Ending} (h : GivesI (Fr D w0 w l) w s' v b e w') : ∃ y : SV, e = .returned (.tuple #[y.val, .int .i64 v, .bool b]) ∧ Hid (y.s = s') ∧ Hid (Env D w0 w' l (xs ++ [.s y])) := by
  obtain ⟨y, h1, h2, h3, h4⟩ := h
  exact ⟨y, h1, h2, E.call (r := .s y) h4 h3⟩
theorem Env.givesP (E : Env D w0 w l xs) {p : R5.St} {e : Ending} (h : GivesP (Fr D w0 w l) w p e w') : ∃ y : PV, e = .returned y.val ∧ Hid (y.p = p) ∧ Hid (Env D w0 w' l (xs ++ [.p y])) := by
  obtain ⟨y, h1, h2, h3, h4⟩ := h
  exact ⟨y, h1, h2, E.call (r := .p y) h4 h3⟩
theorem Env.givesPB (E : Env D w0 w l xs) {p : R5.St} {b : Bool} {e : Ending} (h : GivesPB (Fr D w0 w l) w p b e w') : ∃ y : PV, e = .returned (.tuple #[y.val, .bool b]) ∧ Hid (y.p = p) ∧ Hid (Env D w0 w' l (xs ++ [.p y])) := by
  obtain ⟨y, h1, h2, h3, h4⟩ := h
  exact ⟨y, h1, h2, E.call (r := .p y) h4 h3⟩
theorem Env.givesPI (E : Env D w0 w l xs) {p : R5.St} {v : Int} {b : Bool} {e : Ending} (h : GivesPI (Fr D w0 w l) w p v b e w') : ∃ y : PV, e = .returned (.tuple #[y.val, .int .i64 v, .bool b]) ∧ Hid (y.p = p) ∧ Hid (Env D w0 w' l (xs ++ [.p y])) := by
  obtain ⟨y, h1, h2, h3, h4⟩ := h
  exact ⟨y, h1, h2, E.call (r := .p y) h4 h3⟩
theorem Env.dn' (E : Env D w0 w l xs) : ∀ i, Fr D w0 w l i → Dn D w0 w i := fun i h => h.imp id fun h => ⟨h.1, h.2.1⟩
theorem Env.endsB (E : Env D w0 w l xs) (i : Nat) {y : SV} (hi : xs[i]? = some (.s y)) {s : St} {b c : Bool} (hs : y.s = s) (hb : b = c) : GivesB D w0 s c (.returned (.tuple #[y.val, .bool b])) w := ⟨y, by rw [hb], hs, (E.s i hi).mono E.dn', E.B.t⟩
theorem Env.endsV (E : Env D w0 w l xs) (i : Nat) {y : SV} (hi : xs[i]? = some (.s y)) {s : St} {v u : Int} (hs : y.s = s) (hv : v = u) : GivesV D w0 s u (.returned (.tuple #[y.val, .int .i64 v])) w := ⟨y, by rw [hv], hs, (E.s i hi).mono E.dn', E.B.t⟩
theorem Env.endsI (E : Env D w0 w l xs) (i : Nat) {y : SV} (hi : xs[i]? = some (.s y)) {s : St} {v u : Int} {b c : Bool} (hs : y.s = s) (hv : v = u) (hb : b = c) : GivesI D w0 s u c (.returned (.tuple #[y.val, .int .i64 v, .bool b])) w := ⟨y, by rw [hv, hb], hs, (E.s i hi).mono E.dn', E.B.t⟩
theorem Env.endsP (E : Env D w0 w l xs) (i : Nat) {y : PV} (hi : xs[i]? = some (.p y)) {p : R5.St} (hs : y.p = p) : GivesP D w0 p (.returned y.val) w := ⟨y, rfl, hs, RPl.mono (E.p i hi) E.dn', E.B.t⟩
/-- What a callee answers that makes a state. -/
theorem Env.gives (E : Env D w0 w l xs) {s' : St} {e : Ending} (h : Gives (Fr D w0 w l) w s' e w') : ∃ y : SV, e = .returned y.val ∧ Hid (y.s = s') ∧ Hid (Env D w0 w' l (xs ++ [.s y])) := by
  obtain ⟨y, h1, h2, h3, h4⟩ := h
  exact ⟨y, h1, h2, E.call (r := .s y) h4 h3⟩
/-- What is answered. -/
theorem Env.dn (E : Env D w0 w l xs) : ∀ i, Fr D w0 w l i → Dn D w0 w i := fun i h => h.imp id fun h => ⟨h.1, h.2.1⟩
theorem Env.ends (E : Env D w0 w l xs) (i : Nat) {y : SV} (hi : xs[i]? = some (.s y)) {s : St} (hs : y.s = s) : Gives D w0 s (.returned y.val) w := ⟨y, rfl, hs, (E.s i hi).mono E.dn, E.B.t⟩
variable {P : Program}
theorem wpList_store_env {ops : Array Oper} {rest : List Oper} {o : Oper} {a : Act} {Q : Exit → Act → World → Prop} (hgd : o.guard = none) {ty : TypeId} {x y : Operand} (ho : o.op = .store ty x y) (E : Env D w0 w l xs) (i : Nat) {b : Nat} {e : TypeId} {cs : List Value} (hi : l[i]? = some (b, e, cs))
    (hx : a.eval x = .pointer (some ⟨b, 0, none⟩)) (cs' : List Value) (hy : a.eval y = .agg cs'.toArray) (hl : cs'.length = cs.length) (ht : Struct P ty cs'.length) (h1 : ∀ v ∈ cs', v.oneCell' = true)
    (h : ∀ w', Hid (Env D w0 w' (l.set i (b, e, cs')) xs) → wpList P ops Q rest (a.put o.dst undef) w') : wpList P ops Q (o :: rest) a w :=
  wpList_store_box hgd ho E.B i hi hx cs' hy hl ht h1 fun w' B' T' => h w' (E.turned i hi T'.out (B'.out.at i (by
    have := (List.getElem?_eq_some_iff.1 hi).1
    rw [List.getElem?_set_self this])))
end
section
variable {D : Nat → Prop} {w0 w : World} {l : List (Nat × TypeId × List Value)} {xs : List Raw} {P : Program}
theorem wpList_store_part {ops : Array Oper} {rest : List Oper} {o : Oper} {a : Act} {Q : Exit → Act → World → Prop} (hgd : o.guard = none) {ty : TypeId} {x y : Operand} (ho : o.op = .store ty x y) (E : Env D w0 w l xs) (i : Nat) {b : Nat} {e : TypeId} {cs : List Value} (hi : l[i]? = some (b, e, cs)) (off : Nat)
    (hx : a.eval x = .pointer (some ⟨b, off, none⟩)) (ps : List Value) (hy : a.eval y = .agg ps.toArray) (hl : off + ps.length ≤ cs.length) (ht : Struct P ty ps.length) (h1 : ∀ v ∈ ps, v.oneCell' = true) (cs' : List Value) (hc : cs.take off ++ ps ++ cs.drop (off + ps.length) = cs')
    (h : ∀ w', Hid (Env D w0 w' (l.set i (b, e, cs')) xs) → wpList P ops Q rest (a.put o.dst undef) w') : wpList P ops Q (o :: rest) a w := by
  subst hc
  have hB := E.B.at i hi
  exact wpList_store_mid hgd ty x y ho b off ps.toArray hx hy (fun j hj => ⟨by
    have hj' : off + j < cs.length := by simp at hj; omega
    rw [hB.c (off + j) (List.getElem?_eq_getElem hj')]; rfl, hB.fr (off + j)⟩) (by simpa using ht.2) (all_oneCell_toArray h1) (h _ (E.part i hi off ps hl))
end
section
variable {D : Nat → Prop} {w0 w : World} {l : List (Nat × TypeId × List Value)} {xs : List Raw} {P : Program}
/-- A whole struct's load, where order is drawn. -/
theorem exec_load {o : Oper} {ev : Operand → Value} {ty : TypeId} {x : Operand} {v : Value} {p : Value} (ho : o.op = .load ty x) (hx : ev x = p) (hr : (Instr.loadAt ty p).run P w = .ok v w) : (execOp ev o).run P w = .ok (.value v) w := by
  unfold execOp
  simp only [ho, hx, Sem.run_bind, hr, Sem.run_pure, Result.andThen_ok]
theorem exec_at {o : Oper} {ev : Operand → Value} {ty : TypeId} {x : Operand} {a : Addr} {cs : List Value} (h : At w a cs) (ht : Struct P ty cs.length) (hx : ev x = .pointer (some a)) (ho : o.op = .load ty x) : (execOp ev o).run P w = .ok (.value (.agg cs.toArray)) w := exec_load ho hx (h.load ht)
theorem exec_box {o : Oper} {ev : Operand → Value} {ty : TypeId} {x : Operand} (B : Boxes w0 w l) (i : Nat) {b : Nat} {e : TypeId} {cs : List Value} (hi : l[i]? = some (b, e, cs)) (ht : Struct P ty cs.length) (hx : ev x = .pointer (some ⟨b, 0, none⟩)) (ho : o.op = .load ty x) : (execOp ev o).run P w = .ok (.value (.agg cs.toArray)) w := exec_load ho hx ((B.at i hi).load ht)
theorem Env.know0 {w' : World} {ys : List Raw} (E0 : Env D w w [] ys) (E : Env D w w' l xs) {r : Raw} (h : r.Read (Fr D w w []) w) : Env D w w' l (xs ++ [r]) :=
  E.know (Raw.mono (Raw.keep h E.B.t (fun _ _ => id)) (fun i hi => by
    rcases hi with hi | ⟨h1, h2, _⟩
    · exact .inl hi
    · omega))
theorem step_store_env {ops : Array Oper} {o : Oper} {a : Act} {K : Act → World → Prop} {Q : Exit → Act → World → Prop} {F : Prop} (hgd : o.guard = none) {ty : TypeId} {x y : Operand} (ho : o.op = .store ty x y) (E : Env D w0 w l xs) (i : Nat) {b : Nat} {e : TypeId} {cs : List Value} (hi : l[i]? = some (b, e, cs))
    (hx : a.eval x = .pointer (some ⟨b, 0, none⟩)) (cs' : List Value) (hy : a.eval y = .agg cs'.toArray) (hl : cs'.length = cs.length) (ht : Struct P ty cs'.length) (h1 : ∀ v ∈ cs', v.oneCell' = true)
    (h : ∀ w', Hid (Env D w0 w' (l.set i (b, e, cs')) xs) → K (a.put o.dst undef) w') : if Region.wanted o (yielded ops a.tmps) = true then Oper.wp P o a w K Q else F := by
  have hw : Region.wanted o (yielded ops a.tmps) = true := by simp [Region.wanted, hgd]
  rw [if_pos hw]
  exact wp_store_box ho E.B i hi hx cs' hy hl ht h1 fun w' B' T' => h w' (E.turned i hi T'.out (B'.out.at i (by
    have := (List.getElem?_eq_some_iff.1 hi).1
    rw [List.getElem?_set_self this])))
/-- What a callee answers that makes an op. -/
def GivesO (D : Nat → Prop) (w : World) (o : Opr) (e : Ending) (w' : World) : Prop := ∃ r : OpV, e = .returned (.agg (encOV r).toArray) ∧ ROpD (Dn D w w') w' r o ∧ Turn (fun _ => False) w w'
theorem Env.givesO {w' : World} (E : Env D w0 w l xs) {o : Opr} {e : Ending} (h : GivesO (Fr D w0 w l) w o e w') : ∃ r : OpV, e = .returned (.agg (encOV r).toArray) ∧ Hid (r.kind = o.kind ∧ r.ch = o.ch ∧ r.n = o.n ∧ r.v = o.v ∧ r.els = o.els ∧ r.cs.len = o.cases.length) ∧ Hid (Env D w0 w' l (xs ++ [.o r o])) := by
  obtain ⟨r, h1, h2, h3⟩ := h
  obtain ⟨wb, k1, k2, k3⟩ := h2
  exact ⟨r, h1, ⟨k1.kind, k1.ch, k1.n, k1.v, k1.els, k1.cs.ok.len⟩, E.call (r := .o r o) h3 ⟨wb, k1, k2, k3⟩⟩
theorem Env.endsO (E : Env D w0 w l xs) (i : Nat) {r : OpV} {o q : Opr} (hi : xs[i]? = some (.o r o)) (ho : o = q) : GivesO D w0 q (.returned (.agg (encOV r).toArray)) w := by
  obtain ⟨wb, k1, k2, k3⟩ := E.o i hi
  exact ⟨r, rfl, ⟨wb, ho ▸ k1, k2, fun i hi => E.dn' i (k3 i hi)⟩, E.B.t⟩
/-- What a callee answers that makes a goroutine. -/
def GivesG (D : Nat → Prop) (w : World) (g : Gr) (e : Ending) (w' : World) : Prop := ∃ Y : GV, e = .returned Y.val ∧ Y.g = g ∧ RG (Dn D w w') w' Y ∧ Turn (fun _ => False) w w'
theorem Env.givesG {w' : World} (E : Env D w0 w l xs) {g : Gr} {e : Ending} (h : GivesG (Fr D w0 w l) w g e w') : ∃ Y : GV, e = .returned Y.val ∧ Hid (Y.g = g) ∧ Hid (Env D w0 w' l (xs ++ [.g Y])) := by
  obtain ⟨r, h1, h2, h3, h4⟩ := h
  exact ⟨r, h1, h2, E.call (r := .g r) h4 h3⟩
theorem ri_nil (k : IntKind) (D : Nat → Prop) (w : World) : RI k D w zSl [] := ⟨⟨rfl, Nat.le_refl _, Nat.zero_le _, fun _ => rfl⟩, fun j hj => absurd hj (Nat.not_lt_zero _), fun ad e => by cases e⟩
/-- The op at a place of a goroutine's. -/
theorem ops_lies {s : Sl} {L : List Opr} {w : World} (h : DOps D w s L) {i : Nat} {o : Opr} (hi : L[i]? = some o) :
    ∃ ad r, s.ao = some ad ∧ ROpD D w r o ∧ At w (ad.add (i * 6)) (encOV r) := by
  obtain ⟨wb, h1, h2, h3⟩ := h.at_
  obtain ⟨R, k1, k2, k3⟩ := h1.has
  have hl := (List.getElem?_eq_some_iff.1 hi).1
  obtain ⟨r, hr⟩ : ∃ r, R[i]? = some r := ⟨_, List.getElem?_eq_getElem (by omega)⟩
  obtain ⟨a, ha, hc⟩ := (k2.new h2) i r hr
  exact ⟨a, r, ha, ⟨wb, k3 i r o hr hi, h2, h3⟩, hc⟩
end
/-- Raws that are one another but for numbers. -/
theorem RG.like {D : Nat → Prop} {w : World} {X Y : GV} (h : RG D w X) (ho : Y.g.ops = X.g.ops ∧ Y.so = X.so) (h1 : Y.g.order = X.g.order ∧ Y.sr = X.sr) (h2 : Y.g.locks = X.g.locks ∧ Y.sl = X.sl) (h3 : Y.g.sgs = X.g.sgs ∧ Y.ss = X.ss) (h4 : Y.g.wakes = X.g.wakes ∧ Y.sw = X.sw) : RG D w Y := by
  obtain ⟨q1, q2, q3, q4, q5⟩ := h
  refine ⟨?_, ?_, ?_, ?_, ?_⟩
  · rw [ho.1, ho.2]; exact q1
  · rw [h1.1, h1.2]; exact q2
  · rw [h2.1, h2.2]; exact q3
  · rw [h3.1, h3.2]; exact q4
  · rw [h4.1, h4.2]; exact q5
theorem RG.like2 {D : Nat → Prop} {w : World} {X Y Z : GV} (hZ : Z = Y) (h : RG D w X) (ho : Y.g.ops = X.g.ops ∧ Y.so = X.so) (h1 : Y.g.order = X.g.order ∧ Y.sr = X.sr) (h2 : Y.g.locks = X.g.locks ∧ Y.sl = X.sl) (h3 : Y.g.sgs = X.g.sgs ∧ Y.ss = X.ss) (h4 : Y.g.wakes = X.g.wakes ∧ Y.sw = X.sw) : RG D w Z := by
  rw [hZ]
  exact h.like ho h1 h2 h3 h4
theorem RC.like {D : Nat → Prop} {w : World} {X Y : CV} (h : RC D w X) (ho : Y.c.buf = X.c.buf ∧ Y.sb = X.sb) (h1 : Y.c.recv = X.c.recv ∧ Y.sr = X.sr) (h2 : Y.c.send = X.c.send ∧ Y.ss = X.ss) : RC D w Y := by
  obtain ⟨q1, q2, q3⟩ := h
  refine ⟨?_, ?_, ?_⟩
  · rw [ho.1, ho.2]; exact q1
  · rw [h1.1, h1.2]; exact q2
  · rw [h2.1, h2.2]; exact q3
end Go.Proofs.Ytenbafkgfdlfpaa
