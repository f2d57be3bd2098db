/- The code's next byte: a function within Decode; the case that is next. -/
import Derived.Test.YtaighbofekefkaaOne
namespace Go.Proofs.Ytaighbofekefkaa
open Go.RowKit
set_option linter.unusedVariables false

/-- How far the bytes are read: i were asked for. -/
structure Nx (w0 w : World) (pu pb : Nat) (v : Value) (n i : Nat) : Prop where
  u : Blk w pu 3 [.int .i64 ((min i n : Nat) : Int)]
  b : Blk w pb 22 [v]
  low : w0.heap.size ≤ pu
  ne : pb ≠ pu
  t : Turn (fun _ => False) w0 w
section
variable {w0 w w' : World} {pu pb n i : Nat} {v : Value}
theorem Nx.new (h : Nx w0 w pu pb v n i) (t : Turn (fun _ => False) w w') : Nx w0 w' pu pb v n i := ⟨h.u.new t, h.b.new t, h.low, h.ne, h.t.trans t⟩
theorem Nx.turned {S : Nat → Prop} (h : Nx w0 w pu pb v n i) (t : Turn S w w') (h1 : ¬ S pu) (h2 : ¬ S pb) (h3 : ∀ j, S j → w0.heap.size ≤ j) : Nx w0 w' pu pb v n i := ⟨h.u.turn t h1, h.b.turn t h2, h.low, h.ne, h.t.and t (fun j hj e => by have := h3 j e; omega)⟩
theorem Nx.put (h : Nx w0 w pu pb v n i) (x : Int) {k : Nat} (hx : x = ((min k n : Nat) : Int)) : Nx w0 (w.setCell ⟨pu, 0, none⟩ (.int .i64 x)) pu pb v n k :=
  ⟨hx ▸ h.u.set 0 _, h.b.far (p := ⟨pu, 0, none⟩) h.ne _, h.low, h.ne, h.t.and (set_turn w pu 0 _) (fun j hj e => by have := h.low; omega)⟩
end
theorem atB_out {B : List Int} {i : Nat} (h : B.length ≤ i) : atB B i = 0 := by
  unfold atB
  rw [List.getD_eq_getElem?_getD, List.getElem?_eq_none h]
  rfl

def nextV (pu pb : Nat) : Value := .func (.func 32) #[] #[.pointer (some ⟨pu, 0, none⟩), .pointer (some ⟨pb, 0, none⟩)]

theorem next_any {ao : Option Addr} {n c i pu pb : Nat} {B : List Int} {x by_ : Int} (w0 w : World) (hB : Ints .u8 w0 ao B) (hn : B.length = n) (hN : Nx w0 w pu pb (.slice ao n c) n i) (hx : atB B i = x) (hb : 0 ≤ x ∧ x ≤ 255) (hy : 1 ≤ by_ ∧ by_ ≤ 256) (hm : n ≤ 100000) :
    Calls Try.prog 32 #[.int .i64 by_, .pointer (some ⟨pu, 0, none⟩), .pointer (some ⟨pb, 0, none⟩)] w fun e w' => e = .returned (.int .i64 (x % by_)) ∧ Nx w0 w' pu pb (.slice ao n c) n (i + 1) ∧ Turn (fun j => j = pu) w w' := by
  have HX := Lib.hid hx
  have HNX := Lib.hid hN
  have c0 := hN.u.c 0 rfl
  have f0 := hN.u.fr 0
  have c1 := hN.b.c 0 rfl
  by_cases hi : i < n
  · rw [show min i n = i by omega] at c0
    obtain ⟨a, rfl, hc⟩ := hB i (by omega)
    have HBB := Lib.hid (And.intro hB (And.intro hn hx))
    clear hB hn hx hN hc
    go_enter Try.func32, Try.ntmps32
    go_upto_region 4 with fail
    have N1 := Lib.hid (HNX.out.put ((i : Int) + 1) (k := i + 1) (by omega))
    have T1 := Lib.hid (set_turn w pu 0 (.int .i64 ((i : Int) + 1)))
    generalize w.setCell ⟨pu, 0, none⟩ (.int .i64 ((i : Int) + 1)) = w1 at N1 T1 ⊢
    clear c0 f0 c1
    have c0 : w1.cell? ⟨pu, 0, none⟩ = some (.int .i64 ((i : Int) + 1)) := by
      have := N1.out.u.c 0 rfl
      rw [show min (i + 1) n = i + 1 by omega] at this
      simpa using this
    have c1 := N1.out.b.c 0 rfl
    have hc : w1.cell? (a.add i) = some (.int .u8 x) := by
      obtain ⟨a', e, h⟩ := (HBB.out.1.turn N1.out.t (fun _ _ => id)) i (by have := HBB.out.2.1; omega)
      cases e
      have hx := HBB.out.2.2
      unfold atB at hx
      rw [hx] at h
      exact h
    go_wp2_with fail
    go_ret
    exact ⟨rfl, N1.out, T1.out⟩
  · have hx0 : x = 0 := by rw [← hx]; exact atB_out (by omega)
    subst hx0
    rw [show min i n = n by omega] at c0
    clear hB hn hx hN
    go_enter Try.func32, Try.ntmps32
    go_wp2_with fail
    go_ret
    refine ⟨by simp, ⟨?_, HNX.out.b, HNX.out.low, HNX.out.ne, HNX.out.t⟩, Turn.refl _ _⟩
    have := HNX.out.u
    rw [show min i n = n by omega] at this
    rw [show min (i + 1) n = n by omega]
    exact this

end Go.Proofs.Ytaighbofekefkaa
