/- A ring, and two rows beside it that are the call's own. -/
import Derived.Test.YtakfepgndokdpaaLaw
namespace Go.Proofs.Ytakfepgndokdpaa
open Go.RowKit
set_option linter.unusedVariables false

/-- A row of the call's own at the slice (b, n, c), of the numbers L. -/
def Own (w : World) (base : Nat) (b : Option Addr) (n c : Nat) (L : List Int) : Prop := w.ownsRow base 2 1 (.slice b n c) n (L.map (Value.int .i64))
theorem Own.len {w : World} {base : Nat} {b : Option Addr} {n c : Nat} {L : List Int} (h : Own w base b n c L) : L.length = n := by have := h.1; simpa using this
theorem Own.lt {w : World} {base : Nat} {b : Option Addr} {n c : Nat} {L : List Int} (h : Own w base b n c L) : ∀ a, b = some a → base ≤ a.block ∧ a.block < w.heap.size := fun a e => by
  subst e
  exact World.ownsRow.lt h a.block (by rw [own_block]; rfl)
theorem Own.turn {w w' : World} {S : Nat → Prop} {base : Nat} {b : Option Addr} {n c : Nat} {L : List Int} (h : Own w base b n c L) (t : Turn S w w') (hs : ∀ a, b = some a → ¬ S a.block) : Own w' base b n c L := own_turn h t (fun k hk => by
  rw [own_block] at hk
  cases b with
  | none => cases hk
  | some a => cases hk; exact hs a rfl)
theorem Own.ints {w : World} {base : Nat} {b : Option Addr} {n c : Nat} {L : List Int} (h : Own w base b n c L) : Ints .i64 w b L := (own_reads h).2.1

/-- The ring R at p, the rows I and O, apart from it and from each other; nothing that was in w0 has turned. -/
structure Sep (w0 w : World) (p n : Nat) (ao : Option Addr) (c : Nat) (R : List Int) (bi : Option Addr) (ni ci : Nat) (I : List Int) (bo : Option Addr) (no co : Nat) (O : List Int) : Prop where
  ring : IsRing w w0.heap.size p n ao c R
  ini : Own w w0.heap.size bi ni ci I
  out : Own w w0.heap.size bo no co O
  f1 : ∀ a, bi = some a → ¬ RB p ao a.block
  f2 : ∀ a, bo = some a → ¬ RB p ao a.block
  f3 : ∀ a b, bi = some a → bo = some b → a.block ≠ b.block
  t : Turn (fun _ => False) w0 w

section
variable {w0 w w' : World} {p n c ni ci no co : Nat} {ao bi bo : Option Addr} {R I O : List Int}
theorem Sep.drewN (h : Sep w0 w p n ao c R bi ni ci I bo no co O) (k : Nat) : Sep w0 (w.drewN k) p n ao c R bi ni ci I bo no co O :=
  ⟨h.ring.drewN k, h.ini.turn ((Turn.refl (fun _ => False) w).drewN k) (fun _ _ => id), h.out.turn ((Turn.refl (fun _ => False) w).drewN k) (fun _ _ => id), h.f1, h.f2, h.f3, h.t.drewN k⟩
theorem Sep.new (h : Sep w0 w p n ao c R bi ni ci I bo no co O) (t : Turn (fun _ => False) w w') : Sep w0 w' p n ao c R bi ni ci I bo no co O :=
  ⟨h.ring.new t, h.ini.turn t (fun _ _ => id), h.out.turn t (fun _ _ => id), h.f1, h.f2, h.f3, h.t.trans t⟩
theorem Sep.kept (h : Sep w0 w p n ao c R bi ni ci I bo no co O) {R' : List Int} (k : Kept w w' w0.heap.size p n ao R') : ∃ ao' c', Sep w0 w' p n ao' c' R' bi ni ci I bo no co O := by
  obtain ⟨ao', c', h1, t1, b1⟩ := k
  refine ⟨ao', c', h1, h.ini.turn t1 h.f1, h.out.turn t1 h.f2, fun a e hb => ?_, fun a e hb => ?_, h.f3, h.t.and t1 (fun i hi hb => ?_)⟩
  · rcases b1 _ hb with hb | hb
    · exact h.f1 a e hb
    · have := (h.ini.lt a e).2; omega
  · rcases b1 _ hb with hb | hb
    · exact h.f2 a e hb
    · have := (h.out.lt a e).2; omega
  · have := (h.ring.blocks hb).1; omega
theorem own_some {b : Option Addr} {n c g : Nat} (h : (Value.slice b n c).ownBlock = some g) : ∃ a, b = some a ∧ a.block = g := by
  rw [own_block] at h
  cases b with
  | none => cases h
  | some a => cases h; exact ⟨a, rfl, rfl⟩
theorem Sep.inned (h : Sep w0 w p n ao c R bi ni ci I bo no co O) {g n' c' : Nat} {I' : List Int} (ho : Own w' w0.heap.size (some ⟨g, 0, none⟩) n' c' I')
    (t : Turn (fun i => (Value.slice bi ni ci).ownBlock = some i) w w') (b : (Value.slice bi ni ci).ownBlock = some g ∨ w.heap.size ≤ g) : Sep w0 w' p n ao c R (some ⟨g, 0, none⟩) n' c' I' bo no co O := by
  refine ⟨h.ring.turn t (fun i hi e => ?_), ho, h.out.turn t (fun a ha e => ?_), fun a e hb => ?_, h.f2, fun a b' e e' hb => ?_, h.t.and t (fun i hi e => ?_)⟩
  · obtain ⟨a, ha, rfl⟩ := own_some e; exact h.f1 a ha hi
  · obtain ⟨a', ha', he⟩ := own_some e; exact h.f3 a' a ha' ha he
  · cases e
    rcases b with e | e
    · obtain ⟨a', ha', he⟩ := own_some e
      exact h.f1 a' ha' (by rw [he]; exact hb)
    · have := (h.ring.blocks hb).2
      have e2 : w.heap.size ≤ g := e
      simp at this
      omega
  · cases e
    rcases b with e | e
    · obtain ⟨a', ha', he⟩ := own_some e
      exact h.f3 a' b' ha' e' (he.trans hb)
    · have := (h.out.lt b' e').2
      have hb' : g = b'.block := hb
      omega
  · obtain ⟨a, ha, rfl⟩ := own_some e
    have := (h.ini.lt a ha).1
    omega
theorem Sep.swap (h : Sep w0 w p n ao c R bi ni ci I bo no co O) : Sep w0 w p n ao c R bo no co O bi ni ci I :=
  ⟨h.ring, h.out, h.ini, h.f2, h.f1, fun a b e e' => (h.f3 b a e' e).symm, h.t⟩
theorem Sep.outed (h : Sep w0 w p n ao c R bi ni ci I bo no co O) {g n' c' : Nat} {O' : List Int} (ho : Own w' w0.heap.size (some ⟨g, 0, none⟩) n' c' O')
    (t : Turn (fun i => (Value.slice bo no co).ownBlock = some i) w w') (b : (Value.slice bo no co).ownBlock = some g ∨ w.heap.size ≤ g) : Sep w0 w' p n ao c R bi ni ci I (some ⟨g, 0, none⟩) n' c' O' := (h.swap.inned ho t b).swap
end

theorem wf_u8 {x : Int} (h : (Lit.int .u8 x).wf = true) : 0 ≤ x ∧ x ≤ 255 := by
  simpa [Lit.wf, IntKind.min, IntKind.max, IntKind.signed, IntKind.bits] using h

theorem len_n {base p room c nr : Nat} {ao : Option Addr} {L : List Int} (w : World) (h : IsRing w base p room ao c L) (hn : L.length = nr) :
    Calls Try.prog 11 #[.pointer (some ⟨p, 0, none⟩)] w fun e w' => e = .returned (.int .i64 nr) ∧ w = w' := by
  subst hn
  exact len_any w h
theorem get_one {base p room c : Nat} {ao : Option Addr} {x : Int} {L T : List Int} (w : World) (h : IsRing w base p room ao c L) (hL : L = x :: T) :
    Calls Try.prog 18 #[.pointer (some ⟨p, 0, none⟩)] w fun e w' => e = .returned (.tuple #[.int .i64 x, .bool true]) ∧ Kept w w' base p room ao T := by
  subst hL
  exact get_any w h
theorem get_empty {base p room c : Nat} {ao : Option Addr} {L : List Int} (w : World) (h : IsRing w base p room ao c L) (hL : L = []) :
    Calls Try.prog 18 #[.pointer (some ⟨p, 0, none⟩)] w fun e w' => e = .returned (.tuple #[.int .i64 0, .bool false]) ∧ Kept w w' base p room ao [] := by
  subst hL
  exact get_any w h

theorem lrows_long {a : Int} {ao bo : Option Addr} {n cap m cb : Nat} (w : World) (ha : 0 ≤ a ∧ a ≤ 255) (h : 300 < n) (hL : n ≤ maxLen) :
    Calls Try.prog 5 #[.int .u8 a, .slice ao n cap, .slice bo m cb] w fun e w' => e = .returned (.bool true) ∧ Turn (fun _ => False) w w' := by
  unfold maxLen at hL
  go_enter Try.func5, Try.ntmps5
  go_wp2_with fail
  refine (alive_any _).mono ?_
  rintro e w1 ⟨rfl, t1⟩
  have T1 := Lib.hid t1
  clear t1
  go_wp2_with fail
  go_ret
  exact ⟨rfl, T1.out⟩

end Go.Proofs.Ytakfepgndokdpaa
