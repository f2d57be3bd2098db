/- moved, refill, spill: things that go from one row into another one. -/
import Derived.Test.YtmjenbkhmhpleaaPool
import Derived.Test.YtmjenbkhmhpleaaGStep
import Derived.Deep.LoopGhost
namespace Go.Proofs.Ytmjenbkhmhpleaa
open Go.RowKit
set_option linter.unusedVariables false

theorem own_cut {k : IntKind} {w : World} {base n m c : Nat} {e : TypeId} {ao : Option Addr} {L M : List Int} (h : w.ownsRow base e 1 (.slice ao n c) n (L.map (Value.int k))) (hm : m ≤ n) (hM : L.take m = M) :
    w.ownsRow base e 1 (.slice ao m c) m (M.map (Value.int k)) := by
  have hl : L.length = n := by have := h.1; simpa using this
  refine ⟨by rw [← hM]; simp; omega, ?_⟩
  rcases h.2 with ⟨h1, h0⟩ | ⟨g, cap, cur, h1, hb, hh, hc, hx, hs, ht⟩
  · cases h1
    left
    exact ⟨by rw [show m = 0 by omega], by omega⟩
  · cases h1
    right
    refine ⟨g, _, cur, rfl, hb, hh, by omega, hx, hs, ?_⟩
    rw [← hM, List.map_take, ← ht, List.take_take, Nat.mul_one, Nat.mul_one, Nat.min_eq_left hm]

/-- What moved answers: the first row without its last one, the second one with it. -/
def MovedPost (base : Nat) (a : Option Addr) (c n' : Nat) (b : Option Addr) (m d m' : Nat) (T : List Int) (w : World) (e : Ending) (w' : World) : Prop :=
  ∃ g c', e = .returned (.tuple #[.slice a n' c, .slice (some ⟨g, 0, none⟩) m' c']) ∧ w'.ownsRow base 3 1 (.slice (some ⟨g, 0, none⟩) m' c') m' (T.map (Value.int .i64)) ∧
    Turn (fun i => (Value.slice b m d).ownBlock = some i) w w' ∧ ((Value.slice b m d).ownBlock = some g ∨ w.heap.size ≤ g)

set_option maxHeartbeats 1000000 in
theorem moved_any {base c m d m' n' : Nat} {b : Option Addr} {ga n : Nat} {F T : List Int} (w : World) (hF : w.ownsRow base 3 1 (.slice (some ⟨ga, 0, none⟩) n c) n (F.map (Value.int .i64))) (hT : w.ownsRow base 3 1 (.slice b m d) m (T.map (Value.int .i64)))
    (hap : (Value.slice b m d).ownBlock ≠ some ga) (hn : n = n' + 1) (hn2 : n ≤ 100) (hm : m + 1 = m') (hm2 : m ≤ 100) (hb : base ≤ w.heap.size) :
    Calls Try.prog 38 #[.slice (some ⟨ga, 0, none⟩) n c, .slice b m d] w (MovedPost base (some ⟨ga, 0, none⟩) c n' b m d m' (T ++ [lastOf F]) w) := by
  have hl : F.length = n := by have := hF.1; simpa using this
  obtain ⟨cx, _⟩ := own_cells hF (j := n') (by omega)
  have hgw := World.block_lt_of_cell? w _ cx
  have hgw' : ga < w.heap.size := hgw
  have hx : F.getD n' 0 = lastOf F := by unfold lastOf; rw [hl, hn]; rfl
  rw [hx] at cx
  have hcc := (own_reads hF).2.2.1
  generalize lastOf F = x at cx ⊢
  have HT := Lib.hid hT
  have HAP := Lib.hid hap
  have HM := Lib.hid hm
  have h1 : (n : Int) - 1 = (n' : Int) := by omega
  have h2 : n' < n := by omega
  have h3 : n' ≤ c := by omega
  have h4 : (n' : Int) < (n : Int) := by omega
  have h5 : (n' : Int) ≤ (c : Int) := by omega
  have h6 : (0 : Int) ≤ (n' : Int) := by omega
  clear hF hT hap hn hm hl hx hgw hcc
  go_enter Try.func38, Try.ntmps38
  go_wp2_with fail
  clear h1
  go_region_held3 (fun w' => w'.cell? ⟨ga, n', none⟩ = some (.int .i64 x))
    (first
      | go_keep
      | exact T3.out.cell (fun e => HAP.out e) (by assumption))
    (first
      | (refine step_append_one Try.underlying23 info_int (by decide) (by rfl) (.tmp 13) (.tmp 18) (by rfl) base (.slice b m d) T m (by rfl) ((HT.out).alloc _) w.heap.size x (by rfl) (heap_alloc_new w _) (by omega) (by simp; omega) ?_; intro g3 c3 w3 hg3 H3 T3 B3))
  go_wp2
  go_ret2
  have HO := H3.out
  rw [HM.out] at HO
  refine ⟨g3, c3, ?_, HO, ((Turn.refl _ w).alloc _).drew.trans T3.out, ?_⟩
  · rw [← HM.out]; rfl
  · rcases B3.out with e | e
    · exact Or.inl e
    · right; simp at e; omega

end Go.Proofs.Ytmjenbkhmhpleaa
