/- The laws' first step: the chapter's example. -/
import Derived.Test.YtaighbofekefkaaDec
import Derived.Test.YtaighbofekefkaaSameW
namespace Go.Proofs.Ytaighbofekefkaa
open Go.RowKit
set_option linter.unusedVariables false

def bytesX : List Int := [0, 1, 1, 3, 200]
def opX : Opr := ⟨2, 3, 0, 200, [], false⟩
theorem planX : planOf bytesX = ([[opX]], 5) := by rfl
theorem usedX : usedOf bytesX = 5 := by rfl
theorem bytesX_is : IsBytes bytesX := by
  intro x hx
  unfold bytesX at hx
  simp at hx
  omega
theorem ints_of {w : World} {b : Nat} {e : TypeId} {L : List Int} (h : w.heap[b]? = some (.cells (L.map (Value.int .u8)).toArray e (0, 0))) : Ints .u8 w (some ⟨b, 0, none⟩) L := Row.ints (e := e) h

theorem add_zero' (a : Addr) : a.add 0 = a := by
  unfold Addr.add
  split <;> simp_all

set_option maxRecDepth 100000 in
set_option maxHeartbeats 2000000 in
theorem alive_any (w : World) : Calls Try.prog 8 #[] w (Says w true) := by
  unfold Says
  have HB := Lib.hid (show Ints .u8 (w.alloc (.cells #[.int .u8 0, .int .u8 1, .int .u8 1, .int .u8 3, .int .u8 200] 5)) (some ⟨w.heap.size, 0, none⟩) bytesX from ints_of (heap_alloc_new w _))
  have T0 := Lib.hid ((Turn.refl (fun _ => False) w).alloc (.cells #[.int .u8 0, .int .u8 1, .int .u8 1, .int .u8 3, .int .u8 200] 5))
  go_enter Try.func8, Try.ntmps8
  go_wp2_with fail
  refine (decode_any _ HB.out rfl bytesX_is (by decide)).mono ?_
  rintro e w1 ⟨s, rfl, g1, t1⟩
  rw [planX] at g1
  rw [usedX]
  have hp := g1.reads
  obtain ⟨a, x, ha, hx, hc⟩ := hp.at (i := 0) rfl
  obtain ⟨a2, r, ha2, hr, hc2⟩ := hx.at (i := 0) rfl
  have hl1 := hp.ok.len
  have hl2 := hx.ok.len
  obtain ⟨pao, plen, pcap⟩ := s
  obtain ⟨xao, xlen, xcap⟩ := x
  obtain ⟨kind, ch, n', v, ⟨ao2, len2, cap2⟩, els⟩ := r
  dsimp only at ha ha2 hl1 hl2
  subst ha ha2
  have hl1 : plen = 1 := hl1
  have hl2 : xlen = 1 := hl2
  subst hl1 hl2
  obtain ⟨c0, c1, c2, c3, c4, c5⟩ := cells6 hc2
  have T1 := Lib.hid t1
  have HR := Lib.hid hr
  unfold Sl.val at c4 hc
  unfold Sl.val
  dsimp only at c0 c1 c2 c3 c4 c5 hc ⊢
  rw [Nat.zero_mul, add_zero'] at c0 c1 c2 c3 c4 c5
  rw [add_zero'] at hc
  rw [show ((5 : Nat) : Int) = 5 from rfl]
  clear hp hx hc2 hr g1 t1 hl1 hl2
  have RX : ROp w1 ⟨2, 3, 0, 200, ⟨none, 0, 0⟩, false⟩ opX := ⟨rfl, rfl, rfl, rfl, rfl, ⟨⟨rfl, Nat.le_refl _, Nat.zero_le _, fun _ => rfl⟩, fun j x hj => by simp [opX] at hj⟩⟩
  have HRX := Lib.hid RX
  clear RX
  go_wp2_with fail
  refine (sameop_any ⟨kind, ch, n', v, ⟨ao2, len2, cap2⟩, els⟩ ⟨2, 3, 0, 200, ⟨none, 0, 0⟩, false⟩ opX opX true _ HR.out HRX.out (by decide) (by decide) (sameO_refl _)).mono ?_
  rintro e w2 ⟨rfl, t2⟩
  have T2 := Lib.hid t2
  clear t2
  go_wp2_with fail
  go_ret
  exact ⟨rfl, (T0.out.trans T1.out).trans T2.out⟩

end Go.Proofs.Ytaighbofekefkaa
