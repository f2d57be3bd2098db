/- The code's words of a case. -/
import Derived.Test.YtfghabjpcjcllaaDoorCPlain
namespace Go.Proofs.YtfghabjpcjcllaaDoor
open Go.RowKit
set_option linter.unusedVariables false

def caseP (c : Cas) : Tx := if c.send then plainT ⟨2, c.ch, 0, c.v, [], false⟩ else plainT ⟨3, c.ch, 0, c.v, [], false⟩
theorem caseT_is (c : Cas) : caseT c = [32, 124, 32] ++ caseP c := by
  obtain ⟨s, ch, v⟩ := c
  cases s <;> simp [caseT, caseP, plainT, headT, headW, chT, vT, joinT, wSend, wRecv, hasV]

set_option maxRecDepth 100000 in
set_option maxHeartbeats 1000000 in
theorem case_any (c : Cas) (w : World) (hc : In8 c.ch) (hv : In8 c.v) (hG : Gl0 w) : Calls Tryd.prog 23 #[c.val] w (GivesS w (caseP c)) := by
  obtain ⟨s, ch, v⟩ := c
  dsimp only at hc hv
  have h0 : In8 0 := by unfold In8; omega
  have A : Hid (Three (w.alloc (.cells #[.bool s, .int .i64 ch, .int .i64 v] 40)) w.heap.size s ch v) := Lib.hid (blk_new w _ 40)
  have T0 := Lib.hid ((Turn.refl (fun _ => False) w).alloc (.cells #[.bool s, .int .i64 ch, .int .i64 v] 40))
  have G0 := Lib.hid hG
  have C := Lib.hid (fun (kind : Int) (hk : kind = 2 ∨ kind = 3) (w : World) (hG : Gl0 w) => plain_any kind ch 0 v [] false false (.slice none 0 0) w (by omega) h0 hc hv hG)
  have c0 : (w.alloc (.cells #[.bool s, .int .i64 ch, .int .i64 v] 40)).cell? ⟨w.heap.size, 0, none⟩ = some (.bool s) := A.out.cells.1.1
  have c1 : (w.alloc (.cells #[.bool s, .int .i64 ch, .int .i64 v] 40)).cell? ⟨w.heap.size, 1, none⟩ = some (.int .i64 ch) := A.out.cells.1.2.1
  have c2 : (w.alloc (.cells #[.bool s, .int .i64 ch, .int .i64 v] 40)).cell? ⟨w.heap.size, 2, none⟩ = some (.int .i64 v) := A.out.cells.1.2.2
  unfold Cas.val GivesS caseP
  dsimp only
  clear hc hv h0 hG
  go_enter Tryd.func23, Tryd.ntmps23
  go_upto_region 2 with fail
  generalize hw1 : w.alloc (.cells #[.bool s, .int .i64 ch, .int .i64 v] 40) = w1 at *
  have Z : Hid (Six (w1.alloc (.cells #[.int .i64 3, .int .i64 ch, .int .i64 0, .int .i64 v, .slice none 0 0, .bool false] 25)) w1.heap.size 3 ch 0 v (.slice none 0 0) false) := Lib.hid (blk_new w1 _ 25)
  have T1 := Lib.hid (T0.out.alloc (.cells #[.int .i64 3, .int .i64 ch, .int .i64 0, .int .i64 v, .slice none 0 0, .bool false] 25))
  have A1 := Lib.hid (A.out.new ((Turn.refl (fun _ => False) w1).alloc (.cells #[.int .i64 3, .int .i64 ch, .int .i64 0, .int .i64 v, .slice none 0 0, .bool false] 25)))
  have hsz : w.heap.size + 1 = w1.heap.size := by rw [← hw1]; simp
  rw [hsz]
  have hsz' : w.heap.size ≤ w1.heap.size := by omega
  obtain ⟨b1, hb1⟩ : ∃ b, w1.heap.size = b := ⟨_, rfl⟩
  rw [hb1] at Z hsz' ⊢
  have SZ := Lib.hid hsz'
  obtain ⟨b0, hb0⟩ : ∃ b, w.heap.size = b := ⟨_, rfl⟩
  rw [hb0] at A1 ⊢
  generalize w1.alloc (.cells #[.int .i64 3, .int .i64 ch, .int .i64 0, .int .i64 v, .slice none 0 0, .bool false] 25) = w2 at Z T1 A1 ⊢
  clear hw1 hsz hsz' hb1 hb0 c0 c1 c2
  obtain ⟨⟨c0, _, _⟩, _⟩ := A1.out.cells
  obtain ⟨⟨d0, d1, d2, d3, d4, d5⟩, f0, _⟩ := Z.out.cells
  cases s
  · go_wp2_with fail
    refine (C.out 3 (Or.inr rfl) _ (G0.out.new T1.out)).mono ?_
    rintro e w3 ⟨rfl, t3⟩
    have T3 := Lib.hid (T1.out.trans t3)
    clear t3
    go_wp2_with fail
    go_ret
    exact ⟨rfl, T3.out⟩
  · go_upto_region 4 with fail
    have Z3 : Hid (Six (w2.setCell ⟨b1, 0, none⟩ (.int .i64 2)) b1 2 ch 0 v (.slice none 0 0) false) := Lib.hid (Blk.set Z.out 0 _)
    have T2 := Lib.hid (T1.out.setCell (p := ⟨b1, 0, none⟩) (Or.inr SZ.out) (.int .i64 2))
    generalize w2.setCell ⟨b1, 0, none⟩ (.int .i64 2) = w3 at Z3 T2 ⊢
    clear d0 d1 d2 d3 d4 d5 f0 c0
    obtain ⟨⟨d0, d1, d2, d3, d4, d5⟩, _⟩ := Z3.out.cells
    go_wp2_with fail
    refine (C.out 2 (Or.inl rfl) _ (G0.out.new T2.out)).mono ?_
    rintro e w4 ⟨rfl, t4⟩
    have T4 := Lib.hid (T2.out.trans t4)
    clear t4
    go_wp2_with fail
    go_ret
    exact ⟨rfl, T4.out⟩
end Go.Proofs.YtfghabjpcjcllaaDoor
