/- The code's copiedOp, emptied, and the numbers of a channel's lock and queues. -/
import Derived.Test.YtenbafkgfdlfpaaKCopy
namespace Go.Proofs.Ytenbafkgfdlfpaa
open Go.RowKit
set_option linter.unusedVariables false

/-- An op whose cases lie in memory of its own. -/
def CpO (o : Opr) (w : World) (e : Ending) (w' : World) : Prop :=
  ∃ r : OpV, e = .returned (.agg (encOV r).toArray) ∧ ROp w' r o ∧ (∀ ad, r.cs.ao = some ad → w.heap.size ≤ ad.block ∧ ad.block < w'.heap.size) ∧ Turn (fun _ => False) w w'

set_option maxRecDepth 100000 in
set_option maxHeartbeats 4000000 in
theorem copiedop_any {r : OpV} {o : Opr} (w : World) (hr : ROp w r o) (hm : o.cases.length ≤ 1000000) : Calls Try.prog 44 #[.agg (encOV r).toArray] w (CpO o w) := by
  have HR := Lib.hid hr
  obtain ⟨n, hn⟩ : ∃ n, o.cases.length = n := ⟨_, rfl⟩
  have hlen : r.cs.len = n := hr.cs.ok.len.trans hn
  rw [hn] at hm
  have HN := Lib.hid hn
  have HL := Lib.hid hlen
  clear hr hn hlen
  go_enter Try.func44, Try.ntmps44
  go_upto_region 1 with fail
  refine at_world (φ := fun w' => Hid (Boxes w w' [(w.heap.size, 88, encOV r), (w.heap.size + 1, 88, encOV zO)])) (Lib.hid (boxes2 w 88 (encOV r) 88 (encOV zO))) ?_
  intro w1 B
  generalize w.heap.size = b0 at B ⊢
  generalize b0 + 1 = b1 at B ⊢
  have F0 := B.out.f 0 rfl
  go_wp2_with fail
  have HLEN := HL.out
  rw [HLEN]
  refine (cpcase_any w1 HN.out hm HR.out.cs.ok.nil (HR.out.cs.has.new B.out.t)).mono ?_
  rintro e w2 ⟨s, rfl, hs, o2, t2⟩
  have B2 := Lib.hid (B.out.new t2)
  have O2 := Lib.hid o2
  have T2 := Lib.hid t2
  have HS := Lib.hid hs
  clear F0 hs o2 t2
  have F0 := B2.out.f 0 rfl
  have R0 := B2.out.r 0 rfl
  go_upto_region 2 with fail
  obtain ⟨y, hy⟩ : ∃ y : OpV, y = { r with cs := ⟨s.ao, n, s.cap⟩ } := ⟨_, rfl⟩
  have HY := Lib.hid hy
  have B3 : Hid (Boxes w (w2.setCell ⟨b0, 4, none⟩ (.slice s.ao n s.cap)) [(b0, 88, encOV y), (b1, 88, encOV zO)]) := Lib.hid (by rw [hy]; exact B2.out.put 0 rfl 4 (.slice s.ao n s.cap))
  have T3 := Lib.hid (set_turn w2 b0 4 (.slice s.ao n s.cap))
  have LO := Lib.hid (show b0 < w1.heap.size ∧ b1 < w1.heap.size from ⟨(B.out.at 0 rfl).lt, (B.out.at 1 rfl).lt⟩)
  clear F0 R0 hy
  generalize w2.setCell ⟨b0, 4, none⟩ (.slice s.ao n s.cap) = w3 at B3 T3 ⊢
  go_wp2_with (first | refine wpList_load_box rfl rfl B3.out 0 rfl rfl t_op ?_ | (refine wpList_store_box rfl rfl B3.out 1 rfl rfl (encOV y) rfl rfl t_op (encOV_ok.one _) ?_; intro w4 B4 T4))
  refine bodyPost_ret (ret_box Try.results44 B4.out 1 rfl rfl t_op) rfl ⟨y, rfl, ?_, ?_, B4.out.t⟩
  · have o3 := own_turn O2.out T3.out (fun k hk e => by have := (O2.out.lt k hk).1; have := LO.out; omega)
    have o4 := own_turn o3 T4.out (fun k hk e => by have := (O2.out.lt k hk).1; have := LO.out; omega)
    obtain ⟨ao', c', e1, h1, h2, h3, _⟩ := own_slice o4
    have hs' := HS.out
    obtain ⟨ao, len, cap⟩ := s
    cases e1
    rw [HY.out]
    exact ⟨HR.out.kind, HR.out.ch, HR.out.n, HR.out.v, HR.out.els, ⟨⟨HN.out.symm, h1, h2, h3⟩, Has.of_own encCV_ok (by decide) o4⟩⟩
  · intro ad had
    rw [HY.out] at had
    have hk : s.val.ownBlock = some ad.block := by
      obtain ⟨ao', c', e1, _, _, _, h5⟩ := own_slice O2.out
      obtain ⟨ao, len, cap⟩ := s
      cases e1
      obtain ⟨g, rfl, _⟩ := h5 ad had
      have had' : ao = some ⟨g, 0, none⟩ := had
      subst had'
      rfl
    have := O2.out.lt _ hk
    have := B.out.t.size
    have := T3.out.size
    have := T4.out.size
    omega

theorem lockof_any (ch : Int) (w : World) (h : -1000000 ≤ ch ∧ ch ≤ 1000000) : Calls Try.prog 52 #[.int .i64 ch] w fun e w' => e = .returned (.int .i64 (ch - 1)) ∧ w = w' := by
  have h1 : IntKind.i64.wrap (ch - 1) = ch - 1 := IntWalk.i64_in _ (by omega)
  go_enter Try.func52, Try.ntmps52
  go_wp2
  go_ret
  exact ⟨rfl, rfl⟩

set_option maxRecDepth 100000 in
set_option maxHeartbeats 4000000 in
/-- A goroutine with nothing in hand: the same ops. -/
theorem emptied_any {x : GV} (w : World) : Calls Try.prog 10 #[.agg x.cs.toArray] w fun e w' => e = .returned (.agg (GV.cs ⟨clearG x.g, x.so, zSl, zSl, zSl, zSl⟩).toArray) ∧ Turn (fun _ => False) w w' := by
  go_enter Try.func10, Try.ntmps10
  go_upto_region 1 with fail
  refine at_world (φ := fun w' => Hid (Boxes w w' [(w.heap.size, 50, x.cs), (w.heap.size + 1, 50, zG.cs)])) (Lib.hid (boxes2 w 50 x.cs 50 zG.cs)) ?_
  intro w1 B
  generalize w.heap.size = b0 at B ⊢
  generalize b0 + 1 = b1 at B ⊢
  have F0 := B.out.f 0 rfl
  obtain ⟨y, hy⟩ : ∃ y : GV, y = ⟨clearG x.g, x.so, zSl, zSl, zSl, zSl⟩ := ⟨_, rfl⟩
  have HY := Lib.hid hy
  go_wp2_with (refine wpList_store_box rfl rfl B.out 1 rfl rfl (GV.cs ⟨clearG x.g, x.so, zSl, zSl, zSl, zSl⟩) rfl rfl t_g (gv_ok.one _) ?_; intro w4 B4 T4)
  refine bodyPost_ret (ret_box Try.results10 B4.out 1 rfl rfl t_g) rfl ⟨rfl, B4.out.t⟩

end Go.Proofs.Ytenbafkgfdlfpaa
