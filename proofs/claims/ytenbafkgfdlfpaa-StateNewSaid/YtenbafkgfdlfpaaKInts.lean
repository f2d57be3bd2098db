/- The document's ints and sameG, of what is the same; its fresh. -/
import Derived.Test.YtenbafkgfdlfpaaKDSame
import Derived.Test.YtenbafkgfdlfpaaKCopy
namespace Go.Proofs.Ytenbafkgfdlfpaa
open Go.RowKit
set_option linter.unusedVariables false

theorem ints_same {L : List Int} {s t : Sl} {n : Nat} (w : World) (hs : Ints .i64 w s.ao L) (ht : Ints .i64 w t.ao L) (hn : L.length = n) (hm : n ≤ 1000000) :
    Calls Try.prog 15 #[.slice s.ao n s.cap, .slice t.ao n t.cap] w fun e w' => e = .returned (.bool true) ∧ Turn (fun _ => False) w w' := by
  obtain ⟨ao, l0, c⟩ := s
  obtain ⟨bo, l1, d⟩ := t
  have HS := Lib.hid hs
  have HT := Lib.hid ht
  have HN := Lib.hid hn
  clear hs ht hn
  dsimp only at HS HT ⊢
  go_enter Try.func15, Try.ntmps15
  go_upto_region 4 with fail
  go_loopw [13] (fun s13 wr => ∃ i : Nat, i ≤ n ∧ s13 = .int .i64 i ∧ Hid (Turn (fun _ => False) w wr)) (fun s13 _ => n - (intOf s13).toNat)
  case atStart => exact ⟨0, Nat.zero_le _, rfl, Lib.hid (Turn.refl _ _)⟩
  case round =>
    obtain ⟨i, hi, rfl, HU⟩ := hrel
    by_cases hlt : i < n
    · obtain ⟨a, rfl, ha⟩ := (HS.out.turn HU.out (fun _ _ => id)) i (by rw [HN.out]; exact hlt)
      obtain ⟨b, rfl, hb⟩ := (HT.out.turn HU.out (fun _ _ => id)) i (by rw [HN.out]; exact hlt)
      obtain ⟨x, hx⟩ : ∃ x, L.getD i 0 = x := ⟨_, rfl⟩
      rw [hx] at ha hb
      clear hx
      go_wp2_with fail
      go_quiet (fail)
      go_wp2_with fail
      go_roundw
      case rel => exact ⟨i + 1, by omega, by go_num, Lib.hid (HU.out.drewN _)⟩
      case measure => simp [intOf]; omega
    · obtain rfl : i = n := by omega
      go_wp2_with fail
      go_ret
      exact ⟨rfl, HU.out⟩

set_option maxRecDepth 100000 in
set_option maxHeartbeats 4000000 in
theorem fresh_any {s : Sl} {l : List Opr} {a : Int} (w : World) : Calls Try.prog 14 #[.slice s.ao s.len s.cap, .int .i64 a] w fun e w' => e = .returned (.agg (GV.cs ⟨freshG l a, s, zSl, zSl, zSl, zSl⟩).toArray) ∧ Turn (fun _ => False) w w' := by
  go_enter Try.func14, Try.ntmps14
  go_upto_region 1 with fail
  refine at_world (φ := fun w' => Hid (Boxes w w' [(w.heap.size, 50, zG.cs)])) (Lib.hid (boxes1 w 50 zG.cs)) ?_
  intro w1 B
  generalize w.heap.size = b0 at B ⊢
  go_wp2_with (refine wpList_store_box rfl rfl B.out 0 rfl rfl (GV.cs ⟨freshG l a, s, zSl, zSl, zSl, zSl⟩) rfl rfl t_g (gv_ok.one _) ?_; intro w4 B4 T4)
  refine bodyPost_ret (ret_box Try.results14 B4.out 0 rfl rfl t_g) rfl ⟨rfl, B4.out.t⟩

end Go.Proofs.Ytenbafkgfdlfpaa
