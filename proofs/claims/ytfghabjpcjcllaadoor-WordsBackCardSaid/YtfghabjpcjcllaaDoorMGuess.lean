/- Texts put together: CLib, CGuessN. -/
import Derived.Test.YtfghabjpcjcllaaDoorMNum
import Derived.Test.YtfghabjpcjcllaaDoorMGMath
import Derived.Lib.AtoiErrMem
import Derived.Lib.SplitLaws
import Derived.Shelf.Strconv.ParseIntPublic10
/- The library's functions on texts, over texts as lists. -/
namespace Go.Proofs.YtfghabjpcjcllaaDoor
open Go.RowKit

theorem bs_of {s : ByteArray} : s = bs s.data.toList := by
  apply ByteArray.ext
  simp [bs]
theorem bs_lit {t : Tx} {P : ByteArray} (h : bs t = P) : P.data.toList = t := by rw [← h, bs_data]

theorem trim_any (t p : Tx) (P : ByteArray) (hp : bs p = P) (w : World) : Calls Tryd.prog 89 #[.string (bs t), .string P] w fun e w' => e = .returned (.string (bs (Lib.trimPrefix t p))) ∧ w' = w :=
  (Tryd.strings_TrimPrefix (bs t) P w).mono fun e w' h => by rw [bs_data, bs_lit hp] at h; exact h
theorem prefix_any (t p : Tx) (P : ByteArray) (hp : bs p = P) (w : World) : Calls Tryd.prog 79 #[.string (bs t), .string P] w fun e w' => e = .returned (.tuple #[.string (bs (Lib.trimPrefix t p)), .bool (Lib.hasPrefix t p)]) ∧ w' = w :=
  (Tryd.strings_CutPrefix (bs t) P w).mono fun e w' h => by rw [bs_data, bs_lit hp] at h; exact h
theorem cut_any (t p : Tx) (P : ByteArray) (hp : bs p = P) (w : World) (hl : t.length ≤ 100000) (hG : Gl w) :
    Calls Tryd.prog 49 #[.string (bs t), .string P] w fun e w' => e = .returned (.tuple #[.string (bs (Lib.cut t p).1), .string (bs (Lib.cut t p).2.1), .bool (Lib.cut t p).2.2]) ∧ Turn (fun _ => False) w w' := by
  obtain ⟨m, hm⟩ := hG.most
  refine (Tryd.strings_Cut (bs t) P m w (by rw [bs_size]; omega) hm).mono fun e w' h => ?_
  rw [bs_data, bs_lit hp] at h
  obtain ⟨h1, k, h2⟩ := h
  exact ⟨h1, h2 ▸ (Turn.refl _ w).drewN k⟩
def pvOf (r : Lib.NumEnd Int) (t : Tx) : Int := match r with | .ok v => v | .range => Lib.intSat 64 t | _ => 0
theorem parse_any (t : Tx) (w : World) (hl : t.length ≤ 100000) (hG : Gl w) :
    Calls Tryd.prog 90 #[.string (bs t), .int .i64 10, .int .i64 64] w fun e w' => (∃ ev, e = .returned (.tuple #[.int .i64 (pv t), ev])) ∧ Turn (fun _ => False) w w' := by
  obtain ⟨r, hr⟩ : ∃ r, Lib.parseIntB 64 (bs t).data.toList = r := ⟨_, rfl⟩
  have hpv : pv t = pvOf r t := by
    rw [bs_data] at hr
    rw [← hr]
    rfl
  rw [hpv]
  obtain ⟨e1, h1, k1⟩ := hG.syn
  obtain ⟨e2, h2, k2⟩ := hG.rng
  cases r
  · rename_i v
    refine (Tryd.strconv_ParseInt_10_at64_ok (bs t) (by rw [bs_size]; omega) v hr w).mono fun e w' h => ⟨⟨_, h.1⟩, ?_⟩
    rcases h.2 with rfl | ⟨s, rfl⟩
    · exact Turn.refl _ _
    · exact turn_of_below (Lib.bytesWorld_below w _ s)
  · exact (Any.strconv_ParseInt_10_at64_syntax Tryd.laysC174 (bs t) (by rw [bs_size]; omega) hr e1 w h1 k1).mono fun e w' ⟨N, h, _, _, hb⟩ => ⟨⟨_, h⟩, turn_of_below hb⟩
  · refine (Tryd.strconv_ParseInt_10_at64_range (bs t) (by rw [bs_size]; omega) hr e2 w h2 k2).mono fun e w' ⟨N, h, _, _, hb⟩ => ?_
    rw [bs_data] at h
    exact ⟨⟨_, h⟩, turn_of_below hb⟩

/-- The pieces, in new memory. -/
theorem split_any (t : Tx) (w : World) (hl : t.length ≤ 100000) (hG : Gl w) :
    Calls Tryd.prog 67 #[.string (bs t), .string ⟨#[32, 124, 32]⟩] w fun e w' => ∃ s : Sl, e = .returned (.slice s.ao s.len s.cap) ∧ RTs w' s (partsT t) ∧ Turn (fun _ => False) w w' ∧ s.len = (partsT t).length ∧ 1 ≤ s.len ∧ s.len ≤ t.length + 1 := by
  obtain ⟨m, hm⟩ := hG.most
  refine (Tryd.strings_Split (bs t) ⟨#[32, 124, 32]⟩ m w (by rw [bs_size]; omega) hm (by decide)).mono fun e w' h => ?_
  obtain ⟨h1, h2⟩ := h
  have hd := Lib.splitB_data ⟨#[32, 124, 32]⟩ 0 (Lib.countB (bs t) ⟨#[32, 124, 32]⟩) (bs t)
  have hp : (Lib.splitB ⟨#[32, 124, 32]⟩ 0 (Lib.countB (bs t) ⟨#[32, 124, 32]⟩) (bs t)).map (·.data.toList) = partsT t := by
    rw [hd, bs_data]
    unfold partsT Lib.countB
    rw [bs_data]
    rfl
  have hlen : (partsT t).length = Lib.countB (bs t) ⟨#[32, 124, 32]⟩ + 1 := by
    rw [← hp, List.length_map]
    exact Lib.splitB_all _ (by decide) 0 _ _ rfl
  have hle : Lib.countB (bs t) ⟨#[32, 124, 32]⟩ ≤ t.length := by
    have := Lib.countB_le ⟨#[32, 124, 32]⟩ (by decide) (bs t).size (bs t) (Nat.le_refl _)
    rwa [bs_size] at this
  refine ⟨⟨some ⟨w.heap.size, 0, none⟩, _, _⟩, h1, ⟨⟨hlen.symm, Nat.le_refl _, ?_, fun e => by cases e⟩, ?_⟩, h2 ▸ (Turn.refl _ w).alloc _, hlen.symm, by simp, by simpa using hle⟩
  · show Lib.countB (bs t) ⟨#[32, 124, 32]⟩ + 1 ≤ maxLen
    unfold maxLen
    omega
  · intro j x hx
    refine ⟨_, rfl, fun i u hu => ?_⟩
    have hu' : i = 0 ∧ u = .string (bs x) := by
      unfold encT at hu
      match i with
      | 0 => exact ⟨rfl, by simpa using hu.symm⟩
      | i + 1 => simp at hu
    obtain ⟨rfl, rfl⟩ := hu'
    rw [← hp, List.getElem?_map] at hx
    obtain ⟨y, hy, hxy⟩ := Option.map_eq_some_iff.1 hx
    have hc : (((Lib.splitB ⟨#[32, 124, 32]⟩ 0 (Lib.countB (bs t) ⟨#[32, 124, 32]⟩) (bs t)).map Value.string).toArray)[j]? = some (.string (bs x)) := by
      rw [List.getElem?_toArray, List.getElem?_map, hy, ← hxy, ← bs_of]
      rfl
    rw [h2, add_two, Nat.mul_one, Nat.add_zero]
    have hb := heap_alloc_new w (.cells ((Lib.splitB ⟨#[32, 124, 32]⟩ 0 (Lib.countB (bs t) ⟨#[32, 124, 32]⟩) (bs t)).map Value.string).toArray 9)
    have : (⟨w.heap.size, 0, none⟩ : Addr).add j = ⟨w.heap.size, j, none⟩ := by
      unfold Addr.add
      by_cases h0 : j = 0
      · subst h0; rfl
      · simp [h0]
    rw [this]
    unfold World.cell?
    rw [hb]
    exact hc
end Go.Proofs.YtfghabjpcjcllaaDoor
/- The code's guess of two numbers. -/
namespace Go.Proofs.YtfghabjpcjcllaaDoor
open Go.RowKit
set_option linter.unusedVariables false

theorem trim_len (t p : Tx) : (Lib.trimPrefix t p).length ≤ t.length := by
  unfold Lib.trimPrefix
  split
  · rw [List.length_drop]; omega
  · exact Nat.le_refl _
theorem cut1_len (t p : Tx) : (Lib.cut t p).1.length ≤ t.length := by
  unfold Lib.cut
  split
  · rw [List.length_take]; omega
  · exact Nat.le_refl _
theorem cut2_len (t p : Tx) : (Lib.cut t p).2.1.length ≤ t.length := by
  unfold Lib.cut
  split
  · rw [List.length_drop]; omega
  · simp

set_option maxRecDepth 100000 in
set_option maxHeartbeats 1000000 in
theorem guessn_any (t : Tx) (w : World) (hl : t.length ≤ 100000) (hG : Gl w) :
    Calls Tryd.prog 80 #[.string (bs t)] w fun e w' => e = .returned (.tuple #[.int .i64 (gNums t).1, .int .i64 (gNums t).2]) ∧ Turn (fun _ => False) w w' := by
  have l1 := trim_len t [32]
  have l2 := cut1_len (Lib.trimPrefix t [32]) [32]
  have l3 := cut2_len (Lib.trimPrefix t [32]) [32]
  unfold gNums
  have C1 := Lib.hid (fun w => trim_any t [32] ⟨#[32]⟩ rfl w)
  have C2 := Lib.hid (fun w hG => cut_any (Lib.trimPrefix t [32]) [32] ⟨#[32]⟩ rfl w (by omega) hG)
  have C3 := Lib.hid (fun w hG => parse_any (Lib.cut (Lib.trimPrefix t [32]) [32]).1 w (by omega) hG)
  have C4 := Lib.hid (fun w hG => parse_any (Lib.cut (Lib.trimPrefix t [32]) [32]).2.1 w (by omega) hG)
  obtain ⟨T, hT⟩ : ∃ S, bs t = S := ⟨_, rfl⟩
  obtain ⟨U, hU⟩ : ∃ S, bs (Lib.trimPrefix t [32]) = S := ⟨_, rfl⟩
  obtain ⟨V1, hV1⟩ : ∃ S, bs (Lib.cut (Lib.trimPrefix t [32]) [32]).1 = S := ⟨_, rfl⟩
  obtain ⟨V2, hV2⟩ : ∃ S, bs (Lib.cut (Lib.trimPrefix t [32]) [32]).2.1 = S := ⟨_, rfl⟩
  obtain ⟨b, hb⟩ : ∃ b, (Lib.cut (Lib.trimPrefix t [32]) [32]).2.2 = b := ⟨_, rfl⟩
  obtain ⟨n1, hn1⟩ : ∃ n, pv (Lib.cut (Lib.trimPrefix t [32]) [32]).1 = n := ⟨_, rfl⟩
  obtain ⟨n2, hn2⟩ : ∃ n, pv (Lib.cut (Lib.trimPrefix t [32]) [32]).2.1 = n := ⟨_, rfl⟩
  rw [hU, hT] at C1
  rw [hU, hV1, hV2, hb] at C2
  rw [hV1, hn1] at C3
  rw [hV2, hn2] at C4
  rw [hT, hn1, hn2]
  have G := Lib.hid hG
  clear hT hU hV1 hV2 hb hn1 hn2 hl l1 l2 l3 hG
  go_enter Tryd.func80, Tryd.ntmps80
  go_wp2_with fail
  refine (C1.out _).mono ?_
  rintro e w1 ⟨rfl, rfl⟩
  go_wp2_with fail
  refine (C2.out _ G.out).mono ?_
  rintro e w2 ⟨rfl, t2⟩
  have T2 := Lib.hid t2
  have G2 := Lib.hid (G.out.new t2)
  clear t2
  go_wp2_with fail
  refine (C3.out _ G2.out).mono ?_
  rintro e w3 ⟨⟨e3, rfl⟩, t3⟩
  have T3 := Lib.hid (T2.out.trans t3)
  have G3 := Lib.hid (G2.out.new t3)
  clear t3
  go_wp2_with fail
  refine (C4.out _ G3.out).mono ?_
  rintro e w4 ⟨⟨e4, rfl⟩, t4⟩
  have T4 := Lib.hid (T3.out.trans t4)
  clear t4
  go_wp2_with fail
  go_ret2
  exact ⟨rfl, T4.out⟩
end Go.Proofs.YtfghabjpcjcllaaDoor
