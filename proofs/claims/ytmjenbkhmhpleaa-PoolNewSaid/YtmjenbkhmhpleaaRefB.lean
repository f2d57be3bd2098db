/- The document's with. -/
import Derived.Test.YtmjenbkhmhpleaaRefA
namespace Go.Proofs.Ytmjenbkhmhpleaa
open Go.RowKit
set_option linter.unusedVariables false

section
variable {w w' : World} {b size most n cc nm mc fresh : Nat} {ca ma : Option Addr}
theorem RBox.put2 (h : RBox w b size most ca n cc ma nm mc fresh) (ca' : Option Addr) (n' cc' : Nat) : RBox (w.setCell ⟨b, 2, none⟩ (.slice ca' n' cc')) b size most ca' n' cc' ma nm mc fresh := heap_setCell_at h (o := 2) (.slice ca' n' cc')
theorem RBox.put3 (h : RBox w b size most ca n cc ma nm mc fresh) (ma' : Option Addr) (n' mc' : Nat) : RBox (w.setCell ⟨b, 3, none⟩ (.slice ma' n' mc')) b size most ca n cc ma' n' mc' fresh := heap_setCell_at h (o := 3) (.slice ma' n' mc')
theorem RBox.put4 (h : RBox w b size most ca n cc ma nm mc fresh) (f : Nat) : RBox (w.setCell ⟨b, 4, none⟩ (.int .i64 f)) b size most ca n cc ma nm mc f := heap_setCell_at h (o := 4) (.int .i64 f)
end

theorem RS.vals {w : World} {s : St} {ca ma : Option Addr} {cc mc : Nat} {D : Nat → Prop} (h : RS w s ca cc ma mc D) :
    ∃ V : List Value, V.length = s.n ∧ (∀ j, j < s.n → ∃ a c, V[j]? = some (.slice a (s.M j).length c) ∧ Ints .i64 w a (s.M j) ∧ (∀ x, a = some x → D x.block) ∧ (a = none → c = 0) ∧ (s.M j).length ≤ c) ∧ (∀ ad, ca = some ad → ∀ j u, V[j]? = some u → w.cell? (ad.add j) = some u) ∧ (∀ u ∈ V, u.oneCell' = true) ∧ (ca = none → s.n = 0) := by
  cases ca with
  | none =>
    have h0 : s.n = 0 := by
      rcases Nat.eq_zero_or_pos s.n with e | e
      · exact e
      · obtain ⟨ad, a, c, e2, _⟩ := h.row 0 e
        cases e2
    exact ⟨[], by rw [h0]; rfl, fun j hj => by omega, fun ad e => (by cases e), fun u hu => (by cases hu), fun _ => h0⟩
  | some ad =>
    have at_ : ∀ j, j < s.n → ((List.range s.n).map fun j => (w.cell? (ad.add j)).getD undef)[j]? = some ((w.cell? (ad.add j)).getD undef) := fun j hj => by simp [hj]
    refine ⟨(List.range s.n).map fun j => (w.cell? (ad.add j)).getD undef, by simp, fun j hj => ?_, fun ad' e j u hu => ?_, fun u hu => ?_, fun e => (by cases e)⟩
    · obtain ⟨ad', a, c, e2, h1, h2, h3, h4, h5⟩ := h.row j hj
      cases e2
      exact ⟨a, c, by rw [at_ j hj, h1]; rfl, h2, h3, h4, h5⟩
    · cases e
      obtain ⟨hj, _⟩ := List.getElem?_eq_some_iff.1 hu
      have hj' : j < s.n := by simpa using hj
      rw [at_ j hj'] at hu
      obtain ⟨ad', a, c, e2, h1, _⟩ := h.row j hj'
      cases e2
      rw [h1] at hu ⊢
      exact hu
    · obtain ⟨j, hj, rfl⟩ := List.mem_map.1 hu
      obtain ⟨ad', a, c, e2, h1, _⟩ := h.row j (List.mem_range.1 hj)
      cases e2
      rw [h1]
      rfl
theorem vals_cells {w : World} {base g n c : Nat} {e : TypeId} {xs : List Value} (h : w.ownsRow base e 1 (.slice (some ⟨g, 0, none⟩) n c) n xs) {j : Nat} {u : Value} (hu : xs[j]? = some u) :
    w.cell? ⟨g, j, none⟩ = some u ∧ w.frozen? ⟨g, j, none⟩ = false := by
  have h1 := h.cells (g := g) rfl j u hu
  rw [Addr.add_lit] at h1
  refine ⟨by simpa using h1, ?_⟩
  rcases h.2 with ⟨h2, _⟩ | ⟨g', cap, cur, h2, _, hh, _⟩
  · cases h2
  · cases h2
    simp [World.frozen?, hh]

/-- Blocks of D, and those that are new. -/
def Dn (D : Nat → Prop) (w w' : World) (i : Nat) : Prop := D i ∨ (w.heap.size ≤ i ∧ i < w'.heap.size)
def WithPost (s s' : St) (ma : Option Addr) (mc : Nat) (D : Nat → Prop) (w : World) (e : Ending) (w' : World) : Prop :=
  ∃ cb cc', e = .returned (ragg s'.size s'.most (some ⟨cb, 0, none⟩) s'.n cc' ma (s'.M s'.n).length mc s'.fresh) ∧ RS w' s' (some ⟨cb, 0, none⟩) cc' ma mc (Dn D w w') ∧ Turn (fun _ => False) w w'

set_option maxHeartbeats 2000000 in
theorem with_any {s : St} {ca ma la : Option Addr} {cc mc nl lc g : Nat} {L : List Int} {D : Nat → Prop} (w : World) (h : RS w s ca cc ma mc D) (hn8 : s.n ≤ 8) (hg : g < s.n) (hL : Ints .i64 w la L) (hl : L.length = nl) (hD : ∀ x, la = some x → D x.block) (hln : la = none → lc = 0) (hlc : nl ≤ lc) :
    Calls Try.prog 31 #[ragg s.size s.most ca s.n cc ma (s.M s.n).length mc s.fresh, .int .i64 g, .slice la nl lc] w (WithPost s (withM s g L) ma mc D w) := by
  have H := Lib.hid h
  obtain ⟨V, v1, v2, v3, v4, v5⟩ := h.vals
  have HV1 := Lib.hid v1
  have HV2 := Lib.hid v2
  have HV3 := Lib.hid v3
  have HV4 := Lib.hid v4
  have HV5 := Lib.hid v5
  have HL := Lib.hid (And.intro hL (And.intro hl (And.intro hD (And.intro hln hlc))))
  obtain ⟨nm, hnm⟩ : ∃ nm, (s.M s.n).length = nm := ⟨_, rfl⟩
  rw [hnm]
  have HNM := Lib.hid hnm
  clear h hL hl hD hln hlc v1 v2 v3 v4 v5 hnm
  unfold ragg
  go_enter Try.func31, Try.ntmps31
  have TA := Lib.hid ((((Turn.refl (fun _ => False) w).alloc (.cells #[.int .i64 s.size, .int .i64 s.most, .slice ca s.n cc, .slice ma nm mc, .int .i64 s.fresh] 25)).alloc (.cells #[.int .i64 0, .int .i64 0, .slice none 0 0, .slice none 0 0, .int .i64 0] 25)))
  have BX := Lib.hid (show RBox ((w.alloc (.cells #[.int .i64 s.size, .int .i64 s.most, .slice ca s.n cc, .slice ma nm mc, .int .i64 s.fresh] 25)).alloc (.cells #[.int .i64 0, .int .i64 0, .slice none 0 0, .slice none 0 0, .int .i64 0] 25)) w.heap.size s.size s.most ca s.n cc ma nm mc s.fresh from new2 w _ _)
  have BZ := Lib.hid (show RBox ((w.alloc (.cells #[.int .i64 s.size, .int .i64 s.most, .slice ca s.n cc, .slice ma nm mc, .int .i64 s.fresh] 25)).alloc (.cells #[.int .i64 0, .int .i64 0, .slice none 0 0, .slice none 0 0, .int .i64 0] 25)) (w.heap.size + 1) 0 0 none 0 0 none 0 0 0 from new2' w _ _)
  go_upto_region 1 with fail
  generalize (w.alloc (.cells #[.int .i64 s.size, .int .i64 s.most, .slice ca s.n cc, .slice ma nm mc, .int .i64 s.fresh] 25)).alloc (.cells #[.int .i64 0, .int .i64 0, .slice none 0 0, .slice none 0 0, .int .i64 0] 25) = w1 at TA BX BZ ⊢
  obtain ⟨bx, hbx⟩ : ∃ bx, bx = w.heap.size := ⟨_, rfl⟩
  obtain ⟨rz, hrz⟩ : ∃ rz, rz = w.heap.size + 1 := ⟨_, rfl⟩
  rw [← hrz] at BZ ⊢
  rw [← hbx] at BX ⊢
  have HBZ := Lib.hid (And.intro hbx hrz)
  clear hbx hrz
  have d2 := (BX.out.turn ((Turn.refl (fun _ => False) w1).alloc (.cells #[] 23)) id).d2
  go_upto_region 2 with (at_builtin; refine wpList_append_vals Try.underlying22 info_ints rfl (by decide) rfl (.tmp 8) (.tmp 10) rfl w1.heap.size (.slice (some ⟨w1.heap.size, 0, none⟩) 0 0) [] 0 rfl (own_empty (heap_alloc_new w1 _) (Nat.le_refl _)) ca V s.n cc HV1.out rfl (fun e => ⟨H.out.caN e, HV5.out e⟩) (fun ad e j u hu => (TA.out.alloc (.cells #[] 23)).cell id (HV3.out ad e j u hu)) HV4.out (by omega) (by simp) ?_; intro v3 w3 O3 T3 B3; rw [Nat.zero_add, List.nil_append] at O3)
  obtain ⟨cb, co, rfl, _⟩ := own_form O3.out (by omega)
  have hcb : w1.heap.size ≤ cb := (O3.out.lt cb (by rw [own_block]; rfl)).1
  have hcb2 : cb < w3.heap.size := (O3.out.lt cb (by rw [own_block]; rfl)).2
  have TB := Lib.hid (((Turn.refl (fun _ => False) w1).alloc (.cells #[] 23)).and T3.out (fun i hi e => far_new hi e))
  have HC := Lib.hid (And.intro hcb hcb2)
  obtain ⟨a0, c0, hv0, _⟩ := HV2.out g hg
  obtain ⟨cg, fg⟩ := vals_cells O3.out hv0
  clear T3 B3 d2 hcb hcb2 hv0
  have hgi : (g : Int) < (s.n : Int) := by omega
  go_upto_region 3 with fail
  clear cg fg
  have T4 := Lib.hid (TB.out.setCell (p := ⟨cb, g, none⟩) (Or.inr HC.out.1) (.slice la nl lc))
  have O4 := Lib.hid (show (w3.setCell ⟨cb, g, none⟩ (.slice la nl lc)).ownsRow w1.heap.size 23 1 (.slice (some ⟨cb, 0, none⟩) s.n co) s.n (V.set g (.slice la nl lc)) from (O3.out.stored g (.slice la nl lc)).1)
  generalize w3.setCell ⟨cb, g, none⟩ (.slice la nl lc) = w4 at T4 O4 ⊢
  have BX4 := Lib.hid (BX.out.turn T4.out id)
  have BZ4 := Lib.hid (BZ.out.turn T4.out id)
  clear O3 TB
  have x2 := BX4.out.d2
  have fx2 := BX4.out.fr 2
  go_upto_region 4 with fail
  clear x2 fx2
  have hne : cb ≠ bx := fun e => by have := BX.out.lt; have := HC.out; omega
  have hne2 : rz ≠ bx := by have := HBZ.out; omega
  have BX5 := Lib.hid (BX4.out.put2 (some ⟨cb, 0, none⟩) s.n co)
  have TX := Lib.hid (setCell_turn w4 bx 2 (.slice (some ⟨cb, 0, none⟩) s.n co))
  have O5 := Lib.hid (own_turn O4.out TX.out (fun k hk e => by have hk' : cb = k := by rw [own_block] at hk; exact Option.some.inj hk
                                                               have e' : k = bx := e
                                                               omega))
  have BZ5 := Lib.hid (BZ4.out.turn TX.out hne2)
  have T5 := Lib.hid ((TA.out.trans T4.out).and TX.out (fun i hi e => by have e' : i = bx := e; have := HBZ.out; omega))
  generalize w4.setCell ⟨bx, 2, none⟩ (.slice (some ⟨cb, 0, none⟩) s.n co) = w5 at BX5 O5 BZ5 T5 ⊢
  clear BX4 BZ4 O4 T4 TX
  have d0 := BX5.out.d0
  have d1 := BX5.out.d1
  have d2 := BX5.out.d2
  have d3 := BX5.out.d3
  have d4 := BX5.out.d4
  have z0 := BZ5.out.d0
  have z1 := BZ5.out.d1
  have z2 := BZ5.out.d2
  have z3 := BZ5.out.d3
  have z4 := BZ5.out.d4
  have f0 := BZ5.out.fr 0
  have f1 := BZ5.out.fr 1
  have f2 := BZ5.out.fr 2
  have f3 := BZ5.out.fr 3
  have f4 := BZ5.out.fr 4
  go_wp2_with fail
  clear d0 d1 d2 d3 d4 z0 z1 z2 z3 z4 f0 f1 f2 f3 f4
  have TF := Lib.hid (store5_turn w5 rz (.int .i64 s.size) (.int .i64 s.most) (.slice (some ⟨cb, 0, none⟩) s.n co) (.slice ma nm mc) (.int .i64 s.fresh))
  have BF := Lib.hid (BZ5.out.store (size' := s.size) (most' := s.most) (ca' := some ⟨cb, 0, none⟩) (n' := s.n) (cc' := co) (ma' := ma) (nm' := nm) (mc' := mc) (fresh' := s.fresh))
  generalize ((((w5.setCell ⟨rz, 0, none⟩ (.int .i64 s.size)).setCell ⟨rz, 1, none⟩ (.int .i64 s.most)).setCell ⟨rz, 2, none⟩ (.slice (some ⟨cb, 0, none⟩) s.n co)).setCell ⟨rz, 3, none⟩ (.slice ma nm mc)).setCell ⟨rz, 4, none⟩ (.int .i64 s.fresh) = wf at TF BF ⊢
  have d0 := BF.out.d0
  have d1 := BF.out.d1
  have d2 := BF.out.d2
  have d3 := BF.out.d3
  have d4 := BF.out.d4
  have hs1 := TA.out.size
  have hrz := HBZ.out.2
  have TW : Turn (fun _ => False) w wf := T5.out.and TF.out (fun i hi e => by have e' : i = rz := e; omega)
  have hM : ∀ j, j ≠ g → (withM s g L).M j = s.M j := fun j hj => upd_other _ _ hj
  have hMg : (withM s g L).M g = L := upd_same _ _ _
  have hlow := HC.out
  have hcbr : cb ≠ rz := fun e => by have := BZ.out.lt; omega
  refine bodyPost_ret (v := ragg s.size s.most (some ⟨cb, 0, none⟩) s.n co ma nm mc s.fresh) (by simp [results, Try.results31, go_sem, ragg, d0, d1, d2, d3, d4]) rfl ⟨cb, co, ?_, ⟨fun j hj => ?_, ?_, fun x e => Or.inl (H.out.midD x e), H.out.midN, fun x e => ?_, fun e => (by cases e)⟩, TW⟩
  · have e : ((withM s g L).M (withM s g L).n).length = nm := by
      show ((withM s g L).M s.n).length = nm
      rw [hM s.n (by omega)]; exact HNM.out
    rw [e]
    rfl
  · have hj' : j < s.n := hj
    by_cases e : j = g
    · subst e
      have hv : (V.set j (.slice la nl lc))[j]? = some (.slice la nl lc) := List.getElem?_set_self (by rw [HV1.out]; exact hj')
      have hc := TF.out.cell (p := ⟨cb, j, none⟩) hcbr (vals_cells O5.out hv).1
      refine ⟨_, la, lc, rfl, ?_, ?_, fun x e => Or.inl (HL.out.2.2.1 x e), HL.out.2.2.2.1, ?_⟩
      · rw [hMg, HL.out.2.1, Addr.add_lit, Nat.zero_add]; exact hc
      · rw [hMg]; exact HL.out.1.turn TW (fun _ _ => id)
      · rw [hMg, HL.out.2.1]; exact HL.out.2.2.2.2
    · obtain ⟨a, c, hv0, h1, h2, h3, h4⟩ := HV2.out j hj'
      have hv : (V.set g (.slice la nl lc))[j]? = some (.slice a (s.M j).length c) := by rw [List.getElem?_set_ne (fun e' => e e'.symm)]; exact hv0
      have hc := TF.out.cell (p := ⟨cb, j, none⟩) hcbr (vals_cells O5.out hv).1
      refine ⟨_, a, c, rfl, ?_, ?_, fun x e => Or.inl (h2 x e), h3, ?_⟩
      · rw [hM j e, Addr.add_lit, Nat.zero_add]; exact hc
      · rw [hM j e]; exact h1.turn TW (fun _ _ => id)
      · rw [hM j e]; exact h4
  · show Ints .i64 wf ma ((withM s g L).M s.n)
    rw [hM s.n (by omega)]
    exact H.out.mid.turn TW (fun _ _ => id)
  · cases e
    refine Or.inr ⟨by show w.heap.size ≤ cb; omega, ?_⟩
    have := (O5.out.lt cb (by rw [own_block]; rfl)).2
    exact Nat.lt_of_lt_of_le this TF.out.size

end Go.Proofs.Ytmjenbkhmhpleaa
