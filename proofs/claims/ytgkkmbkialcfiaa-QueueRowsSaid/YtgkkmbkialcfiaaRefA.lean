/- The document's queues in memory; its In, First, Without, with. -/
import Derived.Test.YtgkkmbkialcfiaaNewL
namespace Go.Proofs.Ytgkkmbkialcfiaa
open Go.RowKit
set_option linter.unusedVariables false

/-- The document's queues: where their rows lie; all of it in blocks of D. -/
structure RS (w : World) (s : St) (ca : Option Addr) (cc : Nat) (D : Nat → Prop) : Prop where
  row : ∀ j, j < s.m → ∃ ad a c, ca = some ad ∧ w.cell? (ad.add j) = some (.slice a (s.M j).length c) ∧ Ints .i64 w a (s.M j) ∧ (∀ x, a = some x → D x.block) ∧ (a = none → c = 0) ∧ (s.M j).length ≤ c
  caD : ∀ x, ca = some x → D x.block
  caN : ca = none → cc = 0
section
variable {w w' : World} {s : St} {ca : Option Addr} {cc : Nat} {D D' S : Nat → Prop}
theorem RS.turn (h : RS w s ca cc D) (t : Turn S w w') (hs : ∀ i, D i → ¬ S i) : RS w' s ca cc D := by
  refine ⟨fun j hj => ?_, h.caD, h.caN⟩
  obtain ⟨ad, a, c, e, h1, h2, h3, h4, h5⟩ := h.row j hj
  exact ⟨ad, a, c, e, t.cell (by rw [block_add]; exact hs _ (h.caD ad e)) h1, h2.turn t (fun x e => hs _ (h3 x e)), h3, h4, h5⟩
theorem RS.new (h : RS w s ca cc D) (t : Turn (fun _ => False) w w') : RS w' s ca cc D := h.turn t (fun _ _ => id)
theorem RS.mono (h : RS w s ca cc D) (hd : ∀ i, D i → D' i) : RS w s ca cc D' := by
  refine ⟨fun j hj => ?_, fun x e => hd _ (h.caD x e), h.caN⟩
  obtain ⟨ad, a, c, e, h1, h2, h3, h4, h5⟩ := h.row j hj
  exact ⟨ad, a, c, e, h1, h2, fun x e => hd _ (h3 x e), h4, h5⟩
end
/-- A block that is the document's struct. -/
def RBox (w : World) (b n : Nat) (ca : Option Addr) (m cc : Nat) : Prop := w.heap[b]? = some (.cells #[.int .i64 n, .slice ca m cc] 34 (0, 0))
section
variable {w w' : World} {b n m cc n' m' cc' : Nat} {ca ca' : Option Addr} {S : Nat → Prop}
theorem RBox.d0 (h : RBox w b n ca m cc) : w.cell? ⟨b, 0, none⟩ = some (.int .i64 n) := by unfold RBox at h; simp [World.cell?, h]
theorem RBox.d1 (h : RBox w b n ca m cc) : w.cell? ⟨b, 1, none⟩ = some (.slice ca m cc) := by unfold RBox at h; simp [World.cell?, h]
theorem RBox.fr (h : RBox w b n ca m cc) (i : Nat) : w.frozen? ⟨b, i, none⟩ = false := by unfold RBox at h; simp [World.frozen?, h]
theorem RBox.turn (h : RBox w b n ca m cc) (t : Turn S w w') (hb : ¬ S b) : RBox w' b n ca m cc := t.heap hb h
theorem RBox.lt (h : RBox w b n ca m cc) : b < w.heap.size := (Array.getElem?_eq_some_iff.1 h).1
theorem RBox.store (h : RBox w b n ca m cc) : RBox ((w.setCell ⟨b, 0, none⟩ (.int .i64 n')).setCell ⟨b, 1, none⟩ (.slice ca' m' cc')) b n' ca' m' cc' := by
  unfold RBox at h ⊢
  rw [heap_setCell_at (heap_setCell_at h _)]
  rfl
end
theorem setCell_turn (w : World) (b o : Nat) (v : Value) : Turn (fun i => i = b) w (w.setCell ⟨b, o, none⟩ v) := (Turn.refl (fun i => i = b) w).setCell (p := ⟨b, o, none⟩) (Or.inl rfl) v
theorem store2_turn (w : World) (b : Nat) (v0 v1 : Value) : Turn (fun i => i = b) w ((w.setCell ⟨b, 0, none⟩ v0).setCell ⟨b, 1, none⟩ v1) :=
  (setCell_turn w b 0 v0).setCell (p := ⟨b, 1, none⟩) (Or.inl rfl) v1

theorem in_at {s : St} (h : Fine s) {k : Nat} {x : Int} (hk : k < s.m) (hx : x ∈ s.M k) : inB s x = true ∧ inV s x = (k : Int) := by
  rcases in_cases s x with ⟨_, _, _, e⟩ | ⟨j, hj, h1, _, e1, e2, _⟩
  · exact absurd hx (e k hk)
  · rw [h.one k j hk hj x hx h1]; exact ⟨e1, e2⟩
theorem in_not {s : St} {x : Int} (h : ∀ k, k < s.m → x ∉ s.M k) : inB s x = false ∧ inV s x = 0 := by
  rcases in_cases s x with ⟨e1, e2, _⟩ | ⟨j, hj, h1, _⟩
  · exact ⟨e1, e2⟩
  · exact absurd h1 (h j hj)
theorem take_not {L : List Int} {i : Nat} {x : Int} (hi : i < L.length) (h : x ∉ L.take i) (hx : x ≠ L.getD i 0) : x ∉ L.take (i + 1) := by
  rw [← take_snoc hi]
  intro e
  rcases List.mem_append.1 e with e | e
  · exact h e
  · exact hx (List.mem_singleton.1 e)

set_option maxHeartbeats 1000000 in
theorem rin_any {s : St} {ca : Option Addr} {cc : Nat} {D : Nat → Prop} {x v : Int} {b : Bool} (w : World) (h : RS w s ca cc D) (hF : Fine s) (hv : inV s x = v) (hb : inB s x = b) :
    Calls Try.prog 20 #[.agg #[.int .i64 s.n, .slice ca s.m cc], .int .i64 x] w fun e w' => e = .returned (.tuple #[.int .i64 v, .bool b]) ∧ Turn (fun _ => False) w w' := by
  have H := Lib.hid h
  have HF := Lib.hid hF
  have HV := Lib.hid hv
  have HB := Lib.hid hb
  have hm := hF.m
  clear h hF hv hb
  go_enter Try.func20, Try.ntmps20
  go_upto_region 2 with fail
  have TA := Lib.hid ((Turn.refl (fun _ => False) w).alloc (.cells #[.int .i64 s.n, .slice ca s.m cc] 34))
  generalize w.alloc (.cells #[.int .i64 s.n, .slice ca s.m cc] 34) = w1 at TA ⊢
  have H1 := Lib.hid (H.out.new TA.out)
  go_loop [13] (fun s13 => ∃ k : Nat, k ≤ s.m ∧ s13 = .int .i64 k ∧ Hid (∀ j, j < k → x ∉ s.M j)) (fun s13 => s.m - (intOf s13).toNat)
  case atStart => exact ⟨0, Nat.zero_le _, rfl, Lib.hid (fun j hj => by omega)⟩
  case round =>
    obtain ⟨k, hk, rfl, HN⟩ := hrel
    by_cases hlt : k < s.m
    · obtain ⟨ad, a, c, hca, hcell, hints, _, _, _⟩ := H1.out.row k hlt
      have hl := HF.out.len hlt
      have HI := Lib.hid hints
      subst hca
      obtain ⟨n, hn⟩ : ∃ n, (s.M k).length = n := ⟨_, rfl⟩
      rw [hn] at hcell hl
      have HNL := Lib.hid hn
      clear hints hn
      go_upto_region 5 with fail
      clear hcell
      go_loop [20] (fun s20 => ∃ i : Nat, i ≤ n ∧ s20 = .int .i64 i ∧ Hid (x ∉ (s.M k).take i)) (fun s20 => n - (intOf s20).toNat)
      case atStart => exact ⟨0, Nat.zero_le _, rfl, Lib.hid (by simp)⟩
      case round =>
        obtain ⟨i, hi, rfl, HX⟩ := hrel
        by_cases hlt2 : i < n
        · obtain ⟨bd, hb, hc⟩ := HI.out i (by rw [HNL.out]; exact hlt2)
          subst hb
          by_cases he : (s.M k).getD i 0 = x
          · have HR := Lib.hid (in_at (x := x) HF.out hlt (by rw [← he]; exact getD_mem (by rw [HNL.out]; exact hlt2)))
            rw [he] at hc
            clear he
            go_wp2_with fail
            go_ret2
            exact ⟨by rw [← HV.out, ← HB.out, HR.out.1, HR.out.2]; rfl, TA.out⟩
          · have HX2 := Lib.hid (take_not (by rw [HNL.out]; exact hlt2) HX.out (fun e => he e.symm))
            have hbe : ((s.M k).getD i 0 == x) = false := beq_eq_false_iff_ne.2 he
            generalize (s.M k).getD i 0 = y at hc hbe
            clear he
            go_wp2_with fail
            go_round
            case rel => exact ⟨i + 1, by omega, by go_num, HX2⟩
            case measure => simp [intOf]; omega
        · have HX2 := Lib.hid (show ∀ j, j < k + 1 → x ∉ s.M j from fun j hj => by
            by_cases e : j = k
            · subst e
              have := HX.out
              rwa [List.take_of_length_le (by rw [HNL.out]; omega)] at this
            · exact HN.out j (by omega))
          go_wp2_with fail
          go_round
          case rel => exact ⟨k + 1, by omega, by go_num, HX2⟩
          case measure => simp [intOf]; omega
    · have HR := Lib.hid (in_not (s := s) (x := x) (fun j hj => HN.out j (by omega)))
      go_wp2_with fail
      go_ret2
      exact ⟨by rw [← HV.out, ← HB.out, HR.out.1, HR.out.2]; rfl, TA.out⟩

theorem add_zero' (a : Addr) : a.add 0 = a := by
  unfold Addr.add
  split <;> simp_all
theorem rfirst_any {s : St} {ca : Option Addr} {cc : Nat} {D : Nat → Prop} {k v : Int} {b : Bool} (w : World) (h : RS w s ca cc D) (hF : Fine s) (hv : firstV s k = v) (hb : firstB s k = b) :
    Calls Try.prog 18 #[.agg #[.int .i64 s.n, .slice ca s.m cc], .int .i64 k] w fun e w' => e = .returned (.tuple #[.int .i64 v, .bool b]) ∧ Turn (fun _ => False) w w' := by
  have H := Lib.hid h
  have HV := Lib.hid hv
  have HB := Lib.hid hb
  have hm := hF.m
  by_cases hk : 0 ≤ k ∧ k < (s.m : Int)
  · obtain ⟨j, rfl⟩ : ∃ j : Nat, k = j := ⟨k.toNat, by omega⟩
    have hj : j < s.m := by omega
    have hq : isQ s j = true := decide_eq_true hk
    obtain ⟨ad, a, c, hca, hcell, hints, _, _, _⟩ := (h.new ((Turn.refl (fun _ => False) w).alloc (.cells #[.int .i64 s.n, .slice ca s.m cc] 34))).row j hj
    have hl := hF.len hj
    subst hca
    have h0 : ¬ ((j : Int) < 0) := by omega
    have hle : ¬ (s.m ≤ j) := by omega
    obtain ⟨n, hn⟩ : ∃ n, (s.M j).length = n := ⟨_, rfl⟩
    rw [hn] at hcell hl
    by_cases h1 : 0 < n
    · have eb' : firstB s j = true := by unfold firstB; rw [hq]; exact decide_eq_true (by rw [Int.toNat_natCast, hn]; exact h1)
      have ev : firstV s j = (s.M j).getD 0 0 := by unfold firstV; rw [if_pos eb']; rfl
      rw [eb'] at hb
      rw [ev] at hv
      subst hb
      obtain ⟨bd, hbd, hc⟩ := hints 0 (by rw [hn]; exact h1)
      subst hbd
      rw [hv] at hc
      have hcz := hc
      rw [add_zero'] at hcz
      have hne : ((n : Int) == 0) = false := by rw [beq_eq_false_iff_ne]; omega
      clear h hF hv hk hints hn eb' ev hq
      go_enter Try.func18, Try.ntmps18
      go_wp2_with fail
      go_ret2
      exact ⟨rfl, (Turn.refl _ _).alloc _⟩
    · have hn0 : n = 0 := by omega
      have eb' : firstB s j = false := by unfold firstB; rw [hq]; exact decide_eq_false (by rw [Int.toNat_natCast, hn]; exact h1)
      have ev : firstV s j = 0 := by unfold firstV; rw [eb']; rfl
      rw [eb'] at hb
      rw [ev] at hv
      subst hb
      subst hv
      subst hn0
      clear h hF hk hints hn eb' ev hq
      go_enter Try.func18, Try.ntmps18
      go_wp2_with fail
      go_ret2
      exact ⟨rfl, (Turn.refl _ _).alloc _⟩
  · have hq : isQ s k = false := decide_eq_false hk
    have eb' : firstB s k = false := by unfold firstB; rw [hq]; rfl
    have ev : firstV s k = 0 := by unfold firstV; rw [eb']; rfl
    rw [eb'] at hb
    rw [ev] at hv
    subst hb
    subst hv
    clear h hF eb' ev hq
    by_cases h0 : k < 0
    · clear hk
      go_enter Try.func18, Try.ntmps18
      go_wp2_with fail
      go_ret2
      exact ⟨rfl, (Turn.refl _ _).alloc _⟩
    · have h1 : (s.m : Int) ≤ k := by omega
      clear hk
      go_enter Try.func18, Try.ntmps18
      go_wp2_with fail
      go_ret2
      exact ⟨rfl, (Turn.refl _ _).alloc _⟩

theorem without_ne {L : List Int} {k : Nat} {x : Int} (h : k < L.length) (hx : L.getD k 0 ≠ x) : without (L.take k) x ++ [L.getD k 0] = without (L.take (k + 1)) x := by
  rw [← take_snoc h]
  unfold without
  rw [List.filter_append, List.filter_cons_of_pos (by simpa using hx)]
  rfl
theorem without_eq {L : List Int} {k : Nat} {x : Int} (h : k < L.length) (hx : L.getD k 0 = x) : without (L.take k) x = without (L.take (k + 1)) x := by
  rw [← take_snoc h, hx]
  unfold without
  rw [List.filter_append, List.filter_cons_of_neg (by simp)]
  simp
theorem without_le (L : List Int) (x : Int) : (without L x).length ≤ L.length := List.length_filter_le _ _
/-- What is left: its row is the call's own. -/
structure Wo (w wr : World) (L : List Int) (x : Int) (k no : Nat) (bo : Option Addr) (co : Nat) : Prop where
  own : wr.ownsRow w.heap.size 3 1 (.slice bo no co) no ((without (L.take k) x).map (Value.int .i64))
  t : Turn (fun _ => False) w wr
theorem Wo.len {w wr : World} {L : List Int} {x : Int} {k no co : Nat} {bo : Option Addr} (h : Wo w wr L x k no bo co) : (without (L.take k) x).length = no := by
  have := h.own.1
  simpa using this
set_option maxHeartbeats 1000000 in
theorem without_any {ao : Option Addr} {n cap : Nat} {L : List Int} {x : Int} (w : World) (hr : Ints .i64 w ao L) (hn : L.length = n) (hl : n ≤ 1000) :
    Calls Try.prog 22 #[.slice ao n cap, .int .i64 x] w (Reads .i64 (without L x).length (without L x) w) := by
  have HR := Lib.hid hr
  have HN := Lib.hid hn
  clear hr hn
  go_enter Try.func22, Try.ntmps22
  go_upto_region 3 with fail
  have HW : Hid (Wo w (w.alloc (.cells #[] 3)) L x 0 0 (some ⟨w.heap.size, 0, none⟩) 0) := Lib.hid ⟨own_empty (heap_alloc_new w _) (Nat.le_refl _), (Turn.refl _ _).alloc _⟩
  generalize w.alloc (.cells #[] 3) = w1 at HW ⊢
  go_loopw [5, 11] (fun s5 s11 wr => ∃ (k no co : Nat) (bo : Option Addr), k ≤ n ∧ s5 = .slice bo no co ∧ s11 = .int .i64 k ∧ Hid (Wo w wr L x k no bo co)) (fun _ s11 _ => n - (intOf s11).toNat)
  case atStart => exact ⟨0, 0, 0, _, Nat.zero_le _, rfl, rfl, HW⟩
  case round =>
    clear HW
    obtain ⟨k, no, co, bo, hk, rfl, rfl, HW⟩ := hrel
    by_cases hlt : k < n
    · obtain ⟨ad, hao, hc⟩ := (HR.out.turn HW.out.t (fun _ _ => id)) k (by rw [HN.out]; exact hlt)
      subst hao
      by_cases he : L.getD k 0 = x
      · have HE := Lib.hid (without_eq (by rw [HN.out]; exact hlt) he)
        rw [he] at hc
        clear he
        go_wp2_with fail
        go_roundw
        case rel => exact ⟨k + 1, no, co, bo, by omega, rfl, by go_num, Lib.hid ⟨by rw [← HE.out]; exact HW.out.own, HW.out.t⟩⟩
        case measure => simp [intOf]; omega
      · have HE := Lib.hid (without_ne (by rw [HN.out]; exact hlt) he)
        have hno : no ≤ 1000 := by
          have h1 := HW.out.len
          have h2 := without_le (L.take k) x
          rw [List.length_take] at h2
          omega
        have hne : (L.getD k 0 != x) = true := by simpa using he
        obtain ⟨n1, hn1⟩ : ∃ n1, no + 1 = n1 := ⟨_, rfl⟩
        have HN1 := Lib.hid hn1
        generalize L.getD k 0 = y at hc hne HE
        clear he hn1
        go_wp2_with (at_builtin; refine wpList_append_one_n (w0 := wr) Try.underlying29 info_int (by decide) rfl (.tmp 18) (.tmp 20) rfl w.heap.size (.slice bo no co) (without (L.take k) x) no y rfl HW.out.own n1 HN1.out rfl (by omega) HW.out.t.size ?_; intro g4 c4 w4 hg4 h4 t4 b4; have T4 := Lib.hid (HW.out.t.and t4.out (fun j hj e => by have := (HW.out.own.lt j e).1; omega)))
        go_roundw
        case rel => exact ⟨k + 1, n1, c4, _, by omega, rfl, by go_num, Lib.hid ⟨by rw [← HE.out]; exact h4.out, T4.out⟩⟩
        case measure => simp [intOf]; omega
    · have hk2 : k = n := by omega
      have HO := Lib.hid (show (without L x).length = no ∧ wr.ownsRow w.heap.size 3 1 (.slice bo no co) no ((without L x).map (Value.int .i64)) by
        have h1 := HW.out.len
        have h2 := HW.out.own
        rw [List.take_of_length_le (by rw [HN.out]; omega)] at h1 h2
        exact ⟨h1, h2⟩)
      clear hk2
      go_wp2_with fail
      go_ret
      rw [HO.out.1]
      obtain ⟨h1, h2, h3, h4⟩ := own_reads HO.out.2
      exact ⟨bo, co, rfl, HO.out.1, h2, fun ad e => by
        subst e
        have := HO.out.2.lt ad.block (by rw [own_block]; rfl)
        exact this, h3, h4, HW.out.t⟩

theorem info_ints : (Try.prog.info? 29).map (fun i => (i.zero, i.size, i.bytes)) = some (some (.slice none 0 0), 1, 24) := by kernel_rfl
theorem far_new {n g : Nat} (h : g < n) : ¬ (Value.slice (some ⟨n, 0, none⟩) 0 0).ownBlock = some g := fun e => by
  have : n = g := Option.some.inj e
  omega
theorem RS.vals {w : World} {s : St} {ca : Option Addr} {cc : Nat} {D : Nat → Prop} (h : RS w s ca cc D) :
    ∃ V : List Value, V.length = s.m ∧ (∀ j, j < s.m → ∃ a c, V[j]? = some (.slice a (s.M j).length c) ∧ Ints .i64 w a (s.M j) ∧ (∀ x, a = some x → D x.block) ∧ (a = none → c = 0) ∧ (s.M j).length ≤ c) ∧ (∀ ad, ca = some ad → ∀ j u, V[j]? = some u → w.cell? (ad.add j) = some u) ∧ (∀ u ∈ V, u.oneCell' = true) ∧ (ca = none → s.m = 0) := by
  cases ca with
  | none =>
    have h0 : s.m = 0 := by
      rcases Nat.eq_zero_or_pos s.m with e | e
      · exact e
      · obtain ⟨ad, a, c, e2, _⟩ := h.row 0 e
        cases e2
    exact ⟨[], by rw [h0]; rfl, fun j hj => by omega, fun ad e => (by cases e), fun u hu => (by cases hu), fun _ => h0⟩
  | some ad =>
    have at_ : ∀ j, j < s.m → ((List.range s.m).map fun j => (w.cell? (ad.add j)).getD undef)[j]? = some ((w.cell? (ad.add j)).getD undef) := fun j hj => by simp [hj]
    refine ⟨(List.range s.m).map fun j => (w.cell? (ad.add j)).getD undef, by simp, fun j hj => ?_, fun ad' e j u hu => ?_, fun u hu => ?_, fun e => (by cases e)⟩
    · obtain ⟨ad', a, c, e2, h1, h2, h3, h4, h5⟩ := h.row j hj
      cases e2
      exact ⟨a, c, by rw [at_ j hj, h1]; rfl, h2, h3, h4, h5⟩
    · cases e
      obtain ⟨hj, _⟩ := List.getElem?_eq_some_iff.1 hu
      have hj' : j < s.m := by simpa using hj
      rw [at_ j hj'] at hu
      obtain ⟨ad', a, c, e2, h1, _⟩ := h.row j hj'
      cases e2
      rw [h1] at hu ⊢
      exact hu
    · obtain ⟨j, hj, rfl⟩ := List.mem_map.1 hu
      obtain ⟨ad', a, c, e2, h1, _⟩ := h.row j (List.mem_range.1 hj)
      cases e2
      rw [h1]
      rfl
theorem vals_cells {w : World} {base g n c : Nat} {e : TypeId} {xs : List Value} (h : w.ownsRow base e 1 (.slice (some ⟨g, 0, none⟩) n c) n xs) {j : Nat} {u : Value} (hu : xs[j]? = some u) :
    w.cell? ⟨g, j, none⟩ = some u ∧ w.frozen? ⟨g, j, none⟩ = false := by
  have h1 := h.cells (g := g) rfl j u hu
  rw [Addr.add_lit] at h1
  refine ⟨by simpa using h1, ?_⟩
  rcases h.2 with ⟨h2, _⟩ | ⟨g', cap, cur, h2, _, hh, _⟩
  · cases h2
  · cases h2
    simp [World.frozen?, hh]

/-- Blocks of D, and those that are new. -/
def Dn (D : Nat → Prop) (w w' : World) (i : Nat) : Prop := D i ∨ (w.heap.size ≤ i ∧ i < w'.heap.size)
def WithPost (s' : St) (D : Nat → Prop) (w : World) (e : Ending) (w' : World) : Prop :=
  ∃ cb cc', e = .returned (.agg #[.int .i64 s'.n, .slice (some ⟨cb, 0, none⟩) s'.m cc']) ∧ RS w' s' (some ⟨cb, 0, none⟩) cc' (Dn D w w') ∧ Turn (fun _ => False) w w'

set_option maxHeartbeats 2000000 in
theorem with_any {s : St} {ca la : Option Addr} {cc nl lc g : Nat} {L : List Int} {D : Nat → Prop} (w : World) (h : RS w s ca cc D) (hm8 : s.m ≤ 64) (hg : g < s.m) (hL : Ints .i64 w la L) (hl : L.length = nl) (hD : ∀ x, la = some x → D x.block) (hln : la = none → lc = 0) (hlc : nl ≤ lc) :
    Calls Try.prog 25 #[.agg #[.int .i64 s.n, .slice ca s.m cc], .int .i64 g, .slice la nl lc] w (WithPost (s.put g L) D w) := by
  have H := Lib.hid h
  obtain ⟨V, v1, v2, v3, v4, v5⟩ := h.vals
  have HV1 := Lib.hid v1
  have HV2 := Lib.hid v2
  have HV3 := Lib.hid v3
  have HV4 := Lib.hid v4
  have HV5 := Lib.hid v5
  have HL := Lib.hid (And.intro hL (And.intro hl (And.intro hD (And.intro hln hlc))))
  clear h hL hl hD hln hlc v1 v2 v3 v4 v5
  go_enter Try.func25, Try.ntmps25
  have TA := Lib.hid ((((Turn.refl (fun _ => False) w).alloc (.cells #[.int .i64 s.n, .slice ca s.m cc] 34)).alloc (.cells #[.int .i64 0, .slice none 0 0] 34)))
  have BX := Lib.hid (show RBox ((w.alloc (.cells #[.int .i64 s.n, .slice ca s.m cc] 34)).alloc (.cells #[.int .i64 0, .slice none 0 0] 34)) w.heap.size s.n ca s.m cc from new2 w _ _)
  have BZ := Lib.hid (show RBox ((w.alloc (.cells #[.int .i64 s.n, .slice ca s.m cc] 34)).alloc (.cells #[.int .i64 0, .slice none 0 0] 34)) (w.heap.size + 1) 0 none 0 0 from new2' w _ _)
  go_upto_region 1 with fail
  generalize (w.alloc (.cells #[.int .i64 s.n, .slice ca s.m cc] 34)).alloc (.cells #[.int .i64 0, .slice none 0 0] 34) = w1 at TA BX BZ ⊢
  obtain ⟨bx, hbx⟩ : ∃ bx, bx = w.heap.size := ⟨_, rfl⟩
  obtain ⟨rz, hrz⟩ : ∃ rz, rz = w.heap.size + 1 := ⟨_, rfl⟩
  rw [← hrz] at BZ ⊢
  rw [← hbx] at BX ⊢
  have HBZ := Lib.hid (And.intro hbx hrz)
  clear hbx hrz
  have d1 := (BX.out.turn ((Turn.refl (fun _ => False) w1).alloc (.cells #[] 29)) id).d1
  go_upto_region 2 with (at_builtin; refine wpList_append_vals Try.underlying32 info_ints rfl (by decide) rfl (.tmp 8) (.tmp 10) rfl w1.heap.size (.slice (some ⟨w1.heap.size, 0, none⟩) 0 0) [] 0 rfl (own_empty (heap_alloc_new w1 _) (Nat.le_refl _)) ca V s.m cc HV1.out rfl (fun e => ⟨H.out.caN e, HV5.out e⟩) (fun ad e j u hu => (TA.out.alloc (.cells #[] 29)).cell id (HV3.out ad e j u hu)) HV4.out (by omega) (by simp) ?_; intro v3 w3 O3 T3 B3; rw [Nat.zero_add, List.nil_append] at O3)
  obtain ⟨cb, co, rfl, _⟩ := own_form O3.out (by omega)
  have hcb : w1.heap.size ≤ cb := (O3.out.lt cb (by rw [own_block]; rfl)).1
  have hcb2 : cb < w3.heap.size := (O3.out.lt cb (by rw [own_block]; rfl)).2
  have TB := Lib.hid (((Turn.refl (fun _ => False) w1).alloc (.cells #[] 29)).and T3.out (fun i hi e => far_new hi e))
  have HC := Lib.hid (And.intro hcb hcb2)
  obtain ⟨a0, c0, hv0, _⟩ := HV2.out g hg
  obtain ⟨cg, fg⟩ := vals_cells O3.out hv0
  clear T3 B3 d1 hcb hcb2 hv0
  have hgi : (g : Int) < (s.m : Int) := by omega
  go_upto_region 3 with fail
  clear cg fg
  have T4 := Lib.hid (TB.out.setCell (p := ⟨cb, g, none⟩) (Or.inr HC.out.1) (.slice la nl lc))
  have O4 := Lib.hid (show (w3.setCell ⟨cb, g, none⟩ (.slice la nl lc)).ownsRow w1.heap.size 29 1 (.slice (some ⟨cb, 0, none⟩) s.m co) s.m (V.set g (.slice la nl lc)) from (O3.out.stored g (.slice la nl lc)).1)
  generalize w3.setCell ⟨cb, g, none⟩ (.slice la nl lc) = w4 at T4 O4 ⊢
  have BX4 := Lib.hid (BX.out.turn T4.out id)
  have BZ4 := Lib.hid (BZ.out.turn T4.out id)
  clear O3 TB
  have d0 := BX4.out.d0
  have z0 := BZ4.out.d0
  have z1 := BZ4.out.d1
  have f0 := BZ4.out.fr 0
  have f1 := BZ4.out.fr 1
  go_wp2_with fail
  clear d0 z0 z1 f0 f1
  have TF := Lib.hid (store2_turn w4 rz (.int .i64 s.n) (.slice (some ⟨cb, 0, none⟩) s.m co))
  have BF := Lib.hid (BZ4.out.store (n' := s.n) (ca' := some ⟨cb, 0, none⟩) (m' := s.m) (cc' := co))
  generalize (w4.setCell ⟨rz, 0, none⟩ (.int .i64 s.n)).setCell ⟨rz, 1, none⟩ (.slice (some ⟨cb, 0, none⟩) s.m co) = wf at TF BF ⊢
  have d0 := BF.out.d0
  have d1 := BF.out.d1
  have hs1 := TA.out.size
  have hrz := HBZ.out.2
  have TW : Turn (fun _ => False) w wf := (TA.out.trans T4.out).and TF.out (fun i hi e => by have e' : i = rz := e; omega)
  have hlow := HC.out
  have hcbr : cb ≠ rz := fun e => by have := BZ.out.lt; omega
  refine bodyPost_ret (v := .agg #[.int .i64 s.n, .slice (some ⟨cb, 0, none⟩) s.m co]) (by simp [results, Try.results25, go_sem, d0, d1]) rfl ⟨cb, co, rfl, ⟨fun j hj => ?_, fun x e => ?_, fun e => (by cases e)⟩, TW⟩
  · have hj' : j < s.m := hj
    by_cases e : j = g
    · subst e
      have hv : (V.set j (.slice la nl lc))[j]? = some (.slice la nl lc) := List.getElem?_set_self (by rw [HV1.out]; exact hj')
      have hc := TF.out.cell (p := ⟨cb, j, none⟩) hcbr (vals_cells O4.out hv).1
      have hMg : (s.put j L).M j = L := updM_same _ _ _
      refine ⟨_, la, lc, rfl, ?_, ?_, fun x e => Or.inl (HL.out.2.2.1 x e), HL.out.2.2.2.1, ?_⟩
      · rw [hMg, HL.out.2.1, Addr.add_lit, Nat.zero_add]; exact hc
      · rw [hMg]; exact HL.out.1.turn TW (fun _ _ => id)
      · rw [hMg, HL.out.2.1]; exact HL.out.2.2.2.2
    · obtain ⟨a, c, hv0, h1, h2, h3, h4⟩ := HV2.out j hj'
      have hM : (s.put g L).M j = s.M j := updM_other _ _ e
      have hv : (V.set g (.slice la nl lc))[j]? = some (.slice a (s.M j).length c) := by rw [List.getElem?_set_ne (fun e' => e e'.symm)]; exact hv0
      have hc := TF.out.cell (p := ⟨cb, j, none⟩) hcbr (vals_cells O4.out hv).1
      refine ⟨_, a, c, rfl, ?_, ?_, fun x e => Or.inl (h2 x e), h3, ?_⟩
      · rw [hM, Addr.add_lit, Nat.zero_add]; exact hc
      · rw [hM]; exact h1.turn TW (fun _ _ => id)
      · rw [hM]; exact h4
  · cases e
    refine Or.inr ⟨by show w.heap.size ≤ cb; omega, ?_⟩
    have := (O4.out.lt cb (by rw [own_block]; rfl)).2
    exact Nat.lt_of_lt_of_le this TF.out.size

end Go.Proofs.Ytgkkmbkialcfiaa
