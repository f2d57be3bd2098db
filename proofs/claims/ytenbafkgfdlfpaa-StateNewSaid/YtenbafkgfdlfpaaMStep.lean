/- Texts put together: KStep, KStepG, KStA, KStL. -/
import Derived.Test.YtenbafkgfdlfpaaGGrow
import Derived.Test.YtenbafkgfdlfpaaGSkip
import Derived.Test.YtenbafkgfdlfpaaKOfA
import Derived.Test.YtenbafkgfdlfpaaKGsW
import Derived.Test.YtenbafkgfdlfpaaGRace
/- Taken from s10: StepC. Made by pullk.py. -/
namespace Go.Proofs.Ytenbafkgfdlfpaa
open Go.RowKit
set_option linter.unusedVariables false

section
variable {α : Type} {enc : α → List Value} {size : Nat}
/-- 'append(v, y)' of such things at a step; the block of y is b. -/
theorem step_append_flat_one {P : Program} {z : Value} {t e : TypeId} {by_ : Nat} (he : Enc enc size) (hsz : 0 < size) (ht : P.underlying t = some (.slice e)) (hinfo : (P.info? e).map (fun i => (i.zero, i.size, i.bytes)) = some (some z, size, by_)) (hzs : z.cells.size = size) (hby : by_ ≤ 100)
    {w : World} {ops : Array Oper} {o : Oper} {a : Act} {K : Act → World → Prop} {Q : Exit → Act → World → Prop} {E : Prop} (hgd : o.guard = none) (s x : Operand)
    (ho : o.op = .call { callee := .builtin .append, args := #[s, x], argTypes := #[t, t] }) (base : Nat) (v : Value) (L : List α) (n : Nat) (hs : a.eval s = v) (hown : w.ownsRow base e size v n (flat enc L)) (b : Nat) (y : α)
    (hx : a.eval x = .slice (some ⟨b, 0, none⟩) 1 1) (hr : w.heap[b]? = some (.cells (enc y).toArray e (0, 0))) (n' : Nat) (hn' : n + 1 = n') (hl : n' ≤ 1000000) (hb : base ≤ w.heap.size)
    (h : ∀ g c w', base ≤ g → Hid (w'.ownsRow base e size (.slice (some ⟨g, 0, none⟩) n' c) n' (flat enc (L ++ [y]))) → Hid (Turn (fun i => v.ownBlock = some i) w w') → Hid (v.ownBlock = some g ∨ w.heap.size ≤ g) → K (a.put o.dst (.slice (some ⟨g, 0, none⟩) n' c)) w') :
    if Region.wanted o (yielded ops a.tmps) = true then Oper.wp P o a w K Q else E := by
  have hw : Region.wanted o (yielded ops a.tmps) = true := by simp [Region.wanted, hgd]
  rw [if_pos hw]
  subst hn'
  obtain ⟨i0, hi, hz0, hz1, hz2⟩ := info_parts hinfo
  have hbb : (n + 1) * by_ ≤ 1000000 * 100 := Nat.mul_le_mul hl hby
  have hnews : ∀ (j : Nat) (u : Value), (flat enc [y])[j]? = some u → w.cell? ((⟨b, 0, none⟩ : Addr).add j) = some u := by
    intro j u hu
    rw [flat_one] at hu
    rw [Addr.add_lit, Nat.zero_add]
    unfold World.cell?
    rw [hr]
    simpa using hu
  obtain ⟨v', w', hrun, h1, h2, _, h3⟩ := run_append_own_at (P := P) w base t o.type e i0 z size by_ ht hi hz0 hz1 hz2 hzs hsz v n (flat enc L) hown ⟨b, 0, none⟩ 1 1 (flat enc [y]) (by rw [flat_length he]; rfl) hnews (fun u hu => flat_one' he hu) (by unfold maxLen; omega) (by omega) hb
  unfold Oper.wp execOp
  simp only [ho, resolve, invoke, builtin, Sem.run_bind, Sem.run_pure, Result.andThen_ok, List.map_toArray, List.map_cons, List.map_nil, hs, hx, hrun]
  rw [← flat_append] at h1
  rcases h1.2 with ⟨_, h0⟩ | ⟨g, cap, cur, rfl, hb', _⟩
  · omega
  · refine h g cap w' hb' h1 ((Turn.refl _ w).grown h2 (fun i hi => .inl hi)) ?_
    rcases h3 with h4 | h4
    · exact Or.inl h4.symm
    · right
      have h5 : g = w.heap.size := by simpa [Value.ownBlock] using h4
      omega

end
end Go.Proofs.Ytenbafkgfdlfpaa
/- Taken from s10: StepC. Made by pullk.py. -/
namespace Go.Proofs.Ytenbafkgfdlfpaa
open Go.RowKit
set_option linter.unusedVariables false

section
variable {α : Type} {enc : α → List Value} {size : Nat}
/-- 'append(v, y)' of such things at a step; the block of y is b. -/
theorem step_append_great_one {P : Program} {z : Value} {t e : TypeId} {by_ : Nat} (he : Enc enc size) (hsz : 0 < size) (ht : P.underlying t = some (.slice e)) (hinfo : (P.info? e).map (fun i => (i.zero, i.size, i.bytes)) = some (some z, size, by_)) (hzs : z.cells.size = size) (hby : by_ ≤ 1000)
    {w : World} {ops : Array Oper} {o : Oper} {a : Act} {K : Act → World → Prop} {Q : Exit → Act → World → Prop} {E : Prop} (hgd : o.guard = none) (s x : Operand)
    (ho : o.op = .call { callee := .builtin .append, args := #[s, x], argTypes := #[t, t] }) (base : Nat) (v : Value) (L : List α) (n : Nat) (hs : a.eval s = v) (hown : w.ownsRow base e size v n (flat enc L)) (b : Nat) (y : α)
    (hx : a.eval x = .slice (some ⟨b, 0, none⟩) 1 1) (hr : w.heap[b]? = some (.cells (enc y).toArray e (0, 0))) (n' : Nat) (hn' : n + 1 = n') (hl : n' ≤ 1000000) (hb : base ≤ w.heap.size)
    (h : ∀ g c w', base ≤ g → Hid (w'.ownsRow base e size (.slice (some ⟨g, 0, none⟩) n' c) n' (flat enc (L ++ [y]))) → Hid (Turn (fun i => v.ownBlock = some i) w w') → Hid (v.ownBlock = some g ∨ w.heap.size ≤ g) → K (a.put o.dst (.slice (some ⟨g, 0, none⟩) n' c)) w') :
    if Region.wanted o (yielded ops a.tmps) = true then Oper.wp P o a w K Q else E := by
  have hw : Region.wanted o (yielded ops a.tmps) = true := by simp [Region.wanted, hgd]
  rw [if_pos hw]
  subst hn'
  obtain ⟨i0, hi, hz0, hz1, hz2⟩ := info_parts hinfo
  have hbb : (n + 1) * by_ ≤ 1000000 * 1000 := Nat.mul_le_mul hl hby
  have hnews : ∀ (j : Nat) (u : Value), (flat enc [y])[j]? = some u → w.cell? ((⟨b, 0, none⟩ : Addr).add j) = some u := by
    intro j u hu
    rw [flat_one] at hu
    rw [Addr.add_lit, Nat.zero_add]
    unfold World.cell?
    rw [hr]
    simpa using hu
  obtain ⟨v', w', hrun, h1, h2, _, h3⟩ := run_append_own_at (P := P) w base t o.type e i0 z size by_ ht hi hz0 hz1 hz2 hzs hsz v n (flat enc L) hown ⟨b, 0, none⟩ 1 1 (flat enc [y]) (by rw [flat_length he]; rfl) hnews (fun u hu => flat_one' he hu) (by unfold maxLen; omega) (by omega) hb
  unfold Oper.wp execOp
  simp only [ho, resolve, invoke, builtin, Sem.run_bind, Sem.run_pure, Result.andThen_ok, List.map_toArray, List.map_cons, List.map_nil, hs, hx, hrun]
  rw [← flat_append] at h1
  rcases h1.2 with ⟨_, h0⟩ | ⟨g, cap, cur, rfl, hb', _⟩
  · omega
  · refine h g cap w' hb' h1 ((Turn.refl _ w).grown h2 (fun i hi => .inl hi)) ?_
    rcases h3 with h4 | h4
    · exact Or.inl h4.symm
    · right
      have h5 : g = w.heap.size := by simpa [Value.ownBlock] using h4
      omega

end
end Go.Proofs.Ytenbafkgfdlfpaa
/- The code's State, where there is no channel yet: what its first region makes. -/
namespace Go.Proofs.Ytenbafkgfdlfpaa
open Go.RowKit
set_option linter.unusedVariables false

/-- What State asks of a world that has no channel. -/
structure WOk (y : WV) (n : Nat) : Prop where
  gl : y.G.length = n
  bl : y.B.length = n
  pn : y.pl.n = n
  n8 : n ≤ 8
  good : R5.Good y.pl
  tame : ∀ z ∈ y.G, Tame z.g
  sd : y.S.length ≤ 1000
  dn : y.dl.length ≤ 100000
/-- What each of the calls, and the box, has given. -/
structure StR (y : WV) (n : Nat) (i lo hi : Nat) (v : Value) (w : World) : Prop where
  a : i = 12 → ∃ (s : Sl) (Y : List GV), v = .slice s.ao n s.cap ∧ s.len = n ∧ w.ownsRow lo 50 25 s.val n (flat GV.cs Y) ∧ Y.map GV.g = y.G.map GV.g ∧ (∀ z ∈ Y, CG (fun b => lo ≤ b ∧ b < hi ∧ s.val.ownBlock ≠ some b) w z) ∧ ∀ k, s.val.ownBlock = some k → k < hi
  b : i = 17 → ∃ s : Sl, v = .slice s.ao y.sd.len s.cap ∧ s.len = y.sd.len ∧ w.ownsRow lo 57 7 s.val y.sd.len (flat Sd.cs y.S) ∧ ∀ k, s.val.ownBlock = some k → k < hi
  c : i = 22 → v = .slice (some ⟨lo, 0, none⟩) (y.pl.M y.pl.n).length (y.pl.M y.pl.n).length ∧ Row .i64 3 w lo (y.pl.M y.pl.n) ∧ lo < hi
  d : i = 27 → v = .int .i64 y.pl.fresh
  e : i = 32 → ∃ s : Sl, v = .slice s.ao y.draws.length s.cap ∧ s.len = y.draws.length ∧ w.ownsRow lo 64 1 s.val y.draws.length (y.draws.map (Value.int .u16)) ∧ ∀ k, s.val.ownBlock = some k → k < hi
  f : i = 37 → v = .int .i64 y.drawn
  g : i = 42 → ∃ s : Sl, v = .slice s.ao y.dn.len s.cap ∧ s.len = y.dn.len ∧ w.ownsRow lo 66 13 s.val y.dn.len (flat Mk.cs y.dl) ∧ ∀ k, s.val.ownBlock = some k → k < hi
  h : i = 44 → v = .pointer (some ⟨lo, 0, none⟩) ∧ Blk w lo 41 zS.cs ∧ lo < hi
theorem StR.stay {y : WV} {n i lo hi : Nat} {v : Value} {w w' : World} (h : StR y n i lo hi v w) (t : Turn (fun _ => False) w w') : StR y n i lo hi v w' :=
  ⟨fun e => by
    obtain ⟨s, Y, h1, h2, h3, h4, h5, h6⟩ := h.a e
    exact ⟨s, Y, h1, h2, own_turn h3 t (fun _ _ => id), h4, fun z hz => (h5 z hz).keep t (fun _ _ => id), h6⟩, fun e => by
    obtain ⟨s, h1, h2, h3, h4⟩ := h.b e
    exact ⟨s, h1, h2, own_turn h3 t (fun _ _ => id), h4⟩, fun e => ⟨(h.c e).1, (h.c e).2.1.turn t id, (h.c e).2.2⟩, h.d, fun e => by
    obtain ⟨s, h1, h2, h3, h4⟩ := h.e e
    exact ⟨s, h1, h2, own_turn h3 t (fun _ _ => id), h4⟩, h.f, fun e => by
    obtain ⟨s, h1, h2, h3, h4⟩ := h.g e
    exact ⟨s, h1, h2, own_turn h3 t (fun _ _ => id), h4⟩, fun e => ⟨(h.h e).1, (h.h e).2.1.new t, (h.h e).2.2⟩⟩
theorem wcfg_at {w : World} {b : Nat} {x : WV} (h : ∀ k, w.cell? ⟨b, k, none⟩ = x.cs[k]?) : At w ⟨b, 0, none⟩ [.int .i64 (x.pl.size : Int), .int .i64 (x.pl.most : Int)] := fun i u hu => by
  rw [Addr.add_lit, Nat.zero_add, h]
  match i with
  | 0 => exact hu
  | 1 => exact hu
  | i + 2 => simp at hu

/-- The answer as it lies behind the first region. -/
def zOf (y : WV) (n : Nat) (ga : Option Addr) (gc : Nat) (sa : Option Addr) (sc mb : Nat) (ra : Option Addr) (rc : Nat) (na : Option Addr) (nc : Nat) : SV :=
  ⟨y.st, ⟨ga, n, gc⟩, zSl, ⟨sa, y.sd.len, sc⟩, zSl, ⟨some ⟨mb, 0, none⟩, (y.pl.M y.pl.n).length, (y.pl.M y.pl.n).length⟩, ⟨ra, y.draws.length, rc⟩, ⟨na, y.dn.len, nc⟩⟩
/-- The answer while it is put together: its box, its goroutines, and all that won't change any more, which lies in D. -/
structure StA (w0 : World) (y : WV) (n r0 b3 : Nat) (z : SV) (Y : List GV) (D : Nat → Prop) (w : World) : Prop where
  box : Blk w b3 41 z.cs
  res : Blk w r0 41 zS.cs
  lo : w0.heap.size ≤ r0 ∧ w0.heap.size ≤ b3 ∧ r0 ≠ b3
  gs : w.ownsRow w0.heap.size 50 25 z.gs.val n (flat GV.cs Y)
  gl : z.gs.len = n
  yl : Y.length = n
  go : ∀ k, z.gs.val.ownBlock = some k → k ≠ r0 ∧ k ≠ b3
  g : ∀ x ∈ Y, CG D w x
  sd : RSd D w z.sd y.S
  mi : RI .i64 D w z.mi (y.pl.M y.pl.n)
  dr : RI .u16 D w z.dr y.draws
  dn : RMk D w z.dn y.dl
  d : ∀ b, D b → b < w.heap.size ∧ b ≠ r0 ∧ b ≠ b3 ∧ z.gs.val.ownBlock ≠ some b
  s : z.s = y.st
  t : Turn (fun _ => False) w0 w
theorem flat_rrow {α : Type} {enc : α → List Value} {size : Nat} {e : TypeId} {base : Nat} {w : World} {s : Sl} {L : List α} {n : Nat} {T : Nat → Prop} (he : Enc enc size) (hs : 0 < size) (h : w.ownsRow base e size s.val n (flat enc L)) (hl : s.len = n) (hT : ∀ k, s.val.ownBlock = some k → T k) : RRow enc size Plain id T w s L := by
  obtain ⟨ao, len, c⟩ := s
  obtain ⟨ao', c', e1, h1, h2, h3, h4⟩ := own_slice h
  cases e1
  have hn := own_len he hs h
  exact ⟨⟨hn.symm, h3⟩, fun ad e => by obtain ⟨g, rfl, hg⟩ := h4 ad e; subst e; exact hT g rfl, L, List.map_id L, Has.of_own he hs h, fun _ _ => trivial⟩
theorem rrow_plain {α : Type} {enc : α → List Value} {size : Nat} {D D' S : Nat → Prop} {w w' : World} {s : Sl} {l : List α} (h : RRow enc size Plain id D w s l) (t : Turn S w w') (hs : ∀ i, D i → ¬ S i) (hd : ∀ i, D i → D' i) : RRow enc size Plain id D' w' s l :=
  RRow.mono (fun _ _ => trivial) (RRow.keep (fun _ _ => trivial) h t hs) hd
theorem ri_own' {k : IntKind} {base : Nat} {w : World} {e : TypeId} {s : Sl} {n : Nat} {L : List Int} {T : Nat → Prop} (h : w.ownsRow base e 1 s.val n (L.map (Value.int k))) (hl : s.len = n) (hn : L.length = n) (hT : ∀ k, s.val.ownBlock = some k → T k) : RI k T w s L := by
  obtain ⟨ao, len, c⟩ := s
  obtain ⟨ao', c', e1, h1, h2, h3, h4⟩ := own_slice h
  cases e1
  subst hn
  exact ⟨⟨rfl, h1, h2, h3⟩, (own_reads h).2.1, fun ad e => by obtain ⟨g, rfl, hg⟩ := h4 ad e; subst e; exact hT g rfl⟩
theorem sta_of {w0 w w' : World} {y : WV} {n r0 : Nat} {V : Nat → Value} {lo hi : Nat → Nat} (hR : Raced w (StR y n) [12, 17, 22, 27, 32, 37, 42] V lo hi w') (h0 : Turn (fun _ => False) w0 w) (hr : Blk w r0 41 zS.cs) (hr0 : w0.heap.size ≤ r0) (hyn : y.G.length = n) (hm64 : (y.pl.M y.pl.n).length ≤ 1000000) :
    ∃ ga gc sa sc ra rc na nc Y, V 12 = .slice ga n gc ∧ V 17 = .slice sa y.sd.len sc ∧ V 22 = .slice (some ⟨lo 22, 0, none⟩) (y.pl.M y.pl.n).length (y.pl.M y.pl.n).length ∧ V 27 = .int .i64 y.pl.fresh ∧ V 32 = .slice ra y.draws.length rc ∧ V 37 = .int .i64 y.drawn ∧ V 42 = .slice na y.dn.len nc ∧ Y.map GV.g = y.G.map GV.g ∧
      ∀ wx b3, (∀ i ∈ [12, 17, 22, 27, 32, 37, 42], hi i ≤ b3 ∨ b3 < lo i) → w.heap.size ≤ b3 → Turn (fun i => i = b3) w' wx → Blk wx b3 41 (zOf y n ga gc sa sc (lo 22) ra rc na nc).cs → ∃ D, StA w0 y n r0 b3 (zOf y n ga gc sa sc (lo 22) ra rc na nc) Y D wx := by
  obtain ⟨⟨ga, gl, gc⟩, Y, v12, hgl, hg1, hg2, hg3, hg4⟩ := (hR.got 12 (by simp)).a rfl
  obtain ⟨⟨sa, sl, sc⟩, v17, hsl, hs1, hs2⟩ := (hR.got 17 (by simp)).b rfl
  obtain ⟨v22, hm1, hm2⟩ := (hR.got 22 (by simp)).c rfl
  have v27 := (hR.got 27 (by simp)).d rfl
  obtain ⟨⟨ra, rl, rc⟩, v32, hrl, hr1, hr2⟩ := (hR.got 32 (by simp)).e rfl
  have v37 := (hR.got 37 (by simp)).f rfl
  obtain ⟨⟨na, nl, nc⟩, v42, hnl, hn1, hn2⟩ := (hR.got 42 (by simp)).g rfl
  dsimp only at hgl hsl hrl hnl v12 v17 v32 v42
  subst hgl hsl hrl hnl
  refine ⟨ga, gc, sa, sc, ra, rc, na, nc, Y, v12, v17, v22, v27, v32, v37, v42, hg2, fun wx b3 hb hb3 t hbx => ?_⟩
  have L12 := hR.lim 12 (by simp)
  have L17 := hR.lim 17 (by simp)
  have L22 := hR.lim 22 (by simp)
  have L32 := hR.lim 32 (by simp)
  have L42 := hR.lim 42 (by simp)
  have B12 := hb 12 (by simp)
  have B17 := hb 17 (by simp)
  have B22 := hb 22 (by simp)
  have B32 := hb 32 (by simp)
  have B42 := hb 42 (by simp)
  have O1 := hR.off 12 (by simp) 17 (by simp) (by decide)
  have O2 := hR.off 12 (by simp) 22 (by simp) (by decide)
  have O3 := hR.off 12 (by simp) 32 (by simp) (by decide)
  have O4 := hR.off 12 (by simp) 42 (by simp) (by decide)
  have hgo : ∀ k, (Sl.val ⟨ga, gl, gc⟩).ownBlock = some k → lo 12 ≤ k ∧ k < hi 12 := fun k hk => ⟨(hg1.lt k hk).1, hg4 k hk⟩
  have hrl := hr.lt
  have hsz := t.size
  have hw0 := h0.size
  let D : Nat → Prop := fun b => ((lo 12 ≤ b ∧ b < hi 12) ∨ (lo 17 ≤ b ∧ b < hi 17) ∨ (lo 22 ≤ b ∧ b < hi 22) ∨ (lo 32 ≤ b ∧ b < hi 32) ∨ (lo 42 ≤ b ∧ b < hi 42)) ∧ (Sl.val ⟨ga, gl, gc⟩).ownBlock ≠ some b
  have hD3 : ∀ b, D b → ¬ b = b3 := fun b hb e => by
    rcases hb.1 with h | h | h | h | h <;> omega
  have hD0 : ∀ b, D b → w.heap.size ≤ b ∧ b < w'.heap.size := fun b hb => by
    rcases hb.1 with h | h | h | h | h <;> omega
  have hno : ∀ b, (∃ i, (i = 17 ∨ i = 22 ∨ i = 32 ∨ i = 42) ∧ lo i ≤ b ∧ b < hi i) → (Sl.val ⟨ga, gl, gc⟩).ownBlock ≠ some b := fun b ⟨i, hi', h1, h2⟩ e => by
    have := hgo b e
    rcases hi' with rfl | rfl | rfl | rfl <;> omega
  refine ⟨D, hbx, (hr.new hR.t).turn t (fun e => by omega), ⟨hr0, by omega, by omega⟩, own_turn (own_less hg1 (by omega)) t (fun k hk e => by have := hgo k hk; omega), rfl, ?_, fun k hk => ⟨by have := hgo k hk; omega, by have := hgo k hk; omega⟩, fun x hx => ?_, ?_, ?_, ?_, ?_, fun b hb => ⟨by have := hD0 b hb; omega, by have := hD0 b hb; omega, hD3 b hb, hb.2⟩, rfl, (h0.trans hR.t).and t (fun i hi e => by omega)⟩
  · have := congrArg List.length hg2
    simpa [hyn] using this
  · refine ((hg3 x hx).mono (fun b hb => ?_)).keep t hD3
    exact ⟨.inl ⟨hb.1, hb.2.1⟩, hb.2.2⟩
  · refine rrow_plain (flat_rrow (T := D) sd_ok (by decide) hs1 rfl fun k hk => ?_) t hD3 (fun _ h => h)
    have h1 := (hs1.lt k hk).1
    have h2 := hs2 k hk
    exact ⟨.inr (.inl ⟨h1, h2⟩), hno k ⟨17, .inl rfl, h1, h2⟩⟩
  · refine RI.keep (D := D) ⟨⟨rfl, Nat.le_refl _, by show (y.pl.M y.pl.n).length ≤ maxLen; unfold maxLen; omega, fun e => by cases e⟩, hm1.ints, fun ad e => ?_⟩ t hD3
    cases e
    exact ⟨.inr (.inr (.inl ⟨Nat.le_refl _, hm2⟩)), hno _ ⟨22, .inr (.inl rfl), Nat.le_refl _, hm2⟩⟩
  · refine (ri_own' (T := D) hr1 rfl rfl fun k hk => ?_).keep t hD3
    have h1 := (hr1.lt k hk).1
    have h2 := hr2 k hk
    exact ⟨.inr (.inr (.inr (.inl ⟨h1, h2⟩))), hno k ⟨32, .inr (.inr (.inl rfl)), h1, h2⟩⟩
  · refine rrow_plain (flat_rrow (T := D) mk_ok (by decide) hn1 rfl fun k hk => ?_) t hD3 (fun _ h => h)
    have h1 := (hn1.lt k hk).1
    have h2 := hn2 k hk
    exact ⟨.inr (.inr (.inr (.inr ⟨h1, h2⟩))), hno k ⟨42, .inr (.inr (.inr rfl)), h1, h2⟩⟩

end Go.Proofs.Ytenbafkgfdlfpaa
/- The code's State: its answer, as its loop puts it together. -/
namespace Go.Proofs.Ytenbafkgfdlfpaa
open Go.RowKit
set_option linter.unusedVariables false

theorem rrow_own' {ρ α : Type} {enc : ρ → List Value} {size : Nat} {R : (Nat → Prop) → World → ρ → Prop} {pr : ρ → α} {D : Nat → Prop} {w : World} {base n : Nat} {e : TypeId} {s : Sl} {X : List ρ} {l : List α} (he : Enc enc size) (hs : 0 < size) (h : w.ownsRow base e size s.val n (flat enc X)) (hl : s.len = n) (hR : ∀ x ∈ X, R D w x) (hX : X.map pr = l) (hd : ∀ k, s.val.ownBlock = some k → D k) : RRow enc size R pr D w s l := by
  obtain ⟨ao, n', c⟩ := s
  obtain ⟨ao', c', e1, h1, h2, h3, h4⟩ := own_slice h
  cases e1
  have hn := own_len he hs h
  subst hX
  exact ⟨⟨by simp [hn], h3⟩, fun ad e => by obtain ⟨g, rfl, _⟩ := h4 ad e; subst e; exact hd g rfl, X, rfl, Has.of_own he hs h, hR⟩
theorem StA.put {w0 w : World} {y : WV} {n r0 b3 g2 gc : Nat} {z : SV} {Y : List GV} {D : Nat → Prop} (h : StA w0 y n r0 b3 z Y D w) (hz : z.gs = ⟨some ⟨g2, 0, none⟩, n, gc⟩) {k c : Nat} {x x' : GV} (hx : Y[k]? = some x) (hc : c < 25) {u : Value} (he : x'.cs = x.cs.set c u) (hg : ∀ w, CG D w x → CG D w x') :
    StA w0 y n r0 b3 z (Y.set k x') D (w.setCell ⟨g2, k * 25 + c, none⟩ u) := by
  have ho := h.gs
  have hgo := h.go
  have hd := h.d
  rw [hz] at ho hgo hd
  have h2 := hgo g2 rfl
  have t := set_turn w g2 (k * 25 + c) u
  have hD : ∀ b, D b → ¬ b = g2 := fun b hb e => (hd b hb).2.2.2 (by rw [e]; rfl)
  have hlt := (ho.lt g2 rfl)
  refine ⟨h.box.turn t (fun e => h2.2 e.symm), h.res.turn t (fun e => h2.1 e.symm), h.lo, ?_, h.gl, by rw [List.length_set]; exact h.yl, h.go, fun v hv => ?_, rrow_plain h.sd t hD (fun _ h => h), h.mi.keep t hD, h.dr.keep t hD, rrow_plain h.dn t hD (fun _ h => h), fun b hb => ?_, h.s, h.t.and t (fun i hi e => by omega)⟩
  · rw [hz]
    exact own_set gv_ok ho hx hc he rfl
  · rcases List.mem_or_eq_of_mem_set hv with hv | rfl
    · exact (h.g v hv).keep t hD
    · exact hg _ ((h.g x (List.mem_of_getElem? hx)).keep t hD)
  · have := h.d b hb
    have := t.size
    exact ⟨by omega, (h.d b hb).2⟩
theorem StA.new {w0 w w' : World} {y : WV} {n r0 b3 : Nat} {z : SV} {Y : List GV} {D : Nat → Prop} (h : StA w0 y n r0 b3 z Y D w) (t : Turn (fun _ => False) w w') : StA w0 y n r0 b3 z Y D w' :=
  ⟨h.box.new t, h.res.new t, h.lo, own_turn h.gs t (fun _ _ => id), h.gl, h.yl, h.go, fun v hv => (h.g v hv).keep t (fun _ _ => id), rrow_plain h.sd t (fun _ _ => id) (fun _ h => h), h.mi.keep t (fun _ _ => id), h.dr.keep t (fun _ _ => id), rrow_plain h.dn t (fun _ _ => id) (fun _ h => h), fun b hb => ⟨Nat.lt_of_lt_of_le (h.d b hb).1 t.size, (h.d b hb).2⟩, h.s, h.t.trans t⟩
/-- Blocks that are none of these turn; then the box is given another row of caches. -/
theorem StA.cached {w0 w w' : World} {y : WV} {n r0 b3 a9 : Nat} {z : SV} {Y : List GV} {D S : Nat → Prop} (h : StA w0 y n r0 b3 z Y D w) (t : Turn S w w') (hS : ∀ b, S b → a9 ≤ b) (hr : r0 < a9) (hb : b3 < a9) (hD : ∀ b, D b → b < a9) (hg : ∀ k, z.gs.val.ownBlock = some k → k < a9) (h0 : w0.heap.size ≤ a9) (ca : Sl) :
    StA w0 y n r0 b3 { z with ca := ca } Y D (w'.setCell ⟨b3, 6, none⟩ ca.val) := by
  have t2 := set_turn w' b3 6 ca.val
  have hD1 : ∀ b, D b → ¬ S b := fun b hb e => by have := hS b e; have := hD b hb; omega
  have hD2 : ∀ b, D b → ¬ b = b3 := fun b hb => (h.d b hb).2.2.1
  have hlo := h.lo
  refine ⟨?_, (h.res.turn t (fun e => by have := hS _ e; omega)).turn t2 (fun e => hlo.2.2 e), hlo, own_turn (own_turn h.gs t (fun k hk e => by have := hS _ e; have := hg k hk; omega)) t2 (fun k hk e => (h.go k hk).2 e), h.gl, h.yl, h.go, fun v hv => ((h.g v hv).keep t hD1).keep t2 hD2, rrow_plain (rrow_plain h.sd t hD1 (fun _ h => h)) t2 hD2 (fun _ h => h), (h.mi.keep t hD1).keep t2 hD2, (h.dr.keep t hD1).keep t2 hD2, rrow_plain (rrow_plain h.dn t hD1 (fun _ h => h)) t2 hD2 (fun _ h => h), fun b hb => ⟨Nat.lt_of_lt_of_le (h.d b hb).1 (Nat.le_trans t.size t2.size), (h.d b hb).2⟩, h.s, (h.t.and t (fun i hi e => by have := hS _ e; omega)).and t2 (fun i hi e => by omega)⟩
  exact (h.box.turn t (fun e => by have := hS _ e; omega)).set 6 ca.val

/-- Behind i rounds. -/
structure StL (w0 : World) (y : WV) (n r0 b3 : Nat) (z : SV) (Y0 : List GV) (D : Nat → Prop) (a9 i : Nat) (Yi : List GV) (ca : Sl) (X : List IV) (w : World) : Prop where
  a : StA w0 y n r0 b3 { z with ca := ca } Yi D w
  d9 : r0 < a9 ∧ b3 < a9 ∧ (∀ b, D b → b < a9) ∧ (∀ k, z.gs.val.ownBlock = some k → k < a9) ∧ w0.heap.size ≤ a9
  own : w.ownsRow a9 38 1 ca.val i (flat IV.cs X)
  cl : ca.len = i
  xl : X.length = i
  rows : ∀ (k : Nat), k < i → ∃ x, X[k]? = some x ∧ RI .i64 (fun b => a9 ≤ b ∧ b < w.heap.size ∧ ca.val.ownBlock ≠ some b) w x.s (y.pl.M k)
  gs : ∀ (k : Nat) x, Y0[k]? = some x → Yi[k]? = some (if k < i then { x with g := merge x (y.B.getD k (0, false)) } else x)
  lim : a9 ≤ w.heap.size
theorem StL.new {w0 w w' : World} {y : WV} {n r0 b3 : Nat} {z : SV} {Y0 : List GV} {D : Nat → Prop} {a9 i : Nat} {Yi : List GV} {ca : Sl} {X : List IV} (h : StL w0 y n r0 b3 z Y0 D a9 i Yi ca X w) (t : Turn (fun _ => False) w w') : StL w0 y n r0 b3 z Y0 D a9 i Yi ca X w' :=
  ⟨h.a.new t, h.d9, own_turn h.own t (fun _ _ => id), h.cl, h.xl, fun k hk => by
    obtain ⟨x, h1, h2⟩ := h.rows k hk
    exact ⟨x, h1, (h2.keep t (fun _ _ => id)).mono (fun b hb => ⟨hb.1, Nat.lt_of_lt_of_le hb.2.1 t.size, hb.2.2⟩)⟩, h.gs, Nat.le_trans h.lim t.size⟩
/-- Status and token of the next one are written. -/
theorem StL.told {w0 w : World} {y : WV} {n r0 b3 g2 gc : Nat} {z : SV} {Y0 : List GV} {D : Nat → Prop} {a9 i : Nat} {Yi : List GV} {ca : Sl} {X : List IV} (h : StL w0 y n r0 b3 z Y0 D a9 i Yi ca X w) (hz : z.gs = ⟨some ⟨g2, 0, none⟩, n, gc⟩) {x : GV} {s : Int} {t : Bool} (hx : Y0[i]? = some x) (hb : y.B[i]? = some (s, t)) {w2 : World} (hw : w2 = (w.setCell ⟨g2, i * 25 + 3, none⟩ (.int .i64 s)).setCell ⟨g2, i * 25 + 4, none⟩ (.bool t)) :
    ∃ Yn, StA w0 y n r0 b3 { z with ca := ca } Yn D w2 ∧ w2.ownsRow a9 38 1 ca.val i (flat IV.cs X) ∧ Turn (fun b => b = g2) w w2 ∧ (∀ (k : Nat), k < i → ∃ x, X[k]? = some x ∧ RI .i64 (fun b => a9 ≤ b ∧ b < w2.heap.size ∧ ca.val.ownBlock ≠ some b) w2 x.s (y.pl.M k)) ∧
      ∀ (k : Nat) x, Y0[k]? = some x → Yn[k]? = some (if k < i + 1 then { x with g := merge x (y.B.getD k (0, false)) } else x) := by
  have hyx := h.gs i x hx
  rw [if_neg (Nat.lt_irrefl i)] at hyx
  have hil := (List.getElem?_eq_some_iff.1 hyx).1
  have h1 := h.a.put hz (x' := { x with g := { x.g with status := s } }) hyx (c := 3) (by decide) (u := .int .i64 s) rfl (fun w h => ⟨h.ops, h.order, h.locks, h.sgs, h.wakes⟩)
  have h2 := h1.put hz (x' := { x with g := merge x (s, t) }) (k := i) (x := { x with g := { x.g with status := s } }) (by simp [hil]) (c := 4) (by decide) (u := .bool t) rfl (fun w h => ⟨h.ops, h.order, h.locks, h.sgs, h.wakes⟩)
  rw [List.set_set, ← hw] at h2
  have tt : Turn (fun b => b = g2) w w2 := by
    rw [hw]
    exact (set_turn w g2 _ _).trans (set_turn _ g2 _ _)
  have hg9 : g2 < a9 := h.d9.2.2.2.1 g2 (by rw [hz]; rfl)
  refine ⟨_, h2, own_turn h.own tt (fun k hk e => by have := (h.own.lt k hk).1; omega), tt, fun k hk => ?_, fun k v hv => ?_⟩
  · obtain ⟨x, q1, q2⟩ := h.rows k hk
    exact ⟨x, q1, (q2.keep tt (fun b hb e => by have := hb.1; omega)).mono (fun b hb => ⟨hb.1, Nat.lt_of_lt_of_le hb.2.1 tt.size, hb.2.2⟩)⟩
  · by_cases hki : k = i
    · subst hki
      obtain rfl : x = v := Option.some.inj (hx.symm.trans hv)
      rw [if_pos (Nat.lt_succ_self k)]
      simp [hil, List.getD, hb]
    · rw [List.getElem?_set_ne (fun e => hki e.symm), h.gs k v hv]
      by_cases hk : k < i
      · rw [if_pos hk, if_pos (by omega)]
      · rw [if_neg hk, if_neg (by omega)]
/-- One more cache behind the others. -/
theorem stl_more {w0 w2 w3 w4 w5 : World} {y : WV} {n r0 b3 : Nat} {z : SV} {Y0 Yn : List GV} {D : Nat → Prop} {a9 i bs g c : Nat} {ca : Sl} {X : List IV} (hd : r0 < a9 ∧ b3 < a9 ∧ (∀ b, D b → b < a9) ∧ (∀ k, z.gs.val.ownBlock = some k → k < a9) ∧ w0.heap.size ≤ a9)
    (hA : StA w0 y n r0 b3 { z with ca := ca } Yn D w2) (cl : ca.len = i) (xl : X.length = i) (h92 : a9 ≤ w2.heap.size) (hca : ∀ k, ca.val.ownBlock = some k → a9 ≤ k ∧ k < w2.heap.size)
    (rows : ∀ (k : Nat), k < i → ∃ x, X[k]? = some x ∧ RI .i64 (fun b => a9 ≤ b ∧ b < w2.heap.size ∧ ca.val.ownBlock ≠ some b) w2 x.s (y.pl.M k))
    (gs : ∀ (k : Nat) x, Y0[k]? = some x → Yn[k]? = some (if k < i + 1 then { x with g := merge x (y.B.getD k (0, false)) } else x))
    (t23 : Turn (fun _ => False) w2 w3) (hrow : Row .i64 3 w3 bs (y.pl.M i)) (hbs : w2.heap.size ≤ bs) (hlen : (y.pl.M i).length ≤ 1000000)
    (t34 : Turn (fun _ => False) w3 w4) (own : w5.ownsRow a9 38 1 (.slice (some ⟨g, 0, none⟩) (i + 1) c) (i + 1) (flat IV.cs (X ++ [⟨y.pl.M i, ⟨some ⟨bs, 0, none⟩, (y.pl.M i).length, (y.pl.M i).length⟩⟩])))
    (t45 : Turn (fun b => ca.val.ownBlock = some b) w4 w5) (hg : ca.val.ownBlock = some g ∨ w4.heap.size ≤ g) :
    StL w0 y n r0 b3 z Y0 D a9 (i + 1) Yn ⟨some ⟨g, 0, none⟩, i + 1, c⟩ (X ++ [⟨y.pl.M i, ⟨some ⟨bs, 0, none⟩, (y.pl.M i).length, (y.pl.M i).length⟩⟩]) (w5.setCell ⟨b3, 6, none⟩ (.slice (some ⟨g, 0, none⟩) (i + 1) c)) := by
  have t24 := t23.trans t34
  have t25 : Turn (fun b => ca.val.ownBlock = some b) w2 w5 := (t24.mono (fun _ _ e => e.elim)).trans t45
  have t56 := set_turn w5 b3 6 (.slice (some ⟨g, 0, none⟩) (i + 1) c)
  have hA' := hA.cached t25 (a9 := a9) (fun b e => (hca b e).1) hd.1 hd.2.1 hd.2.2.1 hd.2.2.2.1 hd.2.2.2.2 ⟨some ⟨g, 0, none⟩, i + 1, c⟩
  have z3 := t23.size
  have z4 := t34.size
  have z5 := t45.size
  have hglo := (own.lt g rfl).1
  have hb3 := hd.2.1
  have hrl := hrow.lt
  refine ⟨hA', hd, own_turn own t56 (fun k hk e => by have := (own.lt k hk).1; omega), rfl, by simp [xl], fun k hk => ?_, gs, by have := t56.size; omega⟩
  by_cases hki : k = i
  · subst hki
    refine ⟨⟨y.pl.M k, ⟨some ⟨bs, 0, none⟩, (y.pl.M k).length, (y.pl.M k).length⟩⟩, by simp [xl], ?_⟩
    have hbg : bs ≠ g := by
      rcases hg with e | e
      · have := (hca g e).2; omega
      · omega
    have r3 : RI .i64 (fun b => b = bs) w3 ⟨some ⟨bs, 0, none⟩, (y.pl.M k).length, (y.pl.M k).length⟩ (y.pl.M k) := ⟨⟨rfl, Nat.le_refl _, by show (y.pl.M k).length ≤ maxLen; unfold maxLen; omega, fun e => by cases e⟩, hrow.ints, fun ad e => by cases e; rfl⟩
    refine (((r3.keep t34 (fun _ _ => id)).keep t45 (fun b hb e => ?_)).keep t56 (fun b hb e => by omega)).mono (fun b hb => ?_)
    · have := hca b e; omega
    · refine ⟨by omega, by have := t56.size; omega, fun e => hbg ?_⟩
      have e' : g = b := Option.some.inj e
      omega
  · obtain ⟨x, q1, q2⟩ := rows k (by omega)
    refine ⟨x, by rw [List.getElem?_append_left (by omega)]; exact q1, ((q2.keep t25 (fun b hb e => hb.2.2 e)).keep t56 (fun b hb e => by have := hb.1; omega)).mono (fun b hb => ⟨hb.1, by have := hb.2.1; have := t56.size; omega, fun e => ?_⟩)⟩
    have e' : g = b := Option.some.inj e
    rcases hg with h | h
    · exact hb.2.2 (by rw [← e']; exact h)
    · have := hb.2.1; omega
theorem cg_read {D : Nat → Prop} {w : World} {x : GV} (h : CG D w x) (hd : ∀ b, D b → b < w.heap.size) : RG (fun b => b < w.heap.size) w x :=
  ⟨⟨w, h.ops.ops, Turn.refl _ _, fun _ h => h⟩, h.order.mono hd, h.locks.mono hd, h.sgs.mono hd, h.wakes.mono hd⟩
/-- All of it: a state that is read. -/
theorem StL.all {w0 w : World} {y : WV} {n r0 b3 : Nat} {z : SV} {Y0 : List GV} {D : Nat → Prop} {a9 : Nat} {Yi : List GV} {ca : Sl} {X : List IV} (h : StL w0 y n r0 b3 z Y0 D a9 n Yi ca X w) (hY : Y0.map GV.g = y.G.map GV.g) (hz : z.ch = zSl ∧ z.s = y.st) (hn : y.G.length = n ∧ y.B.length = n ∧ y.pl.n = n) {w2 : World} (t : Turn (fun b => b = r0) w w2) :
    RS (fun b => b < w2.heap.size) w2 { z with ca := ca } := by
  have ha := h.a
  have hd : ∀ b, D b → b < w2.heap.size := fun b hb => by have := (ha.d b hb).1; have := t.size; omega
  have hD : ∀ b, D b → ¬ b = r0 := fun b hb => (ha.d b hb).2.1
  have hgs := own_turn ha.gs t (fun k hk e => (ha.go k hk).1 e)
  have hmi := ha.mi.keep t hD
  have hr9 := h.d9.1
  have hY0 : Y0.length = n := by have := congrArg List.length hY; simpa [hn.1] using this
  have hcl := h.cl
  have hs : z.s = y.st := hz.2
  refine ⟨?_, ?_, ?_, ?_, ?_, ?_⟩
  · show RGs _ w2 z.gs z.s.gs
    rw [hs]
    refine rrow_own' gv_ok (by decide) hgs ha.gl (fun x hx => cg_read ((ha.g x hx).keep t hD) hd) ?_ (fun k hk => (hgs.lt k hk).2)
    show Yi.map GV.g = List.zipWith merge y.G y.B
    apply List.ext_getElem?
    intro k
    rw [List.getElem?_map, List.getElem?_zipWith]
    by_cases hk : k < n
    · obtain ⟨x, hx⟩ : ∃ x, Y0[k]? = some x := ⟨_, List.getElem?_eq_getElem (by omega)⟩
      obtain ⟨v, hv⟩ : ∃ v, y.G[k]? = some v := ⟨_, List.getElem?_eq_getElem (by omega)⟩
      obtain ⟨b, hb⟩ : ∃ b, y.B[k]? = some b := ⟨_, List.getElem?_eq_getElem (by omega)⟩
      have hxv : x.g = v.g := by
        have := congrArg (fun l : List Gr => l[k]?) hY
        simpa [hx, hv] using this
      rw [h.gs k x hx, if_pos hk, hv, hb]
      simp [List.getD, hb, merge, hxv]
    · have h1 : Yi[k]? = none := List.getElem?_eq_none (by rw [ha.yl]; omega)
      have h2 : y.G[k]? = none := List.getElem?_eq_none (by omega)
      rw [h1, h2]
      simp
  · show RCh _ w2 z.ch z.s.chans
    rw [hs, hz.1]
    exact ⟨⟨rfl, fun _ => rfl⟩, fun ad e => (by cases e), [], rfl, fun j x hx => (by simp at hx), fun x hx => (by cases hx)⟩
  · show RSd _ w2 z.sd z.s.sudogs
    rw [hs]
    exact rrow_plain ha.sd t hD hd
  · show RPl _ w2 ca z.mi z.s.pool
    rw [hs]
    have hwn : y.st.pool = y.pl := rfl
    rw [hwn]
    have hown := own_turn h.own t (fun k hk e => by have := (h.own.lt k hk).1; omega)
    obtain ⟨ao, len, c⟩ := ca
    obtain ⟨ao', c', e1, h1, h2, h3, h4⟩ := own_slice hown
    cases e1
    refine ⟨⟨fun j hj => ?_, hmi.has, fun x e => hd _ (hmi.dom x e), hmi.ok.nil, fun x e => ?_, h3⟩, hn.2.2.symm, hmi.ok.len⟩
    · rw [hn.2.2] at hj
      obtain ⟨v, q1, q2'⟩ := h.rows j hj
      have q2 := q2'.keep t (fun b hb e => by have := hb.1; omega)
      obtain ⟨ad, q3, q4⟩ := Has.of_own iv_ok (by decide) hown j v q1
      refine ⟨ad, v.s.ao, v.s.cap, q3, ?_, q2.has, fun x e => by have := (q2.dom x e).2.1; have := t.size; omega, q2.ok.nil, by rw [← q2.ok.len]; exact q2.ok.cap⟩
      have := q4 0 _ rfl
      rw [add_two, Nat.add_zero, Nat.mul_one] at this
      rw [this]
      show some v.s.val = _
      rw [← q2.ok.len]
      rfl
    · obtain ⟨g, rfl, _, hg⟩ := h4 x e
      exact hg
  · show RI .u16 _ w2 z.dr z.s.draws
    rw [hs]
    exact (ha.dr.keep t hD).mono hd
  · show RMk _ w2 z.dn z.s.done
    rw [hs]
    exact rrow_plain ha.dn t hD hd

end Go.Proofs.Ytenbafkgfdlfpaa
