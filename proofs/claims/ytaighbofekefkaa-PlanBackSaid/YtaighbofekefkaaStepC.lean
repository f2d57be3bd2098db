/- An append of one case at a step of a region that draws. General, over any program. -/
import Derived.Test.YtaighbofekefkaaGGrow
import Derived.Test.YtaighbofekefkaaGSkip
namespace Go.Proofs.Ytaighbofekefkaa
open Go.RowKit

section
variable {α : Type} {enc : α → List Value} {size : Nat}
/-- 'append(v, y)' of such things at a step; the block of y is b. -/
theorem step_append_flat_one {P : Program} {z : Value} {t e : TypeId} {by_ : Nat} (he : Enc enc size) (hsz : 0 < size) (ht : P.underlying t = some (.slice e)) (hinfo : (P.info? e).map (fun i => (i.zero, i.size, i.bytes)) = some (some z, size, by_)) (hzs : z.cells.size = size) (hby : by_ ≤ 100)
    {w : World} {ops : Array Oper} {o : Oper} {a : Act} {K : Act → World → Prop} {Q : Exit → Act → World → Prop} {E : Prop} (hgd : o.guard = none) (s x : Operand)
    (ho : o.op = .call { callee := .builtin .append, args := #[s, x], argTypes := #[t, t] }) (base : Nat) (v : Value) (L : List α) (n : Nat) (hs : a.eval s = v) (hown : w.ownsRow base e size v n (flat enc L)) (b : Nat) (y : α)
    (hx : a.eval x = .slice (some ⟨b, 0, none⟩) 1 1) (hr : w.heap[b]? = some (.cells (enc y).toArray e (0, 0))) (n' : Nat) (hn' : n + 1 = n') (hl : n' ≤ 1000000) (hb : base ≤ w.heap.size)
    (h : ∀ g c w', base ≤ g → Hid (w'.ownsRow base e size (.slice (some ⟨g, 0, none⟩) n' c) n' (flat enc (L ++ [y]))) → Hid (Turn (fun i => v.ownBlock = some i) w w') → Hid (v.ownBlock = some g ∨ w.heap.size ≤ g) → K (a.put o.dst (.slice (some ⟨g, 0, none⟩) n' c)) w') :
    if Region.wanted o (yielded ops a.tmps) = true then Oper.wp P o a w K Q else E := by
  have hw : Region.wanted o (yielded ops a.tmps) = true := by simp [Region.wanted, hgd]
  rw [if_pos hw]
  subst hn'
  obtain ⟨i0, hi, hz0, hz1, hz2⟩ := info_parts hinfo
  have hbb : (n + 1) * by_ ≤ 1000000 * 100 := Nat.mul_le_mul hl hby
  have hnews : ∀ (j : Nat) (u : Value), (flat enc [y])[j]? = some u → w.cell? ((⟨b, 0, none⟩ : Addr).add j) = some u := by
    intro j u hu
    rw [flat_one] at hu
    rw [Addr.add_lit, Nat.zero_add]
    unfold World.cell?
    rw [hr]
    simpa using hu
  obtain ⟨v', w', hrun, h1, h2, _, h3⟩ := run_append_own_at (P := P) w base t o.type e i0 z size by_ ht hi hz0 hz1 hz2 hzs hsz v n (flat enc L) hown ⟨b, 0, none⟩ 1 1 (flat enc [y]) (by rw [flat_length he]; rfl) hnews (fun u hu => flat_one' he hu) (by unfold maxLen; omega) (by omega) hb
  unfold Oper.wp execOp
  simp only [ho, resolve, invoke, builtin, Sem.run_bind, Sem.run_pure, Result.andThen_ok, List.map_toArray, List.map_cons, List.map_nil, hs, hx, hrun]
  rw [← flat_append] at h1
  rcases h1.2 with ⟨_, h0⟩ | ⟨g, cap, cur, rfl, hb', _⟩
  · omega
  · refine h g cap w' hb' h1 ((Turn.refl _ w).grown h2 (fun i hi => .inl hi)) ?_
    rcases h3 with h4 | h4
    · exact Or.inl h4.symm
    · right
      have h5 : g = w.heap.size := by simpa [Value.ownBlock] using h4
      omega
end

theorem step_append_case {P : Program} {z : Value} {t eC : TypeId} {by_ base : Nat} (ht : P.underlying t = some (.slice eC)) (hinfo : (P.info? eC).map (fun i => (i.zero, i.size, i.bytes)) = some (some z, 3, by_)) (hzs : z.cells.size = 3) (hby : by_ ≤ 100)
    {w : World} {ops : Array Oper} {o : Oper} {a : Act} {K : Act → World → Prop} {Q : Exit → Act → World → Prop} {E : Prop} (hgd : o.guard = none) (s x : Operand)
    (ho : o.op = .call { callee := .builtin .append, args := #[s, x], argTypes := #[t, t] }) (v : Sl) (L : List Cas) (c : Cas) (hs : a.eval s = v.val) (G : GCs w eC base v L) (b : Nat)
    (hx : a.eval x = .slice (some ⟨b, 0, none⟩) 1 1) (hr : w.heap[b]? = some (.cells #[.bool c.send, .int .i64 c.ch, .int .i64 c.v] eC (0, 0))) (n' : Nat) (hn' : L.length + 1 = n') (hl : n' ≤ 1000000) (hb : base ≤ w.heap.size)
    (h : ∀ g cap w', base ≤ g → Hid (GCs w' eC base ⟨some ⟨g, 0, none⟩, n', cap⟩ (L ++ [c])) → Hid (Turn (fun i => v.val.ownBlock = some i) w w') → K (a.put o.dst (.slice (some ⟨g, 0, none⟩) n' cap)) w') :
    if Region.wanted o (yielded ops a.tmps) = true then Oper.wp P o a w K Q else E := by
  refine step_append_flat_one encCV_ok (by decide) ht hinfo hzs hby hgd s x ho base v.val L L.length hs G.own b c hx hr n' hn' hl hb fun g cap w' hg h1 h2 h3 => h g cap w' hg (Lib.hid ⟨?_, ?_⟩) h2
  · show n' = (L ++ [c]).length
    rw [List.length_append]; exact hn'.symm
  · have e : (L ++ [c]).length = n' := by rw [List.length_append]; exact hn'
    rw [e]
    exact h1.out

end Go.Proofs.Ytaighbofekefkaa
