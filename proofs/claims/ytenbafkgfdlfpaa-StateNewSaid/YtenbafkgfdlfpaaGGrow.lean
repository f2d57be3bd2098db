/- Rows of cases, of ops and of lists of ops that grow by one. General, over any program. -/
import Derived.Test.YtenbafkgfdlfpaaGNest
namespace Go.Proofs.Ytenbafkgfdlfpaa
open Go.RowKit

/-- A row of cases of the call's own. -/
structure GCs (w : World) (eC : TypeId) (base : Nat) (s : Sl) (L : List Cas) : Prop where
  len : s.len = L.length
  own : w.ownsRow base eC 3 s.val L.length (flat encCV L)
section
variable {w w' : World} {eC eO eL : TypeId} {base : Nat} {S : Nat → Prop}
theorem GCs.done {s : Sl} {L : List Cas} (h : GCs w eC base s L) : BCs w eC s L := by
  obtain ⟨ok, ty⟩ := own_sl h.own h.len
  have h2 : w.ownsRow base eC 3 (.slice s.ao L.length s.cap) L.length (flat encCV L) := by
    have h1 := h.own
    rw [← h.len] at h1 ⊢
    exact h1
  exact ⟨⟨ok, Has.of_own encCV_ok (by decide) h2⟩, ty⟩
theorem GCs.new {s : Sl} {L : List Cas} (h : GCs w eC base s L) (t : Turn (fun _ => False) w w') : GCs w' eC base s L := ⟨h.len, own_turn h.own t (fun _ _ => id)⟩
theorem GCs.apart {s : Sl} {L : List Cas} (h : GCs w eC base s L) (t : Turn S w w') (ha : Apart w eC S) : GCs w' eC base s L :=
  ⟨h.len, own_turn h.own t (fun k hk => by obtain ⟨cur, hcur⟩ := own_type h.own k hk; exact ha.not hcur)⟩
theorem GCs.nil (w : World) (eC : TypeId) (base : Nat) : GCs w eC base ⟨none, 0, 0⟩ [] := ⟨rfl, ⟨rfl, .inl ⟨rfl, rfl⟩⟩⟩
theorem GOps.nil (w : World) (eC eO : TypeId) (base : Nat) : GOps w eC eO base ⟨none, 0, 0⟩ [] := ⟨rfl, [], rfl, ⟨rfl, .inl ⟨rfl, rfl⟩⟩, fun i r o hr _ => by simp at hr⟩
theorem GPlan.nil (w : World) (eC eO eL : TypeId) (base : Nat) : GPlan w eC eO eL base ⟨none, 0, 0⟩ [] := ⟨rfl, [], rfl, ⟨rfl, .inl ⟨rfl, rfl⟩⟩, fun i r o hr _ => by simp at hr⟩
/-- '[]T{}': an empty row in a block of its own. -/
theorem GCs.made {g : Nat} (h : w.heap[g]? = some (.cells #[] eC (0, 0))) (hb : base ≤ g) : GCs w eC base ⟨some ⟨g, 0, none⟩, 0, 0⟩ [] := ⟨rfl, own_made h hb⟩
theorem GOps.made {g : Nat} (h : w.heap[g]? = some (.cells #[] eO (0, 0))) (hb : base ≤ g) : GOps w eC eO base ⟨some ⟨g, 0, none⟩, 0, 0⟩ [] := ⟨rfl, [], rfl, own_made h hb, fun i r o hr _ => by simp at hr⟩
theorem GPlan.made {g : Nat} (h : w.heap[g]? = some (.cells #[] eL (0, 0))) (hb : base ≤ g) : GPlan w eC eO eL base ⟨some ⟨g, 0, none⟩, 0, 0⟩ [] := ⟨rfl, [], rfl, own_made h hb, fun i r o hr _ => by simp at hr⟩
theorem GOps.less {base' : Nat} {s : Sl} {l : List Opr} (h : GOps w eC eO base s l) (hb : base' ≤ base) : GOps w eC eO base' s l := by
  obtain ⟨R, h1, h2, h3⟩ := h.has
  exact ⟨h.len, R, h1, own_less h2 hb, h3⟩
theorem GPlan.less {base' : Nat} {s : Sl} {p : List (List Opr)} (h : GPlan w eC eO eL base s p) (hb : base' ≤ base) : GPlan w eC eO eL base' s p := by
  obtain ⟨R, h1, h2, h3⟩ := h.has
  exact ⟨h.len, R, h1, own_less h2 hb, h3⟩
theorem GCs.less {base' : Nat} {s : Sl} {L : List Cas} (h : GCs w eC base s L) (hb : base' ≤ base) : GCs w eC base' s L := ⟨h.len, own_less h.own hb⟩

theorem snoc_each {α β : Type} {R : List α} {l : List β} {x : α} {y : β} {φ : α → β → Prop} (hl : R.length = l.length) (h : ∀ (i : Nat) r o, R[i]? = some r → l[i]? = some o → φ r o) (hxy : φ x y) : ∀ (i : Nat) r o, (R ++ [x])[i]? = some r → (l ++ [y])[i]? = some o → φ r o := by
  intro i r o hr ho
  rcases Nat.lt_or_ge i R.length with hi | hi
  · rw [List.getElem?_append_left hi] at hr
    rw [List.getElem?_append_left (by omega)] at ho
    exact h i r o hr ho
  · rw [List.getElem?_append_right hi] at hr
    rw [List.getElem?_append_right (by omega)] at ho
    have e : i - R.length = 0 := by
      rcases Nat.eq_zero_or_pos (i - R.length) with h0 | h0
      · exact h0
      · rw [List.getElem?_eq_none (by simp only [List.length_singleton]; omega)] at hr; cases hr
    rw [e] at hr
    rw [show i - l.length = 0 by omega] at ho
    obtain rfl : x = r := by simpa using hr
    obtain rfl : y = o := by simpa using ho
    exact hxy

variable {P : Program} {z : Value} {t : TypeId} {by_ : Nat} {w0 : World} {ops : Array Oper} {rest : List Oper} {o : Oper} {a : Act} {Q : Exit → Act → World → Prop}
/-- 'append(s, c)'; the block of c is made just ahead. -/
theorem wpList_append_case (ht : P.underlying t = some (.slice eC)) (hinfo : (P.info? eC).map (fun i => (i.zero, i.size, i.bytes)) = some (some z, 3, by_)) (hzs : z.cells.size = 3) (hby : by_ ≤ 100)
    (hgd : o.guard = none) (s x : Operand) (ho : o.op = .call { callee := .builtin .append, args := #[s, x], argTypes := #[t, t] }) (v : Sl) (L : List Cas) (c : Cas) {Y : Array Value} (hY : Y = (encCV c).toArray) (hs : a.eval s = v.val) (G : GCs w0 eC base v L)
    (hx : a.eval x = .slice (some ⟨w0.heap.size, 0, none⟩) 1 1) (n' : Nat) (hn' : L.length + 1 = n') (hl : n' ≤ 1000000) (hb : base ≤ w0.heap.size)
    (h : ∀ g cap w', base ≤ g → Hid (GCs w' eC base ⟨some ⟨g, 0, none⟩, n', cap⟩ (L ++ [c])) → Hid (Turn (fun i => v.val.ownBlock = some i) w0 w') → Hid (v.val.ownBlock = some g ∨ w0.heap.size ≤ g) → wpList P ops Q rest (a.put o.dst (.slice (some ⟨g, 0, none⟩) n' cap)) w') :
    wpList P ops Q (o :: rest) a (w0.alloc (.cells Y eC)) := by
  refine wpList_append_flat_one encCV_ok (by decide) ht hinfo hzs hby hgd s x ho base v.val L L.length c hY hs G.own hx n' hn' hl hb fun g cap w' hg h1 h2 h3 => h g cap w' hg (Lib.hid ⟨?_, ?_⟩) h2 h3
  · show n' = (L ++ [c]).length
    rw [List.length_append]; exact hn'.symm
  · have e : (L ++ [c]).length = n' := by rw [List.length_append]; exact hn'
    rw [e]
    exact h1.out
/-- 'append(s, y)' of an op; its block is made just ahead. -/
theorem wpList_append_op (hne : eO ≠ eC) (ht : P.underlying t = some (.slice eO)) (hinfo : (P.info? eO).map (fun i => (i.zero, i.size, i.bytes)) = some (some z, 6, by_)) (hzs : z.cells.size = 6) (hby : by_ ≤ 100)
    (hgd : o.guard = none) (s x : Operand) (ho : o.op = .call { callee := .builtin .append, args := #[s, x], argTypes := #[t, t] }) (v : Sl) (l : List Opr) (y : OpV) (p : Opr) {Y : Array Value} (hY : Y = (encOV y).toArray) (hs : a.eval s = v.val) (G : GOps w0 eC eO base v l) (B : BOp w0 eC y p)
    (hx : a.eval x = .slice (some ⟨w0.heap.size, 0, none⟩) 1 1) (n' : Nat) (hn' : l.length + 1 = n') (hl : n' ≤ 1000000) (hb : base ≤ w0.heap.size)
    (h : ∀ g cap w', base ≤ g → Hid (GOps w' eC eO base ⟨some ⟨g, 0, none⟩, n', cap⟩ (l ++ [p])) → Hid (Turn (fun i => v.val.ownBlock = some i) w0 w') → Hid (Apart w0 eC (fun i => v.val.ownBlock = some i)) → wpList P ops Q rest (a.put o.dst (.slice (some ⟨g, 0, none⟩) n' cap)) w') :
    wpList P ops Q (o :: rest) a (w0.alloc (.cells Y eO)) := by
  obtain ⟨R, h1, h2, h3⟩ := G.has
  have hap : Apart w0 eC (fun i => v.val.ownBlock = some i) := apart_own h2 hne
  refine wpList_append_flat_one encOV_ok (by decide) ht hinfo hzs hby hgd s x ho base v.val R l.length y hY hs h2 hx n' hn' hl hb fun g cap w' hg k1 k2 _ => h g cap w' hg (Lib.hid ⟨?_, R ++ [y], ?_, ?_, ?_⟩) k2 (Lib.hid hap)
  · show n' = (l ++ [p]).length
    rw [List.length_append]; exact hn'.symm
  · rw [List.length_append, List.length_append, h1]; rfl
  · have e : (l ++ [p]).length = n' := by rw [List.length_append]; exact hn'
    rw [e]
    exact k1.out
  · exact snoc_each h1 (fun i r o hr ho => (h3 i r o hr ho).apart k2.out hap) (B.apart k2.out hap)
/-- 'append(s, l)' of a list of ops; the block of its slice is made just ahead. -/
theorem wpList_append_ops (hneC : eL ≠ eC) (hneO : eL ≠ eO) (ht : P.underlying t = some (.slice eL)) (hinfo : (P.info? eL).map (fun i => (i.zero, i.size, i.bytes)) = some (some z, 1, by_)) (hzs : z.cells.size = 1) (hby : by_ ≤ 100)
    (hgd : o.guard = none) (s x : Operand) (ho : o.op = .call { callee := .builtin .append, args := #[s, x], argTypes := #[t, t] }) (v : Sl) (p : List (List Opr)) (y : Sl) (l : List Opr) {Y : Array Value} (hY : Y = (encSV y).toArray) (hs : a.eval s = v.val) (G : GPlan w0 eC eO eL base v p) (B : BOps w0 eC eO y l)
    (hx : a.eval x = .slice (some ⟨w0.heap.size, 0, none⟩) 1 1) (n' : Nat) (hn' : p.length + 1 = n') (hl : n' ≤ 1000000) (hb : base ≤ w0.heap.size)
    (h : ∀ g cap w', base ≤ g → Hid (GPlan w' eC eO eL base ⟨some ⟨g, 0, none⟩, n', cap⟩ (p ++ [l])) → Hid (Turn (fun i => v.val.ownBlock = some i) w0 w') → Hid (Apart w0 eC (fun i => v.val.ownBlock = some i) ∧ Apart w0 eO (fun i => v.val.ownBlock = some i)) → wpList P ops Q rest (a.put o.dst (.slice (some ⟨g, 0, none⟩) n' cap)) w') :
    wpList P ops Q (o :: rest) a (w0.alloc (.cells Y eL)) := by
  obtain ⟨R, h1, h2, h3⟩ := G.has
  have hapC : Apart w0 eC (fun i => v.val.ownBlock = some i) := apart_own h2 hneC
  have hapO : Apart w0 eO (fun i => v.val.ownBlock = some i) := apart_own h2 hneO
  refine wpList_append_flat_one encSV_ok (by decide) ht hinfo hzs hby hgd s x ho base v.val R p.length y hY hs h2 hx n' hn' hl hb fun g cap w' hg k1 k2 _ => h g cap w' hg (Lib.hid ⟨?_, R ++ [y], ?_, ?_, ?_⟩) k2 (Lib.hid ⟨hapC, hapO⟩)
  · show n' = (p ++ [l]).length
    rw [List.length_append]; exact hn'.symm
  · rw [List.length_append, List.length_append, h1]; rfl
  · have e : (p ++ [l]).length = n' := by rw [List.length_append]; exact hn'
    rw [e]
    exact k1.out
  · exact snoc_each h1 (fun i r o hr ho => (h3 i r o hr ho).apart k2.out hapC hapO) (B.apart k2.out hapC hapO)
end

end Go.Proofs.Ytenbafkgfdlfpaa
