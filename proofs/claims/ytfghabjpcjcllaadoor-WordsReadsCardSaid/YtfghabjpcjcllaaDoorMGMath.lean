/- Texts put together: GMath, GMath2. -/
import Derived.Test.YtfghabjpcjcllaaDoorMNum
import Derived.Test.YtfghabjpcjcllaaDoorMPure
import Derived.Lib.Split
import Derived.Lib.CountLaws
import Derived.Lib.ParseIntB
/- What the code takes a line for; that a line is right only if it is written so. Mathematics alone. -/
namespace Go.Proofs.YtfghabjpcjcllaaDoor

/-! ### A text cut -/
theorem index_at {p s sep : Tx} {c0 c1 : UInt8} {t : Tx} (hs : sep = c0 :: c1 :: t) (hne : c0 ≠ c1) (hp : c1 ∉ p) : Lib.index (p ++ (sep ++ s)) sep = p.length := by
  refine Lib.index_first (by simp) ?_ ?_
  · unfold Lib.occAt
    rw [List.drop_left]
    simp
  · intro j hj
    rw [Bool.eq_false_iff]
    intro h
    have h1 := Lib.occAt_second hs h
    rcases Nat.lt_or_ge (j + 1) p.length with h2 | h2
    · rw [List.getElem?_append_left h2] at h1
      exact hp (List.mem_of_getElem? h1)
    · rw [List.getElem?_append_right h2, show j + 1 - p.length = 0 by omega, hs] at h1
      exact hne (by simpa using h1)
theorem index_no {p sep : Tx} {c0 c1 : UInt8} {t : Tx} (hs : sep = c0 :: c1 :: t) (hp : c1 ∉ p) : Lib.index p sep = -1 := by
  refine Lib.index_none fun j hj => ?_
  rw [Bool.eq_false_iff]
  intro h
  exact hp (List.mem_of_getElem? (Lib.occAt_second hs h))
theorem index1_at {p s : Tx} {c : UInt8} (hp : c ∉ p) : Lib.index (p ++ c :: s) [c] = p.length := by
  refine Lib.index_first (by simp) ?_ ?_
  · unfold Lib.occAt
    rw [List.drop_left]
    simp
  · intro j hj
    rw [Bool.eq_false_iff]
    intro h
    have h1 := Lib.occAt_head (t := []) rfl h
    rw [List.getElem?_append_left hj] at h1
    exact hp (List.mem_of_getElem? h1)
theorem index1_no {p : Tx} {c : UInt8} (hp : c ∉ p) : Lib.index p [c] = -1 := by
  refine Lib.index_none fun j hj => ?_
  rw [Bool.eq_false_iff]
  intro h
  exact hp (List.mem_of_getElem? (Lib.occAt_head (t := []) rfl h))
theorem cut_at {p s : Tx} {c : UInt8} (hp : c ∉ p) : Lib.cut (p ++ c :: s) [c] = (p, s, true) := by
  unfold Lib.cut
  rw [index1_at hp, if_pos (by omega)]
  simp
theorem cut_no {p : Tx} {c : UInt8} (hp : c ∉ p) : Lib.cut p [c] = (p, [], false) := by
  unfold Lib.cut
  rw [index1_no hp, if_neg (by omega)]

def sepB : Tx := [32, 124, 32]
/-- A line's pieces. -/
def partsT (l : Tx) : List Tx := Lib.splitK sepB 0 (Lib.count l sepB) l
theorem parts_join : ∀ (ps : List Tx) (p : Tx), (124 : UInt8) ∉ p → (∀ q ∈ ps, (124 : UInt8) ∉ q) → partsT (p ++ ps.flatMap fun q => sepB ++ q) = p :: ps
  | [], p, hp, _ => by
    unfold partsT
    rw [List.flatMap_nil, List.append_nil, Lib.count_miss (index_no (sep := sepB) rfl hp)]
    rfl
  | q :: ps, p, hp, hq => by
    have ih := parts_join ps q (hq q (by simp)) (fun x hx => hq x (by simp [hx]))
    have e : p ++ (q :: ps).flatMap (fun q => sepB ++ q) = p ++ (sepB ++ (q ++ ps.flatMap fun q => sepB ++ q)) := by simp
    have hi := index_at (p := p) (s := q ++ ps.flatMap fun q => sepB ++ q) (sep := sepB) rfl (by decide) hp
    have hd : (p ++ (sepB ++ (q ++ ps.flatMap fun q => sepB ++ q))).drop (p.length + sepB.length) = q ++ ps.flatMap fun q => sepB ++ q := by
      rw [← List.drop_drop, List.drop_left, List.drop_left]
    unfold partsT at ih ⊢
    rw [e, Lib.count_hit (by decide) hi, hd, Nat.add_comm, Lib.splitK, hi, if_neg (by simp)]
    simp only [Int.toNat_natCast, Nat.add_zero, List.take_left]
    rw [hd, ih]

/-! ### Numbers -/
/-- What the library reads of a text as a number. -/
def pv (l : Tx) : Int := match Lib.parseIntB 64 l with | .ok v => v | .range => Lib.intSat 64 l | _ => 0
theorem uintM_one (M acc d : Nat) (h : d < 10) (ha : acc < 1000) (hM : 100000 ≤ M) (r : Tx) : Lib.parseUintM M acc (dig d :: r) = Lib.parseUintM M (acc * 10 + d) r := by
  have e := dig_nat h
  rw [Lib.parseUintM]
  rw [if_pos (by omega), if_neg (by omega), if_neg (by omega), show (dig d).toNat - 48 = d by omega]
theorem pv_num {n : Int} (h : 0 ≤ n ∧ n ≤ 999) : pv (numT n) = n := by
  have key : ∀ (u : Nat) (c : UInt8) (r : Tx), c.toNat ≠ 43 → c.toNat ≠ 45 → u < 1000 → Lib.parseUintM (2 ^ 64 - 1) 0 (c :: r) = .ok u → pv (c :: r) = u := by
    intro u c r h1 h2 hu hp
    unfold pv Lib.parseIntB
    simp only [h1, h2, or_self, if_false]
    unfold Lib.parseUintB
    rw [if_neg (by simp), hp]
    simp [show ¬ 9223372036854775808 ≤ u by omega]
  obtain ⟨m, rfl⟩ : ∃ m : Nat, n = m := ⟨n.toNat, by omega⟩
  rcases (show m < 10 ∨ (10 ≤ m ∧ m < 100) ∨ (100 ≤ m ∧ m < 1000) by omega) with h1 | h1 | h1
  · have e := dig_nat h1
    rw [itoa_one h1]
    refine key m _ _ (by omega) (by omega) (by omega) ?_
    rw [uintM_one _ _ _ h1 (by omega) (by decide), Lib.parseUintM]
    simp
  · obtain ⟨a, b, ha, hb, rfl⟩ : ∃ a b : Nat, (1 ≤ a ∧ a < 10) ∧ b < 10 ∧ m = a * 10 + b := ⟨m / 10, m % 10, by omega, by omega, by omega⟩
    have e := dig_nat ha.2
    rw [itoa_two ha hb]
    refine key _ _ _ (by omega) (by omega) (by omega) ?_
    rw [uintM_one _ _ _ ha.2 (by omega) (by decide), uintM_one _ _ _ hb (by omega) (by decide), Lib.parseUintM]
    simp
  · obtain ⟨a, b, c', ha, hb, hc', rfl⟩ : ∃ a b c : Nat, (1 ≤ a ∧ a < 10) ∧ b < 10 ∧ c < 10 ∧ m = a * 100 + b * 10 + c := ⟨m / 100, m / 10 % 10, m % 10, by omega, by omega, by omega, by omega⟩
    have e := dig_nat ha.2
    rw [itoa_three ha hb hc']
    refine key _ _ _ (by omega) (by omega) (by omega) ?_
    rw [uintM_one _ _ _ ha.2 (by omega) (by decide), uintM_one _ _ _ hb (by omega) (by decide), uintM_one _ _ _ hc' (by omega) (by decide), Lib.parseUintM]
    simp
    omega

/-! ### A guess -/
def gNums (t : Tx) : Int × Int := (pv (Lib.cut (Lib.trimPrefix t [32]) [32]).1, pv (Lib.cut (Lib.trimPrefix t [32]) [32]).2.1)
def gKind (k : Nat) (n : Int × Int) : Opr :=
  if k = 1 then ⟨1, 0, n.1, 0, [], false⟩ else if k = 2 ∨ k = 4 then ⟨k, n.1, 0, n.2, [], false⟩ else if k = 9 then ⟨9, 0, 0, 0, [], false⟩ else ⟨k, n.1, 0, 0, [], false⟩
def nameOf (k : Nat) : Tx := nameL.getD k []
def gPlain (w : Tx) : Opr := match [1, 2, 3, 4, 5, 6, 7, 8, 9].find? fun k => Lib.hasPrefix w (nameOf k) with
  | none => ⟨0, 0, 0, 0, [], false⟩
  | some k => gKind k (gNums (Lib.trimPrefix w (nameOf k)))
def gCase (o : Opr) : Cas := ⟨o.kind == 2, o.ch, o.v⟩
def gCases (ps : List Tx) : List Cas := (ps.filter fun q => q != wElse).map fun q => gCase (gPlain q)
def gElse (ps : List Tx) : Bool := ps.any fun q => q == wElse
def gLine (l : Tx) : Opr := match partsT l with
  | [] => ⟨0, 0, 0, 0, [], false⟩
  | p :: ps => ⟨(gPlain p).kind, (gPlain p).ch, (gPlain p).n, (gPlain p).v, gCases ps, gElse ps⟩

theorem gNums_one {n : Int} (h : 0 ≤ n ∧ n ≤ 999) : gNums (32 :: numT n) = (n, 0) := by
  have e : Lib.trimPrefix (32 :: numT n) [32] = numT n := by simp [Lib.trimPrefix, Lib.hasPrefix]
  have hf : (32 : UInt8) ∉ numT n := num_free h (Or.inl (by decide))
  unfold gNums
  rw [e, cut_no hf]
  simp only [pv_num h]
  rfl
theorem gNums_two {n m : Int} (h : 0 ≤ n ∧ n ≤ 999) (k : 0 ≤ m ∧ m ≤ 999) : gNums ((32 :: numT n) ++ (32 :: numT m)) = (n, m) := by
  have e : Lib.trimPrefix ((32 :: numT n) ++ (32 :: numT m)) [32] = numT n ++ 32 :: numT m := by simp [Lib.trimPrefix, Lib.hasPrefix]
  have hf : (32 : UInt8) ∉ numT n := num_free h (Or.inl (by decide))
  unfold gNums
  rw [e, cut_at hf]
  simp only [pv_num h, pv_num k]

/-- Of an op's words without its cases, what they are. -/
theorem gPlain_is {kind ch n v : Int} {L : List Cas} {els : Bool} (hk : 1 ≤ kind ∧ kind ≤ 9) (hc : 0 ≤ ch ∧ ch ≤ 999) (hn : 0 ≤ n ∧ n ≤ 999) (hv : 0 ≤ v ∧ v ≤ 999)
    (h1 : hasCh kind = true ∨ ch = 0) (h2 : hasV kind = true ∨ v = 0) (h3 : kind = 1 ∨ n = 0) : gPlain (plainT ⟨kind, ch, n, v, L, els⟩) = ⟨kind, ch, n, v, [], false⟩ := by
  rcases (show kind = 1 ∨ kind = 2 ∨ kind = 3 ∨ kind = 4 ∨ kind = 5 ∨ kind = 6 ∨ kind = 7 ∨ kind = 8 ∨ kind = 9 by omega) with rfl | rfl | rfl | rfl | rfl | rfl | rfl | rfl | rfl
  · obtain rfl : ch = 0 := h1.resolve_left (by decide)
    obtain rfl : v = 0 := h2.resolve_left (by decide)
    have e : plainT ⟨1, 0, n, 0, L, els⟩ = nameOf 1 ++ (32 :: numT n) := by simp [plainT, headT, headW, chT, vT, joinT, wMake, hasV, nameOf, nameL]
    have f : [1, 2, 3, 4, 5, 6, 7, 8, 9].find? (fun k => Lib.hasPrefix (nameOf 1 ++ (32 :: numT n)) (nameOf k)) = some 1 := by simp [Lib.hasPrefix, nameOf, nameL]
    have g : Lib.trimPrefix (nameOf 1 ++ (32 :: numT n)) (nameOf 1) = 32 :: numT n := by simp [Lib.trimPrefix, Lib.hasPrefix]
    rw [e]
    unfold gPlain
    rw [f]
    simp only [g, gNums_one hn, gKind, if_true]
  · obtain rfl : n = 0 := h3.resolve_left (by decide)
    have e : plainT ⟨2, ch, 0, v, L, els⟩ = nameOf 2 ++ ((32 :: numT ch) ++ (32 :: numT v)) := by simp [plainT, headT, headW, chT, vT, joinT, wSend, hasV, nameOf, nameL]
    have f : [1, 2, 3, 4, 5, 6, 7, 8, 9].find? (fun k => Lib.hasPrefix (nameOf 2 ++ ((32 :: numT ch) ++ (32 :: numT v))) (nameOf k)) = some 2 := by simp [Lib.hasPrefix, nameOf, nameL]
    have g : Lib.trimPrefix (nameOf 2 ++ ((32 :: numT ch) ++ (32 :: numT v))) (nameOf 2) = (32 :: numT ch) ++ (32 :: numT v) := by simp [Lib.trimPrefix, Lib.hasPrefix]
    rw [e]
    unfold gPlain
    rw [f]
    simp only [g, gNums_two hc hv]
    rfl
  · obtain rfl : v = 0 := h2.resolve_left (by decide)
    obtain rfl : n = 0 := h3.resolve_left (by decide)
    have e : plainT ⟨3, ch, 0, 0, L, els⟩ = nameOf 3 ++ (32 :: numT ch) := by simp [plainT, headT, headW, chT, vT, joinT, wRecv, hasV, nameOf, nameL]
    have f : [1, 2, 3, 4, 5, 6, 7, 8, 9].find? (fun k => Lib.hasPrefix (nameOf 3 ++ (32 :: numT ch)) (nameOf k)) = some 3 := by simp [Lib.hasPrefix, nameOf, nameL]
    have g : Lib.trimPrefix (nameOf 3 ++ (32 :: numT ch)) (nameOf 3) = 32 :: numT ch := by simp [Lib.trimPrefix, Lib.hasPrefix]
    rw [e]
    unfold gPlain
    rw [f]
    simp only [g, gNums_one hc]
    rfl
  · obtain rfl : n = 0 := h3.resolve_left (by decide)
    have e : plainT ⟨4, ch, 0, v, L, els⟩ = nameOf 4 ++ ((32 :: numT ch) ++ (32 :: numT v)) := by simp [plainT, headT, headW, chT, vT, joinT, wTry,wSend, hasV, nameOf, nameL]
    have f : [1, 2, 3, 4, 5, 6, 7, 8, 9].find? (fun k => Lib.hasPrefix (nameOf 4 ++ ((32 :: numT ch) ++ (32 :: numT v))) (nameOf k)) = some 4 := by simp [Lib.hasPrefix, nameOf, nameL]
    have g : Lib.trimPrefix (nameOf 4 ++ ((32 :: numT ch) ++ (32 :: numT v))) (nameOf 4) = (32 :: numT ch) ++ (32 :: numT v) := by simp [Lib.trimPrefix, Lib.hasPrefix]
    rw [e]
    unfold gPlain
    rw [f]
    simp only [g, gNums_two hc hv]
    rfl
  · obtain rfl : v = 0 := h2.resolve_left (by decide)
    obtain rfl : n = 0 := h3.resolve_left (by decide)
    have e : plainT ⟨5, ch, 0, 0, L, els⟩ = nameOf 5 ++ (32 :: numT ch) := by simp [plainT, headT, headW, chT, vT, joinT, wTry,wRecv, hasV, nameOf, nameL]
    have f : [1, 2, 3, 4, 5, 6, 7, 8, 9].find? (fun k => Lib.hasPrefix (nameOf 5 ++ (32 :: numT ch)) (nameOf k)) = some 5 := by simp [Lib.hasPrefix, nameOf, nameL]
    have g : Lib.trimPrefix (nameOf 5 ++ (32 :: numT ch)) (nameOf 5) = 32 :: numT ch := by simp [Lib.trimPrefix, Lib.hasPrefix]
    rw [e]
    unfold gPlain
    rw [f]
    simp only [g, gNums_one hc]
    rfl
  · obtain rfl : v = 0 := h2.resolve_left (by decide)
    obtain rfl : n = 0 := h3.resolve_left (by decide)
    have e : plainT ⟨6, ch, 0, 0, L, els⟩ = nameOf 6 ++ (32 :: numT ch) := by simp [plainT, headT, headW, chT, vT, joinT, wClose, hasV, nameOf, nameL]
    have f : [1, 2, 3, 4, 5, 6, 7, 8, 9].find? (fun k => Lib.hasPrefix (nameOf 6 ++ (32 :: numT ch)) (nameOf k)) = some 6 := by simp [Lib.hasPrefix, nameOf, nameL]
    have g : Lib.trimPrefix (nameOf 6 ++ (32 :: numT ch)) (nameOf 6) = 32 :: numT ch := by simp [Lib.trimPrefix, Lib.hasPrefix]
    rw [e]
    unfold gPlain
    rw [f]
    simp only [g, gNums_one hc]
    rfl
  · obtain rfl : v = 0 := h2.resolve_left (by decide)
    obtain rfl : n = 0 := h3.resolve_left (by decide)
    have e : plainT ⟨7, ch, 0, 0, L, els⟩ = nameOf 7 ++ (32 :: numT ch) := by simp [plainT, headT, headW, chT, vT, joinT, wLen, hasV, nameOf, nameL]
    have f : [1, 2, 3, 4, 5, 6, 7, 8, 9].find? (fun k => Lib.hasPrefix (nameOf 7 ++ (32 :: numT ch)) (nameOf k)) = some 7 := by simp [Lib.hasPrefix, nameOf, nameL]
    have g : Lib.trimPrefix (nameOf 7 ++ (32 :: numT ch)) (nameOf 7) = 32 :: numT ch := by simp [Lib.trimPrefix, Lib.hasPrefix]
    rw [e]
    unfold gPlain
    rw [f]
    simp only [g, gNums_one hc]
    rfl
  · obtain rfl : v = 0 := h2.resolve_left (by decide)
    obtain rfl : n = 0 := h3.resolve_left (by decide)
    have e : plainT ⟨8, ch, 0, 0, L, els⟩ = nameOf 8 ++ (32 :: numT ch) := by simp [plainT, headT, headW, chT, vT, joinT, wCap, hasV, nameOf, nameL]
    have f : [1, 2, 3, 4, 5, 6, 7, 8, 9].find? (fun k => Lib.hasPrefix (nameOf 8 ++ (32 :: numT ch)) (nameOf k)) = some 8 := by simp [Lib.hasPrefix, nameOf, nameL]
    have g : Lib.trimPrefix (nameOf 8 ++ (32 :: numT ch)) (nameOf 8) = 32 :: numT ch := by simp [Lib.trimPrefix, Lib.hasPrefix]
    rw [e]
    unfold gPlain
    rw [f]
    simp only [g, gNums_one hc]
    rfl
  · obtain rfl : ch = 0 := h1.resolve_left (by decide)
    obtain rfl : v = 0 := h2.resolve_left (by decide)
    obtain rfl : n = 0 := h3.resolve_left (by decide)
    have e : plainT ⟨9, 0, 0, 0, L, els⟩ = nameOf 9 := by simp [plainT, headT, headW, chT, vT, joinT, wSelect, hasV, nameOf, nameL]
    rw [e]
    rfl
end Go.Proofs.YtfghabjpcjcllaaDoor
/- A line is right only if it is written so; a text gone through line by line. Mathematics alone. -/
namespace Go.Proofs.YtfghabjpcjcllaaDoor

theorem plain_free {o : Opr} (h : rightO o = true) : (124 : UInt8) ∉ plainT o := by
  have hf := rightO_has h
  have h1 : (124 : UInt8) ∉ numT o.n := num_free (by omega) (Or.inr (by decide))
  have h2 : (124 : UInt8) ∉ numT o.ch := num_free (by omega) (Or.inr (by decide))
  have h3 : (124 : UInt8) ∉ numT o.v := num_free (by omega) (Or.inr (by decide))
  have h4 : (124 : UInt8) ∉ headT o.kind := by
    rcases (show o.kind = 1 ∨ o.kind = 2 ∨ o.kind = 3 ∨ o.kind = 4 ∨ o.kind = 5 ∨ o.kind = 6 ∨ o.kind = 7 ∨ o.kind = 8 ∨ o.kind = 9 by omega) with e | e | e | e | e | e | e | e | e <;> rw [e] <;> decide
  unfold plainT chT vT
  simp only [List.mem_append, not_or]
  refine ⟨h4, ?_, ?_⟩
  · split
    · simp [h1]
    · split
      · simp
      · simp [h2]
  · split
    · simp [h3]
    · simp
/-- A case's op. -/
def opC (c : Cas) : Opr := if c.send then ⟨2, c.ch, 0, c.v, [], false⟩ else ⟨3, c.ch, 0, c.v, [], false⟩
theorem caseP_op (c : Cas) : caseP c = plainT (opC c) := by
  unfold caseP opC
  split <;> rfl
theorem opC_right {c : Cas} (h : rightC c = true) : rightO (opC c) = true := by
  obtain ⟨s, ch, v⟩ := c
  unfold rightC at h
  unfold opC rightO rightF
  cases s <;> simp [hasCh, hasV] at h ⊢ <;> omega
theorem gCase_is {c : Cas} (h : rightC c = true) : gCase (gPlain (caseP c)) = c := by
  have hc := rightC_in h
  have hv : c.send = true ∨ c.v = 0 := by
    unfold rightC at h
    simp only [Bool.and_eq_true, Bool.or_eq_true, beq_iff_eq] at h
    exact h.2
  obtain ⟨s, ch, v⟩ := c
  dsimp only at hc hv
  cases s
  · obtain rfl : v = 0 := hv.resolve_left (by decide)
    show gCase (gPlain (plainT ⟨3, ch, 0, 0, [], false⟩)) = _
    rw [gPlain_is (by omega) (by omega) (by omega) (by omega) (Or.inl (by decide)) (Or.inr rfl) (Or.inr rfl)]
    rfl
  · show gCase (gPlain (plainT ⟨2, ch, 0, v, [], false⟩)) = _
    rw [gPlain_is (by omega) (by omega) (by omega) (by omega) (Or.inl (by decide)) (Or.inl (by decide)) (Or.inr rfl)]
    rfl
theorem caseP_else (c : Cas) : caseP c ≠ wElse := by
  obtain ⟨s, ch, v⟩ := c
  cases s <;> simp [caseP, plainT, headT, headW, joinT, wSend, wRecv, wElse]
def elseP (e : Bool) : List Tx := if e then [wElse] else []
theorem opT_parts (o : Opr) : opT o = plainT o ++ (o.cases.map caseP ++ elseP o.els).flatMap fun q => sepB ++ q := by
  have e1 : ∀ L : List Cas, L.flatMap caseT = (L.map caseP).flatMap fun q => sepB ++ q := by
    intro L
    rw [List.flatMap_map]
    congr 1
    funext c
    exact caseT_is c
  rw [opT_is, List.flatMap_append, ← e1]
  cases o.els <;> simp [elseT, elseP, plainT, sepB, wElse]
theorem parts_op {o : Opr} (h : rightO o = true) : partsT (opT o) = plainT o :: (o.cases.map caseP ++ elseP o.els) := by
  rw [opT_parts]
  refine parts_join _ _ (plain_free h) fun q hq => ?_
  rcases List.mem_append.1 hq with hq | hq
  · obtain ⟨c, hc, rfl⟩ := List.mem_map.1 hq
    rw [caseP_op]
    exact plain_free (opC_right (List.all_eq_true.1 (rightO_has h).2.2.2.2.2.2.2.2.2.2.2.2.2 c hc))
  · unfold elseP at hq
    split at hq
    · obtain rfl := List.mem_singleton.1 hq
      decide
    · simp at hq
theorem gCases_is {L : List Cas} (h : L.all rightC = true) (e : Bool) : gCases (L.map caseP ++ elseP e) = L := by
  have he : (elseP e).filter (fun q => q != wElse) = [] := by cases e <;> simp [elseP]
  have hl : (L.map caseP).filter (fun q => q != wElse) = L.map caseP := by
    rw [List.filter_eq_self]
    intro q hq
    obtain ⟨c, _, rfl⟩ := List.mem_map.1 hq
    simpa using caseP_else c
  unfold gCases
  rw [List.filter_append, he, hl, List.append_nil, List.map_map]
  have e2 : L.map ((fun q => gCase (gPlain q)) ∘ caseP) = L.map id := List.map_congr_left fun c hc => gCase_is (List.all_eq_true.1 h c hc)
  rw [e2, List.map_id]
theorem gElse_is (L : List Cas) (e : Bool) : gElse (L.map caseP ++ elseP e) = e := by
  have hl : (L.map caseP).any (fun q => q == wElse) = false := by
    rw [List.any_eq_false]
    intro q hq
    obtain ⟨c, _, rfl⟩ := List.mem_map.1 hq
    simpa using caseP_else c
  unfold gElse
  rw [List.any_append, hl]
  cases e <;> simp [elseP]
/-- What is written of an op is taken for it. -/
theorem gLine_enc {o : Opr} (h : rightO o = true) : gLine (opT o) = o := by
  have hf := rightO_has h
  unfold gLine
  rw [parts_op h]
  simp only
  rw [gCases_is hf.2.2.2.2.2.2.2.2.2.2.2.2.2, gElse_is]
  have e : gPlain (plainT o) = ⟨o.kind, o.ch, o.n, o.v, [], false⟩ := gPlain_is (by omega) (by omega) (by omega) (by omega) hf.2.2.2.2.2.2.2.2.2.1 hf.2.2.2.2.2.2.2.2.2.2.1 hf.2.2.2.2.2.2.2.2.2.2.2.1
  rw [e]
theorem num1_len {n : Int} (h : 0 ≤ n ∧ n ≤ 9) : (numT n).length ≤ 1 := by
  obtain ⟨d, hd, e⟩ : ∃ d : Nat, d < 10 ∧ n = d := ⟨n.toNat, by omega, by omega⟩
  rw [e, itoa_one hd]
  simp
theorem opT_91 {o : Opr} (h : rightO o = true) : (opT o).length ≤ 91 ∧ opT o ≠ [] := by
  have hf := rightO_has h
  have h1 := num1_len (n := o.n) (by omega)
  have h2 := num1_len (n := o.ch) (by omega)
  have h3 := numT_len (n := o.v) (by omega)
  have hc : ∀ L : List Cas, L.all rightC = true → (L.flatMap caseT).length ≤ 13 * L.length := by
    intro L hL
    induction L with
    | nil => simp
    | cons c L ih =>
      rw [List.all_cons, Bool.and_eq_true] at hL
      have := ih hL.2
      have hi := rightC_in hL.1
      have k1 := num1_len (n := c.ch) (by omega)
      have k2 := numT_len (n := c.v) (by omega)
      rw [List.flatMap_cons, List.length_append]
      have hx : (caseT c).length ≤ 13 := by
        unfold caseT
        split <;> simp <;> omega
      simp only [List.length_cons]
      omega
  have hcs := hc o.cases hf.2.2.2.2.2.2.2.2.2.2.2.2.2
  have he : (elseT o.els).length ≤ 7 := by cases o.els <;> decide
  have e := opT_is o
  have hnil : o.kind = 9 ∨ (o.els = false ∧ o.cases.length = 0) := hf.2.2.2.2.2.2.2.2.2.2.2.2.1
  refine ⟨?_, ?_⟩
  · rw [e]
    simp only [List.length_append]
    rcases hnil with hk | ⟨ha, hb⟩
    · have q1 : (headT o.kind).length = 6 := by rw [hk]; decide
      have q2 : (chT o).length = 0 := by unfold chT; rw [hk]; simp
      have q3 : (vT o).length = 0 := by unfold vT; rw [hk]; simp [hasV]
      omega
    · have q1 : (headT o.kind).length ≤ 8 := by
        rcases (show o.kind = 1 ∨ o.kind = 2 ∨ o.kind = 3 ∨ o.kind = 4 ∨ o.kind = 5 ∨ o.kind = 6 ∨ o.kind = 7 ∨ o.kind = 8 ∨ o.kind = 9 by omega) with e | e | e | e | e | e | e | e | e <;> rw [e] <;> decide
      have q2 : (chT o).length ≤ 2 := by
        unfold chT
        split
        · simp; omega
        · split <;> simp; omega
      have q3 : (vT o).length ≤ 4 := by
        unfold vT
        split <;> simp; omega
      omega
  · intro hnil
    have : headT o.kind = [] := by
      rw [e] at hnil
      simp at hnil
      exact hnil.1
    rcases (show o.kind = 1 ∨ o.kind = 2 ∨ o.kind = 3 ∨ o.kind = 4 ∨ o.kind = 5 ∨ o.kind = 6 ∨ o.kind = 7 ∨ o.kind = 8 ∨ o.kind = 9 by omega) with e | e | e | e | e | e | e | e | e <;> rw [e] at this <;> revert this <;> decide
/-- How the code reads a line. -/
def readC (l : Tx) : Bool := decide (l ≠ [] ∧ l.length ≤ 91 ∧ opS (gLine l) = l)
theorem readC_is (l : Tx) : readT l = if readC l = true then some (gLine l) else none := by
  have hd : readC l = true ↔ (l ≠ [] ∧ l.length ≤ 91 ∧ opS (gLine l) = l) := by unfold readC; rw [decide_eq_true_eq]
  cases hr : readT l with
  | some o =>
    obtain ⟨h1, h2⟩ := readT_back hr
    have h3 := opT_91 h1
    have h4 := gLine_enc h1
    rw [h2] at h3 h4
    rw [if_pos (hd.2 ⟨h3.2, h3.1, by rw [h4]; unfold opS; rw [if_pos h1, h2]⟩), h4]
  | none =>
    split
    · rename_i h
      obtain ⟨h1, _, h3⟩ := hd.1 h
      unfold opS at h3
      split at h3
      · rename_i h4
        have := readT_enc h4
        rw [h3, hr] at this
        cases this
      · exact absurd h3.symm h1
    · rfl

/-! ### A text -/
/-- The lines, and whether each one has its end. -/
def marksP : List Tx → List (Tx × Bool)
  | [] => []
  | [w] => if w = [] then [] else [(w, false)]
  | w :: v :: ws => (w, true) :: marksP (v :: ws)
theorem marksP_cons (w : Tx) {ws : List Tx} (h : ws ≠ []) : marksP (w :: ws) = (w, true) :: marksP ws := by
  cases ws with
  | nil => exact absurd rfl h
  | cons v ws => rfl
def marksT (s : Tx) : List (Tx × Bool) := marksP (splitT 10 s)
theorem marks_nil : marksT [] = [] := rfl
theorem marks_at {a b : Tx} (h : (10 : UInt8) ∉ a) : marksT (a ++ 10 :: b) = (a, true) :: marksT b := by
  unfold marksT splitT
  rw [splitG_word_then 10 b a [] h, List.nil_append, marksP_cons _ (splitG_ne 10 b [])]
theorem marks_no {a : Tx} (h : (10 : UInt8) ∉ a) (hn : a ≠ []) : marksT a = [(a, false)] := by
  unfold marksT splitT
  rw [splitG_word 10 a [] h, List.nil_append]
  unfold marksP
  rw [if_neg hn]
/-- A plan, and behind it what a line tells, if that may stand there. -/
def addV (p : List (List Opr)) (l : Tx) : Option (List (List Opr)) :=
  if l = wGo then (if p.length < 8 then some (p ++ [[]]) else none)
  else if p = [] ∨ 16 ≤ lastLen p then none
  else if readC l = true then some (more p (gLine l)) else none
def parseC : List (Tx × Bool) → Nat → List (List Opr) → List (List Opr) × Nat
  | [], _, p => (p, 0)
  | (l, e) :: r, i, p => match addV p l with
    | none => ([], i + 1)
    | some q => if e = true then parseC r (i + 1) q else ([], i + 1)
def endsOf (ws : List Tx) : List Tx × Bool := if ws.getLast? = some [] then (ws.dropLast, true) else (ws, false)
theorem endsOf_cons (w : Tx) {ws : List Tx} (h : ws ≠ []) : endsOf (w :: ws) = (w :: (endsOf ws).1, (endsOf ws).2) := by
  cases ws with
  | nil => exact absurd rfl h
  | cons v ws =>
    unfold endsOf
    rw [List.getLast?_cons_cons]
    split <;> rfl
theorem parseC_is : ∀ (ws : List Tx), ws ≠ [] → ∀ (i : Nat) (p : List (List Opr)), parseC (marksP ws) i p = parseG (endsOf ws).2 (endsOf ws).1 i p
  | [], h, _, _ => absurd rfl h
  | [w], _, i, p => by
    by_cases hw : w = []
    · subst hw
      rfl
    · have e : endsOf [w] = ([w], false) := by
        unfold endsOf
        rw [if_neg (by simpa using hw)]
      rw [e, parseG_cons, if_pos ⟨rfl, rfl⟩]
      unfold marksP
      rw [if_neg hw]
      unfold parseC
      cases addV p w <;> simp
  | w :: v :: ws, _, i, p => by
    have ih := parseC_is (v :: ws) (by simp)
    have he : ¬ ((endsOf (v :: ws)).1 = [] ∧ (endsOf (v :: ws)).2 = false) := by
      unfold endsOf
      split
      · simp
      · simp
    rw [marksP_cons w (by simp), endsOf_cons w (by simp), parseG_cons, if_neg he]
    unfold parseC addV
    by_cases hg : w = wGo
    · subst hg
      rw [if_pos rfl]
      by_cases hl : p.length < 8
      · rw [if_pos hl, if_pos ⟨rfl, hl⟩]
        simp only [if_true]
        exact ih _ _
      · rw [if_neg hl, if_neg (fun h => hl h.2), readT_go]
    · rw [if_neg hg, if_neg (show ¬ (w = wGo ∧ p.length < 8) from fun h => hg h.1), readC_is]
      by_cases hp : p = [] ∨ 16 ≤ lastLen p
      · rw [if_pos hp]
        cases readC w <;> simp [hp]
      · rw [if_neg hp]
        cases readC w
        · simp
        · simp only [if_true]
          rw [if_neg hp]
          exact ih _ _
theorem parseT_marks {s : Tx} (h : s ≠ []) : parseT s = parseC (marksT s) 0 [] := by
  unfold marksT
  rw [parseC_is (splitT 10 s) (splitG_ne 10 s [])]
  unfold parseT
  rw [if_neg]
  · rfl
  · intro e
    have e1 : (endsOf (splitT 10 s)).1 = [] := e
    have hj := join_split 10 s []
    rw [List.nil_append] at hj
    unfold endsOf at e1
    by_cases hl : (splitT 10 s).getLast? = some []
    · rw [if_pos hl] at e1
      have h3 : (splitT 10 s).dropLast = [] := e1
      have hs : splitT 10 s = [[]] := by
        revert hl h3
        generalize splitT 10 s = ws
        intro hl h3
        match ws, hl, h3 with
        | [w], hl, _ => rw [show w = [] from by simpa using hl]
      exact h (by rw [← hj]; show joinT 10 (splitT 10 s) = []; rw [hs]; rfl)
    · rw [if_neg hl] at e1
      exact splitG_ne 10 s [] e1
end Go.Proofs.YtfghabjpcjcllaaDoor
