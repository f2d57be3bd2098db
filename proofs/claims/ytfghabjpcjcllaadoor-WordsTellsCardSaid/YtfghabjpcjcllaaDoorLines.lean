/- Texts as lists of bytes: pieces between bytes, and these joined; numbers. Pure mathematics. -/
import Derived.Test.YtfghabjpcjcllaaDoorSame
import Derived.Lib.ItoaNum
namespace Go.Proofs.YtfghabjpcjcllaaDoor

abbrev Tx := List UInt8

/-! ### Pieces -/
/-- The pieces of s between bytes c, of which the first one has begun with cur. -/
def splitG (c : UInt8) (cur : Tx) : Tx → List Tx
  | [] => [cur]
  | x :: s => if x = c then cur :: splitG c [] s else splitG c (cur ++ [x]) s
theorem splitG_cons (c x : UInt8) (cur s : Tx) : splitG c cur (x :: s) = if x = c then cur :: splitG c [] s else splitG c (cur ++ [x]) s := rfl
def splitT (c : UInt8) (s : Tx) : List Tx := splitG c [] s
/-- Pieces with c between. -/
def joinT (c : UInt8) : List Tx → Tx
  | [] => []
  | [w] => w
  | w :: v :: ws => w ++ c :: joinT c (v :: ws)
theorem joinT_cons (c : UInt8) (w : Tx) {ws : List Tx} (h : ws ≠ []) : joinT c (w :: ws) = w ++ c :: joinT c ws := by
  cases ws with
  | nil => exact absurd rfl h
  | cons v ws => rfl
theorem joinT_snoc (c : UInt8) (w : Tx) : ∀ {ws : List Tx}, ws ≠ [] → joinT c (ws ++ [w]) = joinT c ws ++ c :: w
  | [], h => absurd rfl h
  | [v], _ => by simp [joinT]
  | v :: u :: ws, _ => by
    rw [List.cons_append, joinT_cons c v (by simp), joinT_cons c v (by simp), joinT_snoc c w (ws := u :: ws) (by simp)]
    simp
theorem splitG_ne (c : UInt8) : ∀ (s cur : Tx), splitG c cur s ≠ []
  | [], cur => by simp [splitG]
  | x :: s, cur => by
    unfold splitG
    split
    · simp
    · exact splitG_ne c s _
theorem join_split (c : UInt8) : ∀ (s cur : Tx), joinT c (splitG c cur s) = cur ++ s
  | [], cur => by simp [splitG, joinT]
  | x :: s, cur => by
    unfold splitG
    split
    · rename_i h
      rw [joinT_cons c cur (splitG_ne c s []), join_split c s [], h]
      rfl
    · rw [join_split c s]
      simp
theorem splitG_word (c : UInt8) : ∀ (w cur : Tx), c ∉ w → splitG c cur w = [cur ++ w]
  | [], cur, _ => by simp [splitG]
  | x :: w, cur, h => by
    unfold splitG
    rw [if_neg (fun e => h (by simp [e])), splitG_word c w _ (fun e => h (by simp [e]))]
    simp
theorem splitG_word_then (c : UInt8) (s : Tx) : ∀ (w cur : Tx), c ∉ w → splitG c cur (w ++ c :: s) = (cur ++ w) :: splitG c [] s
  | [], cur, _ => by simp [splitG]
  | x :: w, cur, h => by
    rw [List.cons_append]
    rw [splitG_cons, if_neg (fun e => h (by simp [e])), splitG_word_then c s w _ (fun e => h (by simp [e]))]
    simp
theorem split_join (c : UInt8) : ∀ {ws : List Tx}, ws ≠ [] → (∀ w ∈ ws, c ∉ w) → splitT c (joinT c ws) = ws
  | [], h, _ => absurd rfl h
  | [w], _, h => by
    show splitG c [] w = [w]
    rw [splitG_word c w [] (h w (by simp))]
    rfl
  | w :: v :: ws, _, h => by
    show splitG c [] (w ++ c :: joinT c (v :: ws)) = _
    rw [splitG_word_then c _ w [] (h w (by simp))]
    have := split_join c (ws := v :: ws) (by simp) (fun u hu => h u (by simp [hu]))
    unfold splitT at this
    rw [this]
    rfl
/-- No piece holds the byte. -/
theorem splitG_free (c : UInt8) : ∀ (s cur : Tx), c ∉ cur → ∀ w ∈ splitG c cur s, c ∉ w
  | [], cur, h, w, hw => by
    have : w = cur := by simpa [splitG] using hw
    subst this
    exact h
  | x :: s, cur, h, w, hw => by
    unfold splitG at hw
    split at hw
    · rcases List.mem_cons.1 hw with e | e
      · exact e ▸ h
      · exact splitG_free c s [] (by simp) w e
    · rename_i hx
      exact splitG_free c s _ (by simp; exact ⟨h, fun e => hx e.symm⟩) w hw

/-- Each line with the byte at its end. -/
def linesT (c : UInt8) (ls : List Tx) : Tx := ls.flatMap fun l => l ++ [c]
theorem linesT_cons (c : UInt8) (l : Tx) (ls : List Tx) : linesT c (l :: ls) = l ++ c :: linesT c ls := by simp [linesT]
theorem linesT_append (c : UInt8) (ls ms : List Tx) : linesT c (ls ++ ms) = linesT c ls ++ linesT c ms := by simp [linesT]
theorem split_lines (c : UInt8) : ∀ (ls : List Tx), (∀ l ∈ ls, c ∉ l) → splitT c (linesT c ls) = ls ++ [[]]
  | [], _ => rfl
  | l :: ls, h => by
    rw [linesT_cons]
    show splitG c [] (l ++ c :: linesT c ls) = _
    rw [splitG_word_then c _ l [] (h l (by simp))]
    have := split_lines c ls (fun u hu => h u (by simp [hu]))
    unfold splitT at this
    rw [this]
    rfl
/-- Pieces of which the last one is empty: lines. -/
theorem join_lines (c : UInt8) : ∀ (ls : List Tx), joinT c (ls ++ [[]]) = linesT c ls
  | [] => rfl
  | l :: ls => by
    rw [List.cons_append, joinT_cons c l (by simp), join_lines c ls, linesT_cons]

/-! ### Numbers -/
def dig (d : Nat) : UInt8 := UInt8.ofNat (48 + d)
theorem dig_nat {d : Nat} (h : d < 10) : (dig d).toNat = 48 + d := by
  unfold dig
  rw [UInt8.toNat_ofNat']
  omega
theorem dec_small {u : Nat} (h : u < 10) : Lib.decDigits u = [dig u] := by
  rw [Lib.decDigits.eq_def, dif_pos h]
  rfl
theorem dec_great {u : Nat} (h : 10 ≤ u) : Lib.decDigits u = Lib.decDigits (u / 10) ++ [dig (u % 10)] := by
  rw [Lib.decDigits.eq_def, dif_neg (by omega)]
  rfl
def numT (n : Int) : Tx := Lib.itoa n
/-- A word as a number without noughts ahead, of at most three digits; -1: it is none. -/
def digG (n : Int) : Tx → Int
  | [] => n
  | x :: r => if x < 48 ∨ 57 < x then -1 else digG (n * 10 + (x.toNat : Int) - 48) r
def digV (w : Tx) : Int := if w.length < 1 ∨ 3 < w.length ∨ (1 < w.length ∧ w.getD 0 0 = 48) then -1 else digG 0 w
theorem byte_of {x : UInt8} (h : ¬ (x < 48 ∨ 57 < x)) : ∃ d : Nat, d < 10 ∧ x = dig d ∧ (x.toNat : Int) - 48 = d := by
  have h1 : 48 ≤ x.toNat := by
    rcases Nat.lt_or_ge x.toNat 48 with h1 | h1
    · exact absurd (Or.inl (UInt8.lt_iff_toNat_lt.2 (show x.toNat < (48 : UInt8).toNat from h1))) h
    · exact h1
  have h2 : x.toNat ≤ 57 := by
    rcases Nat.lt_or_ge 57 x.toNat with h1 | h1
    · exact absurd (Or.inr (UInt8.lt_iff_toNat_lt.2 (show (57 : UInt8).toNat < x.toNat from h1))) h
    · exact h1
  refine ⟨x.toNat - 48, by omega, ?_, by omega⟩
  unfold dig
  rw [show 48 + (x.toNat - 48) = x.toNat by omega]
  simp
theorem byte_is {d : Nat} (h : d < 10) : ¬ (dig d < 48 ∨ 57 < dig d) ∧ ((dig d).toNat : Int) - 48 = d := by
  have e := dig_nat h
  refine ⟨fun hh => ?_, by omega⟩
  rcases hh with hh | hh
  · have := UInt8.lt_iff_toNat_lt.1 hh
    rw [e] at this
    have : (48 : UInt8).toNat = 48 := rfl
    omega
  · have := UInt8.lt_iff_toNat_lt.1 hh
    rw [e] at this
    have : (57 : UInt8).toNat = 57 := rfl
    omega
theorem itoa_one {d : Nat} (h : d < 10) : numT (d : Int) = [dig d] := by
  unfold numT Lib.itoa
  rw [if_neg (by omega), show ((d : Int)).toNat = d by omega, dec_small h]
theorem itoa_two {a b : Nat} (ha : 1 ≤ a ∧ a < 10) (hb : b < 10) : numT ((a * 10 + b : Nat) : Int) = [dig a, dig b] := by
  unfold numT Lib.itoa
  rw [if_neg (by omega), show (((a * 10 + b : Nat) : Int)).toNat = a * 10 + b by omega, dec_great (by omega), show (a * 10 + b) / 10 = a by omega, show (a * 10 + b) % 10 = b by omega, dec_small ha.2]
  rfl
theorem itoa_three {a b c : Nat} (ha : 1 ≤ a ∧ a < 10) (hb : b < 10) (hc : c < 10) : numT ((a * 100 + b * 10 + c : Nat) : Int) = [dig a, dig b, dig c] := by
  unfold numT Lib.itoa
  rw [if_neg (by omega), show (((a * 100 + b * 10 + c : Nat) : Int)).toNat = a * 100 + b * 10 + c by omega, dec_great (by omega), show (a * 100 + b * 10 + c) / 10 = a * 10 + b by omega, show (a * 100 + b * 10 + c) % 10 = c by omega,
    dec_great (by omega), show (a * 10 + b) / 10 = a by omega, show (a * 10 + b) % 10 = b by omega, dec_small ha.2]
  rfl
theorem first_digit {a : Nat} (ha : 1 ≤ a ∧ a < 10) : dig a ≠ 48 := fun e => by
  have := congrArg UInt8.toNat e
  rw [dig_nat ha.2] at this
  have : (48 : UInt8).toNat = 48 := rfl
  omega
/-- A number that is written is read. -/
theorem digV_num {n : Int} (h : 0 ≤ n ∧ n ≤ 999) : digV (numT n) = n := by
  obtain ⟨m, rfl⟩ : ∃ m : Nat, n = m := ⟨n.toNat, by omega⟩
  rcases (show m < 10 ∨ (10 ≤ m ∧ m < 100) ∨ (100 ≤ m ∧ m < 1000) by omega) with h1 | h1 | h1
  · rw [itoa_one h1]
    unfold digV
    rw [if_neg (by simp)]
    simp only [digG]
    rw [if_neg (byte_is h1).1, show (0 : Int) * 10 + ((dig m).toNat : Int) - 48 = 0 * 10 + (((dig m).toNat : Int) - 48) by omega, (byte_is h1).2]
    omega
  · obtain ⟨a, b, ha, hb, rfl⟩ : ∃ a b : Nat, (1 ≤ a ∧ a < 10) ∧ b < 10 ∧ m = a * 10 + b := ⟨m / 10, m % 10, by omega, by omega, by omega⟩
    rw [itoa_two ha hb]
    have k1 := byte_is ha.2
    have k2 := byte_is hb
    unfold digV
    rw [if_neg (by simp; exact first_digit ha)]
    simp only [digG]
    rw [if_neg k1.1, if_neg k2.1]
    omega
  · obtain ⟨a, b, c, ha, hb, hc, rfl⟩ : ∃ a b c : Nat, (1 ≤ a ∧ a < 10) ∧ b < 10 ∧ c < 10 ∧ m = a * 100 + b * 10 + c := ⟨m / 100, m / 10 % 10, m % 10, by omega, by omega, by omega, by omega⟩
    rw [itoa_three ha hb hc]
    have k1 := byte_is ha.2
    have k2 := byte_is hb
    have k3 := byte_is hc
    unfold digV
    rw [if_neg (by simp; exact first_digit ha)]
    simp only [digG]
    rw [if_neg k1.1, if_neg k2.1, if_neg k3.1]
    omega
theorem digG_neg : ∀ (w : Tx) (n : Int), 0 ≤ n → digG n w = -1 ∨ 0 ≤ digG n w
  | [], n, h => Or.inr h
  | x :: w, n, h => by
    unfold digG
    split
    · exact Or.inl rfl
    · rename_i hx
      obtain ⟨d, _, _, hd⟩ := byte_of hx
      exact digG_neg w _ (by omega)
theorem digV_neg (w : Tx) : digV w = -1 ∨ 0 ≤ digV w := by
  unfold digV
  split
  · exact Or.inl rfl
  · exact digG_neg w 0 (by omega)
/-- What is read is written so. -/
theorem num_digV {w : Tx} (h : 0 ≤ digV w) : numT (digV w) = w ∧ digV w ≤ 999 := by
  unfold digV at h ⊢
  split at h
  · omega
  rename_i hl
  rw [if_neg hl]
  match w, hl, h with
  | [], hl, _ => exact absurd (Or.inl (by simp)) hl
  | [x], hl, h =>
    simp only [digG] at h ⊢
    split at h
    · omega
    rename_i hx
    rw [if_neg hx]
    obtain ⟨d, h1, h2, h3⟩ := byte_of hx
    rw [show (0 : Int) * 10 + (x.toNat : Int) - 48 = (d : Int) by omega, itoa_one h1, ← h2]
    exact ⟨rfl, by omega⟩
  | [x, y], hl, h =>
    simp only [digG] at h ⊢
    split at h
    · omega
    rename_i hx
    split at h
    · omega
    rename_i hy
    rw [if_neg hx, if_neg hy]
    obtain ⟨d, h1, h2, h3⟩ := byte_of hx
    obtain ⟨e, i1, i2, i3⟩ := byte_of hy
    have hd : 1 ≤ d := by
      rcases Nat.eq_zero_or_pos d with h0 | h0
      · subst h0
        exact absurd (Or.inr (Or.inr ⟨by simp, h2⟩)) hl
      · exact h0
    rw [show ((0 : Int) * 10 + (x.toNat : Int) - 48) * 10 + (y.toNat : Int) - 48 = ((d * 10 + e : Nat) : Int) by omega, itoa_two ⟨hd, h1⟩ i1, ← h2, ← i2]
    exact ⟨rfl, by omega⟩
  | [x, y, z], hl, h =>
    simp only [digG] at h ⊢
    split at h
    · omega
    rename_i hx
    split at h
    · omega
    rename_i hy
    split at h
    · omega
    rename_i hz
    rw [if_neg hx, if_neg hy, if_neg hz]
    obtain ⟨d, h1, h2, h3⟩ := byte_of hx
    obtain ⟨e, i1, i2, i3⟩ := byte_of hy
    obtain ⟨f, j1, j2, j3⟩ := byte_of hz
    have hd : 1 ≤ d := by
      rcases Nat.eq_zero_or_pos d with h0 | h0
      · subst h0
        exact absurd (Or.inr (Or.inr ⟨by simp, h2⟩)) hl
      · exact h0
    rw [show (((0 : Int) * 10 + (x.toNat : Int) - 48) * 10 + (y.toNat : Int) - 48) * 10 + (z.toNat : Int) - 48 = ((d * 100 + e * 10 + f : Nat) : Int) by omega, itoa_three ⟨hd, h1⟩ i1 j1, ← h2, ← i2, ← j2]
    exact ⟨rfl, by omega⟩
  | _ :: _ :: _ :: _ :: _, hl, _ => exact absurd (Or.inr (Or.inl (by simp))) hl
/-- A number's text holds no other byte than digits. -/
theorem num_free {n : Int} (h : 0 ≤ n ∧ n ≤ 999) {c : UInt8} (hc : c < 48 ∨ 57 < c) : c ∉ numT n := by
  obtain ⟨m, rfl⟩ : ∃ m : Nat, n = m := ⟨n.toNat, by omega⟩
  have ne : ∀ d : Nat, d < 10 → c ≠ dig d := fun d hd e => (byte_is hd).1 (e ▸ hc)
  rcases (show m < 10 ∨ (10 ≤ m ∧ m < 100) ∨ (100 ≤ m ∧ m < 1000) by omega) with h1 | h1 | h1
  · rw [itoa_one h1]
    simp [ne m h1]
  · obtain ⟨a, b, ha, hb, rfl⟩ : ∃ a b : Nat, (1 ≤ a ∧ a < 10) ∧ b < 10 ∧ m = a * 10 + b := ⟨m / 10, m % 10, by omega, by omega, by omega⟩
    rw [itoa_two ha hb]
    simp [ne a ha.2, ne b hb]
  · obtain ⟨a, b, c', ha, hb, hc', rfl⟩ : ∃ a b c : Nat, (1 ≤ a ∧ a < 10) ∧ b < 10 ∧ c < 10 ∧ m = a * 100 + b * 10 + c := ⟨m / 100, m / 10 % 10, m % 10, by omega, by omega, by omega, by omega⟩
    rw [itoa_three ha hb hc']
    simp [ne a ha.2, ne b hb, ne c' hc']

end Go.Proofs.YtfghabjpcjcllaaDoor
