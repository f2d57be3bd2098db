/- The document's half of stage 10, for later stages: what an op has; values; mild lists. Cut out of s10 by tools/d10.py. -/
import Derived.Test.YtenbafkgfdlfpaaGNest
import Derived.Test.YtenbafkgfdlfpaaEState
import Derived.Test.YtenbafkgfdlfpaaGSkip
import Derived.Laws.StructEq
import Derived.BigQuiet
import Derived.Deep.QuietTactic
import Derived.Outline
import Derived.RegionTactic
import Derived.ChangeAlike
import Derived.ChangeSame
import Derived.Deep.CutBlock
import Derived.Deep.DeepCutAuto
namespace Go.Proofs.Ytenbafkgfdlfpaa
open Go.RowKit
set_option linter.unusedVariables false

def zeroC : Value := .agg #[.bool false, .int .i64 0, .int .i64 0]
def zeroO : Value := .agg #[.int .i64 0, .int .i64 0, .int .i64 0, .int .i64 0, .slice none 0 0, .bool false]
theorem info_case : (Try.prog.info? 117).map (fun i => (i.zero, i.size, i.bytes)) = some (some zeroC, 3, 24) := by kernel_rfl
theorem info_op : (Try.prog.info? 88).map (fun i => (i.zero, i.size, i.bytes)) = some (some zeroO, 6, 64) := by kernel_rfl
theorem info_ops : (Try.prog.info? 29).map (fun i => (i.zero, i.size, i.bytes)) = some (some (.slice none 0 0), 1, 24) := by kernel_rfl

/-- The cells of a case, of an op, as a load of the whole asks for them. -/
theorem cells3 {w : World} {a : Addr} {k : Nat} {x : Cas} (hc : ∀ i u, (encCV x)[i]? = some u → w.cell? ((a.add k).add i) = some u) : w.cell? (a.add k) = some (.bool x.send) ∧ w.cell? ⟨(a.add k).block, (a.add k).off + 1, none⟩ = some (.int .i64 x.ch) ∧ w.cell? ⟨(a.add k).block, (a.add k).off + 2, none⟩ = some (.int .i64 x.v) := by
  have c0 := hc 0 _ rfl
  rw [add_two, Nat.add_zero] at c0
  exact ⟨c0, hc 1 _ rfl, hc 2 _ rfl⟩
theorem cells6 {w : World} {a : Addr} {k : Nat} {r : OpV} (hc : ∀ i u, (encOV r)[i]? = some u → w.cell? ((a.add k).add i) = some u) : w.cell? (a.add k) = some (.int .i64 r.kind) ∧ w.cell? ⟨(a.add k).block, (a.add k).off + 1, none⟩ = some (.int .i64 r.ch) ∧ w.cell? ⟨(a.add k).block, (a.add k).off + 2, none⟩ = some (.int .i64 r.n) ∧
    w.cell? ⟨(a.add k).block, (a.add k).off + 3, none⟩ = some (.int .i64 r.v) ∧ w.cell? ⟨(a.add k).block, (a.add k).off + 4, none⟩ = some r.cs.val ∧ w.cell? ⟨(a.add k).block, (a.add k).off + 5, none⟩ = some (.bool r.els) := by
  have c0 := hc 0 _ rfl
  rw [add_two, Nat.add_zero] at c0
  exact ⟨c0, hc 1 _ rfl, hc 2 _ rfl, hc 3 _ rfl, hc 4 _ rfl, hc 5 _ rfl⟩

/-- What is answered is this bool; nothing that was has changed. -/
def Says (w : World) (b : Bool) (e : Ending) (w' : World) : Prop := e = .returned (.bool b) ∧ Turn (fun _ => False) w w'

theorem rhasch_any (k : Int) (b : Bool) (w : World) (h : hasCh k = b) : Calls Try.prog 72 #[.int .i64 k] w fun e w' => e = .returned (.bool b) ∧ w = w' := by
  subst h
  unfold hasCh
  by_cases h1 : 2 ≤ k <;> by_cases h2 : k ≤ 8
  all_goals
    simp only [h1, h2, decide_true, decide_false, Bool.and_true, Bool.and_false]
    go_enter Try.func72, Try.ntmps72
    go_wp2_with fail
    go_ret
    exact ⟨rfl, rfl⟩
theorem rhasv_any (k : Int) (b : Bool) (w : World) (h : hasV k = b) : Calls Try.prog 73 #[.int .i64 k] w fun e w' => e = .returned (.bool b) ∧ w = w' := by
  subst h
  unfold hasV
  obtain ⟨b1, h1⟩ : ∃ b, (k == 2) = b := ⟨_, rfl⟩
  rw [h1]
  cases b1
  all_goals
    go_enter Try.func73, Try.ntmps73
    go_wp2_with fail
    go_ret
    exact ⟨rfl, rfl⟩


/-- A number that fits. -/
def fitB (x : Int) (has : Bool) (most : Int) : Bool := if has then decide (0 ≤ x) && decide (x ≤ most) else x == 0
def Cas.val (c : Cas) : Value := .agg #[.bool c.send, .int .i64 c.ch, .int .i64 c.v]
theorem rightC_fits (c : Cas) : rightC c = (fitB c.ch true 8 && fitB c.v c.send 255) := by
  obtain ⟨s, ch, v⟩ := c
  unfold rightC fitB
  by_cases h1 : 0 ≤ ch <;> by_cases h2 : ch ≤ 8 <;> by_cases h3 : 0 ≤ v <;> by_cases h4 : v ≤ 255 <;> cases s <;> simp [h1, h2, h3, h4] <;> omega

def OpV.val (r : OpV) : Value := .agg #[.int .i64 r.kind, .int .i64 r.ch, .int .i64 r.n, .int .i64 r.v, r.cs.val, .bool r.els]
/-- An op's cells in a block. -/
structure At6 (w : World) (b : Nat) (kind ch n v : Int) (s : Value) (els : Bool) : Prop where
  c0 : w.cell? ⟨b, 0, none⟩ = some (.int .i64 kind)
  c1 : w.cell? ⟨b, 1, none⟩ = some (.int .i64 ch)
  c2 : w.cell? ⟨b, 2, none⟩ = some (.int .i64 n)
  c3 : w.cell? ⟨b, 3, none⟩ = some (.int .i64 v)
  c4 : w.cell? ⟨b, 4, none⟩ = some s
  c5 : w.cell? ⟨b, 5, none⟩ = some (.bool els)
theorem At6.turn {S : Nat → Prop} {w w' : World} {b : Nat} {kind ch n v : Int} {s : Value} {els : Bool} (h : At6 w b kind ch n v s els) (t : Turn S w w') (hs : ¬ S b) : At6 w' b kind ch n v s els :=
  ⟨t.cell hs h.c0, t.cell hs h.c1, t.cell hs h.c2, t.cell hs h.c3, t.cell hs h.c4, t.cell hs h.c5⟩
theorem at6_new (w : World) (kind ch n v : Int) (s : Value) (els : Bool) (e : TypeId) : At6 (w.alloc (.cells #[.int .i64 kind, .int .i64 ch, .int .i64 n, .int .i64 v, s, .bool els] e)) w.heap.size kind ch n v s els := by
  have h := heap_alloc_new w (.cells #[.int .i64 kind, .int .i64 ch, .int .i64 n, .int .i64 v, s, .bool els] e)
  constructor <;> (unfold World.cell?; rw [h]; rfl)

theorem rightO_code (o : Opr) : rightO o = ((decide (1 ≤ o.kind) && decide (o.kind ≤ 9) && decide (o.cases.length ≤ 6)) && ((o.kind == 9 || (!o.els && o.cases.length == 0)) && (fitB o.ch (hasCh o.kind) 8 && (fitB o.n (o.kind == 1) 4 && (fitB o.v (hasV o.kind) 255 && o.cases.all rightC))))) := by
  unfold rightO rightF fitB
  obtain ⟨b, hb⟩ : ∃ b, o.cases.all rightC = b := ⟨_, rfl⟩
  obtain ⟨b1, h1⟩ : ∃ b, hasCh o.kind = b := ⟨_, rfl⟩
  obtain ⟨b2, h2⟩ : ∃ b, hasV o.kind = b := ⟨_, rfl⟩
  obtain ⟨b3, h3⟩ : ∃ b, (o.kind == 1) = b := ⟨_, rfl⟩
  obtain ⟨b4, h4⟩ : ∃ b, (o.kind == 9) = b := ⟨_, rfl⟩
  rw [hb, h1, h2, h3, h4]
  rw [Bool.eq_iff_iff]
  cases b <;> cases b1 <;> cases b2 <;> cases b3 <;> cases b4 <;> simp <;> grind

/-- How long the lists of a plan may be, that the walks' counts hold. -/
def MildL (l : List Opr) : Prop := l.length ≤ 1000000 ∧ ∀ o ∈ l, o.cases.length ≤ 1000000
def MildP (p : List (List Opr)) : Prop := p.length ≤ 1000000 ∧ ∀ l ∈ p, MildL l
/-- Without a word on the cases. -/
def WideL (l : List Opr) : Prop := l.length ≤ 1000000 ∧ True
def WideP (p : List (List Opr)) : Prop := p.length ≤ 1000000 ∧ ∀ l ∈ p, WideL l
theorem WideP.at {p : List (List Opr)} (h : WideP p) {i : Nat} {l : List Opr} (hl : p[i]? = some l) : WideL l := h.2 l (List.mem_of_getElem? hl)
theorem MildL.at {l : List Opr} (h : MildL l) {i : Nat} {o : Opr} (ho : l[i]? = some o) : o.cases.length ≤ 1000000 := h.2 o (List.mem_of_getElem? ho)
theorem MildP.at {p : List (List Opr)} (h : MildP p) {i : Nat} {l : List Opr} (hl : p[i]? = some l) : MildL l := h.2 l (List.mem_of_getElem? hl)

theorem guard_case : Try.prog.eqGuardType Try.prog.depth 117 = false := by kernel_rfl
theorem stood_case : Try.prog.stoodInHeld 117 = false := by kernel_rfl
theorem equal_case (x y : Cas) (w : World) : (Op.equalIn 10000 117 (.agg #[.bool x.send, .int .i64 x.ch, .int .i64 x.v]) (.agg #[.bool y.send, .int .i64 y.ch, .int .i64 y.v])).run Try.prog w = .ok (sameC x y) w := by
  have hf : Try.prog.fieldsOf 117 = #[⟨ "Send", 4, 0, false, "", "", 0⟩, ⟨ "Ch", 3, 1, false, "", "", 8⟩, ⟨ "V", 2, 2, false, "", "", 16⟩] := by kernel_rfl
  rw [run_equalIn_struct w 9999 117 _ _ (by kernel_rfl) stood_case, hf]
  have u0 : Try.prog.underlying 4 = some .bool := by kernel_rfl
  have u1 : Try.prog.underlying 3 = some (.int .i64) := by kernel_rfl
  have u2 : Try.prog.underlying 2 = some (.int .i64) := by kernel_rfl
  simp [go_sem, u0, u1, u2]
  unfold sameC
  by_cases h0 : x.send = y.send <;> by_cases h1 : x.ch = y.ch <;> by_cases h2 : x.v = y.v <;> simp [h0, h1, h2]

theorem sameO_code (a b : Opr) : sameO a b = (a.kind == b.kind && (a.ch == b.ch && (a.n == b.n && (a.v == b.v && (a.els == b.els && sameBy sameC a.cases b.cases))))) := by
  unfold sameO sameF
  by_cases h : a.cases.length = b.cases.length
  · simp [h, Bool.and_assoc]
  · rw [sameBy_len h]
    simp

end Go.Proofs.Ytenbafkgfdlfpaa
