/- The code's copies: rows of whatever things, in memory of their own. -/
import Derived.Test.YtenbafkgfdlfpaaKDSmall
import Derived.Test.YtenbafkgfdlfpaaEEnv
namespace Go.Proofs.Ytenbafkgfdlfpaa
open Go.RowKit
set_option linter.unusedVariables false

/-- A row of one's own is made: it holds L. -/
def CopyF {α : Type} (enc : α → List Value) (size : Nat) (e : TypeId) (L : List α) (n : Nat) (w : World) (en : Ending) (w' : World) : Prop :=
  ∃ s : Sl, en = .returned (.slice s.ao n s.cap) ∧ s.len = n ∧ w'.ownsRow w.heap.size e size s.val n (flat enc L) ∧ Turn (fun _ => False) w w'
theorem u16_info : (Try.prog.info? 64).map (fun i => (i.zero, i.size, i.bytes)) = some (some (.int .u16 0), 1, 2) := by kernel_rfl


theorem cpg_any {L : List GV} {ao : Option Addr} {n c : Nat} (w : World) (hl : L.length = n) (hm : n ≤ 1000000) (hn : ao = none → c = 0) (hr : Has GV.cs 25 w ao L) : Calls Try.prog 42 #[.slice ao n c] w (CopyF GV.cs 25 50 L n w) := by
  have HL := Lib.hid hl
  have HN := Lib.hid hn
  have HR := Lib.hid hr
  clear hl hn hr
  go_enter Try.func42, Try.ntmps42
  go_wp2_with (at_builtin; refine wpList_append_great gv_ok (by decide) Try.underlying34 info_g rfl (by decide) rfl (.const (.slice none 0 0)) (.tmp 3) rfl w.heap.size (.slice none 0 0) [] 0 rfl own_nil ao L n c HL.out rfl HN.out HR.out n (Nat.zero_add n) hm (Nat.le_refl _) ?_; intro v2 w2 o2 t2 b2; rw [List.nil_append] at o2; obtain ⟨bo, bc, rfl, _⟩ := own_slice o2.out)
  go_ret
  exact ⟨⟨bo, n, bc⟩, rfl, rfl, o2.out, t2.out.mono (fun i _ e => by cases e)⟩
theorem cpop_any {L : List OpV} {ao : Option Addr} {n c : Nat} (w : World) (hl : L.length = n) (hm : n ≤ 1000000) (hn : ao = none → c = 0) (hr : Has encOV 6 w ao L) : Calls Try.prog 43 #[.slice ao n c] w (CopyF encOV 6 88 L n w) := by
  have HL := Lib.hid hl
  have HN := Lib.hid hn
  have HR := Lib.hid hr
  clear hl hn hr
  go_enter Try.func43, Try.ntmps43
  go_wp2_with (at_builtin; refine wpList_append_great encOV_ok (by decide) Try.underlying29 info_op rfl (by decide) rfl (.const (.slice none 0 0)) (.tmp 3) rfl w.heap.size (.slice none 0 0) [] 0 rfl own_nil ao L n c HL.out rfl HN.out HR.out n (Nat.zero_add n) hm (Nat.le_refl _) ?_; intro v2 w2 o2 t2 b2; rw [List.nil_append] at o2; obtain ⟨bo, bc, rfl, _⟩ := own_slice o2.out)
  go_ret
  exact ⟨⟨bo, n, bc⟩, rfl, rfl, o2.out, t2.out.mono (fun i _ e => by cases e)⟩
theorem cpcase_any {L : List Cas} {ao : Option Addr} {n c : Nat} (w : World) (hl : L.length = n) (hm : n ≤ 1000000) (hn : ao = none → c = 0) (hr : Has encCV 3 w ao L) : Calls Try.prog 75 #[.slice ao n c] w (CopyF encCV 3 117 L n w) := by
  have HL := Lib.hid hl
  have HN := Lib.hid hn
  have HR := Lib.hid hr
  clear hl hn hr
  go_enter Try.func75, Try.ntmps75
  go_wp2_with (at_builtin; refine wpList_append_great encCV_ok (by decide) Try.underlying86 info_case rfl (by decide) rfl (.const (.slice none 0 0)) (.tmp 3) rfl w.heap.size (.slice none 0 0) [] 0 rfl own_nil ao L n c HL.out rfl HN.out HR.out n (Nat.zero_add n) hm (Nat.le_refl _) ?_; intro v2 w2 o2 t2 b2; rw [List.nil_append] at o2; obtain ⟨bo, bc, rfl, _⟩ := own_slice o2.out)
  go_ret
  exact ⟨⟨bo, n, bc⟩, rfl, rfl, o2.out, t2.out.mono (fun i _ e => by cases e)⟩
theorem cpsd_any {L : List Sd} {ao : Option Addr} {n c : Nat} (w : World) (hl : L.length = n) (hm : n ≤ 1000000) (hn : ao = none → c = 0) (hr : Has Sd.cs 7 w ao L) : Calls Try.prog 19 #[.slice ao n c] w (CopyF Sd.cs 7 57 L n w) := by
  have HL := Lib.hid hl
  have HN := Lib.hid hn
  have HR := Lib.hid hr
  clear hl hn hr
  go_enter Try.func19, Try.ntmps19
  go_wp2_with (at_builtin; refine wpList_append_great sd_ok (by decide) Try.underlying36 info_sudog rfl (by decide) rfl (.const (.slice none 0 0)) (.tmp 3) rfl w.heap.size (.slice none 0 0) [] 0 rfl own_nil ao L n c HL.out rfl HN.out HR.out n (Nat.zero_add n) hm (Nat.le_refl _) ?_; intro v2 w2 o2 t2 b2; rw [List.nil_append] at o2; obtain ⟨bo, bc, rfl, _⟩ := own_slice o2.out)
  go_ret
  exact ⟨⟨bo, n, bc⟩, rfl, rfl, o2.out, t2.out.mono (fun i _ e => by cases e)⟩
theorem cpmk_any {L : List Mk} {ao : Option Addr} {n c : Nat} (w : World) (hl : L.length = n) (hm : n ≤ 1000000) (hn : ao = none → c = 0) (hr : Has Mk.cs 13 w ao L) : Calls Try.prog 24 #[.slice ao n c] w (CopyF Mk.cs 13 66 L n w) := by
  have HL := Lib.hid hl
  have HN := Lib.hid hn
  have HR := Lib.hid hr
  clear hl hn hr
  go_enter Try.func24, Try.ntmps24
  go_wp2_with (at_builtin; refine wpList_append_great mk_ok (by decide) Try.underlying39 info_mark rfl (by decide) rfl (.const (.slice none 0 0)) (.tmp 3) rfl w.heap.size (.slice none 0 0) [] 0 rfl own_nil ao L n c HL.out rfl HN.out HR.out n (Nat.zero_add n) hm (Nat.le_refl _) ?_; intro v2 w2 o2 t2 b2; rw [List.nil_append] at o2; obtain ⟨bo, bc, rfl, _⟩ := own_slice o2.out)
  go_ret
  exact ⟨⟨bo, n, bc⟩, rfl, rfl, o2.out, t2.out.mono (fun i _ e => by cases e)⟩

/-- A row of numbers of one's own is made. -/
def CopyI (k : IntKind) (e : TypeId) (L : List Int) (n : Nat) (w : World) (en : Ending) (w' : World) : Prop :=
  ∃ s : Sl, en = .returned (.slice s.ao n s.cap) ∧ s.len = n ∧ w'.ownsRow w.heap.size e 1 s.val n (L.map (Value.int k)) ∧ Turn (fun _ => False) w w'
theorem cpint_any {L : List Int} {ao : Option Addr} {n c : Nat} (w : World) (hl : L.length = n) (hm : n ≤ 1000000) (hn : ao = none → c = 0) (hr : Ints .i64 w ao L) : Calls Try.prog 45 #[.slice ao n c] w (CopyI .i64 3 L n w) := by
  have HL := Lib.hid hl
  have HN := Lib.hid hn
  have HR := Lib.hid hr
  clear hl hn hr
  go_enter Try.func45, Try.ntmps45
  go_wp2_with (at_builtin; refine wpList_append_ints_at Try.underlying38 info_int (by decide) rfl (.const (.slice none 0 0)) (.tmp 3) rfl w.heap.size (.slice none 0 0) [] 0 rfl ⟨rfl, .inl ⟨rfl, rfl⟩⟩ ao L n c HL.out rfl HN.out HR.out (by omega) (Nat.le_refl _) ?_; intro v2 w2 o2 t2 b2; rw [List.nil_append, Nat.zero_add] at o2; obtain ⟨bo, bc, rfl, _⟩ := own_slice o2.out)
  go_ret
  exact ⟨⟨bo, n, bc⟩, rfl, rfl, o2.out, t2.out.mono (fun i _ e => by cases e)⟩
theorem cpu16_any {L : List Int} {ao : Option Addr} {n c : Nat} (w : World) (hl : L.length = n) (hm : n ≤ 1000000) (hn : ao = none → c = 0) (hr : Ints .u16 w ao L) : Calls Try.prog 22 #[.slice ao n c] w (CopyI .u16 64 L n w) := by
  have HL := Lib.hid hl
  have HN := Lib.hid hn
  have HR := Lib.hid hr
  clear hl hn hr
  go_enter Try.func22, Try.ntmps22
  go_wp2_with (at_builtin; refine wpList_append_ints_at Try.underlying25 u16_info (by decide) rfl (.const (.slice none 0 0)) (.tmp 3) rfl w.heap.size (.slice none 0 0) [] 0 rfl ⟨rfl, .inl ⟨rfl, rfl⟩⟩ ao L n c HL.out rfl HN.out HR.out (by omega) (Nat.le_refl _) ?_; intro v2 w2 o2 t2 b2; rw [List.nil_append, Nat.zero_add] at o2; obtain ⟨bo, bc, rfl, _⟩ := own_slice o2.out)
  go_ret
  exact ⟨⟨bo, n, bc⟩, rfl, rfl, o2.out, t2.out.mono (fun i _ e => by cases e)⟩

end Go.Proofs.Ytenbafkgfdlfpaa
