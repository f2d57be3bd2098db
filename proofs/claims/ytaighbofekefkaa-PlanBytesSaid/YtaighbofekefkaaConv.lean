/- Bytes as a text. -/
import Derived.Test.YtaighbofekefkaaEnc
import Derived.Laws.IdiomStrings
namespace Go.Proofs.Ytaighbofekefkaa
open Go.RowKit
set_option linter.unusedVariables false

def textOf (L : List Int) : ByteArray := ⟨(L.map fun x => UInt8.ofNat x.toNat).toArray⟩
theorem u8_back {x : Int} (h : 0 ≤ x ∧ x ≤ 255) : ((UInt8.ofNat x.toNat).toNat : Int) = x := by
  rw [UInt8.toNat_ofNat']
  omega
theorem conv_own {w : World} {base g n c : Nat} {L : List Int} (h : Own w base (.slice (some ⟨g, 0, none⟩) n c) L) (hn : L.length = n) (hb : IsBytes L) :
    (convert 22 9 (.slice (some ⟨g, 0, none⟩) n c)).run Try.prog w = .ok (.string (textOf L)) w := by
  have hi := (own_reads (h.at hn)).2.1
  have hl : (L.map fun x => UInt8.ofNat x.toNat).length = n := by rw [List.length_map]; exact hn
  have := run_convert_bytes_back (P := Try.prog) w 22 9 5 ⟨g, 0, none⟩ c (L.map fun x => UInt8.ofNat x.toNat) Try.underlying22 Try.underlying5 Try.underlying9 (fun j hj => by
    have hj' : j < L.length := by simpa using hj
    obtain ⟨a, e, hc⟩ := hi j hj'
    cases e
    rw [hc, List.getElem_map, u8_back (hb _ (List.getElem_mem hj'))]
    simp [List.getD, hj'])
  rw [hl] at this
  exact this
theorem conv_nil (w : World) : (convert 22 9 (.slice none 0 0)).run Try.prog w = .ok (.string (textOf [])) w := by
  rw [run_convert_bytes_string w 22 9 5 none 0 0 Try.underlying22 Try.underlying5 Try.underlying9]
  rfl

end Go.Proofs.Ytaighbofekefkaa
