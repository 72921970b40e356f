/- A cycle's end: a place, and the access there. -/
import Derived.Test.YtelmohajdmcnmaaDoorMi9
namespace Go.Proofs.YtelmohajdmcnmaaDoor.Mi
open Go.RowKit Alu Ex
set_option linter.unusedVariables false

theorem sOf9 {w : World} {b : Nat} {c : Cp} (h : Row w b c.cells) : w.cell? ⟨b, 0, none⟩ = some (.int .u8 (c.r.a : Int)) ∧ w.cell? ⟨b, 1, none⟩ = some (.int .u8 (c.r.x : Int)) ∧ w.cell? ⟨b, 2, none⟩ = some (.int .u8 (c.r.y : Int)) ∧ w.cell? ⟨b, 3, none⟩ = some (.int .u8 (c.r.s : Int)) ∧ w.cell? ⟨b, 4, none⟩ = some (.int .u8 (c.r.p : Int)) ∧ w.cell? ⟨b, 5, none⟩ = some (.int .u16 (c.r.pc : Int)) ∧ w.cell? ⟨b, 11, none⟩ = some (.string c.nm) ∧ w.cell? ⟨b, 9, none⟩ = some (.int .u8 (c.da : Int)) := ⟨h.at_ 0 _ rfl, h.at_ 1 _ rfl, h.at_ 2 _ rfl, h.at_ 3 _ rfl, h.at_ 4 _ rfl, h.at_ 5 _ rfl, h.at_ 11 _ rfl, h.at_ 9 _ rfl⟩

end Go.Proofs.YtelmohajdmcnmaaDoor.Mi
