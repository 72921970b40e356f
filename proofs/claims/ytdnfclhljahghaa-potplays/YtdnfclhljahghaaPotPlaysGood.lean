/- PotPlays: walked. (Written by wip/gen/gen_potplays2.py.) -/
import Derived.Test.YtdnfclhljahghaaPotPlaysB0
import Derived.Test.YtdnfclhljahghaaPotPlaysB1
import Derived.Test.YtdnfclhljahghaaPotPlaysB2
import Derived.Test.YtdnfclhljahghaaPotPlaysB3
import Derived.Test.YtdnfclhljahghaaPotPlaysB4
import Derived.Test.YtdnfclhljahghaaPotPlaysNone
import Derived.Deep.RegionHeld
import Derived.Deep.DeepCutAuto
set_option linter.unusedVariables false
namespace Go.Proofs.Ytdnfclhljahghaa.potPlays
open Go.RowKit Po

theorem good (A : List Po.Act) (ao : Option Addr) (cap b0 off0 : Nat) (W : World) (hA : ∀ a ∈ A, a.ok) (hl : A.length ≤ 60) (hS : SeenX W ao cap b0 off0 16 (A.map Po.Act.row)) :
    Calls Try.prog 8 #[.slice ao A.length cap] W fun e w' => e = .returned (.bool true) ∧ Below W.heap.size W w' := by
  have hcap := hS.max
  have hle := hS.le
  rw [List.length_map] at hle
  by_cases h0 : A = []
  · subst h0
    exact noAct ao cap W hcap
  · obtain rfl := hS.at_ (fun e => h0 (List.map_eq_nil_iff.mp e))
    exact (start A _ cap b0 off0 W rfl hA hl hS hcap hle).go ⟨arm0 A _ cap b0 off0 W rfl hA hl hS hcap hle, arm1 A _ cap b0 off0 W rfl hA hl hS hcap hle, arm2 A _ cap b0 off0 W rfl hA hl hS hcap hle, arm3 A _ cap b0 off0 W rfl hA hl hS hcap hle, arm4 A _ cap b0 off0 W rfl hA hl hS hcap hle⟩

end Go.Proofs.Ytdnfclhljahghaa.potPlays
