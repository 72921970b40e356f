/- What New of package tone does. (Written by wip/gen/gen_tone4.py.) -/
import Derived.Test.YtdnfclhljahghaaTone3
namespace Go.Proofs.Ytdnfclhljahghaa.To
open Go.RowKit
set_option linter.unusedVariables false

set_option maxRecDepth 100000 in
set_option maxHeartbeats 2000000 in
theorem New (w : World) : Calls Try.prog 12 #[] w fun e w' => ∃ b, e = .returned (.pointer (some ⟨b, 0, none⟩)) ∧ w.heap.size ≤ b ∧ VAt w' b Vo.new ∧ Below w.heap.size w w' := by
  go_enter Try.func12, Try.ntmps12
  go_wp2_with (fail)
  go_region_with (first
    | (go_at_call_of 45 (Value.int IntKind.i64 4); refine (Poly8.New 4 1 _ (by decide) (by decide) (by decide)).mono ?_; rintro e w4 ⟨b4, rfl, hb4, hA4, hB4⟩; have k40 := hA4.c0; have k41 := hA4.c1; have k42 := hA4.c2; have l4 := hA4.lt; (try have k50 := (hB4.cell (p := ⟨b5, 0, none⟩) l5).trans k50); (try have k51 := (hB4.cell (p := ⟨b5, 1, none⟩) l5).trans k51); (try have k52 := (hB4.cell (p := ⟨b5, 2, none⟩) l5).trans k52); (try have l5 := Nat.lt_of_lt_of_le l5 hB4.size); (try have k90 := (hB4.cell (p := ⟨b9, 0, none⟩) l9).trans k90); (try have k91 := (hB4.cell (p := ⟨b9, 1, none⟩) l9).trans k91); (try have k92 := (hB4.cell (p := ⟨b9, 2, none⟩) l9).trans k92); (try have l9 := Nat.lt_of_lt_of_le l9 hB4.size); (first | have HB := HB.trans (Below.mono ⟨hB4.os, hB4.tape, hB4.output, hB4.size, hB4.block⟩ HB.size) | have HB : Below w.heap.size w w4 := ⟨hB4.os, hB4.tape, hB4.output, hB4.size, hB4.block⟩))
    | (go_at_call_of 45 (Value.int IntKind.i64 5); refine (Poly8.New 5 2 _ (by decide) (by decide) (by decide)).mono ?_; rintro e w5 ⟨b5, rfl, hb5, hA5, hB5⟩; have k50 := hA5.c0; have k51 := hA5.c1; have k52 := hA5.c2; have l5 := hA5.lt; (try have k40 := (hB5.cell (p := ⟨b4, 0, none⟩) l4).trans k40); (try have k41 := (hB5.cell (p := ⟨b4, 1, none⟩) l4).trans k41); (try have k42 := (hB5.cell (p := ⟨b4, 2, none⟩) l4).trans k42); (try have l4 := Nat.lt_of_lt_of_le l4 hB5.size); (try have k90 := (hB5.cell (p := ⟨b9, 0, none⟩) l9).trans k90); (try have k91 := (hB5.cell (p := ⟨b9, 1, none⟩) l9).trans k91); (try have k92 := (hB5.cell (p := ⟨b9, 2, none⟩) l9).trans k92); (try have l9 := Nat.lt_of_lt_of_le l9 hB5.size); (first | have HB := HB.trans (Below.mono ⟨hB5.os, hB5.tape, hB5.output, hB5.size, hB5.block⟩ HB.size) | have HB : Below w.heap.size w w5 := ⟨hB5.os, hB5.tape, hB5.output, hB5.size, hB5.block⟩))
    | (go_at_call 46; refine (Poly16.New 9 4 _ (by decide) (by decide) (by decide)).mono ?_; rintro e w9 ⟨b9, rfl, hb9, hA9, hB9⟩; have k90 := hA9.c0; have k91 := hA9.c1; have k92 := hA9.c2; have l9 := hA9.lt; (try have k40 := (hB9.cell (p := ⟨b4, 0, none⟩) l4).trans k40); (try have k41 := (hB9.cell (p := ⟨b4, 1, none⟩) l4).trans k41); (try have k42 := (hB9.cell (p := ⟨b4, 2, none⟩) l4).trans k42); (try have l4 := Nat.lt_of_lt_of_le l4 hB9.size); (try have k50 := (hB9.cell (p := ⟨b5, 0, none⟩) l5).trans k50); (try have k51 := (hB9.cell (p := ⟨b5, 1, none⟩) l5).trans k51); (try have k52 := (hB9.cell (p := ⟨b5, 2, none⟩) l5).trans k52); (try have l5 := Nat.lt_of_lt_of_le l5 hB9.size); (first | have HB := HB.trans (Below.mono ⟨hB9.os, hB9.tape, hB9.output, hB9.size, hB9.block⟩ HB.size) | have HB : Below w.heap.size w w9 := ⟨hB9.os, hB9.tape, hB9.output, hB9.size, hB9.block⟩)))
  all_goals
    go_wp2
    go_returns
    exact ⟨_, rfl, HB.size, ⟨Row.new _ _ _, Vo.ok.new⟩, HB.alloc HB.size _⟩

end Go.Proofs.Ytdnfclhljahghaa.To
