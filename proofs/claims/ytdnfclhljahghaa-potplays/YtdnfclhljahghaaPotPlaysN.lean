/- What a round of the law of layer 20 holds. (Written by wip/gen/gen_potplays.py.) -/
import Derived.Test.YtdnfclhljahghaaPotPlaysM
import Derived.Test.YtdnfclhljahghaaArrEq
namespace Go.Proofs.Ytdnfclhljahghaa.Po
open Go.RowKit
set_option linter.unusedVariables false

/-- .. and the act, in its box h. -/
structure La (W : World) (b g h : Nat) (a : Act) (p q : Pt) (w : World) : Prop where
  l : Lw W b g p q w
  act : Row w h a.row
  hb : ¬ h = b
  hg : ¬ h = g
section
variable {W w w' : World} {b g h : Nat} {a : Act} {p q : Pt}
theorem La.below (k : La W b g h a p q w) (hB : Below w.heap.size w w') : La W b g h a p q w' := ⟨k.l.below hB, k.act.below (by simp [Act.row]) hB, k.hb, k.hg⟩
theorem La.hid (k : La W b g h a p q w) (hB : Below w.heap.size w w') : Hid (La W b g h a p q w') := k.below hB
theorem La.draws (k : La W b g h a p q w) (n : Nat) : La W b g h a p q (w.drewN n) := ⟨k.l.draws n, k.act.draws n, k.hb, k.hg⟩
theorem La.turn {p' : Pt} (k : La W b g h a p q w) (hp : PAt w' b p') (ht : Turn b w w') : La W b g h a p' q w' := ⟨k.l.turn hp ht, k.act.turn (by simp [Act.row]) ht k.hb, k.hb, k.hg⟩
theorem La.put {q' : Pt} (k : La W b g h a p q w) (w2 : World) (hB : w2 = (((((((((((w.setCell ⟨g, 0, none⟩ (.int .i64 (q'.v0 : Int))).setCell ⟨g, 1, none⟩ (.int .i64 (q'.v1 : Int))).setCell ⟨g, 2, none⟩ (.int .i64 (q'.v2 : Int))).setCell ⟨g, 3, none⟩ (.int .i64 (q'.v3 : Int))).setCell ⟨g, 4, none⟩ (.int .i64 (q'.c : Int))).setCell ⟨g, 5, none⟩ (.bool q'.d)).setCell ⟨g, 6, none⟩ (.bool q'.h0)).setCell ⟨g, 7, none⟩ (.bool q'.h1)).setCell ⟨g, 8, none⟩ (.bool q'.l)).setCell ⟨g, 9, none⟩ (.bool q'.t0)).setCell ⟨g, 10, none⟩ (.bool q'.t1))) : La W b g h a p q' w2 := by
  refine ⟨k.l.put w2 hB, ?_, k.hb, k.hg⟩
  subst hB
  have hh := k.hg
  exact ((((((((((k.act.far _ hh).far _ hh).far _ hh).far _ hh).far _ hh).far _ hh).far _ hh).far _ hh).far _ hh).far _ hh).far _ hh
end

theorem words_self (p : Pt) (w : World) : (Op.equalIn 10000 55 (.agg p.w.toArray) (.agg p.w.toArray)).run Try.prog w = .ok true w :=
  equal_self (n := 11) (e := 3) (k' := .i64) (by kernel_rfl) (by kernel_rfl) (by kernel_rfl) (by kernel_rfl) _ (fun j hj => by
    have : j < 11 := hj
    rcases (show j = 0 ∨ j = 1 ∨ j = 2 ∨ j = 3 ∨ j = 4 ∨ j = 5 ∨ j = 6 ∨ j = 7 ∨ j = 8 ∨ j = 9 ∨ j = 10 by omega) with rfl | rfl | rfl | rfl | rfl | rfl | rfl | rfl | rfl | rfl | rfl <;> exact ⟨_, _, rfl⟩) w

end Go.Proofs.Ytdnfclhljahghaa.Po
