/- Which colour is seen: the program's answer, whole. -/
import Derived.Test.YtkondnlilkpdoaaDoorFld4
set_option linter.unusedVariables false
namespace Go.Proofs.YtkondnlilkpdoaaDoor.Fi
open Go.RowKit

/-- The colour that is seen. -/
def seenI (f s d0 d1 d2 d3 d4 d5 l : Bool) : Int := if f && (d4 || d5) then 2 else if d0 || d2 then 0 else if d1 || d3 then 1 else if d4 then 2 else if d5 then (if s && !f then (if l then 0 else 1) else 2) else 3

theorem and4 : ∀ c : Nat, c < 256 → (bits .and .u8 (c : Int) 4 != 0) = decide (c / 4 % 2 = 1) := by decide +kernel
theorem and6 : ∀ c : Nat, c < 256 → (bits .and .u8 (c : Int) 6 == 2) = (decide (c / 2 % 2 = 1) && !decide (c / 4 % 2 = 1)) := by decide +kernel
theorem fst_seen : ∀ f s d0 d1 d2 d3 d4 d5 l : Bool, seenI f s d0 d1 d2 d3 d4 d5 l = (if (fst f (d0 || d2) (d1 || d3) (d4 || d5) == 2) && !d4 && (s && !f) then (if l then 0 else 1) else fst f (d0 || d2) (d1 || d3) (d4 || d5)) := by decide
theorem fst_rng (f t0 t1 t2 : Bool) : 0 ≤ fst f t0 t1 t2 ∧ fst f t0 t1 t2 ≤ 3 := by revert f t0 t1 t2; decide

set_option maxRecDepth 100000 in
set_option maxHeartbeats 8000000 in
theorem Seen (d0 d1 d2 d3 d4 d5 : Bool) (c : Nat) (x : Int) (l f s : Bool) (w : World) (hc : c < 256) (hl : decide (x < 80) = l) (hf : decide (c / 4 % 2 = 1) = f) (hs : decide (c / 2 % 2 = 1) = s) (hT : Tab w) : Calls Tryd.prog 13 #[.agg #[.bool d0, .bool d1, .bool d2, .bool d3, .bool d4, .bool d5], .int .u8 (c : Int), .int .i64 x] w fun e w' => e = .returned (.int .i64 (seenI f s d0 d1 d2 d3 d4 d5 l)) ∧ Below w.heap.size w w' := by
  have HA : Hid (DAt (w.alloc (.cells #[.bool d0, .bool d1, .bool d2, .bool d3, .bool d4, .bool d5] 26)) w.heap.size (six d0 d1 d2 d3 d4 d5)) := new_dots w d0 d1 d2 d3 d4 d5
  have hB : Below w.heap.size w (w.alloc (.cells #[.bool d0, .bool d1, .bool d2, .bool d3, .bool d4, .bool d5] 26)) := (Below.refl _ w).alloc (Nat.le_refl _) _
  have HB : Hid (Below w.heap.size w (w.alloc (.cells #[.bool d0, .bool d1, .bool d2, .bool d3, .bool d4, .bool d5] 26))) := hB
  have HT : Hid (Tab (w.alloc (.cells #[.bool d0, .bool d1, .bool d2, .bool d3, .bool d4, .bool d5] 26))) := hT.below hB (Nat.le_refl _)
  have hmf : ∀ (fn : Fn) (first cap : Array Value) (w : World), (Instr.makeFunc fn first cap).run Tryd.prog w = .ok (.func fn first cap) w := fun _ _ _ _ => rfl
  have HC : Hid ((bits .and .u8 (c : Int) 4 != 0) = f) := (and4 c hc).trans hf
  have h6 : (bits .and .u8 (c : Int) 6 == 2) = (s && !f) := by rw [and6 c hc, hs, hf]
  have HL : Hid (decide (x < 80) = l) := hl
  obtain ⟨g, hg⟩ : ∃ g, fst f (d0 || d2) (d1 || d3) (d4 || d5) = g := ⟨_, rfl⟩
  have HG : Hid (fst f (th (six d0 d1 d2 d3 d4 d5) 0) (th (six d0 d1 d2 d3 d4 d5) 1) (th (six d0 d1 d2 d3 d4 d5) 2) = g) := hg
  have HS : Hid (seenI f s d0 d1 d2 d3 d4 d5 l = if (g == 2) && !d4 && (s && !f) then (if l then 0 else 1) else g) := (by rw [fst_seen, hg] : seenI f s d0 d1 d2 d3 d4 d5 l = if (g == 2) && !d4 && (s && !f) then (if l then 0 else 1) else g)
  have hgr := fst_rng f (d0 || d2) (d1 || d3) (d4 || d5)
  rw [hg] at hgr
  obtain ⟨g1, g2⟩ := hgr
  obtain ⟨z, hz⟩ : ∃ z, (s && !f) = z := ⟨_, rfl⟩
  rw [hz] at h6 HS
  clear hT hB hf hs hl hg hc hz
  rw [HS.out]
  cases hg2 : (g == 2) <;> cases d4 <;> cases z
  all_goals
    go_enter Tryd.func13, Tryd.ntmps13
    go_wp2_with (go_at_call 23; fail)
    refine (first c _ f _ _ HC.out HT.out HA.out).mono ?_
    rintro e w2 ⟨rfl, hB2⟩
    rw [HG.out]
    have hD2 := (HA.out.below hB2).c 4 (by decide)
    have HB2 : Hid (Below w.heap.size w w2) := b_keep HB.out hB2
    simp only [six] at hD2
    clear hB2
    go_wp2_with (go_at_call 25; refine (owner x l _ HL.out).mono ?_; rintro e w3 ⟨rfl, rfl⟩)
    all_goals go_returns
    all_goals exact ⟨by first | rfl | simp | simp_all, HB2.out⟩

end Go.Proofs.YtkondnlilkpdoaaDoor.Fi
