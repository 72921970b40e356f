/- SpriteStarts, walked: whatever comes in, true comes out. -/
import Derived.Test.YtienmoannnhhmaaDoorRefS2
set_option linter.unusedVariables false
namespace Go.Proofs.YtienmoannnhhmaaDoor.spriteStarts
open Go.RowKit Sp

set_option maxRecDepth 100000 in
set_option maxHeartbeats 2000000 in
theorem walk (a0 : Int) (w0 : (Lit.int .u8 a0).wf = true) (W : World) (ht : Tb W) :
    Calls Tryd.prog 4 #[.int .u8 a0] W fun e w' => e = .returned (.bool true) ∧ Below W.heap.size W w' := by
  have hb := bounds_u8 w0
  obtain ⟨c, rfl⟩ := Int.eq_ofNat_of_zero_le (show 0 ≤ a0 by omega)
  have hc : c < 256 := by omega
  have HT : Hid (Tb W) := ht
  clear ht hb w0
  go_enter Tryd.func4, Tryd.ntmps4
  go_wp2_with (go_at_call 23; fail)
  refine (StartsS c _ hc).mono ?_
  rintro e w1 ⟨g, cap, rfl, hS1, hB1⟩
  have HB1 : Hid (Below W.heap.size W w1) := hB1
  have HS1 : Hid (Seen (fun x => .int .i64 x) w1 (some ⟨g, 0, none⟩) cap g 0 (stI c)) := hS1
  clear hB1 hS1
  go_wp2_with (go_at_call 24; fail)
  refine (RStarts c _ hc).mono ?_
  rintro e w2 ⟨ao, cap2, g2, rfl, hS2, hB2⟩
  have HB2 : Hid (Below W.heap.size W w2) := b_keep HB1.out hB2
  have HS12 : Hid (Seen (fun x => .int .i64 x) w2 (some ⟨g, 0, none⟩) cap g 0 (stI c)) := HS1.out.below hB2
  have HS2 : Hid (Seen (fun x => .int .i64 x) w2 ao cap2 g2 0 (stI c)) := hS2
  clear hB2 hS2 HB1 HS1
  go_wp2_with (go_at_call 22; fail)
  refine (Same (stI c) _ _ _ _ cap cap2 g g2 0 0 _ HS12.out HS2.out rfl rfl).mono ?_
  rintro e w3 ⟨rfl, q, rfl⟩
  have HB3 : Hid (Below W.heap.size W (w2.drewN q)) := below_drewN HB2.out q
  generalize w2.drewN q = w3 at HB3 ⊢
  clear HB2 HS12 HS2
  go_wp2_with (go_at_call 21; fail)
  refine (awake16 _ (HT.out.below HB3.out)).mono ?_
  rintro e w4 ⟨rfl, hB4⟩
  go_wp2
  go_returns
  exact ⟨rfl, b_keep HB3.out hB4⟩

end Go.Proofs.YtienmoannnhhmaaDoor.spriteStarts
