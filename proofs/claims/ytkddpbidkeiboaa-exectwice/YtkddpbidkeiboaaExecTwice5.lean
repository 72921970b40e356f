/- ExecTwice, walked at one of six. -/
import Derived.Test.YtkddpbidkeiboaaExecTwiceM
namespace Go.Proofs.Ytkddpbidkeiboaa.execTwice
open Go.RowKit Alu Ex
set_option linter.unusedVariables false

set_option maxRecDepth 100000 in
set_option maxHeartbeats 4000000 in
theorem walk5 (i a x y t p c m : Nat) (hi : (i : Int) % 6 = 5) (hi2 : i < 256) (hr : Rg.ok ⟨a, x, y, t, p, c⟩) (hm : m < 256) (W : World) :
    Calls Try.prog 8 #[.int .u8 (i : Int), .agg #[.int .u8 (a : Int), .int .u8 (x : Int), .int .u8 (y : Int), .int .u8 (t : Int), .int .u8 (p : Int), .int .u16 (c : Int)], .int .u8 (m : Int)] W fun e w' => e = .returned (.bool true) ∧ Below W.heap.size W w' := by
  have hV := tbV_lt [73, 78, 67] ⟨a, x, y, t, p, c⟩ m hm
  have hT := tbR_ok [73, 78, 67] ⟨a, x, y, t, p, c⟩ m hr
  have C1 : Hid (∀ w : World, Calls Try.prog 22 #[.string ⟨#[73, 83, 67]⟩, .agg #[.int .u8 (a : Int), .int .u8 (x : Int), .int .u8 (y : Int), .int .u8 (t : Int), .int .u8 (p : Int), .int .u16 (c : Int)], .int .u8 (m : Int)] w fun e w' => e = .returned (.tuple #[.int .u8 ((tbV [73, 78, 67] ⟨a, x, y, t, p, c⟩ m : Nat) : Int), .agg (rV (rd [83, 66, 67] (tbR [73, 78, 67] ⟨a, x, y, t, p, c⟩ m) (tbV [73, 78, 67] ⟨a, x, y, t, p, c⟩ m)))]) ∧ Below w.heap.size w w') := fun w => by
    have h := TurnX ⟨#[73, 83, 67]⟩ m ⟨a, x, y, t, p, c⟩ hm w hr
    rw [ByteArray.toList_eq] at h
    exact h
  have C2 : Hid (∀ w : World, Calls Try.prog 22 #[.string ⟨#[73, 78, 67]⟩, .agg #[.int .u8 (a : Int), .int .u8 (x : Int), .int .u8 (y : Int), .int .u8 (t : Int), .int .u8 (p : Int), .int .u16 (c : Int)], .int .u8 (m : Int)] w fun e w' => e = .returned (.tuple #[.int .u8 ((tbV [73, 78, 67] ⟨a, x, y, t, p, c⟩ m : Nat) : Int), .agg (rV (tbR [73, 78, 67] ⟨a, x, y, t, p, c⟩ m))]) ∧ Below w.heap.size w w') := fun w => by
    have h := TurnX ⟨#[73, 78, 67]⟩ m ⟨a, x, y, t, p, c⟩ hm w hr
    rw [ByteArray.toList_eq] at h
    exact h
  have C3 : Hid (∀ w : World, Calls Try.prog 9 #[.string ⟨#[83, 66, 67]⟩, .agg (rV (tbR [73, 78, 67] ⟨a, x, y, t, p, c⟩ m)), .int .u8 ((tbV [73, 78, 67] ⟨a, x, y, t, p, c⟩ m : Nat) : Int)] w fun e w' => e = .returned (.agg (rV (rd [83, 66, 67] (tbR [73, 78, 67] ⟨a, x, y, t, p, c⟩ m) (tbV [73, 78, 67] ⟨a, x, y, t, p, c⟩ m)))) ∧ Below w.heap.size w w') := fun w => by
    have h := Ex.Read ⟨#[83, 66, 67]⟩ _ (tbR [73, 78, 67] ⟨a, x, y, t, p, c⟩ m) hV w hT
    rw [ByteArray.toList_eq] at h
    exact h
  generalize rd [83, 66, 67] (tbR [73, 78, 67] ⟨a, x, y, t, p, c⟩ m) (tbV [73, 78, 67] ⟨a, x, y, t, p, c⟩ m) = U at C1 C3
  generalize tbR [73, 78, 67] ⟨a, x, y, t, p, c⟩ m = T at C2 C3 hT
  generalize tbV [73, 78, 67] ⟨a, x, y, t, p, c⟩ m = V at C1 C2 C3 hV
  obtain ⟨ua, ux, uy, us, up, uc⟩ := U
  obtain ⟨ta, tx, ty, ts, tp, tc⟩ := T
  unfold rV at C1 C2 C3
  clear hT hr
  have hq : ((i : Int)).tmod 6 = 5 := by rw [Int.tmod_eq_emod_of_nonneg (by omega)]; exact hi
  go_enter Try.func8, Try.ntmps8
  go_wp2_with (go_at_call 22; fail)
  have hA : ∃ wA, wA = ((W.alloc (.cells #[.int .u8 (a : Int), .int .u8 (x : Int), .int .u8 (y : Int), .int .u8 (t : Int), .int .u8 (p : Int), .int .u16 (c : Int)] 24)).alloc (.cells #[.string ⟨#[83, 76, 79]⟩, .string ⟨#[65, 83, 76]⟩, .string ⟨#[79, 82, 65]⟩, .string ⟨#[82, 76, 65]⟩, .string ⟨#[82, 79, 76]⟩, .string ⟨#[65, 78, 68]⟩, .string ⟨#[83, 82, 69]⟩, .string ⟨#[76, 83, 82]⟩, .string ⟨#[69, 79, 82]⟩, .string ⟨#[82, 82, 65]⟩, .string ⟨#[82, 79, 82]⟩, .string ⟨#[65, 68, 67]⟩, .string ⟨#[68, 67, 80]⟩, .string ⟨#[68, 69, 67]⟩, .string ⟨#[67, 77, 80]⟩, .string ⟨#[73, 83, 67]⟩, .string ⟨#[73, 78, 67]⟩, .string ⟨#[83, 66, 67]⟩] 47)).alloc (.cells #[.string ⟨#[73, 83, 67]⟩, .string ⟨#[73, 78, 67]⟩, .string ⟨#[83, 66, 67]⟩] 46) := ⟨_, rfl⟩
  obtain ⟨wA, hwA⟩ := hA
  rw [← hwA]
  have HR : Hid (RAt wA W.heap.size 0 ⟨a, x, y, t, p, c⟩) := by
    show RAt _ _ _ _
    rw [hwA]
    exact ((RAt.new W ⟨a, x, y, t, p, c⟩ _).alloc _).alloc _
  have HX : Hid (X3 wA (W.heap.size + 1 + 1) ⟨#[73, 83, 67]⟩ ⟨#[73, 78, 67]⟩ ⟨#[83, 66, 67]⟩) := by
    show X3 _ _ _ _ _
    rw [hwA]
    have hh := heap_alloc_new ((W.alloc (.cells #[.int .u8 (a : Int), .int .u8 (x : Int), .int .u8 (y : Int), .int .u8 (t : Int), .int .u8 (p : Int), .int .u16 (c : Int)] 24)).alloc (.cells #[.string ⟨#[83, 76, 79]⟩, .string ⟨#[65, 83, 76]⟩, .string ⟨#[79, 82, 65]⟩, .string ⟨#[82, 76, 65]⟩, .string ⟨#[82, 79, 76]⟩, .string ⟨#[65, 78, 68]⟩, .string ⟨#[83, 82, 69]⟩, .string ⟨#[76, 83, 82]⟩, .string ⟨#[69, 79, 82]⟩, .string ⟨#[82, 82, 65]⟩, .string ⟨#[82, 79, 82]⟩, .string ⟨#[65, 68, 67]⟩, .string ⟨#[68, 67, 80]⟩, .string ⟨#[68, 69, 67]⟩, .string ⟨#[67, 77, 80]⟩, .string ⟨#[73, 83, 67]⟩, .string ⟨#[73, 78, 67]⟩, .string ⟨#[83, 66, 67]⟩] 47)) (.cells #[.string ⟨#[73, 83, 67]⟩, .string ⟨#[73, 78, 67]⟩, .string ⟨#[83, 66, 67]⟩] 46)
    rw [show ((W.alloc (.cells #[.int .u8 (a : Int), .int .u8 (x : Int), .int .u8 (y : Int), .int .u8 (t : Int), .int .u8 (p : Int), .int .u16 (c : Int)] 24)).alloc (.cells #[.string ⟨#[83, 76, 79]⟩, .string ⟨#[65, 83, 76]⟩, .string ⟨#[79, 82, 65]⟩, .string ⟨#[82, 76, 65]⟩, .string ⟨#[82, 79, 76]⟩, .string ⟨#[65, 78, 68]⟩, .string ⟨#[83, 82, 69]⟩, .string ⟨#[76, 83, 82]⟩, .string ⟨#[69, 79, 82]⟩, .string ⟨#[82, 82, 65]⟩, .string ⟨#[82, 79, 82]⟩, .string ⟨#[65, 68, 67]⟩, .string ⟨#[68, 67, 80]⟩, .string ⟨#[68, 69, 67]⟩, .string ⟨#[67, 77, 80]⟩, .string ⟨#[73, 83, 67]⟩, .string ⟨#[73, 78, 67]⟩, .string ⟨#[83, 66, 67]⟩] 47)).heap.size = W.heap.size + 1 + 1 by simp] at hh
    exact ⟨cell_of_row _ _ _ _ _ _ hh, cell_of_row _ _ _ _ _ _ hh, cell_of_row _ _ _ _ _ _ hh⟩
  have HB : Hid (Below W.heap.size W wA) := by
    show Below _ _ _
    rw [hwA]; exact below3 W _ _ _
  clear hwA
  generalize hg : W.heap.size = gr at *
  have HG : Hid (W.heap.size = gr) := hg
  clear hg
  refine (C1.out _).mono ?_
  rintro e w1 ⟨rfl, hB1⟩
  have HR1 : Hid (RAt w1 gr 0 ⟨a, x, y, t, p, c⟩) := HR.out.below hB1
  have HX1 : Hid (X3 w1 (gr + 1 + 1) ⟨#[73, 83, 67]⟩ ⟨#[73, 78, 67]⟩ ⟨#[83, 66, 67]⟩) := HX.out.below hB1
  have HB1 : Hid (Below gr W w1) := HB.out.trans (hB1.mono (sizeLe HB.out HG.out.symm))
  clear hB1
  have r0 : ∀ X, (w1.alloc X).cell? ⟨gr, 0, none⟩ = some (.int .u8 (a : Int)) := fun X => (HR1.out.alloc X).c0
  have r1 : ∀ X, (w1.alloc X).cell? ⟨gr, 1, none⟩ = some (.int .u8 (x : Int)) := fun X => (HR1.out.alloc X).c1
  have r2 : ∀ X, (w1.alloc X).cell? ⟨gr, 2, none⟩ = some (.int .u8 (y : Int)) := fun X => (HR1.out.alloc X).c2
  have r3 : ∀ X, (w1.alloc X).cell? ⟨gr, 3, none⟩ = some (.int .u8 (t : Int)) := fun X => (HR1.out.alloc X).c3
  have r4 : ∀ X, (w1.alloc X).cell? ⟨gr, 4, none⟩ = some (.int .u8 (p : Int)) := fun X => (HR1.out.alloc X).c4
  have r5 : ∀ X, (w1.alloc X).cell? ⟨gr, 5, none⟩ = some (.int .u16 (c : Int)) := fun X => (HR1.out.alloc X).c5
  have q1 : ∀ X, (w1.alloc X).cell? ⟨gr + 1 + 1, 1, none⟩ = some (.string ⟨#[73, 78, 67]⟩) := fun X => (HX1.out.alloc X).c1
  go_wp2_with (go_at_call 22; fail)
  clear r0 r1 r2 r3 r4 r5 q1
  have HS : Hid (RAt (w1.alloc (.cells #[.int .u8 (ua : Int), .int .u8 (ux : Int), .int .u8 (uy : Int), .int .u8 (us : Int), .int .u8 (up : Int), .int .u16 (uc : Int)] 24)) w1.heap.size 0 ⟨ua, ux, uy, us, up, uc⟩) := RAt.new w1 ⟨ua, ux, uy, us, up, uc⟩ _
  have HXa : Hid (X3 (w1.alloc (.cells #[.int .u8 (ua : Int), .int .u8 (ux : Int), .int .u8 (uy : Int), .int .u8 (us : Int), .int .u8 (up : Int), .int .u16 (uc : Int)] 24)) (gr + 1 + 1) ⟨#[73, 83, 67]⟩ ⟨#[73, 78, 67]⟩ ⟨#[83, 66, 67]⟩) := HX1.out.alloc _
  have HBa : Hid (Below gr W (w1.alloc (.cells #[.int .u8 (ua : Int), .int .u8 (ux : Int), .int .u8 (uy : Int), .int .u8 (us : Int), .int .u8 (up : Int), .int .u16 (uc : Int)] 24))) := HB1.out.alloc (sizeLe HB1.out HG.out.symm) _
  generalize hwB : w1.alloc (.cells #[.int .u8 (ua : Int), .int .u8 (ux : Int), .int .u8 (uy : Int), .int .u8 (us : Int), .int .u8 (up : Int), .int .u16 (uc : Int)] 24) = wB at HS HXa HBa ⊢
  generalize w1.heap.size = gs at *
  clear hwB HR1 HX1 HB1 HR HX
  refine (C2.out _).mono ?_
  rintro e w2 ⟨rfl, hB2⟩
  have HS2 : Hid (RAt w2 gs 0 ⟨ua, ux, uy, us, up, uc⟩) := HS.out.below hB2
  have HX2 : Hid (X3 w2 (gr + 1 + 1) ⟨#[73, 83, 67]⟩ ⟨#[73, 78, 67]⟩ ⟨#[83, 66, 67]⟩) := HXa.out.below hB2
  have HB2 : Hid (Below gr W w2) := HBa.out.trans (hB2.mono (sizeLe HBa.out HG.out.symm))
  clear hB2 HS HXa HBa
  have q2 : ∀ X, (w2.alloc X).cell? ⟨gr + 1 + 1, 2, none⟩ = some (.string ⟨#[83, 66, 67]⟩) := fun X => (HX2.out.alloc X).c2
  go_wp2_with (go_at_call 9; fail)
  clear q2
  have HSa : Hid (RAt (w2.alloc (.cells #[.int .u8 (ta : Int), .int .u8 (tx : Int), .int .u8 (ty : Int), .int .u8 (ts : Int), .int .u8 (tp : Int), .int .u16 (tc : Int)] 24)) gs 0 ⟨ua, ux, uy, us, up, uc⟩) := HS2.out.alloc _
  have HBb : Hid (Below gr W (w2.alloc (.cells #[.int .u8 (ta : Int), .int .u8 (tx : Int), .int .u8 (ty : Int), .int .u8 (ts : Int), .int .u8 (tp : Int), .int .u16 (tc : Int)] 24))) := HB2.out.alloc (sizeLe HB2.out HG.out.symm) _
  generalize hwC : w2.alloc (.cells #[.int .u8 (ta : Int), .int .u8 (tx : Int), .int .u8 (ty : Int), .int .u8 (ts : Int), .int .u8 (tp : Int), .int .u16 (tc : Int)] 24) = wC at HSa HBb ⊢
  generalize w2.heap.size = gt at *
  clear hwC HS2 HX2 HB2
  refine (C3.out _).mono ?_
  rintro e w3 ⟨rfl, hB3⟩
  have HS3 : Hid (RAt w3 gs 0 ⟨ua, ux, uy, us, up, uc⟩) := HSa.out.below hB3
  have HB3 : Hid (Below gr W w3) := HBb.out.trans (hB3.mono (sizeLe HBb.out HG.out.symm))
  clear hB3 HSa HBb
  have s0 : ∀ X, (w3.alloc X).cell? ⟨gs, 0, none⟩ = some (.int .u8 (ua : Int)) := fun X => (HS3.out.alloc X).c0
  have s1 : ∀ X, (w3.alloc X).cell? ⟨gs, 1, none⟩ = some (.int .u8 (ux : Int)) := fun X => (HS3.out.alloc X).c1
  have s2 : ∀ X, (w3.alloc X).cell? ⟨gs, 2, none⟩ = some (.int .u8 (uy : Int)) := fun X => (HS3.out.alloc X).c2
  have s3 : ∀ X, (w3.alloc X).cell? ⟨gs, 3, none⟩ = some (.int .u8 (us : Int)) := fun X => (HS3.out.alloc X).c3
  have s4 : ∀ X, (w3.alloc X).cell? ⟨gs, 4, none⟩ = some (.int .u8 (up : Int)) := fun X => (HS3.out.alloc X).c4
  have s5 : ∀ X, (w3.alloc X).cell? ⟨gs, 5, none⟩ = some (.int .u16 (uc : Int)) := fun X => (HS3.out.alloc X).c5
  have HBc : Hid (∀ X, Below gr W (w3.alloc X)) := fun X => HB3.out.alloc (sizeLe HB3.out HG.out.symm) X
  go_wp2_with (go_at_call 13; refine (awake11 _).mono ?_; rintro e w5 ⟨rfl, hB5⟩)
  go_returns
  exact ⟨rfl, by rw [HG.out]; exact (HBc.out _).trans (hB5.mono (sizeLe (HBc.out _) HG.out.symm))⟩

end Go.Proofs.Ytkddpbidkeiboaa.execTwice
