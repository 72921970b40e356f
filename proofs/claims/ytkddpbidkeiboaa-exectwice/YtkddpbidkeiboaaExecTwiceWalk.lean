/- ExecTwice, walked: whatever comes in, true comes out. -/
import Derived.Test.YtkddpbidkeiboaaExecTwice0
import Derived.Test.YtkddpbidkeiboaaExecTwice1
import Derived.Test.YtkddpbidkeiboaaExecTwice2
import Derived.Test.YtkddpbidkeiboaaExecTwice3
import Derived.Test.YtkddpbidkeiboaaExecTwice4
import Derived.Test.YtkddpbidkeiboaaExecTwice5
namespace Go.Proofs.Ytkddpbidkeiboaa.execTwice
open Go.RowKit Alu Ex
set_option linter.unusedVariables false

theorem walk (a0 : Int) (w0 : (Lit.int .u8 a0).wf = true) (a1_0 a1_1 a1_2 a1_3 a1_4 a1_5 : Int) (w1_0 : (Lit.int .u8 a1_0).wf = true) (w1_1 : (Lit.int .u8 a1_1).wf = true) (w1_2 : (Lit.int .u8 a1_2).wf = true) (w1_3 : (Lit.int .u8 a1_3).wf = true) (w1_4 : (Lit.int .u8 a1_4).wf = true) (w1_5 : (Lit.int .u16 a1_5).wf = true) (a2 : Int) (w2 : (Lit.int .u8 a2).wf = true) (W : World) :
    Calls Try.prog 8 #[.int .u8 a0, .agg #[.int .u8 a1_0, .int .u8 a1_1, .int .u8 a1_2, .int .u8 a1_3, .int .u8 a1_4, .int .u16 a1_5], .int .u8 a2] W fun e w' => e = .returned (.bool true) ∧ Below W.heap.size W w' := by
  obtain ⟨i0, i1⟩ := bounds_u8 w0
  obtain ⟨x0, x1⟩ := bounds_u8 w1_0
  obtain ⟨y0, y1⟩ := bounds_u8 w1_1
  obtain ⟨z0, z1⟩ := bounds_u8 w1_2
  obtain ⟨u0, u1⟩ := bounds_u8 w1_3
  obtain ⟨p0, p1⟩ := bounds_u8 w1_4
  obtain ⟨c0, c1⟩ := bounds_u16 w1_5
  obtain ⟨m0, m1⟩ := bounds_u8 w2
  obtain ⟨i, rfl⟩ := Int.eq_ofNat_of_zero_le i0
  obtain ⟨a, rfl⟩ := Int.eq_ofNat_of_zero_le x0
  obtain ⟨x, rfl⟩ := Int.eq_ofNat_of_zero_le y0
  obtain ⟨y, rfl⟩ := Int.eq_ofNat_of_zero_le z0
  obtain ⟨t, rfl⟩ := Int.eq_ofNat_of_zero_le u0
  obtain ⟨p, rfl⟩ := Int.eq_ofNat_of_zero_le p0
  obtain ⟨c, rfl⟩ := Int.eq_ofNat_of_zero_le c0
  obtain ⟨m, rfl⟩ := Int.eq_ofNat_of_zero_le m0
  have hr : Rg.ok ⟨a, x, y, t, p, c⟩ := ⟨(by omega : a < 256), (by omega : x < 256), (by omega : y < 256), (by omega : t < 256), (by omega : p < 256), (by omega : c < 65536)⟩
  rcases (show (i : Int) % 6 = 0 ∨ (i : Int) % 6 = 1 ∨ (i : Int) % 6 = 2 ∨ (i : Int) % 6 = 3 ∨ (i : Int) % 6 = 4 ∨ (i : Int) % 6 = 5 by omega) with h | h | h | h | h | h
  · exact walk0 i a x y t p c m h (by omega) hr (by omega) W
  · exact walk1 i a x y t p c m h (by omega) hr (by omega) W
  · exact walk2 i a x y t p c m h (by omega) hr (by omega) W
  · exact walk3 i a x y t p c m h (by omega) hr (by omega) W
  · exact walk4 i a x y t p c m h (by omega) hr (by omega) W
  · exact walk5 i a x y t p c m h (by omega) hr (by omega) W

end Go.Proofs.Ytkddpbidkeiboaa.execTwice
