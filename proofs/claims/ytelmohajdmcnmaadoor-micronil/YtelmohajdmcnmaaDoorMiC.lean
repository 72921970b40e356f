/- A cycle's end, and what the processor tells. -/
import Derived.Test.YtelmohajdmcnmaaDoorMiP13
import Derived.Test.YtelmohajdmcnmaaDoorMiP14
import Derived.Test.YtelmohajdmcnmaaDoorMiP15
import Derived.Test.YtelmohajdmcnmaaDoorMiP16
import Derived.Test.YtelmohajdmcnmaaDoorMiP17
import Derived.Test.YtelmohajdmcnmaaDoorMiP18
import Derived.Test.YtelmohajdmcnmaaDoorMiP19
import Derived.Test.YtelmohajdmcnmaaDoorMiP20
import Derived.Test.YtelmohajdmcnmaaDoorMiP21
import Derived.Test.YtelmohajdmcnmaaDoorMiP22
import Derived.Test.YtelmohajdmcnmaaDoorMiS
namespace Go.Proofs.YtelmohajdmcnmaaDoor.Mi
open Go.RowKit Alu Ex
set_option linter.unusedVariables false

theorem endPlace (b v : Nat) (c : Cp) (w : World) (h : Row w b c.cells) (ok : c.ok) (hv : v < 256) (h0 : 13 ≤ c.st) (h1 : c.st ≤ 22) : Calls Tryd.prog 38 #[.pointer (some ⟨b, 0, none⟩), .int .u8 (v : Int)] w fun e w' => e = .returned (.tuple #[]) ∧ Row w' b (c.clk v).cells ∧ Turn b w w' := by
  rcases (show c.st = 13 ∨ c.st = 14 ∨ c.st = 15 ∨ c.st = 16 ∨ c.st = 17 ∨ c.st = 18 ∨ c.st = 19 ∨ c.st = 20 ∨ c.st = 21 ∨ c.st = 22 by omega) with e | e | e | e | e | e | e | e | e | e
  · exact endPlace_13 b v c w h ok hv e
  · exact endPlace_14 b v c w h ok hv e
  · exact endPlace_15 b v c w h ok hv e
  · exact endPlace_16 b v c w h ok hv e
  · exact endPlace_17 b v c w h ok hv e
  · exact endPlace_18 b v c w h ok hv e
  · exact endPlace_19 b v c w h ok hv e
  · exact endPlace_20 b v c w h ok hv e
  · exact endPlace_21 b v c w h ok hv e
  · exact endPlace_22 b v c w h ok hv e
theorem endStack (b v : Nat) (c : Cp) (w : World) (h : Row w b c.cells) (ok : c.ok) (hv : v < 256) (h0 : 23 ≤ c.st) : Calls Tryd.prog 39 #[.pointer (some ⟨b, 0, none⟩), .int .u8 (v : Int)] w fun e w' => e = .returned (.tuple #[]) ∧ Row w' b (c.clk v).cells ∧ Turn b w w' := by
  have := ok.st
  rcases (show c.st = 23 ∨ c.st = 24 ∨ c.st = 25 ∨ c.st = 26 ∨ c.st = 27 ∨ c.st = 28 ∨ c.st = 29 ∨ c.st = 30 ∨ c.st = 31 ∨ c.st = 32 ∨ c.st = 33 by omega) with e | e | e | e | e | e | e | e | e | e | e
  · exact endStack_23 b v c w h ok hv e
  · exact endStack_24 b v c w h ok hv e
  · exact endStack_25 b v c w h ok hv e
  · exact endStack_26 b v c w h ok hv e
  · exact endStack_27 b v c w h ok hv e
  · exact endStack_28 b v c w h ok hv e
  · exact endStack_29 b v c w h ok hv e
  · exact endStack_30 b v c w h ok hv e
  · exact endStack_31 b v c w h ok hv e
  · exact endStack_32 b v c w h ok hv e
  · exact endStack_33 b v c w h ok hv e

set_option maxHeartbeats 1000000 in
theorem Clock (b v : Nat) (c : Cp) (w : World) (h : Row w b c.cells) (ok : c.ok) (hv : v < 256) (ht : Co.Tab w) (hb : 3 < b) : Calls Tryd.prog 21 #[.pointer (some ⟨b, 0, none⟩), .int .u8 (v : Int)] w fun e w' => e = .returned (.tuple #[]) ∧ Row w' b (c.clk v).cells ∧ Turn b w w' := by
  have H : Hid (Row w b c.cells) := h
  have HT : Hid (Co.Tab w) := ht
  have c6 := h.at_ 6 _ rfl
  clear h ht
  by_cases h1 : c.st ≤ 12
  · have g1 : (c.st : Int) ≤ 12 := by omega
    go_enter Tryd.func21, Tryd.ntmps21
    go_wp2_with (go_at_call 37; refine (endCourse b v c _ H.out ok hv HT.out hb ⟨Nat.zero_le _, h1⟩).mono ?_; rintro e w1 ⟨rfl, r1, t1⟩)
    go_returns
    exact ⟨rfl, r1, t1⟩
  · have g1 : ¬ (c.st : Int) ≤ 12 := by omega
    by_cases h2 : c.st ≤ 22
    · have g2 : (c.st : Int) ≤ 22 := by omega
      go_enter Tryd.func21, Tryd.ntmps21
      go_wp2_with (go_at_call 38; refine (endPlace b v c _ H.out ok hv (by omega) h2).mono ?_; rintro e w1 ⟨rfl, r1, t1⟩)
      go_returns
      exact ⟨rfl, r1, t1⟩
    · have g2 : ¬ (c.st : Int) ≤ 22 := by omega
      go_enter Tryd.func21, Tryd.ntmps21
      go_wp2_with (go_at_call 39; refine (endStack b v c _ H.out ok hv (by omega)).mono ?_; rintro e w1 ⟨rfl, r1, t1⟩)
      go_returns
      exact ⟨rfl, r1, t1⟩

end Go.Proofs.YtelmohajdmcnmaaDoor.Mi
