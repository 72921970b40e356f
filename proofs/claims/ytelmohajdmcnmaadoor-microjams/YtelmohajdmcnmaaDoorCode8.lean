/- How long a code is, and how many cycles it takes. -/
import Derived.Test.YtelmohajdmcnmaaDoorCode7
namespace Go.Proofs.YtelmohajdmcnmaaDoor.Co
open Go.RowKit

/-- A mode's length. -/
def lenF (m : Nat) : Int := if m = 0 ∨ m = 1 then 1 else if m = 6 ∨ m = 7 ∨ m = 8 ∨ m = 12 then 3 else 2

theorem modeFrom_le (l : List UInt8) : ∀ (ms : List (List UInt8)) (k n : Nat), k + ms.length ≤ n → modeFrom l k ms ≤ n - 1
  | [], _, _, _ => by simp [modeFrom]
  | m :: ms, k, n, h => by
    simp only [List.length_cons] at h
    unfold modeFrom
    split
    · omega
    · exact modeFrom_le l ms (k + 1) n (by omega)
theorem modeN_le (op : Nat) : modeN op ≤ 12 := by
  unfold modeN modeF
  exact modeFrom_le _ modeL 0 13 (by decide)

set_option maxRecDepth 100000 in
set_option maxHeartbeats 1000000 in
theorem Length (op : Nat) (w : World) (h : op < 256) (ht : Tab w) : Calls Tryd.prog 82 #[.int .u8 (op : Int)] w fun e w' => e = .returned (.int .i64 (lenF (modeN op))) ∧ Below w.heap.size w w' := by
  have hc := cellB_size op h
  have HM : Hid (modeN op = modeF (bl ((cellB op).extract 4 7))) := (rfl : _ = _)
  have hl := modeN_le op
  generalize modeN op = m at HM hl
  have HT : Hid (Tab w) := ht
  clear ht
  rcases (show m = 0 ∨ m = 1 ∨ m = 2 ∨ m = 3 ∨ m = 4 ∨ m = 5 ∨ m = 6 ∨ m = 7 ∨ m = 8 ∨ m = 9 ∨ m = 10 ∨ m = 11 ∨ m = 12 by omega) with rfl | rfl | rfl | rfl | rfl | rfl | rfl | rfl | rfl | rfl | rfl | rfl | rfl
  all_goals
    go_enter Tryd.func82, Tryd.ntmps82
    go_wp2_with (first
      | (go_at_call 40; refine (cellOf op _ h).mono ?_; rintro e w2 ⟨rfl, hB2⟩)
      | (go_at_call 42; refine (mode _ _ hc (HT.out.next hB2)).mono ?_; rw [← HM.out]; rintro e w' ⟨rfl, rfl⟩))
    go_ret
    exact ⟨rfl, hB2⟩

end Go.Proofs.YtelmohajdmcnmaaDoor.Co
