/- What more calls of package port do. -/
import Derived.Test.YtgclgegdojnpcaaPort
namespace Go.Proofs.Ytgclgegdojnpcaa.Po
open Go.RowKit

/-- 1 or 0. -/
def one (c : Bool) : Int := if c then 1 else 0

set_option maxHeartbeats 400000 in
theorem oneIf (c : Bool) (w : World) : Calls Try.prog 33 #[.bool c] w fun e w' => e = .returned (.int .i64 (one c)) ∧ w' = w := by
  cases c
  all_goals
    go_enter Try.func33, Try.ntmps33
    go_wp2
    go_returns
    exact ⟨rfl, rfl⟩

/-- An edge's words. -/
def ewords (p : Eg) : Array Go.Value := #[.int .i64 (one p.h), .int .i64 (one p.r), .int .i64 (one p.c)]

set_option maxHeartbeats 1000000 in
theorem EWords (b : Nat) (p : Eg) (w : World) (h : EAt w b p) : Calls Try.prog 27 #[.pointer (some ⟨b, 0, none⟩)] w fun e w' => e = .returned (.agg (ewords p)) ∧ Below w.heap.size w w' := by
  obtain ⟨ph, pr, pc⟩ := p
  obtain ⟨h0, h1, h2, hf⟩ := h
  simp only at h0 h1 h2
  go_enter Try.func27, Try.ntmps27
  go_wp2
  go_region_held3 (fun w' => w'.cell? ⟨b, 0, none⟩ = some (.bool ph) ∧ w'.cell? ⟨b, 1, none⟩ = some (.bool pr) ∧ w'.cell? ⟨b, 2, none⟩ = some (.bool pc)) (go_keep) (first
    | (go_at_call 33; refine (oneIf _ _).mono ?_; rintro e w' ⟨rfl, rfl⟩))
  all_goals go_wp2
  all_goals go_returns
  all_goals exact ⟨rfl, by go_grown⟩

end Go.Proofs.Ytgclgegdojnpcaa.Po
