/- What the document's own answers of layer 20 come to. -/
import Derived.Test.YtdnfclhljahghaaPot5
import Derived.Test.YtdnfclhljahghaaPot6
namespace Go.Proofs.Ytdnfclhljahghaa.Po
open Go.RowKit
set_option linter.unusedVariables false

/-- The document's ports, as cells. -/
def Pt.rc (p : Pt) : List Go.Value := [.int .i64 (p.v0 : Int), .int .i64 (p.v1 : Int), .int .i64 (p.v2 : Int), .int .i64 (p.v3 : Int), .int .i64 (p.c : Int), .bool p.d, .bool p.h0, .bool p.h1, .bool p.l, .bool p.t0, .bool p.t1]
def Pt.rv (p : Pt) : Go.Value := .agg #[.int .i64 (p.v0 : Int), .int .i64 (p.v1 : Int), .int .i64 (p.v2 : Int), .int .i64 (p.v3 : Int), .int .i64 (p.c : Int), .bool p.d, .bool p.h0, .bool p.h1, .bool p.l, .bool p.t0, .bool p.t1]

/-- What goes together. -/
structure Pt.fit (p : Pt) : Prop where
  off : p.l = false → p.t0 = true ∧ p.t1 = true
  on0 : p.l = true → p.h0 = false → p.t0 = false
  on1 : p.l = true → p.h1 = false → p.t1 = false

set_option maxRecDepth 100000 in
set_option maxHeartbeats 1000000 in
theorem RNew (w : World) : Calls Try.prog 27 #[] w fun e w' => e = .returned Pt.new.rv ∧ Below w.heap.size w w' := by
  go_enter Try.func27, Try.ntmps27
  go_wp2
  go_returns
  exact ⟨rfl, by go_grown⟩

set_option maxRecDepth 100000 in
set_option maxHeartbeats 1000000 in
theorem RLine (p : Pt) (hp : p.c ≤ 511) (w : World) : Calls Try.prog 31 #[p.rv] w fun e w' => e = .returned p.line.rv ∧ Below w.heap.size w w' := by
  obtain ⟨v0, v1, v2, v3, c, d, l, h0, t0, h1, t1⟩ := p
  have hc : c ≤ 511 := hp
  clear hp
  unfold Pt.rv
  cases d
  · by_cases hx : (c : Int) < 511
    · have e1 : IntKind.i64.wrap ((c : Int) + 1) = (c : Int) + 1 := IntWalk.i64_in _ (by omega)
      go_enter Try.func31, Try.ntmps31
      go_wp2
      go_returns
      exact ⟨by simp only [Pt.line]; rw [if_neg (by simp)]; simp only [show min (c + 1) 511 = c + 1 by omega, Int.natCast_add, Int.cast_ofNat_Int], by go_grown⟩
    · go_enter Try.func31, Try.ntmps31
      go_wp2
      go_returns
      exact ⟨by simp only [Pt.line]; rw [if_neg (by simp)]; simp only [show min (c + 1) 511 = c by omega], by go_grown⟩
  · go_enter Try.func31, Try.ntmps31
    go_wp2
    go_returns
    exact ⟨rfl, by go_grown⟩

set_option maxRecDepth 100000 in
set_option maxHeartbeats 1000000 in
theorem RDump (p : Pt) (on : Bool) (w : World) : Calls Try.prog 33 #[p.rv, .bool on] w fun e w' => e = .returned (p.dump on).rv ∧ Below w.heap.size w w' := by
  unfold Pt.rv
  cases on
  all_goals
    go_enter Try.func33, Try.ntmps33
    go_wp2
    go_returns
    exact ⟨rfl, by go_grown⟩

set_option maxRecDepth 100000 in
set_option maxHeartbeats 2000000 in
theorem RLatch (p : Pt) (on : Bool) (w : World) : Calls Try.prog 35 #[p.rv, .bool on] w fun e w' => e = .returned (p.latch on).rv ∧ Below w.heap.size w w' := by
  obtain ⟨v0, v1, v2, v3, c, d, l, h0, t0, h1, t1⟩ := p
  unfold Pt.rv
  cases on
  · go_enter Try.func35, Try.ntmps35
    go_wp2
    refine wp_loop_rounds 4 ?_
    rw [rounds_succ]
    go_wp2
    rw [rounds_succ]
    go_wp2
    rw [rounds_succ]
    go_wp2
    go_returns
    exact ⟨rfl, by go_grown⟩
  · cases h0 <;> cases h1
    all_goals
      go_enter Try.func35, Try.ntmps35
      go_wp2
      refine wp_loop_rounds 4 ?_
      rw [rounds_succ]
      go_wp2
      rw [rounds_succ]
      go_wp2
      rw [rounds_succ]
      go_wp2
      go_returns
      exact ⟨by simp [Pt.latch, un], by go_grown⟩

end Go.Proofs.Ytdnfclhljahghaa.Po
