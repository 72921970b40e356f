/- What the calls of a ring of string do: one contract a function. -/
import Derived.Test.YtneapdegjofodaaBase
import Derived.Test.YtneapdegjofodaaRows
import Derived.ProofKit
import Derived.OpenShut
import Derived.Handy
import Derived.WalkLawsBesides
import Derived.Deep.RegionHeld3
import Derived.BigQuiet
import Derived.Deep.QuietTactic
import Derived.Maps.AppendAt
import Derived.WalkSmall
namespace Go.Proofs.Ytneapdegjofodaa.RingStr
open Go.RowKit

theorem info : (Try.prog.info? 9).map (fun i => (i.zero, i.size, i.bytes)) = some (some (.string ByteArray.empty), 1, 16) := by kernel_rfl

/-- A ring lies at block b: its things are v, its eldest stands at e, in the row xs it holds L. -/
structure RAt (w : World) (b room e : Nat) (v : Value) (xs L : List ByteArray) : Prop where
  c0 : w.cell? ⟨b, 0, none⟩ = some v
  c1 : w.cell? ⟨b, 1, none⟩ = some (.int .i64 (room : Int))
  c2 : w.cell? ⟨b, 2, none⟩ = some (.int .i64 (e : Int))
  c3 : w.cell? ⟨b, 3, none⟩ = some (.int .i64 (L.length : Int))
  fz : ∀ o, w.frozen? ⟨b, o, none⟩ = false
  own : w.ownsRow (b + 1) 9 1 v xs.length (xs.map fun x => .string x)
  r1 : 1 ≤ room
  r2 : room ≤ 65536
  lay : Lay e room xs L

/-- A ring with so much room lies at block b, its things are v, it holds L. -/
def Ring (w : World) (b room : Nat) (v : Value) (L : List ByteArray) : Prop := ∃ e xs, RAt w b room e v xs L

theorem RAt.lt {w : World} {b room e : Nat} {v : Value} {xs L : List ByteArray} (h : RAt w b room e v xs L) : b < w.heap.size := lt_of_cell h.c0
theorem RAt.draws {w : World} {b room e : Nat} {v : Value} {xs L : List ByteArray} (h : RAt w b room e v xs L) (q : Nat) : RAt (w.drewN q) b room e v xs L := ⟨h.c0, h.c1, h.c2, h.c3, h.fz, h.own, h.r1, h.r2, h.lay⟩
theorem RAt.kept {w w' : World} {b room e : Nat} {v : Value} {xs L : List ByteArray} (h : RAt w b room e v xs L) (hb : w'.heap[b]? = w.heap[b]?) (hv : ∀ k, v.ownBlock = some k → w'.heap[k]? = w.heap[k]?) : RAt w' b room e v xs L := by
  refine ⟨(World.cell?_of_block (w := w) hb).trans h.c0, (World.cell?_of_block (w := w) hb).trans h.c1, (World.cell?_of_block (w := w) hb).trans h.c2, (World.cell?_of_block (w := w) hb).trans h.c3, fun o => (World.frozen?_of_block (w := w) hb).trans (h.fz o), ?_, h.r1, h.r2, h.lay⟩
  obtain ⟨a, b'⟩ := h.own
  refine ⟨a, ?_⟩
  rcases b' with b' | ⟨g, cap, cur, rfl, hg, hh, r⟩
  · exact .inl b'
  · exact .inr ⟨g, cap, cur, rfl, hg, (hv g rfl).trans hh, r⟩
theorem RAt.below {w w' : World} {b room e : Nat} {v : Value} {xs L : List ByteArray} (h : RAt w b room e v xs L) (hb : Below w.heap.size w w') : RAt w' b room e v xs L :=
  h.kept (hb.block _ h.lt) (fun k hk => hb.block k (h.own.lt k hk).2)
theorem RAt.part {w w' : World} {b room e c : Nat} {v v' : Value} {xs L : List ByteArray} (h : RAt w b room e v xs L) (hp : Part c v' w w') (h1 : b ≠ c) (h2 : some b ≠ v'.ownBlock) (h3 : v.ownBlock ≠ some c) (h4 : v.ownBlock = none ∨ v.ownBlock ≠ v'.ownBlock) : RAt w' b room e v xs L :=
  h.kept (hp.block _ h.lt h1 h2) (fun k hk => hp.block k (h.own.lt k hk).2 (fun e => h3 (by rw [hk, e])) (fun e => h4.elim (fun h => by rw [hk] at h; cases h) (fun h => h (by rw [hk, e]))))
theorem Ring.below {w w' : World} {b room : Nat} {v : Value} {L : List ByteArray} (h : Ring w b room v L) (hb : Below w.heap.size w w') : Ring w' b room v L := let ⟨e, xs, h⟩ := h; ⟨e, xs, h.below hb⟩
theorem Ring.draws {w : World} {b room : Nat} {v : Value} {L : List ByteArray} (h : Ring w b room v L) (q : Nat) : Ring (w.drewN q) b room v L := let ⟨e, xs, h⟩ := h; ⟨e, xs, h.draws q⟩
theorem Ring.lt {w : World} {b room : Nat} {v : Value} {L : List ByteArray} (h : Ring w b room v L) : b < w.heap.size := let ⟨_, _, h⟩ := h; h.lt
theorem Ring.ge {w : World} {b room : Nat} {v : Value} {L : List ByteArray} (h : Ring w b room v L) : ∀ k, v.ownBlock = some k → b + 1 ≤ k ∧ k < w.heap.size := let ⟨_, _, h⟩ := h; h.own.lt
theorem Ring.le {w : World} {b room : Nat} {v : Value} {L : List ByteArray} (h : Ring w b room v L) : L.length ≤ room := let ⟨_, _, h⟩ := h; Nat.le_trans h.lay.i1 h.lay.n1

set_option maxHeartbeats 400000 in
theorem zero (w : World) : Calls Try.prog 38 #[] w fun e w' => e = .returned (.string ByteArray.empty) ∧ w' = w := by
  go_enter Try.func38, Try.ntmps38
  go_wp2
  go_ret
  exact ⟨rfl, rfl⟩

set_option maxHeartbeats 400000 in
theorem New_yes (room : Nat) (w : World) (h1 : 1 ≤ room) (h2 : room ≤ 65536) :
    Calls Try.prog 30 #[.int .i64 (room : Int)] w fun e w' => e = .returned (.pointer (some ⟨w.heap.size, 0, none⟩)) ∧ Ring w' w.heap.size room (.slice none 0 0) [] ∧ Below w.heap.size w w' := by
  go_enter Try.func30, Try.ntmps30
  go_wp2
  go_ret
  have hh := heap_alloc_new w (.cells #[.slice none 0 0, .int .i64 (room : Int), .int .i64 0, .int .i64 0] 88)
  exact ⟨rfl, ⟨0, [], ⟨cell_of_row _ _ _ _ _ _ hh, cell_of_row _ _ _ _ _ _ hh, cell_of_row _ _ _ _ _ _ hh, cell_of_row _ _ _ _ _ _ hh, fun o => frozen_of_row _ _ _ _ _ hh, World.ownsRow_nil _ _ _ _, h1, h2, Lay.nil h1⟩⟩, (Below.refl _ w).alloc (Nat.le_refl _) _⟩

set_option maxHeartbeats 400000 in
theorem New_no (room : Int) (w : World) (h : ¬ (1 ≤ room ∧ room ≤ 65536)) :
    Calls Try.prog 30 #[.int .i64 room] w fun e w' => e = .returned (.pointer none) ∧ w' = w := by
  by_cases h1 : room < 1
  · go_enter Try.func30, Try.ntmps30
    go_wp2
    go_ret
    exact ⟨rfl, rfl⟩
  · have h2 : 65536 < room := by omega
    go_enter Try.func30, Try.ntmps30
    go_wp2
    go_ret
    exact ⟨rfl, rfl⟩

set_option maxHeartbeats 400000 in
theorem Len (b room : Nat) (v : Value) (L : List ByteArray) (w : World) (h : Ring w b room v L) :
    Calls Try.prog 33 #[.pointer (some ⟨b, 0, none⟩)] w fun e w' => e = .returned (.int .i64 (L.length : Int)) ∧ w' = w := by
  obtain ⟨e, xs, h⟩ := h
  have c3 := h.c3
  clear h
  go_enter Try.func33, Try.ntmps33
  go_wp2
  go_ret
  exact ⟨rfl, rfl⟩

set_option maxHeartbeats 400000 in
theorem Len_nil (w : World) :
    Calls Try.prog 33 #[.pointer none] w fun e w' => e = .returned (.int .i64 0) ∧ w' = w := by
  go_enter Try.func33, Try.ntmps33
  go_wp2
  go_ret
  exact ⟨rfl, rfl⟩

set_option maxHeartbeats 400000 in
theorem place (b e room i p : Nat) (j : Int) (w : World) (hj : j = (i : Int)) (hp : p = (e + i) % room) (h1 : w.cell? ⟨b, 1, none⟩ = some (.int .i64 (room : Int))) (h2 : w.cell? ⟨b, 2, none⟩ = some (.int .i64 (e : Int))) (hr : 1 ≤ room) (hr2 : room ≤ 65536) (he : e < room) (hi : i ≤ 65536) :
    Calls Try.prog 39 #[.pointer (some ⟨b, 0, none⟩), .int .i64 j] w fun r w' => r = .returned (.int .i64 (p : Int)) ∧ ∃ q, w' = w.drewN q := by
  subst hj
  subst hp
  have hn : ¬ (room : Int) = 0 := by omega
  have hn' : ¬ room = 0 := by omega
  have e1 : IntKind.i64.wrap ((e : Int) + (i : Int)) = (e : Int) + (i : Int) := IntWalk.i64_in _ (by omega)
  have HM : Hid (((e : Int) + (i : Int)).tmod (room : Int) = (((e + i) % room : Nat) : Int)) := by
    show _ = _
    rw [Int.tmod_eq_emod_of_nonneg (by omega), Int.natCast_emod, Int.natCast_add]
  go_enter Try.func39, Try.ntmps39
  go_wp2
  go_quiet (fail)
  go_wp2
  go_ret
  exact ⟨ret_int HM.out, _, rfl⟩

end Go.Proofs.Ytneapdegjofodaa.RingStr
