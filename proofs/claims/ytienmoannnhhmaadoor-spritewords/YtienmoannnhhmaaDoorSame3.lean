/- The document's Same: two rows that are alike. -/
import Derived.Test.YtienmoannnhhmaaDoorSeen
import Derived.Test.YtienmoannnhhmaaDoorRows
import Derived.ProofKit
import Derived.OpenShut
import Derived.Handy
import Derived.WalkLawsBesides
import Derived.Deep.QuietTactic
namespace Go.Proofs.YtienmoannnhhmaaDoor.Sp
open Go.RowKit

set_option maxRecDepth 100000 in
set_option maxHeartbeats 1000000 in
theorem Same (xs : List Int) (n m : Nat) (ao ao' : Option Addr) (cap cap' b b' off off' : Nat) (w : World) (h : Seen (fun x => .int .i64 x) w ao cap b off xs) (h' : Seen (fun x => .int .i64 x) w ao' cap' b' off' xs) (hn : n = xs.length) (hm : m = xs.length) :
    Calls Tryd.prog 22 #[.slice ao n cap, .slice ao' m cap'] w fun e w' => e = .returned (.bool true) ∧ ∃ q, w' = w.drewN q := by
  have hnm : m = n := by omega
  subst hnm
  have H1 : Hid (Seen (fun x => .int .i64 x) w ao cap b off xs) := h
  have H2 : Hid (Seen (fun x => .int .i64 x) w ao' cap' b' off' xs) := h'
  have HN : Hid (m = xs.length) := hm
  have hmax := h.max
  have hle := h.le
  rw [← hm] at hle
  clear h h' hm hn
  go_enter Tryd.func22, Tryd.ntmps22
  go_wp2
  go_loopw [5] (fun v wr => ∃ k q : Nat, k ≤ m ∧ v = .int .i64 (k : Int) ∧ wr = w.drewN q) (fun v _ => m - (intOf v).toNat)
  case atStart => exact ⟨0, 0, by omega, rfl, rfl⟩
  case round =>
    obtain ⟨k, q, hk, rfl, rfl⟩ := hrel
    by_cases hl : k < m
    · obtain ⟨x, hx⟩ : ∃ x, xs[k]? = some x := ⟨_, List.getElem?_eq_getElem (by rw [← HN.out]; exact hl)⟩
      have hne : xs ≠ [] := fun e => by rw [e] at hx; cases hx
      have e1 := H1.out.at_ hne
      have e2 := H2.out.at_ hne
      subst e1
      subst e2
      have c1 : w.cell? ⟨b, off + k, none⟩ = some (.int .i64 x) := H1.out.cell k x hx
      have c2 : w.cell? ⟨b', off' + k, none⟩ = some (.int .i64 x) := H2.out.cell k x hx
      have k0 : (0 : Int) ≤ (k : Int) := by omega
      have k1 : (k : Int) < (m : Int) := by omega
      clear hx hne
      go_wp2
      go_quiet (fail)
      go_wp2
      go_roundw
      case rel => exact ⟨k + 1, _, by omega, by go_num, rfl⟩
      case measure => simp [intOf]; omega
    · have hkn : k = m := by omega
      subst hkn
      go_wp2
      go_ret
      exact ⟨rfl, _, rfl⟩

end Go.Proofs.YtienmoannnhhmaaDoor.Sp
