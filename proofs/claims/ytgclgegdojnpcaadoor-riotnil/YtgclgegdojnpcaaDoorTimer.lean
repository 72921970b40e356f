/- What each call of package timer does: one contract a function. -/
import Derived.Test.YtgclgegdojnpcaaDoorTimerM
import Derived.Test.YtgclgegdojnpcaaDoorTurn
import Derived.Test.YtgclgegdojnpcaaDoorRows
import Derived.ProofKit
import Derived.OpenShut
import Derived.Handy
import Derived.WalkLawsBesides
import Derived.Deep.RegionHeld3
import Derived.BigQuiet
import Derived.Deep.QuietTactic
import Derived.Lib.SmallJoins
import Derived.Laws.BitsAllLaws
import Derived.ChangeKeysEq
import Derived.Shelf.Abstract
namespace Go.Proofs.YtgclgegdojnpcaaDoor.Tm
open Go.RowKit

/-- A timer lies at block b from cell off on. -/
structure TAt (w : World) (b off : Nat) (s : St) : Prop where
  c0 : w.cell? ⟨b, off, none⟩ = some (.int .u8 (s.v : Int))
  c1 : w.cell? ⟨b, off + 1, none⟩ = some (.int .i64 (s.p : Int))
  c2 : w.cell? ⟨b, off + 2, none⟩ = some (.int .i64 (s.l : Int))
  c3 : w.cell? ⟨b, off + 3, none⟩ = some (.bool s.fast)
  c4 : w.cell? ⟨b, off + 4, none⟩ = some (.bool s.flag)
  fz : ∀ o, w.frozen? ⟨b, o, none⟩ = false

theorem TAt.lt {w : World} {b off : Nat} {s : St} (h : TAt w b off s) : b < w.heap.size := lt_of_cell h.c0
theorem TAt.kept {w w' : World} {b off : Nat} {s : St} (h : TAt w b off s) (hb : w'.heap[b]? = w.heap[b]?) : TAt w' b off s :=
  ⟨(World.cell?_of_block (w := w) hb).trans h.c0, (World.cell?_of_block (w := w) hb).trans h.c1, (World.cell?_of_block (w := w) hb).trans h.c2, (World.cell?_of_block (w := w) hb).trans h.c3, (World.cell?_of_block (w := w) hb).trans h.c4, fun o => (World.frozen?_of_block (w := w) hb).trans (h.fz o)⟩
theorem TAt.below {w w' : World} {b off : Nat} {s : St} (h : TAt w b off s) (hb : Below w.heap.size w w') : TAt w' b off s := h.kept (hb.block b h.lt)
theorem TAt.turn {w w' : World} {b c off : Nat} {s : St} (h : TAt w b off s) (ht : Turn c w w') (hc : b ≠ c) : TAt w' b off s := h.kept (ht.block b h.lt hc)
theorem TAt.draws {w : World} {b off : Nat} {s : St} (h : TAt w b off s) (q : Nat) : TAt (w.drewN q) b off s := ⟨h.c0, h.c1, h.c2, h.c3, h.c4, h.fz⟩
theorem TAt.to {w : World} {b off : Nat} {s s' : St} (h : TAt w b off s) (e : s = s') : TAt w b off s' := e ▸ h

section
variable {w : World} {b off : Nat} {v p l : Nat} {fa fl : Bool}
theorem TAt.put0 (h : TAt w b off ⟨v, p, l, fa, fl⟩) (n : Nat) : TAt (w.setCell ⟨b, off, none⟩ (.int .u8 (n : Int))) b off ⟨n, p, l, fa, fl⟩ :=
  ⟨World.cell?_setCell_same' _ _ _ (by rw [h.c0]; rfl), (World.cell?_setCell_other _ _ _ _ (by simp)).trans h.c1, (World.cell?_setCell_other _ _ _ _ (by simp)).trans h.c2, (World.cell?_setCell_other _ _ _ _ (by simp)).trans h.c3, (World.cell?_setCell_other _ _ _ _ (by simp)).trans h.c4, fun o => by rw [World.frozen?_setCell]; exact h.fz o⟩
theorem TAt.put1 (h : TAt w b off ⟨v, p, l, fa, fl⟩) (n : Nat) : TAt (w.setCell ⟨b, off + 1, none⟩ (.int .i64 (n : Int))) b off ⟨v, n, l, fa, fl⟩ :=
  ⟨(World.cell?_setCell_other _ _ _ _ (by simp)).trans h.c0, World.cell?_setCell_same' _ _ _ (by rw [h.c1]; rfl), (World.cell?_setCell_other _ _ _ _ (by simp)).trans h.c2, (World.cell?_setCell_other _ _ _ _ (by simp)).trans h.c3, (World.cell?_setCell_other _ _ _ _ (by simp)).trans h.c4, fun o => by rw [World.frozen?_setCell]; exact h.fz o⟩
theorem TAt.put2 (h : TAt w b off ⟨v, p, l, fa, fl⟩) (n : Nat) : TAt (w.setCell ⟨b, off + 2, none⟩ (.int .i64 (n : Int))) b off ⟨v, p, n, fa, fl⟩ :=
  ⟨(World.cell?_setCell_other _ _ _ _ (by simp)).trans h.c0, (World.cell?_setCell_other _ _ _ _ (by simp)).trans h.c1, World.cell?_setCell_same' _ _ _ (by rw [h.c2]; rfl), (World.cell?_setCell_other _ _ _ _ (by simp)).trans h.c3, (World.cell?_setCell_other _ _ _ _ (by simp)).trans h.c4, fun o => by rw [World.frozen?_setCell]; exact h.fz o⟩
theorem TAt.put3 (h : TAt w b off ⟨v, p, l, fa, fl⟩) (n : Bool) : TAt (w.setCell ⟨b, off + 3, none⟩ (.bool n)) b off ⟨v, p, l, n, fl⟩ :=
  ⟨(World.cell?_setCell_other _ _ _ _ (by simp)).trans h.c0, (World.cell?_setCell_other _ _ _ _ (by simp)).trans h.c1, (World.cell?_setCell_other _ _ _ _ (by simp)).trans h.c2, World.cell?_setCell_same' _ _ _ (by rw [h.c3]; rfl), (World.cell?_setCell_other _ _ _ _ (by simp)).trans h.c4, fun o => by rw [World.frozen?_setCell]; exact h.fz o⟩
theorem TAt.put4 (h : TAt w b off ⟨v, p, l, fa, fl⟩) (n : Bool) : TAt (w.setCell ⟨b, off + 4, none⟩ (.bool n)) b off ⟨v, p, l, fa, n⟩ :=
  ⟨(World.cell?_setCell_other _ _ _ _ (by simp)).trans h.c0, (World.cell?_setCell_other _ _ _ _ (by simp)).trans h.c1, (World.cell?_setCell_other _ _ _ _ (by simp)).trans h.c2, (World.cell?_setCell_other _ _ _ _ (by simp)).trans h.c3, World.cell?_setCell_same' _ _ _ (by rw [h.c4]; rfl), fun o => by rw [World.frozen?_setCell]; exact h.fz o⟩
end

/-- The intervals, where they are kept. -/
def Tab (w : World) : Prop := w.cell? ⟨0, 0, none⟩ = some (.int .i64 1) ∧ w.cell? ⟨0, 1, none⟩ = some (.int .i64 8) ∧ w.cell? ⟨0, 2, none⟩ = some (.int .i64 64) ∧ w.cell? ⟨0, 3, none⟩ = some (.int .i64 1024)
theorem Tab.lt {w : World} (h : Tab w) : 0 < w.heap.size := lt_of_cell h.1
theorem Tab.kept {w w' : World} (h : Tab w) (hb : w'.heap[0]? = w.heap[0]?) : Tab w' :=
  ⟨(World.cell?_of_block (w := w) hb).trans h.1, (World.cell?_of_block (w := w) hb).trans h.2.1, (World.cell?_of_block (w := w) hb).trans h.2.2.1, (World.cell?_of_block (w := w) hb).trans h.2.2.2⟩
theorem Tab.below {w w' : World} {n : Nat} (h : Tab w) (hb : Below n w w') (hn : 0 < n) : Tab w' := h.kept (hb.block 0 hn)
theorem Tab.turn {w w' : World} {c : Nat} (h : Tab w) (ht : Turn c w w') (hc : 0 ≠ c) : Tab w' := h.kept (ht.block 0 h.lt hc)

set_option maxHeartbeats 400000 in
theorem Value (b off : Nat) (s : St) (w : World) (h : TAt w b off s) : Calls Tryd.prog 36 #[.pointer (some ⟨b, off, none⟩)] w fun e w' => e = .returned (.int .u8 (s.v : Int)) ∧ w' = w := by
  obtain ⟨h0, h1, h2, h3, h4, hf⟩ := h
  go_enter Tryd.func36, Tryd.ntmps36
  go_wp2
  go_returns
  exact ⟨rfl, rfl⟩

set_option maxHeartbeats 400000 in
theorem Flag (b off : Nat) (s : St) (w : World) (h : TAt w b off s) : Calls Tryd.prog 68 #[.pointer (some ⟨b, off, none⟩)] w fun e w' => e = .returned (.bool s.flag) ∧ w' = w := by
  obtain ⟨h0, h1, h2, h3, h4, hf⟩ := h
  go_enter Tryd.func68, Tryd.ntmps68
  go_wp2
  go_returns
  exact ⟨rfl, rfl⟩

set_option maxHeartbeats 400000 in
theorem Read (b off : Nat) (s : St) (w : World) (h : TAt w b off s) : Calls Tryd.prog 51 #[.pointer (some ⟨b, off, none⟩)] w fun e w' => e = .returned (.int .u8 (s.v : Int)) ∧ TAt w' b off (rd s) ∧ Turn b w w' := by
  obtain ⟨v, p, l, fa, fl⟩ := s
  have H : Hid (TAt w b off ⟨v, p, l, fa, fl⟩) := h
  obtain ⟨h0, h1, h2, h3, h4, hf⟩ := h
  simp only at h0 h1 h2 h3 h4
  cases fa
  · go_enter Tryd.func51, Tryd.ntmps51
    go_wp2
    go_returns
    exact ⟨rfl, H.out.put4 false, (Turn.refl b w).set _ _⟩
  · go_enter Tryd.func51, Tryd.ntmps51
    go_wp2
    go_returns
    exact ⟨rfl, ((H.out.put4 false).put3 false).put2 p, (((Turn.refl b w).set _ _).set _ _).set _ _⟩

set_option maxHeartbeats 1000000 in
theorem Tick (b off : Nat) (s : St) (w : World) (hs : s.ok) (h : TAt w b off s) : Calls Tryd.prog 38 #[.pointer (some ⟨b, off, none⟩)] w fun e w' => e = .returned (.tuple #[]) ∧ TAt w' b off (tick s) ∧ Turn b w w' := by
  obtain ⟨v, p, l, fa, fl⟩ := s
  obtain ⟨hv, hp, hl1, hlp⟩ := hs
  simp only at hv hp hl1 hlp
  have hl2 : l ≤ 1024 := by omega
  have H : Hid (TAt w b off ⟨v, p, l, fa, fl⟩) := h
  obtain ⟨h0, h1, h2, h3, h4, hf⟩ := h
  simp only at h0 h1 h2 h3 h4
  clear hp
  cases fa
  · by_cases hl : 1 < l
    · obtain ⟨k, rfl⟩ : ∃ k, l = k + 1 := ⟨l - 1, by omega⟩
      have HT : Hid (tick ⟨v, p, k + 1, false, fl⟩ = ⟨v, p, k, false, fl⟩) := if_pos ⟨rfl, hl⟩
      go_enter Tryd.func38, Tryd.ntmps38
      go_wp2
      go_returns
      rw [HT.out]
      exact ⟨rfl, H.out.put2 k, (Turn.refl b w).set _ _⟩
    · by_cases hv0 : v = 0
      · subst hv0
        have HT : Hid (tick ⟨0, p, l, false, fl⟩ = ⟨255, p, p, true, true⟩) := (if_neg (fun h => hl h.2)).trans (if_pos ⟨rfl, rfl⟩)
        go_enter Tryd.func38, Tryd.ntmps38
        go_wp2
        go_returns
        rw [HT.out]
        exact ⟨rfl, (((H.out.put3 true).put4 true).put0 255).put2 p, ((((Turn.refl b w).set _ _).set _ _).set _ _).set _ _⟩
      · obtain ⟨k, rfl⟩ : ∃ k, v = k + 1 := ⟨v - 1, by omega⟩
        have HT : Hid (tick ⟨k + 1, p, l, false, fl⟩ = ⟨k, p, p, false, fl⟩) := (if_neg (fun h => hl h.2)).trans ((if_neg (fun h => hv0 h.2)).trans (by simp only [St.mk.injEq, and_true]; omega))
        go_enter Tryd.func38, Tryd.ntmps38
        go_wp2
        go_returns
        rw [HT.out]
        exact ⟨rfl, (H.out.put0 k).put2 p, ((Turn.refl b w).set _ _).set _ _⟩
  · have HT : Hid (tick ⟨v, p, l, true, fl⟩ = ⟨(v + 255) % 256, p, p, true, fl⟩) := (if_neg (fun h => by cases h.1)).trans (if_neg (fun h => by cases h.1))
    go_enter Tryd.func38, Tryd.ntmps38
    go_wp2
    go_returns
    rw [HT.out]
    rw [show ((v : Int) - 1) % 256 = (((v + 255) % 256 : Nat) : Int) by omega]
    exact ⟨rfl, (H.out.put0 _).put2 p, ((Turn.refl b w).set _ _).set _ _⟩

theorem i64_and3 (n : Int) : bits .and .i64 n 3 = n % 4 := by
  have h3 : (BitVec.ofInt 64 3).toNat = 2 ^ 2 - 1 := by decide
  show IntKind.i64.wrap ((BitVec.ofInt 64 n &&& BitVec.ofInt 64 3).toNat : Nat) = n % 4
  rw [BitVec.toNat_and, BitVec.toNat_ofInt, h3, Nat.and_two_pow_sub_one_eq_mod, IntKind.wrap_i64]
  omega

set_option maxHeartbeats 1000000 in
theorem Write (b off : Nat) (s : St) (v : Nat) (n : Int) (w : World) (ht : Tab w) (h : TAt w b off s) :
    Calls Tryd.prog 46 #[.pointer (some ⟨b, off, none⟩), .int .u8 (v : Int), .int .i64 n] w fun e w' => e = .returned (.tuple #[]) ∧ TAt w' b off (wr v n) ∧ Turn b w w' := by
  obtain ⟨v0, p, l, fa, fl⟩ := s
  have H : Hid (TAt w b off ⟨v0, p, l, fa, fl⟩) := h
  obtain ⟨h0, h1, h2, h3, h4, hf⟩ := h
  simp only at h0 h1 h2 h3 h4
  obtain ⟨t0, t1, t2, t3⟩ := ht
  have hb3 := i64_and3 n
  have h4 : n % 4 = 0 ∨ n % 4 = 1 ∨ n % 4 = 2 ∨ n % 4 = 3 := by omega
  rcases h4 with e | e | e | e
  all_goals
    have HI : Hid (wr v n = ⟨v, ivl n, 1, false, false⟩) := rfl
    have HV : Hid (ivl n = if n % 4 = 0 then 1 else if n % 4 = 1 then 8 else if n % 4 = 2 then 64 else 1024) := rfl
    have HM : Hid (n % 4 = _) := e
    rw [e] at hb3
    clear e
    go_enter Tryd.func46, Tryd.ntmps46
    go_wp2
    go_returns
    rw [HI.out, HV.out, HM.out]
    exact ⟨rfl, ((((H.out.put0 v).put1 _).put2 1).put3 false).put4 false, (((((Turn.refl b w).set _ _).set _ _).set _ _).set _ _).set _ _⟩

/-- 1 or 0. -/
def one (c : Bool) : Int := if c then 1 else 0

set_option maxHeartbeats 400000 in
theorem oneIf (c : Bool) (w : World) : Calls Tryd.prog 58 #[.bool c] w fun e w' => e = .returned (.int .i64 (one c)) ∧ w' = w := by
  cases c
  all_goals
    go_enter Tryd.func58, Tryd.ntmps58
    go_wp2
    go_returns
    exact ⟨rfl, rfl⟩

end Go.Proofs.YtgclgegdojnpcaaDoor.Tm
