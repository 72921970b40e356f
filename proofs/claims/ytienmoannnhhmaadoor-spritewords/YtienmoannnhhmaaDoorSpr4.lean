/- What the delay line tells: its ages, one behind the other. -/
import Derived.Test.YtienmoannnhhmaaDoorSpr2
import Derived.Test.YtienmoannnhhmaaDoorLays8
import Derived.RangeFuncFrom
import Derived.RangeFuncLeaves
import Derived.RangeFuncCalls
import Derived.RangeFuncBound
import Derived.Shelf.Abstract
import Derived.OwnWalkIn
import Derived.TacticsInMore
import Derived.LoopNIn
import Derived.LoopIn
import Derived.Stop.RegionWithIn
set_option linter.unusedVariables false
namespace Go.Proofs.YtienmoannnhhmaaDoor.Sp
open Go.RowKit Go.Shelf

attribute [local go_sem] Oper.semAt_some

/-- The library's table of trailing zeros, as its initialiser lays it. -/
def Tb (w : World) : Prop := TabAt 0 Lib.deBruijn64tab w
theorem Tb.kept {w w' : World} (h : Tb w) (hb : w'.heap[0]? = w.heap[0]?) : Tb w' := fun j hj => (World.cell?_of_block (w := w) hb).trans (h j hj)
theorem Tb.pos {w : World} (h : Tb w) : 0 < w.heap.size := lt_of_cell (h 0 (by decide))
theorem Tb.below {w w' : World} (h : Tb w) (hb : Below w.heap.size w w') : Tb w' := h.kept (hb.block 0 h.pos)

theorem tz (x : Nat) (hx : x < 18446744073709551616) (w : World) (hT : Tb w) :
    Calls Tryd.prog 61 #[.int .u64 (x : Int)] w fun e w' => e = .returned (.int .i64 (Lib.ctz 64 x : Int)) ∧ w' = w :=
  Any7.bits_TrailingZeros64 Tryd.lays29 x hx w (fun _ => hT)

/-- The blocks of S lie in W' as in W. -/
def Keeps (S : Nat → Prop) (W W' : World) : Prop := ∀ k, S k → W'.heap[k]? = W.heap[k]?
theorem Keeps.cell {S : Nat → Prop} {W W' : World} (h : Keeps S W W') {p : Addr} (hp : S p.block) : W'.cell? p = W.cell? p := World.cell?_of_block (w := W) (h p.block hp)
theorem Keeps.trans {S : Nat → Prop} {A B C : World} (h : Keeps S A B) (g : Keeps S B C) : Keeps S A C := fun i hi => (g i hi).trans (h i hi)
theorem Keeps.refl (S : Nat → Prop) (W : World) : Keeps S W W := fun _ _ => rfl
theorem Keeps.put {S : Nat → Prop} {w : World} (hS : ∀ k, S k → k < w.heap.size) (W : World) (l : Nat) (o o' : Obj) (hl : w.heap.size ≤ l) (_ : W.heap[l]? = some o) (_ : o.isCells = false) (_ : o.isWalk = false) : Keeps S W (W.putObj l o') :=
  fun _ hk => World.putObj_heap_other (by have := hS _ hk; omega)
theorem Keeps.setCell {S : Nat → Prop} (W : World) (a : Addr) (v : Value) (h : ¬ S a.block) : Keeps S W (W.setCell a v) :=
  fun _ hk => Below.heap_setCell _ _ _ _ (fun e => h (e ▸ hk))

set_option maxRecDepth 100000 in
set_option maxHeartbeats 4000000 in
theorem ages1 (n : Nat) (hn : 1 ≤ n) (l Bd b off X : Nat) (S : Nat → Prop) (J Jx : List Nat → World → Prop) (hJ0 : ∀ pre A B, J pre A → A.grownBy B none → J pre B)
    (hY : ∀ (pre : List Nat) (x : Nat) (W : World), J pre W → pre.length < 256 → YieldAt Fence.wide (n - 1) Tryd.prog l #[.int .i64 (x : Int)] W fun e W' =>
      (e = .returned (.bool true) ∧ J (pre ++ [x]) W' ∧ Keeps S W W') ∨ (e = .returned (.bool false) ∧ Jx (pre ++ [x]) W'))
    (W : World) (hBd : W.cell? ⟨Bd, 0, none⟩ = some (.pointer (some ⟨b, off, none⟩))) (hT : Tb W) (hD : DlAt W b off X)
    (ld : S Bd) (lb : S b) (l0 : S 0) (h0 : J [] W) :
    CallsIn Fence.wide n Tryd.prog 60 #[.func (.yield l) #[] #[], .pointer (some ⟨Bd, 0, none⟩)] W fun e W' => (∃ v, e = .returned v) ∧
      ((∃ ys, ys = bt X 256 ∧ J ys W') ∨ (∃ pre, pre <+: bt X 256 ∧ Jx pre W')) := by
  refine callsIn_of_wp Tryd.func60 rfl trivial ?_ rfl
  simp only [Tryd.ntmps60, List.size_toArray, List.length_cons, List.length_nil, Nat.reduceAdd, Nat.reduceSub, Array.replicate_succ, Array.replicate_zero, List.push_toArray, List.append_toArray, List.nil_append, List.cons_append]
  have HD : Hid (DlAt W b off X) := hD
  have HT : Hid (Tb W) := hT
  have HS : Hid (S Bd ∧ S b ∧ S 0) := ⟨ld, lb, l0⟩
  have HY : Hid (∀ (pre : List Nat) (x : Nat) (W : World), J pre W → pre.length < 256 → YieldAt Fence.wide (n - 1) Tryd.prog l #[.int .i64 (x : Int)] W fun e W' =>
      (e = .returned (.bool true) ∧ J (pre ++ [x]) W' ∧ Keeps S W W') ∨ (e = .returned (.bool false) ∧ Jx (pre ++ [x]) W')) := hY
  have HJ0 : Hid (∀ pre A B, J pre A → A.grownBy B none → J pre B) := hJ0
  clear hD hT ld lb l0 hY hJ0
  gi_wp2
  gi_loopw [6] (fun v wr => ∃ i : Nat, i ≤ 4 ∧ v = .int .i64 (i : Int) ∧ Keeps S W wr ∧ J (bt X (64 * i)) wr) (fun v _ => 4 - (intOf v).toNat)
  case atStart => exact ⟨0, by omega, rfl, Keeps.refl _ _, h0⟩
  case round =>
    obtain ⟨i, hi, rfl, hK, hJ⟩ := hrel
    have HK : Hid (Keeps S W wr) := hK
    have HJ : Hid (J (bt X (64 * i)) wr) := hJ
    clear hK hJ h0 hBd
    by_cases hl : i < 4
    · obtain ⟨a, ha⟩ : ∃ a, a = wd X i := ⟨_, rfl⟩
      have HA : Hid (a = wd X i) := ha
      have la : a < 18446744073709551616 := ha ▸ wd_lt X i
      have ck : wr.cell? ⟨b, off + i, none⟩ = some (.int .u64 (a : Int)) := (HK.out.cell (p := ⟨b, off + i, none⟩) HS.out.2.1).trans (by rw [ha]; exact HD.out.c i hl)
      have k0 : (0 : Int) ≤ (i : Int) := by omega
      have k1 : (i : Int) < 4 := by omega
      clear ha
      gi_wp2
      gi_region_with (fail)
      all_goals
        gi_wp2
        simp only [Act.put, List.getElem_toArray, List.getElem_cons_succ, List.getElem_cons_zero, List.setIfInBounds_toArray, List.set_cons_succ, List.set_cons_zero]
        gi_loopw [4] (fun v wq => ∃ k : Nat, k ≤ 64 ∧ v = .int .u64 (Sp.hi a k : Int) ∧ Keeps S W wq ∧ J (bt X (64 * i + k)) wq) (fun v _ => (intOf v).toNat)
        case atStart => exact ⟨0, by omega, by rw [hi_zero], HK.out, HJ0.out _ _ _ HJ.out ⟨rfl, rfl, rfl, Nat.le_refl _, fun _ _ _ => rfl⟩⟩
        case round =>
          obtain ⟨k, hk, rfl, hK2, hJ2⟩ := hrel
          obtain ⟨u, hu⟩ : ∃ u, u = Sp.hi a k := ⟨_, rfl⟩
          have HU : Hid (u = Sp.hi a k) := hu
          have lu : u < 18446744073709551616 := by have := hi_le a k; omega
          have HK2 : Hid (Keeps S W wr) := hK2
          have HJ2 : Hid (J (bt X (64 * i + k)) wr) := hJ2
          rw [← hu]
          clear hK2 hJ2 hu HJ ck
          by_cases hz : u = 0
          · subst hz
            have HN : Hid (bt X (64 * (i + 1)) = bt X (64 * i + k)) := (bt_none (by omega) (fun j h1 h2 => by
              have := hi_none (a := a) (k := k) HU.out.symm (j - 64 * i) (by omega)
              rw [HA.out, wd_bit] at this
              rw [decide_eq_true (show j - 64 * i < 64 by omega), Bool.true_and, show 64 * i + (j - 64 * i) = j by omega] at this
              exact this) : bt X (64 * (i + 1)) = bt X (64 * i + k))
            gi_wp2
            go_roundw
            case rel => exact ⟨i + 1, by omega, by go_num, HK2.out, by rw [HN.out]; exact HJ2.out⟩
            case measure => simp [intOf]; omega
          · have hz' : ((u : Int) != 0) = true := bne_iff_ne.2 (by omega)
            have HZ : Hid (¬ u = 0) := hz
            have hL := low (a := a) (k := k) (by have := la; omega) (by rw [← HU.out]; exact hz)
            rw [← HU.out] at hL
            obtain ⟨c, hc⟩ : ∃ c, Lib.ctz 64 u = c := ⟨_, rfl⟩
            rw [hc] at hL
            have HL : Hid (Low a k c) := hL
            obtain ⟨x, hx⟩ : ∃ x, x = 64 * i + c := ⟨_, rfl⟩
            have HX : Hid (x = 64 * i + c) := hx
            have ex : (i : Int) * 64 + (c : Int) = (x : Int) := by omega
            have hc64 := hL.lt
            have hbits : bt X (x + 1) = bt X (64 * i + k) ++ [x] := by
              rw [bt_yes (by have := hL.set; rw [HA.out, wd_bit] at this; rw [hx]; simpa [hc64] using this)]
              congr 1
              rw [hx]
              refine bt_none (by have := hL.ge; omega) (fun j h1 h2 => ?_)
              have := hL.none (j - 64 * i) (by omega) (by omega)
              rw [HA.out, wd_bit, decide_eq_true (show j - 64 * i < 64 by omega), Bool.true_and, show 64 * i + (j - 64 * i) = j by omega] at this
              exact this
            have HB : Hid (bt X (x + 1) = bt X (64 * i + k) ++ [x]) := hbits
            have hlen : (bt X (64 * i + k)).length < 256 := by
              have h1 := bt_length X (x + 1)
              rw [hbits, List.length_append, List.length_singleton] at h1
              omega
            have HI : Hid (k ≤ c ∧ c < 64 ∧ bits .and .u64 (u : Int) (IntKind.u64.wrap ((u : Int) - 1)) = (Sp.hi a (c + 1) : Int) ∧ Sp.hi a (c + 1) < u) := by
              refine ⟨hL.ge, hL.lt, ?_, by rw [HU.out]; exact hL.less⟩
              have e1 : IntKind.u64.wrap ((u : Int) - 1) = ((u - 1 : Nat) : Int) := by rw [IntKind.wrap_u64]; omega
              rw [e1, bits_and_u64_nat _ _ lu (by omega), HU.out, hL.next]
            clear hz hL hx hbits
            obtain ⟨fn, tmps, assign, body, hy, hR⟩ := HY.out (bt X (64 * i + k)) x wr HJ2.out hlen
            gi_wp2_with (refine ⟨trivial, ?_⟩; gi_at_call 61; refine (callsIn_wide.2 (tz u lu _ (HT.out.kept (HK2.out 0 HS.out.2.2)))).mono ?_; rintro e w' ⟨rfl, hw'⟩; rw [hw', hc]; clear hw' w')
            refine hR.mono ?_
            rintro e W3 (⟨rfl, hJ3, hk3⟩ | ⟨rfl, hJx3⟩)
            · have HK3 : Hid (Keeps S W W3) := HK2.out.trans hk3
              have HJ3 : Hid (J (bt X (x + 1)) W3) := (by rw [HB.out]; exact hJ3 : J (bt X (x + 1)) W3)
              clear hJ3 hk3 hR hy
              gi_wp2
              go_roundw
              case rel => exact ⟨c + 1, by have := HI.out.2.1; omega, by rw [HI.out.2.2.1], HK3.out, by have := HJ3.out; rw [HX.out] at this; rw [← Nat.add_assoc]; exact this⟩
              case measure =>
                rw [HI.out.2.2.1]
                have := HI.out.2.2.2
                simp [intOf]; omega
            · clear hR hy
              gi_wp2
              refine bodyPost_ret (results_none rfl _ _ _) rfl ?_
              exact ⟨⟨_, rfl⟩, .inr ⟨_, by rw [← HB.out]; exact bt_prefix (by have := HI.out; have := HX.out; omega), hJx3⟩⟩
    · have hi4 : i = 4 := by omega
      subst hi4
      gi_wp2
      go_end0
      exact ⟨⟨_, rfl⟩, .inl ⟨_, rfl, HJ.out⟩⟩

end Go.Proofs.YtienmoannnhhmaaDoor.Sp
