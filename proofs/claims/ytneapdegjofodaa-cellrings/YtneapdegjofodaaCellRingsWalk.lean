/- CellRings, walked: whatever comes in, true comes out. -/
import Derived.Test.YtneapdegjofodaaSeenOwn
import Derived.Test.YtneapdegjofodaaList
import Derived.Test.YtneapdegjofodaaListNil
import Derived.Test.YtneapdegjofodaaRef
import Derived.Deep.RegionWith
namespace Go.Proofs.Ytneapdegjofodaa.cellRings
open Go.RowKit

set_option maxRecDepth 100000 in
set_option maxHeartbeats 2000000 in
theorem bad (a0 : Int) {ao : Option Addr} {n cap : Nat} {W : World} (hn : n ≤ 200) (h : ¬ (1 ≤ a0 ∧ a0 ≤ 65536)) :
    Calls Try.prog 3 #[.int .i64 a0, .slice ao n cap] W fun e w' => e = .returned (.bool true) ∧ Below W.heap.size W w' := by
  have hbi : (n : Int) ≤ 200 := by omega
  have h' : a0 < 1 ∨ (¬ a0 < 1 ∧ 65536 < a0) := by omega
  rcases h' with h1 | ⟨h1, h2⟩
  all_goals
    go_enter Try.func3, Try.ntmps3
    go_wp2_with (first
      | (go_at_call 9; refine (RingInt.New_no a0 _ h).mono ?_; rintro e w1 ⟨rfl, hw⟩; subst w1)
      | (go_at_call 10; refine (RingInt.Put_nil 1 _).mono ?_; rintro e w1 ⟨rfl, hw⟩; subst w1)
      | (go_at_call 11; refine (RingInt.Pop_nil _).mono ?_; rintro e w1 ⟨rfl, hw⟩; subst w1)
      | (go_at_call 12; refine (RingInt.At_nil _).mono ?_; rintro e w1 ⟨rfl, hw⟩; subst w1)
      | (go_at_call 13; refine (RingInt.Len_nil _).mono ?_; rintro e w5 ⟨rfl, hw⟩; subst w5)
      | (go_at_call 14; refine (RingInt.RList_nil _).mono ?_; rintro e w6 ⟨g6, c6, rfl, hb6⟩; have HB6 : Hid (Below W.heap.size W w6) := (by first | exact hb6 | exact (below_drewN (Below.refl _ W) _).trans hb6); clear hb6)
      | (go_at_call 15; refine (awake3 _).mono ?_; rintro e w4 ⟨rfl, hb4⟩; have HB7 : Hid (Below W.heap.size W w4) := (by first | exact HB6.out.trans (hb4.mono HB6.out.size) | exact (below_drewN HB6.out _).trans (hb4.mono (by simpa using HB6.out.size))); clear hb4))
    go_ret
    exact ⟨rfl, HB7.out⟩

set_option maxRecDepth 100000 in
set_option maxHeartbeats 1000000 in
theorem great (a0 : Int) {ao : Option Addr} {n cap : Nat} {W : World} (hn : 200 < n) (hm : n ≤ 9223372036854775807) :
    Calls Try.prog 3 #[.int .i64 a0, .slice ao n cap] W fun e w' => e = .returned (.bool true) ∧ Below W.heap.size W w' := by
  have hbi : (200 : Int) < (n : Int) := by omega
  go_enter Try.func3, Try.ntmps3
  go_wp2
  go_ret
  exact ⟨rfl, Below.refl _ _⟩

/-- One thing less is seen. -/
theorem Seen.init {c : Int → Value} {w : World} {ao : Option Addr} {cap b off : Nat} {L : List Int} {y : Int} (h : Seen c w ao cap b off (L ++ [y])) : Seen c w ao cap b off L :=
  ⟨by have := h.le; rw [List.length_append] at this; exact Nat.le_trans (Nat.le_add_right _ _) this, h.max, fun _ => h.at_ (by simp), fun i x hi => h.cell i x (by rw [List.getElem?_append_left (List.getElem?_eq_some_iff.1 hi).1]; exact hi)⟩

/-- How things stand: the ring and the list hold L, and lie apart. -/
structure Both (W wr : World) (room : Nat) (r : Value) (ao : Option Addr) (cap b off : Nat) (L : List Int) : Prop where
  ring : RingInt.Ring wr W.heap.size room r L
  list : Seen (fun x => .int .i64 x) wr ao cap b off L
  none_ : ao = none → L.length = 0 ∧ cap = 0
  apart : L ≠ [] → b ≠ W.heap.size ∧ some b ≠ r.ownBlock
  below : Below W.heap.size W wr

theorem Both.draws {W wr : World} {room : Nat} {r : Value} {ao : Option Addr} {cap b off : Nat} {L : List Int} (h : Both W wr room r ao cap b off L) (q : Nat) : Both W (wr.drewN q) room r ao cap b off L :=
  ⟨h.ring.draws q, h.list.draws q, h.none_, h.apart, below_drewN h.below q⟩
theorem Both.later {W wr w' : World} {room : Nat} {r : Value} {ao : Option Addr} {cap b off : Nat} {L : List Int} (h : Both W wr room r ao cap b off L) (hb : Below wr.heap.size wr w') : Both W w' room r ao cap b off L :=
  ⟨h.ring.below hb, h.list.below hb, h.none_, h.apart, h.below.trans (hb.mono h.below.size)⟩
/-- The list, behind a change of the ring. -/
theorem Both.kept {W wr w' : World} {room : Nat} {r : Value} {ao : Option Addr} {cap b off : Nat} {L : List Int} (h : Both W wr room r ao cap b off L) (hp : Part W.heap.size r wr w') : Seen (fun x => .int .i64 x) w' ao cap b off L ∧ Below W.heap.size W w' :=
  ⟨h.list.kept fun hx => hp.block b (h.list.lt hx) (h.apart hx).1 (h.apart hx).2, h.below.trans (hp.below (Nat.le_refl _) h.below.size (fun j hj => by have := (h.ring.ge j hj).1; omega))⟩

set_option maxRecDepth 100000 in
set_option maxHeartbeats 4000000 in
theorem good {room : Nat} {ao : Option Addr} {cap b off : Nat} {R : List (Int × Int)} {W : World} (hS : SeenR W ao cap b off R) (hb : R.length ≤ 200) (hr1 : 1 ≤ room) (hr2 : room ≤ 65536) :
    Calls Try.prog 3 #[.int .i64 (room : Int), .slice ao R.length cap] W fun e w' => e = .returned (.bool true) ∧ Below W.heap.size W w' := by
  have HS : Hid (SeenR W ao cap b off R) := hS
  have hbi : (R.length : Int) ≤ 200 := by omega
  clear hS
  go_enter Try.func3, Try.ntmps3
  go_wp2_with (go_at_call 9; fail)
  refine (RingInt.New_yes room _ hr1 (by omega)).mono ?_
  rintro e w1 ⟨rfl, hR1, hB1⟩
  have HI : Hid (Both W w1 room (.slice none 0 0) none 0 0 0 []) := ⟨hR1, Seen.nil _ _ _ (by omega) _ _, fun _ => ⟨rfl, rfl⟩, fun h => absurd rfl h, hB1⟩
  clear hR1 hB1
  go_wp2
  go_loopw [12, 13] (fun v i wr => ∃ (k : Nat) (L : List Int) (r : Value) (mo : Option Addr) (mc mb mf : Nat), k ≤ R.length ∧ i = .int .i64 (k : Int) ∧ v = .slice mo L.length mc ∧ Both W wr room r mo mc mb mf L) (fun _ i _ => R.length - (intOf i).toNat)
  case atStart => exact ⟨0, [], _, none, 0, 0, 0, by omega, rfl, rfl, HI.out⟩
  case round =>
    obtain ⟨k, L, r, mo, mc, mb, mf, hk, rfl, rfl, hI⟩ := hrel
    have HB : Hid (Both W wr room r mo mc mb mf L) := hI
    have hLr := hI.ring.le
    clear HI hI
    by_cases hl : k < R.length
    · obtain ⟨⟨kd, x⟩, hx⟩ : ∃ x, R[k]? = some x := ⟨_, List.getElem?_eq_getElem hl⟩
      have hne : R ≠ [] := fun e => by rw [e] at hx; cases hx
      have hao := HS.out.at_ hne
      subst hao
      have cx : wr.cell? ⟨b, off + k * 2, none⟩ = some (.int .i64 kd) := (HB.out.below.cell (p := ⟨b, off + k * 2, none⟩) (HS.out.lt hne)).trans (HS.out.cell k _ hx).1
      have cy : wr.cell? ⟨b, off + k * 2 + 1, none⟩ = some (.int .i64 x) := (HB.out.below.cell (p := ⟨b, off + k * 2 + 1, none⟩) (HS.out.lt hne)).trans (HS.out.cell k _ hx).2
      have k0 : (0 : Int) ≤ (k : Int) := by omega
      have k1 : (k : Int) < (R.length : Int) := by omega
      have HL : Hid (b < W.heap.size ∧ W.cell? ⟨b, off + k * 2 + 1, none⟩ = some (.int .i64 x)) := ⟨HS.out.lt hne, (HS.out.cell k _ hx).2⟩
      clear hx hne
      have hq : (wrap64 (kd.tmod 5 + 5)).tmod 5 < 3 ∨ (¬ (wrap64 (kd.tmod 5 + 5)).tmod 5 < 3 ∧ (wrap64 (kd.tmod 5 + 5)).tmod 5 = 3) ∨ (¬ (wrap64 (kd.tmod 5 + 5)).tmod 5 < 3 ∧ ¬ (wrap64 (kd.tmod 5 + 5)).tmod 5 = 3) := by omega
      rcases hq with hq | ⟨hq, hq'⟩ | ⟨hq, hq'⟩
      · go_wp2_with (go_at_call 10; fail)
        refine (RingInt.Put W.heap.size room r x _ _ HB.out.ring).mono ?_
        rintro e w2 ⟨rfl, r2, hR2, hP2, hN2⟩
        have hsn := HB.out.kept hP2
        have HR2 : Hid (RingInt.Ring w2 W.heap.size room r2 (RingInt.putL room L x)) := hR2
        have HSN : Hid (Seen (fun x => .int .i64 x) w2 mo mc mb mf L ∧ Below W.heap.size W w2) := hsn
        have cy2 : w2.cell? ⟨b, off + k * 2 + 1, none⟩ = some (.int .i64 x) := (hsn.2.cell (p := ⟨b, off + k * 2 + 1, none⟩) HL.out.1).trans HL.out.2
        clear hR2 hP2 hsn
        go_wp2_with (go_at_call 16; fail)
        refine (Ref3.Put room L.length x L mo mc mb mf _ HSN.out.1 rfl HB.out.none_ hr1 hr2 hLr).mono ?_
        rintro e w3 ⟨ad3, c3, b3, f3, rfl, hS3, hb3, hB3⟩
        have HB3 : Hid (Both W w3 room r2 (some ad3) c3 b3 f3 (RingInt.putL room L x)) := ⟨HR2.out.below hB3, hS3, nofun, fun _ => ⟨by have := HR2.out.lt; omega, fun e => by have := (HR2.out.ge b3 e.symm).2; omega⟩, HSN.out.2.trans (hB3.mono HSN.out.2.size)⟩
        clear HR2 HSN hS3 hB3
        go_wp2_with (first
          | (go_at_call 13; refine (RingInt.Len W.heap.size room _ _ _ HB3.out.ring).mono ?_; rintro e w5 ⟨rfl, hw⟩; subst w5)
          | (go_at_call 14; refine (RingInt.RList W.heap.size room _ _ _ HB3.out.ring).mono ?_; rintro e w5 ⟨g5, c5, rfl, hg5, hO5, hB5⟩; have HS5 : Hid (Seen (fun x => .int .i64 x) w5 (some ⟨g5, 0, none⟩) c5 g5 0 (RingInt.putL room L x)) := Ref3.seen_own hO5 rfl; have HB5 : Hid (Both W w5 room _ _ _ _ _ (RingInt.putL room L x)) := HB3.out.later hB5; clear hO5 hB5)
          | (go_at_call 17; refine (Ref3.Same (RingInt.putL room L x) _ _ _ _ c5 _ g5 _ 0 _ _ HS5.out HB5.out.list rfl rfl).mono ?_; rintro e w6 ⟨rfl, q6, hq6⟩; subst w6))
        go_roundw
        case rel => exact ⟨k + 1, (RingInt.putL room L x), _, _, _, _, _, by omega, by go_num, rfl, HB5.out.draws q6⟩
        case measure => simp [intOf]; omega
      · rcases L.eq_nil_or_concat with rfl | ⟨M, y, hM⟩
        · have HB3 : Hid (Both W wr room r mo mc mb mf []) := HB.out
          go_wp2_with (go_at_call 11; refine (RingInt.Pop_no W.heap.size room _ _ HB3.out.ring).mono ?_; rintro e w5 ⟨rfl, hw⟩; subst w5; fail)
          refine (RingInt.Pop_no W.heap.size room _ _ HB3.out.ring).mono ?_
          rintro e w5 ⟨rfl, hw⟩
          subst w5
          go_wp2_with (first
            | (go_at_call 13; refine (RingInt.Len W.heap.size room _ _ _ HB3.out.ring).mono ?_; rintro e w5 ⟨rfl, hw⟩; subst w5)
            | (go_at_call 14; refine (RingInt.RList W.heap.size room _ _ _ HB3.out.ring).mono ?_; rintro e w5 ⟨g5, c5, rfl, hg5, hO5, hB5⟩; have HS5 : Hid (Seen (fun x => .int .i64 x) w5 (some ⟨g5, 0, none⟩) c5 g5 0 []) := Ref3.seen_own hO5 rfl; have HB5 : Hid (Both W w5 room _ _ _ _ _ []) := HB3.out.later hB5; clear hO5 hB5)
            | (go_at_call 17; refine (Ref3.Same [] _ _ _ _ c5 _ g5 _ 0 _ _ HS5.out HB5.out.list rfl rfl).mono ?_; rintro e w6 ⟨rfl, q6, hq6⟩; subst w6))
          go_roundw
          case rel => exact ⟨k + 1, [], _, _, _, _, _, by omega, by go_num, rfl, HB5.out.draws q6⟩
          case measure => simp [intOf]; omega
        · rw [List.concat_eq_append] at hM
          subst hM
          have hmo : mo = some ⟨mb, mf, none⟩ := HB.out.list.at_ (by simp)
          subst hmo
          have hlen : (M ++ [y]).length = M.length + 1 := by simp
          rw [hlen] at hLr ⊢
          have hMr : M.length ≤ 65535 := by omega
          have HR0 : Hid (RingInt.Ring wr W.heap.size room r (M ++ [y])) := HB.out.ring
          clear hlen
          go_wp2_with (go_at_call 11; fail)
          refine (RingInt.Pop_yes W.heap.size room r y M _ HR0.out).mono ?_
          rintro e w2 ⟨rfl, hR2, hP2⟩
          have hsn := HB.out.kept hP2
          have HB3 : Hid (Both W w2 room r (some ⟨mb, mf, none⟩) mc mb mf M) := ⟨hR2, Seen.init hsn.1, nofun, fun _ => HB.out.apart (by simp), hsn.2⟩
          have cm : w2.cell? ⟨mb, mf + M.length, none⟩ = some (.int .i64 y) := hsn.1.cell M.length y (by simp)
          have hcap : M.length + 1 ≤ mc := by have := hsn.1.le; simpa using this
          have hmax := hsn.1.max
          have e1 : ((M.length + 1 : Nat) : Int) - 1 = (M.length : Int) := by omega
          clear hR2 hP2 hsn cx cy
          go_wp2_with (first
            | (go_at_call 13; refine (RingInt.Len W.heap.size room _ _ _ HB3.out.ring).mono ?_; rintro e w5 ⟨rfl, hw⟩; subst w5)
            | (go_at_call 14; refine (RingInt.RList W.heap.size room _ _ _ HB3.out.ring).mono ?_; rintro e w5 ⟨g5, c5, rfl, hg5, hO5, hB5⟩; have HS5 : Hid (Seen (fun x => .int .i64 x) w5 (some ⟨g5, 0, none⟩) c5 g5 0 M) := Ref3.seen_own hO5 rfl; have HB5 : Hid (Both W w5 room _ _ _ _ _ M) := HB3.out.later hB5; clear hO5 hB5)
            | (go_at_call 17; refine (Ref3.Same M _ _ _ _ c5 _ g5 _ 0 _ _ HS5.out HB5.out.list rfl rfl).mono ?_; rintro e w6 ⟨rfl, q6, hq6⟩; subst w6))
          go_roundw
          case rel => exact ⟨k + 1, M, _, _, _, _, _, by omega, by go_num, rfl, HB5.out.draws q6⟩
          case measure => simp [intOf]; omega
      · by_cases hin : 0 ≤ x ∧ x < (L.length : Int)
        · obtain ⟨hx0, hx1⟩ := hin
          obtain ⟨j, rfl⟩ := Int.eq_ofNat_of_zero_le hx0
          have hj : j < L.length := by omega
          obtain ⟨y, hy⟩ : ∃ y, L[j]? = some y := ⟨_, List.getElem?_eq_getElem hj⟩
          have hmo : mo = some ⟨mb, mf, none⟩ := HB.out.list.at_ (fun e => by rw [e] at hy; cases hy)
          subst hmo
          have HY : Hid (L[j]? = some y) := hy
          clear hy
          go_wp2_with (go_at_call 12; fail)
          refine (RingInt.At_yes W.heap.size room j r y L _ HB.out.ring HY.out).mono ?_
          rintro e w2 ⟨rfl, q2, hq2⟩
          subst w2
          have HB3 : Hid (Both W (wr.drewN q2) room r (some ⟨mb, mf, none⟩) mc mb mf L) := HB.out.draws q2
          have cm : (wr.drewN q2).cell? ⟨mb, mf + j, none⟩ = some (.int .i64 y) := HB3.out.list.cell j y HY.out
          have cy2 : (wr.drewN q2).cell? ⟨b, off + k * 2 + 1, none⟩ = some (.int .i64 (j : Int)) := cy
          go_wp2_with (first
            | (go_at_call 13; refine (RingInt.Len W.heap.size room _ _ _ HB3.out.ring).mono ?_; rintro e w5 ⟨rfl, hw⟩; subst w5)
            | (go_at_call 14; refine (RingInt.RList W.heap.size room _ _ _ HB3.out.ring).mono ?_; rintro e w5 ⟨g5, c5, rfl, hg5, hO5, hB5⟩; have HS5 : Hid (Seen (fun x => .int .i64 x) w5 (some ⟨g5, 0, none⟩) c5 g5 0 L) := Ref3.seen_own hO5 rfl; have HB5 : Hid (Both W w5 room _ _ _ _ _ L) := HB3.out.later hB5; clear hO5 hB5)
            | (go_at_call 17; refine (Ref3.Same L _ _ _ _ c5 _ g5 _ 0 _ _ HS5.out HB5.out.list rfl rfl).mono ?_; rintro e w6 ⟨rfl, q6, hq6⟩; subst w6))
          go_roundw
          case rel => exact ⟨k + 1, L, _, _, _, _, _, by omega, by go_num, rfl, HB5.out.draws q6⟩
          case measure => simp [intOf]; omega
        · have hin' : x < 0 ∨ (L.length : Int) ≤ x := by omega
          have HB3 : Hid (Both W wr room r mo mc mb mf L) := HB.out
          have HN : Hid (x < 0 ∨ (L.length : Int) ≤ x) := hin'
          rcases hin' with hx0 | hx1
          · go_wp2_with (go_at_call 12; fail)
            refine (RingInt.At_no W.heap.size room x r L _ HB.out.ring HN.out).mono ?_
            rintro e w2 ⟨rfl, hw⟩
            subst w2
            go_wp2_with (first
              | (go_at_call 13; refine (RingInt.Len W.heap.size room _ _ _ HB3.out.ring).mono ?_; rintro e w5 ⟨rfl, hw⟩; subst w5)
              | (go_at_call 14; refine (RingInt.RList W.heap.size room _ _ _ HB3.out.ring).mono ?_; rintro e w5 ⟨g5, c5, rfl, hg5, hO5, hB5⟩; have HS5 : Hid (Seen (fun x => .int .i64 x) w5 (some ⟨g5, 0, none⟩) c5 g5 0 L) := Ref3.seen_own hO5 rfl; have HB5 : Hid (Both W w5 room _ _ _ _ _ L) := HB3.out.later hB5; clear hO5 hB5)
              | (go_at_call 17; refine (Ref3.Same L _ _ _ _ c5 _ g5 _ 0 _ _ HS5.out HB5.out.list rfl rfl).mono ?_; rintro e w6 ⟨rfl, q6, hq6⟩; subst w6))
            go_roundw
            case rel => exact ⟨k + 1, L, _, _, _, _, _, by omega, by go_num, rfl, HB5.out.draws q6⟩
            case measure => simp [intOf]; omega
          · have hx0 : 0 ≤ x := by omega
            go_wp2_with (go_at_call 12; fail)
            refine (RingInt.At_no W.heap.size room x r L _ HB.out.ring HN.out).mono ?_
            rintro e w2 ⟨rfl, hw⟩
            subst w2
            go_wp2_with (first
              | (go_at_call 13; refine (RingInt.Len W.heap.size room _ _ _ HB3.out.ring).mono ?_; rintro e w5 ⟨rfl, hw⟩; subst w5)
              | (go_at_call 14; refine (RingInt.RList W.heap.size room _ _ _ HB3.out.ring).mono ?_; rintro e w5 ⟨g5, c5, rfl, hg5, hO5, hB5⟩; have HS5 : Hid (Seen (fun x => .int .i64 x) w5 (some ⟨g5, 0, none⟩) c5 g5 0 L) := Ref3.seen_own hO5 rfl; have HB5 : Hid (Both W w5 room _ _ _ _ _ L) := HB3.out.later hB5; clear hO5 hB5)
              | (go_at_call 17; refine (Ref3.Same L _ _ _ _ c5 _ g5 _ 0 _ _ HS5.out HB5.out.list rfl rfl).mono ?_; rintro e w6 ⟨rfl, q6, hq6⟩; subst w6))
            go_roundw
            case rel => exact ⟨k + 1, L, _, _, _, _, _, by omega, by go_num, rfl, HB5.out.draws q6⟩
            case measure => simp [intOf]; omega
    · have hkl : (R.length : Int) ≤ (k : Int) := by omega
      go_wp2_with (go_at_call 15; refine (awake3 _).mono ?_; rintro e w4 ⟨rfl, hb4⟩)
      go_ret
      exact ⟨rfl, HB.out.below.trans (hb4.mono HB.out.below.size)⟩

theorem walk (a0 : Int) (w0 : (Lit.int .i64 a0).wf = true) {ao : Option Addr} {n cap b off : Nat} {L : List (Int × Int)} {W : World} (hS : SeenR W ao cap b off L) (hn : n = L.length) (hz : ao = none → n = 0 ∧ cap = 0) :
    Calls Try.prog 3 #[.int .i64 a0, .slice ao n cap] W fun e w' => e = .returned (.bool true) ∧ Below W.heap.size W w' := by
  subst hn
  by_cases hbig : 200 < L.length
  · exact great a0 hbig (Nat.le_trans hS.le hS.max)
  · by_cases hr : 1 ≤ a0 ∧ a0 ≤ 65536
    · obtain ⟨room, rfl⟩ := Int.eq_ofNat_of_zero_le (show 0 ≤ a0 by omega)
      exact good hS (by omega) (by omega) (by omega)
    · exact bad a0 (by omega) hr

end Go.Proofs.Ytneapdegjofodaa.cellRings
