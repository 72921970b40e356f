/- What the chapter's examples come to. -/
import Derived.Test.YtgclgegdojnpcaaDoorRiot5
namespace Go.Proofs.YtgclgegdojnpcaaDoor.Ri
open Go.RowKit Po

/-- A riot that is the law's own, and nothing old turned. -/
structure Gb (W : World) (B : Rb) (r : Rs) (w : World) : Prop where
  at_ : RAt w B r
  old : Below W.heap.size W w
  ge : ∀ k, B.In k → W.heap.size ≤ k
  sep : B.ok
  ok : r.ok
section
variable {W w w' : World} {B : Rb} {r : Rs}
theorem Gb.rt {r' : Rs} (h : Gb W B r w) (ht : Rt B w w') (ha : RAt w' B r') (ho : r'.ok) : Gb W B r' w' := ⟨ha, h.old.trans (ht.below h.ge h.old.size), h.ge, h.sep, ho⟩
theorem Gb.below (h : Gb W B r w) (hb : Below w.heap.size w w') : Gb W B r w' := ⟨h.at_.below hb, h.old.trans (hb.mono h.old.size), h.ge, h.sep, h.ok⟩
theorem Gb.draws (h : Gb W B r w) (q : Nat) : Gb W B r (w.drewN q) := ⟨h.at_.draws q, below_drewN h.old q, h.ge, h.sep, h.ok⟩
theorem Gb.tab (h : Gb W B r w) (ht : Tm.Tab W) : Tm.Tab w := ht.below h.old ht.lt
theorem ReadG (n : Nat) (hn : n ≤ 65535) (h : Gb W B r w) : Calls Tryd.prog 21 #[.pointer (some ⟨B.b, 0, none⟩), .int .u16 (n : Int)] w fun e w' => e = .returned (.int .u8 (rdV r n)) ∧ Gb W B (rdS r n) w' :=
  (Read B r n w h.sep h.ok hn h.at_).mono fun _ _ ⟨he, ha, ht⟩ => ⟨he, h.rt ht ha (rdS_ok h.ok n)⟩
theorem StoreG (n v : Nat) (hn : n ≤ 65535) (hv : v ≤ 255) (ht : Tm.Tab W) (h : Gb W B r w) : Calls Tryd.prog 20 #[.pointer (some ⟨B.b, 0, none⟩), .int .u16 (n : Int), .int .u8 (v : Int)] w fun e w' => e = .returned (.tuple #[]) ∧ Gb W B (st r n v) w' :=
  (Store B r n v w (h.tab ht) h.sep h.ok hn h.at_).mono fun _ _ ⟨he, ha, ht⟩ => ⟨he, h.rt ht ha (st_ok h.ok n hv)⟩
theorem InG (x y : Nat) (hx : x ≤ 255) (hy : y ≤ 255) (h : Gb W B r w) : Calls Tryd.prog 19 #[.pointer (some ⟨B.b, 0, none⟩), .int .u8 (x : Int), .int .u8 (y : Int)] w fun e w' => e = .returned (.tuple #[]) ∧ Gb W B (inn r x y) w' :=
  (In B r x y w h.sep h.at_).mono fun _ _ ⟨he, ha, ht⟩ => ⟨he, h.rt ht ha (inn_ok h.ok hx hy)⟩
theorem TickG (h : Gb W B r w) : Calls Tryd.prog 18 #[.pointer (some ⟨B.b, 0, none⟩)] w fun e w' => e = .returned (.tuple #[]) ∧ Gb W B (tick r) w' :=
  (Tick B r w h.sep h.ok h.at_).mono fun _ _ ⟨he, ha, ht⟩ => ⟨he, h.rt ht ha (tick_ok h.ok)⟩
end

/-- At power-on. -/
def pow (l : List Int) : Rs := ⟨l, ⟨255, 0, 0⟩, ⟨255, 0, 0⟩, Tm.wr 255 3, ⟨true, false, false⟩⟩
theorem pow_ok {l : List Int} (hl : l.length = 128) (hb : ∀ x ∈ l, 0 ≤ x ∧ x ≤ 255) : (pow l).ok := ⟨hl, hb, show Pt.ok ⟨255, 0, 0⟩ from ⟨by decide, by decide, by decide⟩, show Pt.ok ⟨255, 0, 0⟩ from ⟨by decide, by decide, by decide⟩, Tm.wr_ok (show 255 ≤ 255 by decide) _⟩
theorem NewG (W : World) (l : List Int) (w : World) (hl : l.length = 128) (hb : ∀ x ∈ l, 0 ≤ x ∧ x ≤ 255) (ht : Tm.Tab W) (h : Below W.heap.size W w) : Calls Tryd.prog 7 #[.agg (bytes l).toArray] w fun e w' => ∃ B : Rb, e = .returned (.pointer (some ⟨B.b, 0, none⟩)) ∧ Gb W B (pow l) w' ∧ Below w.heap.size w w' ∧ ∀ k, B.In k → w.heap.size ≤ k :=
  (New l w hl (ht.below h ht.lt)).mono fun _ _ ⟨B, he, hg, hB, ha, hb'⟩ => ⟨B, he, ⟨ha, h.trans (hb'.mono h.size), fun k hk => Nat.le_trans h.size (hg k hk), hB, pow_ok hl hb⟩, hb', hg⟩

theorem zero128 : Tryd.zeroCells22 = (bytes zer).toArray := by kernel_rfl
theorem zer_byte : ∀ x ∈ zer, 0 ≤ x ∧ x ≤ 255 := fun x hx => by obtain rfl := List.eq_of_mem_replicate hx; decide

def aw : Rs := tick (inn (st (st (pow zer) 128 5) 661 3) 127 255)

set_option maxRecDepth 100000 in
set_option maxHeartbeats 4000000 in
theorem awake8 (w : World) (ht : Tm.Tab w) : Calls Tryd.prog 15 #[] w fun e w' => e = .returned (.bool true) ∧ Below w.heap.size w w' := by
  have HT : Hid (Tm.Tab w) := ht
  clear ht
  go_enter Tryd.func15, Tryd.ntmps15
  go_wp2_with (go_at_call 7; fail)
  rw [zero128]
  refine (NewG w zer _ (by rfl) zer_byte HT.out (Below.refl _ _)).mono ?_
  rintro e w1 ⟨B, rfl, hw1, -, -⟩
  have Gw1 : Hid (Gb w B (pow zer) w1) := hw1
  clear hw1
  go_wp2_with (go_at_call 20; fail)
  refine (StoreG 128 5 (by decide) (by decide) HT.out Gw1.out).mono ?_
  rintro e w2 ⟨rfl, hw2⟩
  have Gw2 : Hid (Gb w B (st (pow zer) 128 5) w2) := hw2
  clear hw2 Gw1
  go_wp2_with (go_at_call 20; fail)
  refine (StoreG 661 3 (by decide) (by decide) HT.out Gw2.out).mono ?_
  rintro e w3 ⟨rfl, hw3⟩
  have Gw3 : Hid (Gb w B (st (st (pow zer) 128 5) 661 3) w3) := hw3
  clear hw3 Gw2
  go_wp2_with (go_at_call 19; fail)
  refine (InG 127 255 (by decide) (by decide) Gw3.out).mono ?_
  rintro e w4 ⟨rfl, hw4⟩
  have Gw4 : Hid (Gb w B (inn (st (st (pow zer) 128 5) 661 3) 127 255) w4) := hw4
  clear hw4 Gw3
  go_wp2_with (go_at_call 18; fail)
  refine (TickG Gw4.out).mono ?_
  rintro e w5 ⟨rfl, hw5⟩
  have Gw5 : Hid (Gb w B aw w5) := hw5
  clear hw5 Gw4
  go_wp2_with (go_at_call 21; fail)
  refine (ReadG 384 (by decide) Gw5.out).mono ?_
  rintro e w6 ⟨rfl, hw6⟩
  rw [show rdV aw 384 = 5 by kernel_rfl]
  have Gw6 : Hid (Gb w B (rdS aw 384) w6) := hw6
  clear hw6 Gw5
  go_wp2_with (go_at_call 21; fail)
  refine (ReadG 644 (by decide) Gw6.out).mono ?_
  rintro e w7 ⟨rfl, hw7⟩
  rw [show rdV (rdS aw 384) 644 = 2 by kernel_rfl]
  have Gw7 : Hid (Gb w B (rdS (rdS aw 384) 644) w7) := hw7
  clear hw7 Gw6
  go_wp2_with (go_at_call 21; fail)
  refine (ReadG 645 (by decide) Gw7.out).mono ?_
  rintro e w8 ⟨rfl, hw8⟩
  rw [show rdV (rdS (rdS aw 384) 644) 645 = 64 by kernel_rfl]
  have Gw8 : Hid (Gb w B (rdS (rdS (rdS aw 384) 644) 645) w8) := hw8
  clear hw8 Gw7
  go_wp2_with (go_at_call 21; fail)
  refine (ReadG 645 (by decide) Gw8.out).mono ?_
  rintro e w9 ⟨rfl, hw9⟩
  rw [show rdV (rdS (rdS (rdS aw 384) 644) 645) 645 = 0 by kernel_rfl]
  have Gw9 : Hid (Gb w B (rdS (rdS (rdS (rdS aw 384) 644) 645) 645) w9) := hw9
  clear hw9 Gw8
  go_wp2
  go_returns
  exact ⟨rfl, Gw9.out.old⟩

end Go.Proofs.YtgclgegdojnpcaaDoor.Ri
