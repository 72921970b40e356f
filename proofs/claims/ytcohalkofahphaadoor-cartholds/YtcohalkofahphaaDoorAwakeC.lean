/- What the chapter's examples come to. -/
import Derived.Test.YtcohalkofahphaaDoorCartC
set_option linter.unusedSimpArgs false
set_option linter.unusedVariables false
namespace Go.Proofs.YtcohalkofahphaaDoor.Ca
open Go.RowKit Img

def mF8 : Mp := ⟨⟨#[70, 56]⟩, 8192, 8192, 4096, false, -1, 0, 0, 0⟩
def mF8SC : Mp := ⟨⟨#[70, 56, 83, 67]⟩, 8192, 8192, 4096, true, -1, 0, 0, 0⟩
theorem find_8 : find ⟨#[70, 56]⟩ = some mF8 := by simp [find, mps, mF8]
theorem find_8SC : find ⟨#[70, 56, 83, 67]⟩ = some mF8SC := by simp [find, mps, mF8SC]

section
variable (L : List Int) (r : Ram) (h : L.length = 8192)
theorem f8_hot0 : watch (made ⟨#[70, 56]⟩ mF8 1 L r.l) 8184 0 false = (made ⟨#[70, 56]⟩ mF8 1 L r.l).put 0 0 := by
  simp [watch, watch13, made, own, rows, hits, Ct.hot, hotT, mF8]
theorem f8_hot1 (s : Int) : watch ((made ⟨#[70, 56]⟩ mF8 1 L r.l).put 0 s) 8185 0 false = (made ⟨#[70, 56]⟩ mF8 1 L r.l).put 0 1 := by
  simp [watch, watch13, made, own, rows, hits, Ct.hot, hotT, mF8, Ct.put]
theorem f8_peek (s : Int) : wher ((made ⟨#[70, 56]⟩ mF8 1 L r.l).put 0 s) 4096 = s * 4096 := by
  simp [wher, place, made, Ct.put, Ct.at, mF8]
theorem sc_ram : watch (made ⟨#[70, 56, 83, 67]⟩ mF8SC 1 L r.l) 4097 5 true = (made ⟨#[70, 56, 83, 67]⟩ mF8SC 1 L r.l).ram 1 5 := by
  simp [watch, watch13, made, own, rows, hits, Ct.hot, hotT, mF8SC]
theorem sc_peek : peekB ((made ⟨#[70, 56, 83, 67]⟩ mF8SC 1 L r.l).ram 1 5) 4225 = 5 ∧ peekD ((made ⟨#[70, 56, 83, 67]⟩ mF8SC 1 L r.l).ram 1 5) 4225 = true := by
  have hw : wher ((made ⟨#[70, 56, 83, 67]⟩ mF8SC 1 L r.l).ram 1 5) 4225 = -1 := by
    simp [wher, made, Ct.ram, mF8SC]
  have hr : ramOf ((made ⟨#[70, 56, 83, 67]⟩ mF8SC 1 L r.l).ram 1 5) 1 = 5 := by
    show ((r.l.set 1 5)[1]?).getD 0 = 5
    rw [List.getElem?_set_self (by rw [r.h]; decide)]
    rfl
  unfold peekB peekD
  rw [hw]
  exact ⟨hr, rfl⟩
end

theorem byteOf_nums {L : List Int} {p : Nat} {x : Int} (h : L[p]? = some x) (h0 : 0 ≤ x) (h1 : x < 256) : byteOf (strOfNums L) p = x := by
  have hp := (List.getElem?_eq_some_iff.1 h).1
  unfold byteOf
  rw [dif_pos (by rw [strOfNums_size]; exact hp)]
  have e : (strOfNums L)[p]'(by rw [strOfNums_size]; exact hp) = UInt8.ofNat x.toNat := by
    have : L[p] = x := (List.getElem?_eq_some_iff.1 h).2
    have hq : p < (L.map fun n => UInt8.ofNat n.toNat).toArray.size := by simpa using hp
    show ((L.map fun n => UInt8.ofNat n.toNat).toArray)[p]'hq = _
    rw [List.getElem_toArray, List.getElem_map, this]
  rw [e]
  simp
  omega

theorem infoByte : (Tryd.prog.info? 5).map (fun i => (i.zero, i.size, i.bytes)) = some (some (.int .u8 0), 1, 1) := by kernel_rfl
/-- A row of bytes in block g. -/
def RowB (w : World) (g : Nat) (xs : List Int) : Prop := w.heap[g]? = some (.cells (bytes xs).toArray 5 (0, 0))
theorem RowB.lt {w : World} {g : Nat} {xs : List Int} (h : RowB w g xs) : g < w.heap.size := (Array.getElem?_eq_some_iff.1 h).1
theorem RowB.at_ {w : World} {g : Nat} {xs : List Int} (h : RowB w g xs) {i : Nat} {x : Int} (hi : xs[i]? = some x) : w.cell? ⟨g, i, none⟩ = some (.int .u8 x) ∧ w.frozen? ⟨g, i, none⟩ = false := by
  refine ⟨?_, frozen_of_row _ _ _ _ _ h⟩
  rw [Joins.cell_of_block h i]
  simp [bytes, hi]
theorem RowB.set {w : World} {g : Nat} {xs : List Int} (h : RowB w g xs) (i : Nat) (x : Int) : RowB (w.setCell ⟨g, i, none⟩ (.int .u8 x)) g (xs.set i x) := by
  unfold RowB bytes
  rw [Joins.block_setCell h, List.map_set]
  congr 2
  simp [bytes]
theorem RowB.below {w w' : World} {g : Nat} {xs : List Int} (h : RowB w g xs) (hb : Below w.heap.size w w') : RowB w' g xs := (hb.block g h.lt).trans h
theorem RowB.seen {w : World} {g cap : Nat} {xs : List Int} (h : RowB w g xs) (hl : xs.length ≤ cap) (hc : cap ≤ 9223372036854775807) : SeenB w (some ⟨g, 0, none⟩) cap g 0 xs :=
  ⟨hl, hc, fun _ => rfl, fun i x hi => by rw [Nat.zero_add]; exact (h.at_ hi).1⟩
theorem row_blockB {w : World} {base g n : Nat} {xs : List Value} (h : w.ownsRow base 5 1 (.slice (some ⟨g, 0, none⟩) n n) n xs) : w.heap[g]? = some (.cells xs.toArray 5 (0, 0)) := by
  rcases h.2 with ⟨h', _⟩ | ⟨g', cap', cur, h', _, hh, _, _, hs, ht⟩
  · cases h'
  · injection h' with h1 _ h3
    injection h1 with h1; injection h1 with h1
    subst h1; subst h3
    rw [hh]
    have : cur.toList = xs := by rw [← ht]; exact (List.take_of_length_le (by simp; omega)).symm
    rw [← this]
theorem made_rowB {w : World} {base g n : Nat} (h : w.ownsRow base 5 1 (.slice (some ⟨g, 0, none⟩) n n) n (madeCells (Value.int .u8 0).cells (n * 1)).toList) : RowB w g (List.replicate n 0) := by
  have e : (madeCells (Value.int .u8 0).cells (n * 1)).toList = List.replicate n (Value.int .u8 0) := by rw [Nat.mul_one]; exact toList_madeCells_one _ _
  rw [e] at h
  unfold RowB bytes
  rw [row_blockB h, List.map_replicate]

theorem sound8 {L : List Int} (h : L.length = 8192) : fits mF8 (L.length : Int) = true ∧ Sound mF8 (L.length : Int) 1 ∧ fits mF8SC (L.length : Int) = true ∧ Sound mF8SC (L.length : Int) 1 := by
  have h1 : fits mF8 (L.length : Int) = true := by rw [h]; rfl
  have h2 : fits mF8SC (L.length : Int) = true := by rw [h]; rfl
  obtain ⟨N, hN⟩ := sound find_8 h1
  obtain ⟨M, hM⟩ := sound find_8SC h2
  obtain rfl : N = 1 := by have := hN.win; simp only [mF8] at this; omega
  obtain rfl : M = 1 := by have := hM.win; simp only [mF8SC] at this; omega
  exact ⟨h1, hN, h2, hM⟩

def r0 : Ram := ⟨zer, by simp [zer]⟩

theorem New8 (tag : ByteArray) (m : Mp) (N n : Nat) (L : List Int) (r : Ram) (ao : Option Addr) (cap b off : Nat) (w : World) (hn : L.length = n) (ht : Tab w) (hf : find tag = some m) (hft : fits m (L.length : Int) = true) (hs : Sound m (L.length : Int) N) (hS : SeenB w ao cap b off L) (hne : L ≠ []) :
    Calls Tryd.prog 18 #[.string tag, .slice ao n cap, .agg (bytes r.l).toArray] w fun e w' => ∃ d, e = .returned (.tuple #[.pointer (some ⟨d, 0, none⟩), .int .i64 0]) ∧ w.heap.size ≤ d ∧ CAt w' d (made tag m N L r.l) ∧ Below w.heap.size w w' := by
  subst hn
  exact New_yes tag m N L r ao cap b off w ht hf hft hs hS hne

set_option maxRecDepth 100000 in
set_option maxHeartbeats 4000000 in
theorem awake5 (w : World) (ht : Tab w) : Calls Tryd.prog 20 #[] w fun e w' => e = .returned (.bool true) ∧ Below w.heap.size w w' := by
  obtain ⟨i0, hi0, hz0, hz1, hz2⟩ := info_parts infoByte
  have h0 := ht.lt
  have HT : Hid (Tab w) := ht
  have hz := zero128
  have hzl : (bytes zer).length = 128 := (by rw [bytes_length]; rfl)
  clear ht
  go_enter Tryd.func20, Tryd.ntmps20
  go_wp2_with (at_make; refine wpList_make_full _ rfl _ _ 40 rfl w.heap.size 5 i0 (.int .u8 0) 1 Tryd.underlying40 hi0 hz0 hz1 _ _ _ _ 8192 rfl rfl rfl rfl (by rw [hz2]; omega) (by unfold maxLen; omega) (Nat.le_refl _) ?_; intro w1 hown hgrow; have HR1 : Hid (RowB w1 w.heap.size (List.replicate 8192 0)) := made_rowB hown; have HB1 : Hid (Below w.heap.size w w1) := (Below.refl _ w).grown hgrow (Nat.le_refl _) (fun _ e => by cases e); have k0 : w1.cell? ⟨w.heap.size, 0, none⟩ = some (.int .u8 0) := (HR1.out.at_ (i := 0) (by simp)).1; have k1 : w1.cell? ⟨w.heap.size, 4096, none⟩ = some (.int .u8 0) := (HR1.out.at_ (i := 4096) (by simp)).1; have kf : ∀ o, w1.frozen? ⟨w.heap.size, o, none⟩ = false := (fun o => frozen_of_row _ _ _ _ _ HR1.out); clear hown hgrow)
  generalize hw2 : World.setCell _ _ _ = w2
  have HRw : Hid (RowB w2 w.heap.size (((List.replicate 8192 0).set 0 3).set 4096 4)) := (by rw [← hw2]; exact (HR1.out.set 0 3).set 4096 4 : RowB w2 w.heap.size _)
  have HB2 : Hid (Below w.heap.size w w2) := (by rw [← hw2]; exact (HB1.out.setCell (p := ⟨w.heap.size, 0, none⟩) (Nat.le_refl _) _).setCell (p := ⟨w.heap.size, 4096, none⟩) (Nat.le_refl _) _ : Below w.heap.size w w2)
  obtain ⟨L, HL⟩ : ∃ L : List Int, Hid (L.length = 8192 ∧ L[0]? = some 3 ∧ L[4096]? = some 4 ∧ RowB w2 w.heap.size L) := ⟨_, (⟨by simp, by rw [List.getElem?_set_ne (by omega), List.getElem?_set_self (by simp)], by rw [List.getElem?_set_self (by simp)], HRw.out⟩ : _ ∧ _ ∧ _ ∧ _)⟩
  clear hw2 HRw HR1 HB1 k0 k1 kf hi0 hz0 hz1 hz2
  have HS : Hid (fits mF8 (L.length : Int) = true ∧ Sound mF8 (L.length : Int) 1 ∧ fits mF8SC (L.length : Int) = true ∧ Sound mF8SC (L.length : Int) 1) := sound8 HL.out.1
  have HN : Hid (L ≠ []) := (fun e => by have := HL.out.1; rw [e] at this; simp at this : L ≠ [])
  have HG1 : Hid (Good (made ⟨#[70, 56]⟩ mF8 1 L r0.l)) := made_good r0 find_8 HS.out.1 HS.out.2.1
  have HG2 : Hid (Good (made ⟨#[70, 56, 83, 67]⟩ mF8SC 1 L r0.l)) := made_good r0 find_8SC HS.out.2.2.1 HS.out.2.2.2
  refine (New8 ⟨#[70, 56]⟩ mF8 1 8192 L r0 _ 8192 _ 0 w2 HL.out.1 (HT.out.below HB2.out h0) find_8 HS.out.1 HS.out.2.1 (HL.out.2.2.2.seen (Nat.le_of_eq HL.out.1) (by omega)) HN.out).mono ?_
  rintro e w3 ⟨c, rfl, hc, hC3, hB3⟩
  have HB3 : Hid (Below w.heap.size w w3) := HB2.out.trans (hB3.mono HB2.out.size)
  have HC3 : Hid (CAt w3 c (made ⟨#[70, 56]⟩ mF8 1 L r0.l)) := hC3
  have HR3 : Hid (RowB w3 w.heap.size L) := HL.out.2.2.2.below hB3
  have hcw : w.heap.size < c := Nat.lt_of_lt_of_le HL.out.2.2.2.lt hc
  clear hB3 hC3 HB2 hc
  go_wp2_with (go_at_call 25; fail)
  refine (Watch c 8184 0 false _ _ HC3.out HG1.out.plain HG1.out.b1 (by have := HG1.out.b2; omega) (by omega) (by omega)).mono ?_
  rintro e w4 ⟨rfl, hC4, hT4⟩
  have HC4 : Hid (CAt w4 c ((made ⟨#[70, 56]⟩ mF8 1 L r0.l).put 0 0)) := (by rw [← f8_hot0 L r0]; exact hC4 : CAt w4 c _)
  have HB4 : Hid (Below w.heap.size w w4) := HB3.out.trans (hT4.below (by omega) HB3.out.size)
  have HR4 : Hid (RowB w4 w.heap.size L) := (hT4.block _ HR3.out.lt (by omega)).trans HR3.out
  have HG4 : Hid (Good ((made ⟨#[70, 56]⟩ mF8 1 L r0.l).put 0 0)) := (by have := (watch_good HG1.out 8184 0 false).1; rwa [f8_hot0 L r0] at this : Good _)
  have HP4 : Hid (peekB ((made ⟨#[70, 56]⟩ mF8 1 L r0.l).put 0 0) 4096 = 3) := (by unfold peekB; rw [f8_peek L r0 0, if_pos (by omega)]; exact byteOf_nums (p := 0) HL.out.2.1 (by omega) (by omega) : peekB _ _ = 3)
  clear hC4 hT4 HC3 HB3 HR3
  go_wp2_with (go_at_call 21; fail)
  refine (Peek c 4096 _ _ HC4.out HG4.out (by omega)).mono ?_
  rintro e w5 ⟨rfl, q5, hq5⟩
  have HC5 : Hid (CAt w5 c ((made ⟨#[70, 56]⟩ mF8 1 L r0.l).put 0 0)) := (by rw [hq5]; exact HC4.out.draws q5 : CAt w5 c _)
  have HB5 : Hid (Below w.heap.size w w5) := (by rw [hq5]; exact below_drewN HB4.out q5 : Below w.heap.size w w5)
  have HR5 : Hid (RowB w5 w.heap.size L) := (by rw [hq5]; exact HR4.out : RowB w5 w.heap.size L)
  clear hq5 HC4 HB4 HR4
  have e41 : peekB ((made ⟨#[70, 56]⟩ mF8 1 L r0.l).put 0 0) ((4096 : Nat) : Int) = 3 := HP4.out
  rw [e41]
  clear e41 HP4
  generalize peekD ((made ⟨#[70, 56]⟩ mF8 1 L r0.l).put 0 0) ((4096 : Nat) : Int) = d5
  go_wp2_with (go_at_call 25; fail)
  refine (Watch c 8185 0 false _ _ HC5.out HG4.out.plain HG4.out.b1 (by have := HG4.out.b2; omega) (by omega) (by omega)).mono ?_
  rintro e w6 ⟨rfl, hC6, hT6⟩
  have HC6 : Hid (CAt w6 c ((made ⟨#[70, 56]⟩ mF8 1 L r0.l).put 0 1)) := (by rw [← f8_hot1 L r0 0]; exact hC6 : CAt w6 c _)
  have HB6 : Hid (Below w.heap.size w w6) := HB5.out.trans (hT6.below (by omega) HB5.out.size)
  have HR6 : Hid (RowB w6 w.heap.size L) := (hT6.block _ HR5.out.lt (by omega)).trans HR5.out
  have HG6 : Hid (Good ((made ⟨#[70, 56]⟩ mF8 1 L r0.l).put 0 1)) := (by have := (watch_good HG4.out 8185 0 false).1; rwa [f8_hot1 L r0 0] at this : Good _)
  have HP6 : Hid (peekB ((made ⟨#[70, 56]⟩ mF8 1 L r0.l).put 0 1) 4096 = 4) := (by unfold peekB; rw [f8_peek L r0 1, if_pos (by omega)]; exact byteOf_nums (p := 4096) HL.out.2.2.1 (by omega) (by omega) : peekB _ _ = 4)
  clear hC6 hT6 HC5 HB5 HR5 HG4
  go_wp2_with (go_at_call 21; fail)
  refine (Peek c 4096 _ _ HC6.out HG6.out (by omega)).mono ?_
  rintro e w7 ⟨rfl, q7, hq7⟩
  have HB7 : Hid (Below w.heap.size w w7) := (by rw [hq7]; exact below_drewN HB6.out q7 : Below w.heap.size w w7)
  have HR7 : Hid (RowB w7 w.heap.size L) := (by rw [hq7]; exact HR6.out : RowB w7 w.heap.size L)
  clear hq7 HC6 HB6 HR6 HG6
  have e61 : peekB ((made ⟨#[70, 56]⟩ mF8 1 L r0.l).put 0 1) ((4096 : Nat) : Int) = 4 := HP6.out
  rw [e61]
  clear e61 HP6
  generalize peekD ((made ⟨#[70, 56]⟩ mF8 1 L r0.l).put 0 1) ((4096 : Nat) : Int) = d7
  go_wp2_with (go_at_call 18; fail)
  refine (New8 ⟨#[70, 56, 83, 67]⟩ mF8SC 1 8192 L r0 _ 8192 _ 0 w7 HL.out.1 (HT.out.below HB7.out h0) find_8SC HS.out.2.2.1 HS.out.2.2.2 (HR7.out.seen (Nat.le_of_eq HL.out.1) (by omega)) HN.out).mono ?_
  rintro e w8 ⟨d, rfl, hd, hC8, hB8⟩
  have HB8 : Hid (Below w.heap.size w w8) := HB7.out.trans (hB8.mono HB7.out.size)
  have HC8 : Hid (CAt w8 d (made ⟨#[70, 56, 83, 67]⟩ mF8SC 1 L r0.l)) := hC8
  have hdw : w.heap.size ≤ d := Nat.le_trans HB7.out.size hd
  clear hB8 hC8 HB7 HR7 hd
  go_wp2_with (go_at_call 25; fail)
  refine (Watch d 4097 5 true _ _ HC8.out HG2.out.plain HG2.out.b1 (by have := HG2.out.b2; omega) (by omega) (by omega)).mono ?_
  rintro e w9 ⟨rfl, hC9, hT9⟩
  have HC9 : Hid (CAt w9 d ((made ⟨#[70, 56, 83, 67]⟩ mF8SC 1 L r0.l).ram 1 5)) := (by rw [← sc_ram L r0]; exact hC9 : CAt w9 d _)
  have HB9 : Hid (Below w.heap.size w w9) := HB8.out.trans (hT9.below hdw HB8.out.size)
  have HG9 : Hid (Good ((made ⟨#[70, 56, 83, 67]⟩ mF8SC 1 L r0.l).ram 1 5)) := HG2.out.ram 1 5
  clear hC9 hT9 HC8 HB8
  go_wp2_with (go_at_call 21; fail)
  refine (Peek d 4225 _ _ HC9.out HG9.out (by omega)).mono ?_
  rintro e wa ⟨rfl, qa, hqa⟩
  have HBa : Hid (Below w.heap.size w wa) := (by rw [hqa]; exact below_drewN HB9.out qa : Below w.heap.size w wa)
  have e1 : peekB ((made ⟨#[70, 56, 83, 67]⟩ mF8SC 1 L r0.l).ram 1 5) ((4225 : Nat) : Int) = 5 := (sc_peek L r0).1
  have e2 : peekD ((made ⟨#[70, 56, 83, 67]⟩ mF8SC 1 L r0.l).ram 1 5) ((4225 : Nat) : Int) = true := (sc_peek L r0).2
  rw [e1, e2]
  clear hqa HC9 HB9 HG9 e1 e2
  go_wp2
  go_returns
  exact ⟨rfl, HBa.out⟩

end Go.Proofs.YtcohalkofahphaaDoor.Ca
