/- The laws' play: its cells, its accesses; what small and the document's Image do. -/
import Derived.Test.YtcohalkofahphaaDoorAwakeC
import Derived.Test.YtcohalkofahphaaDoorSeenX
import Derived.Maps.AppendAt
set_option linter.unusedSimpArgs false
set_option linter.unusedVariables false
namespace Go.Proofs.YtcohalkofahphaaDoor.Ca
open Go.RowKit Img

/-- A play, but for its accesses. -/
structure Pl where
  tag : ByteArray
  len : Int
  seed : Nat
  r : Ram
  ao : Option Addr
  n : Nat
  cap : Nat
def Pl.cells (p : Pl) : List Value := .string p.tag :: .int .i64 p.len :: .int .u8 (p.seed : Int) :: (bytes p.r.l ++ [.slice p.ao p.n p.cap])
theorem Pl.length (p : Pl) : p.cells.length = 132 := by simp [Pl.cells, bytes_length, p.r.h]
def PAt (w : World) (X : Nat) (p : Pl) : Prop := w.heap[X]? = some (.cells p.cells.toArray 38 (0, 0))
section
variable {w w' : World} {X : Nat} {p : Pl}
theorem PAt.lt (h : PAt w X p) : X < w.heap.size := (Array.getElem?_eq_some_iff.1 h).1
theorem PAt.below {n : Nat} (h : PAt w X p) (hb : Below n w w') (hn : X < n) : PAt w' X p := (hb.block X hn).trans h
theorem PAt.cell (h : PAt w X p) (i : Nat) : w.cell? ⟨X, i, none⟩ = p.cells[i]? := by rw [cell_of_row _ _ _ _ _ _ h]; simp
theorem PAt.slice (h : PAt w X p) : w.cell? ⟨X, 131, none⟩ = some (.slice p.ao p.n p.cap) := by
  rw [h.cell]
  show (bytes p.r.l ++ [Value.slice p.ao p.n p.cap])[128]? = _
  rw [List.getElem?_append_right (by rw [bytes_length, p.r.h]; exact Nat.le_refl _), bytes_length, p.r.h]
  rfl
theorem PAt.ram (h : PAt w X p) : w.rangeAt X 3 (bytes p.r.l) := fun j v hv => by
  rw [h.cell, Nat.add_comm]
  show (bytes p.r.l ++ [Value.slice p.ao p.n p.cap])[j]? = _
  rw [List.getElem?_append_left (List.getElem?_eq_some_iff.1 hv).1, hv]
theorem PAt.range (h : PAt w X p) : w.rangeAt X 0 p.cells := fun j v hv => by
  rw [h.cell, Nat.zero_add]
  exact hv
end
theorem infoPlay : (Tryd.prog.info? 38).map (·.size) = some 132 := by kernel_rfl

/-- An access. -/
structure Acc where
  a : Nat
  x : Nat
  w : Bool
def Acc.row (c : Acc) : List Value := [.int .u16 (c.a : Int), .int .u8 (c.x : Int), .bool c.w]
def Acc.ok (c : Acc) : Prop := c.a < 65536 ∧ c.x < 256
/-- Behind the first k accesses. -/
def goes (c : Ct) (A : List Acc) : Nat → Ct
  | 0 => c
  | k + 1 => match A[k]? with
    | some x => watch (goes c A k) x.a x.x x.w
    | none => goes c A k
theorem goes_succ {c : Ct} {A : List Acc} {k : Nat} {x : Acc} (h : A[k]? = some x) : goes c A (k + 1) = watch (goes c A k) x.a x.x x.w := by
  show (match A[k]? with | some x => watch (goes c A k) x.a x.x x.w | none => goes c A k) = _
  rw [h]
theorem goes_good {c : Ct} (h : Good c) (A : List Acc) : ∀ k, Good (goes c A k) ∧ Kin c (goes c A k)
  | 0 => ⟨h, Kin.refl c⟩
  | k + 1 => by
    obtain ⟨g, kin⟩ := goes_good h A k
    unfold goes
    split
    · obtain ⟨g', k'⟩ := watch_good g _ _ _
      exact ⟨g', kin.trans k'⟩
    · exact ⟨g, kin⟩

set_option maxRecDepth 100000 in
set_option maxHeartbeats 1000000 in
theorem small_yes (p : Pl) (w : World) (h1 : p.n ≤ 200) (h2 : p.len ≤ 32768) (hc : p.n ≤ p.cap) (hm : p.cap ≤ 9223372036854775807) : Calls Tryd.prog 16 #[.agg p.cells.toArray] w fun e w' => e = .returned (.bool true) ∧ Below w.heap.size w w' := by
  have hp : PAt (w.alloc (.cells p.cells.toArray 38)) w.heap.size p := heap_alloc_new _ _
  have c1 : (w.alloc (.cells p.cells.toArray 38)).cell? ⟨w.heap.size, 1, none⟩ = some (.int .i64 p.len) := hp.cell 1
  have c2 := hp.slice
  have h1' : (p.n : Int) ≤ 200 := by omega
  clear hp
  go_enter Tryd.func16, Tryd.ntmps16
  go_wp2
  go_returns
  exact ⟨rfl, by go_grown⟩

set_option maxRecDepth 100000 in
set_option maxHeartbeats 1000000 in
theorem small_no (p : Pl) (w : World) (h : 200 < p.n ∨ 32768 < p.len) (hc : p.n ≤ p.cap) (hm : p.cap ≤ 9223372036854775807) : Calls Tryd.prog 16 #[.agg p.cells.toArray] w fun e w' => e = .returned (.bool false) ∧ Below w.heap.size w w' := by
  have hp : PAt (w.alloc (.cells p.cells.toArray 38)) w.heap.size p := heap_alloc_new _ _
  have c1 : (w.alloc (.cells p.cells.toArray 38)).cell? ⟨w.heap.size, 1, none⟩ = some (.int .i64 p.len) := hp.cell 1
  have c2 := hp.slice
  clear hp
  by_cases h1 : 200 < p.n
  · have h1' : (200 : Int) < (p.n : Int) := by omega
    clear h
    go_enter Tryd.func16, Tryd.ntmps16
    go_wp2
    go_returns
    exact ⟨rfl, by go_grown⟩
  · have h1' : (p.n : Int) ≤ 200 := by omega
    have h2 : 32768 < p.len := by omega
    clear h
    go_enter Tryd.func16, Tryd.ntmps16
    go_wp2
    go_returns
    exact ⟨ret_bool (decide_eq_false (by omega)), by go_grown⟩

/-- Bytes. -/
def Bytes (L : List Int) : Prop := ∀ (i : Nat) (x : Int), L[i]? = some x → 0 ≤ x ∧ x < 256

set_option maxRecDepth 100000 in
set_option maxHeartbeats 2000000 in
theorem Image (len : Int) (seed : Nat) (w : World) (hl : len ≤ 32768) (hs : seed < 256) :
    Calls Tryd.prog 17 #[.int .i64 len, .int .i64 (seed : Int)] w fun e w' => ∃ (L : List Int) (ao : Option Addr) (cap b : Nat), e = .returned (.slice ao L.length cap) ∧ L.length = len.toNat ∧ Bytes L ∧ SeenB w' ao cap b 0 L ∧ (L ≠ [] → w.heap.size ≤ b) ∧ Below w.heap.size w w' := by
  obtain ⟨i0, hi, hz0, hz1, hz2⟩ := info_parts infoByte
  go_enter Tryd.func17, Tryd.ntmps17
  go_wp2
  go_loopw [5, 6, 7] (fun v y i wr => ∃ (k x : Nat) (L : List Int), k ≤ len.toNat ∧ i = .int .i64 (k : Int) ∧ y = .int .i64 (x : Int) ∧ x < 251 ∧ L.length = k ∧ Bytes L ∧ wr.ownsRow w.heap.size 5 1 v k (bytes L) ∧ Below w.heap.size w wr) (fun _ _ i _ => len.toNat - (intOf i).toNat)
  case atStart => exact ⟨0, seed % 251, [], by omega, rfl, by congr 1, by omega, rfl, (fun i x h => by cases h), World.ownsRow_nil _ _ _ _, Below.refl _ _⟩
  case round =>
    obtain ⟨k, x, L, hk, rfl, rfl, hx, hL, hb, hown, hB⟩ := hrel
    by_cases hlt : k < len.toNat
    · have hkl : (k : Int) < len := by omega
      obtain ⟨y, hy⟩ : ∃ y : Nat, y = (x * 5 + k / 256 + 17) % 251 := ⟨_, rfl⟩
      have hy1 : ((x : Int) * 5 + (k : Int) / 256 + 17) % 251 = (y : Int) := by omega
      have hy2 : y < 251 := by omega
      have hyu : IntKind.u8.wrap (y : Int) = (y : Int) := by rw [IntKind.wrap_u8']; omega
      have HL : Hid (L.length = k) := hL
      have HBy : Hid (Bytes L) := hb
      have HO : Hid (wr.ownsRow w.heap.size 5 1 u5 k (bytes L)) := hown
      have HB : Hid (Below w.heap.size w wr) := hB
      have hB' := hB.size
      have h63 : k + 1 ≤ maxLen := by unfold maxLen; omega
      clear hy hL hb hown hB
      go_wp2_with (at_builtin; refine wpList_append_own _ rfl _ _ 40 rfl w.heap.size 5 i0 (.int .u8 0) 1 1 Tryd.underlying40 hi hz0 hz1 hz2 rfl (by decide) _ _ _ rfl (HO.out.alloc _) _ 1 1 [_] rfl rfl (cell_one_new _ _ _) (by simp [Value.oneCell']) h63 (by omega) (by simp; omega) ?_; intro v' w1 hown' hgrow _)
      have hg : World.grownBy _ w1 u5.ownBlock := hgrow
      go_roundw
      case rel =>
        refine ⟨k + 1, y, L ++ [(y : Int)], by omega, by go_num, rfl, hy2, by rw [List.length_append, HL.out]; rfl, fun i z hz => ?_, ?_, (HB.out.alloc hB' _).grown hg (by simp; omega) (fun r e => (HO.out.lt r e).1)⟩
        · by_cases hi' : i < L.length
          · rw [List.getElem?_append_left hi'] at hz; exact HBy.out i z hz
          · rw [List.getElem?_append_right (by omega)] at hz
            have := List.mem_of_getElem? hz
            simp at this
            omega
        · have : bytes (L ++ [(y : Int)]) = bytes L ++ [.int .u8 (y : Int)] := by simp [bytes]
          rw [this]
          exact hown'
      case measure => simp [intOf]; omega
    · have hkl : len ≤ (k : Int) := by omega
      have hkn : k = len.toNat := by omega
      have hO := hown
      rcases hown.2 with ⟨hv, h00⟩ | ⟨g, cap, cur, hv, hg, hh, hn, hmx, hsz, htk⟩
      · have hL0 : L = [] := List.length_eq_zero_iff.1 (by omega)
        subst hv
        subst hL0
        clear hO hown
        go_wp2
        go_returns
        exact ⟨[], none, 0, 0, rfl, by rw [← hkn, h00]; rfl, hb, Seen.nil _ _ _ (by omega) 0 0, fun h => absurd rfl h, hB⟩
      · subst hv
        unfold maxLen at hmx
        have HO : Hid (wr.ownsRow w.heap.size 5 1 (.slice (some ⟨g, 0, none⟩) k cap) k (bytes L)) := hO
        clear hO hown hh htk hsz
        go_wp2
        go_returns
        refine ⟨L, some ⟨g, 0, none⟩, cap, g, by rw [hL]; rfl, by omega, hb, ⟨by omega, by omega, fun _ => rfl, fun i x hx => ?_⟩, fun _ => hg, hB⟩
        have hi' := (List.getElem?_eq_some_iff.1 hx).1
        rw [Nat.zero_add, HO.out.cellAt i (by omega)]
        simp [bytes, hx]

end Go.Proofs.YtcohalkofahphaaDoor.Ca
