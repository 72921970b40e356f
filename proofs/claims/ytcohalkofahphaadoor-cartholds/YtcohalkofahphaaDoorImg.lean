/- What the calls of package image do: the table, and what is chosen of it. -/
import Derived.Test.YtcohalkofahphaaDoorSeen
import Derived.Test.YtcohalkofahphaaDoorRows
import Derived.ProofKit
import Derived.OpenShut
import Derived.Handy
import Derived.WalkLawsBesides
import Derived.Deep.RegionHeld3
import Derived.BigQuiet
import Derived.Deep.QuietTactic
import Derived.Lib.SmallJoins
namespace Go.Proofs.YtcohalkofahphaaDoor.Img
open Go.RowKit

/-- A mapper. -/
structure Mp where
  tag : ByteArray
  step : Int
  most : Int
  size : Int
  extra : Bool
  f0 : Int
  f1 : Int
  f2 : Int
  f3 : Int

/-- The table. -/
def mps : List Mp := [
  ⟨⟨#[50, 75]⟩, 2048, 2048, 2048, false, 0, 0, 0, 0⟩,
  ⟨⟨#[51, 70]⟩, 2048, 524288, 2048, false, 0, -1, 0, 0⟩,
  ⟨⟨#[52, 75]⟩, 4096, 4096, 4096, false, 0, 0, 0, 0⟩,
  ⟨⟨#[69, 48]⟩, 8192, 8192, 1024, false, 4, 5, 6, 7⟩,
  ⟨⟨#[70, 52]⟩, 32768, 32768, 4096, false, -1, 0, 0, 0⟩,
  ⟨⟨#[70, 52, 83, 67]⟩, 32768, 32768, 4096, true, -1, 0, 0, 0⟩,
  ⟨⟨#[70, 54]⟩, 16384, 16384, 4096, false, -1, 0, 0, 0⟩,
  ⟨⟨#[70, 54, 83, 67]⟩, 16384, 16384, 4096, true, -1, 0, 0, 0⟩,
  ⟨⟨#[70, 56]⟩, 8192, 8192, 4096, false, -1, 0, 0, 0⟩,
  ⟨⟨#[70, 56, 83, 67]⟩, 8192, 8192, 4096, true, -1, 0, 0, 0⟩,
  ⟨⟨#[70, 69]⟩, 8192, 8192, 4096, false, 0, 0, 0, 0⟩]

theorem mps_length : mps.length = 11 := rfl

/-- The table lies where it is kept. -/
def Tab (w : World) : Prop := ∀ (i : Nat) (m : Mp), mps[i]? = some m →
  w.cell? ⟨0, i * 9, none⟩ = some (.string m.tag) ∧ w.cell? ⟨0, i * 9 + 1, none⟩ = some (.int .i64 m.step) ∧ w.cell? ⟨0, i * 9 + 2, none⟩ = some (.int .i64 m.most) ∧ w.cell? ⟨0, i * 9 + 3, none⟩ = some (.int .i64 m.size) ∧ w.cell? ⟨0, i * 9 + 4, none⟩ = some (.bool m.extra) ∧
  w.cell? ⟨0, i * 9 + 5, none⟩ = some (.int .i64 m.f0) ∧ w.cell? ⟨0, i * 9 + 6, none⟩ = some (.int .i64 m.f1) ∧ w.cell? ⟨0, i * 9 + 7, none⟩ = some (.int .i64 m.f2) ∧ w.cell? ⟨0, i * 9 + 8, none⟩ = some (.int .i64 m.f3)

theorem Tab.lt {w : World} (h : Tab w) : 0 < w.heap.size := lt_of_cell (h 0 _ rfl).1
theorem Tab.below {w w' : World} {n : Nat} (h : Tab w) (hb : Below n w w') (hn : 0 < n) : Tab w' := fun i m hm => by
  obtain ⟨a, b, c, d, e, f, g, k, l⟩ := h i m hm
  have x : ∀ o, w'.cell? ⟨0, o, none⟩ = w.cell? ⟨0, o, none⟩ := fun o => hb.cell (p := ⟨0, o, none⟩) hn
  exact ⟨(x _).trans a, (x _).trans b, (x _).trans c, (x _).trans d, (x _).trans e, (x _).trans f, (x _).trans g, (x _).trans k, (x _).trans l⟩

set_option maxRecDepth 100000 in
set_option maxHeartbeats 400000 in
/-- Is it the tag's mapper? -/
theorem asks (tag t : ByteArray) (a b c f0 f1 f2 f3 : Int) (x : Bool) (B : Nat) (w : World) (h : w.cell? ⟨B, 0, none⟩ = some (.string tag)) :
    Calls Tryd.prog 51 #[.agg #[.string t, .int .i64 a, .int .i64 b, .int .i64 c, .bool x, .int .i64 f0, .int .i64 f1, .int .i64 f2, .int .i64 f3], .pointer (some ⟨B, 0, none⟩)] w fun e w' => e = .returned (.bool (t.toList == tag.toList)) ∧ Below w.heap.size w w' := by
  have hB := lt_of_cell h
  go_enter Tryd.func51, Tryd.ntmps51
  go_wp2
  go_ret
  exact ⟨rfl, (Below.refl _ w).alloc (Nat.le_refl _) _⟩

set_option maxRecDepth 100000 in
set_option maxHeartbeats 400000 in
theorem windows (t : ByteArray) (a b c f0 f1 f2 f3 : Int) (x : Bool) (w : World) (hc : 1 ≤ c) (hc2 : c ≤ 4096) :
    Calls Tryd.prog 35 #[.agg #[.string t, .int .i64 a, .int .i64 b, .int .i64 c, .bool x, .int .i64 f0, .int .i64 f1, .int .i64 f2, .int .i64 f3]] w fun e w' => e = .returned (.int .i64 (4096 / c)) ∧ Below w.heap.size w w' := by
  have hc0 : ¬ c = 0 := by omega
  go_enter Tryd.func35, Tryd.ntmps35
  go_wp2
  go_ret
  exact ⟨rfl, (Below.refl _ w).alloc (Nat.le_refl _) _⟩

/-- A mapper's cells. -/
def vals (m : Mp) : Array Value := #[.string m.tag, .int .i64 m.step, .int .i64 m.most, .int .i64 m.size, .bool m.extra, .int .i64 m.f0, .int .i64 m.f1, .int .i64 m.f2, .int .i64 m.f3]
def zeros : Array Value := #[.string ByteArray.empty, .int .i64 0, .int .i64 0, .int .i64 0, .bool false, .int .i64 0, .int .i64 0, .int .i64 0, .int .i64 0]

set_option maxRecDepth 100000 in
set_option maxHeartbeats 1000000 in
theorem choose_yes (tag : ByteArray) (B i : Nat) (m : Mp) (w : World) (h : w.cell? ⟨B, 0, none⟩ = some (.string tag)) (ht : Tab w) (hm : mps[i]? = some m) (he : m.tag.toList = tag.toList)
    (hn : ∀ (j : Nat) (m' : Mp), j < i → mps[j]? = some m' → m'.tag.toList ≠ tag.toList) :
    Calls Tryd.prog 50 #[.func (.func 51) #[] #[.pointer (some ⟨B, 0, none⟩)]] w fun e w' => e = .returned (.tuple #[.agg (vals m), .bool true]) ∧ Below w.heap.size w w' := by
  have hi := (List.getElem?_eq_some_iff.1 hm).1
  rw [mps_length] at hi
  have hBw := lt_of_cell h
  have HT : Hid (Tab w) := ht
  have HM : Hid (mps[i]? = some m) := hm
  have HE : Hid (m.tag.toList = tag.toList) := he
  have HN : Hid (∀ (j : Nat) (m' : Mp), j < i → mps[j]? = some m' → m'.tag.toList ≠ tag.toList) := hn
  have HC : Hid (w.cell? ⟨B, 0, none⟩ = some (.string tag)) := h
  have h0 := ht.lt
  clear ht hm he hn h
  go_enter Tryd.func50, Tryd.ntmps50
  go_wp2
  go_loopw [5] (fun v wr => ∃ k : Nat, k ≤ i ∧ v = .int .i64 (k : Int) ∧ Below w.heap.size w wr ∧ wr.heap[w.heap.size]? = some (.cells zeros 72 (0, 0))) (fun v _ => i - (intOf v).toNat)
  case atStart => exact ⟨0, by omega, rfl, (Below.refl _ w).alloc (Nat.le_refl _) _, heap_alloc_new w _⟩
  case round =>
    obtain ⟨k, hk, rfl, hB, hR⟩ := hrel
    obtain ⟨m', hm'⟩ : ∃ m', mps[k]? = some m' := ⟨_, List.getElem?_eq_getElem (by rw [mps_length]; omega)⟩
    have HB : Hid (Below w.heap.size w wr) := hB
    have HR : Hid (wr.heap[w.heap.size]? = some (.cells zeros 72 (0, 0))) := hR
    obtain ⟨c0, c1, c2, c3, c4, c5, c6, c7, c8⟩ := (HT.out.below hB h0) k m' hm'
    have hsz : w.heap.size < wr.heap.size := (Array.getElem?_eq_some_iff.1 hR).1
    have cB : wr.cell? ⟨B, 0, none⟩ = some (.string tag) := (hB.cell (p := ⟨B, 0, none⟩) hBw).trans HC.out
    have k0 : (0 : Int) ≤ (k : Int) := by omega
    have k1 : (k : Int) < 11 := by omega
    clear hB hR
    go_wp2_with (go_at_call 51; fail)
    refine (asks tag _ _ _ _ _ _ _ _ _ B _ cB).mono ?_
    rintro e w2 ⟨rfl, hB2⟩
    have HB2 : Hid (Below w.heap.size w w2) := HB.out.trans (hB2.mono HB.out.size)
    have HR2 : Hid (w2.heap[w.heap.size]? = some (.cells zeros 72 (0, 0))) := (hB2.block _ hsz).trans HR.out
    clear c0 c1 c2 c3 c4 c5 c6 c7 c8 hB2
    by_cases hl : k < i
    · have hne : (m'.tag.toList == tag.toList) = false := beq_eq_false_iff_ne.2 (HN.out k m' hl hm')
      rw [hne]
      clear hne hm'
      go_wp2
      go_roundw
      case rel => exact ⟨k + 1, by omega, by go_num, HB2.out, HR2.out⟩
      case measure => simp [intOf]; omega
    · have hki : k = i := by omega
      subst hki
      have hmm : m' = m := by have := HM.out; rw [hm'] at this; injection this
      subst hmm
      have heq : (m'.tag.toList == tag.toList) = true := beq_iff_eq.2 HE.out
      rw [heq]
      obtain ⟨c0, c1, c2, c3, c4, c5, c6, c7, c8⟩ := (HT.out.below HB2.out h0) k m' hm'
      have hz := HR2.out
      unfold zeros at hz
      obtain ⟨z0, z1, z2, z3, z4, z5, z6, z7, z8⟩ : w2.cell? ⟨w.heap.size, 0, none⟩ = some (.string ByteArray.empty) ∧ w2.cell? ⟨w.heap.size, 1, none⟩ = some (.int .i64 0) ∧ w2.cell? ⟨w.heap.size, 2, none⟩ = some (.int .i64 0) ∧ w2.cell? ⟨w.heap.size, 3, none⟩ = some (.int .i64 0) ∧ w2.cell? ⟨w.heap.size, 4, none⟩ = some (.bool false) ∧ w2.cell? ⟨w.heap.size, 5, none⟩ = some (.int .i64 0) ∧ w2.cell? ⟨w.heap.size, 6, none⟩ = some (.int .i64 0) ∧ w2.cell? ⟨w.heap.size, 7, none⟩ = some (.int .i64 0) ∧ w2.cell? ⟨w.heap.size, 8, none⟩ = some (.int .i64 0) :=
        ⟨cell_of_row _ _ _ _ _ _ hz, cell_of_row _ _ _ _ _ _ hz, cell_of_row _ _ _ _ _ _ hz, cell_of_row _ _ _ _ _ _ hz, cell_of_row _ _ _ _ _ _ hz, cell_of_row _ _ _ _ _ _ hz, cell_of_row _ _ _ _ _ _ hz, cell_of_row _ _ _ _ _ _ hz, cell_of_row _ _ _ _ _ _ hz⟩
      have hf : ∀ o, w2.frozen? ⟨w.heap.size, o, none⟩ = false := fun o => frozen_of_row _ _ _ _ _ hz
      clear heq hm' hz
      go_wp2
      refine bodyPost_ret (v := .tuple #[.agg (vals m'), .bool true]) (by simp [results, Tryd.f50, go_sem, vals, z0, z1, z2, z3, z4, z5, z6, z7, z8]) rfl ⟨rfl, ?_⟩
      exact ((((((((HB2.out.setCell (p := ⟨w.heap.size, 0, none⟩) (Nat.le_refl _) _).setCell (p := ⟨w.heap.size, 1, none⟩) (Nat.le_refl _) _).setCell (p := ⟨w.heap.size, 2, none⟩) (Nat.le_refl _) _).setCell (p := ⟨w.heap.size, 3, none⟩) (Nat.le_refl _) _).setCell (p := ⟨w.heap.size, 4, none⟩) (Nat.le_refl _) _).setCell (p := ⟨w.heap.size, 5, none⟩) (Nat.le_refl _) _).setCell (p := ⟨w.heap.size, 6, none⟩) (Nat.le_refl _) _).setCell (p := ⟨w.heap.size, 7, none⟩) (Nat.le_refl _) _).setCell (p := ⟨w.heap.size, 8, none⟩) (Nat.le_refl _) _

end Go.Proofs.YtcohalkofahphaaDoor.Img
