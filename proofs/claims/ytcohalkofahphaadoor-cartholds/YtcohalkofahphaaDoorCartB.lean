/- What New does, where the image fits. -/
import Derived.Test.YtcohalkofahphaaDoorCartA
set_option linter.unusedSimpArgs false
set_option linter.unusedVariables false
namespace Go.Proofs.YtcohalkofahphaaDoor.Ca
open Go.RowKit Img

/-- 128 bytes. -/
structure Ram where
  l : List Int
  h : l.length = 128
theorem run_cart' (r : Ram) (img tag : ByteArray) (banks size win s0 s1 s2 s3 h0 g0 h1 g1 h2 g2 : Int) (extra : Bool) (w : World) :
    Sem.run Tryd.prog (Instr.build 85 #[(0, Value.agg #[.string img, .int .i64 banks, .int .i64 size, .int .i64 win, .bool extra, .int .i64 s0, .int .i64 s1, .int .i64 s2, .int .i64 s3]), (1, Value.string tag), (2, Value.agg #[.int .u16 h0, .int .u16 g0, .int .u16 h1, .int .u16 g1, .int .u16 h2, .int .u16 g2]), (4, Value.agg (bytes r.l).toArray)]) w
      = .ok (.agg (Ct.cells ⟨img, banks, size, win, extra, s0, s1, s2, s3, tag, h0, g0, h1, g1, h2, g2, false, r.l⟩).toArray) w :=
  run_cart ⟨img, banks, size, win, extra, s0, s1, s2, s3, tag, h0, g0, h1, g1, h2, g2, false, r.l⟩ r.h rfl w

theorem fold_ram (r : Ram) (a0 a1 a2 a3 a4 a5 a6 a7 a8 a9 a10 a11 a12 a13 a14 a15 a16 : Value) : List.foldl (fun (cs : Array Value) (x : Value × Nat) => cs.setIfInBounds (17 + x.snd) x.fst) (a0 :: a1 :: a2 :: a3 :: a4 :: a5 :: a6 :: a7 :: a8 :: a9 :: a10 :: a11 :: a12 :: a13 :: a14 :: a15 :: a16 :: bytes zer).toArray (bytes r.l).zipIdx = (a0 :: a1 :: a2 :: a3 :: a4 :: a5 :: a6 :: a7 :: a8 :: a9 :: a10 :: a11 :: a12 :: a13 :: a14 :: a15 :: a16 :: bytes r.l).toArray := by
  have hl : (bytes zer).length = 128 := by rw [bytes_length]; rfl
  have hr : (bytes r.l).length = 128 := by rw [bytes_length, r.h]
  have := fold_list (bytes r.l) (a0 :: a1 :: a2 :: a3 :: a4 :: a5 :: a6 :: a7 :: a8 :: a9 :: a10 :: a11 :: a12 :: a13 :: a14 :: a15 :: a16 :: bytes zer) 17 0 (by simp; omega)
  rw [this]
  simp only [hr, Nat.reduceAdd, List.take_succ_cons, List.take_zero, List.nil_append, List.drop_succ_cons, List.cons_append]
  rw [List.drop_eq_nil_of_le (by omega), List.append_nil]

/-- The cartridge at power-on. -/
def made (tag : ByteArray) (m : Mp) (N : Nat) (L ex : List Int) : Ct :=
  ⟨strOfNums L, (L.length : Int) / m.size, m.size, N, m.extra, pad (firsts m L.length N) 0, pad (firsts m L.length N) 1, pad (firsts m L.length N) 2, pad (firsts m L.length N) 3, tag,
    (hotT tag.toList).1, (hotT tag.toList).2.1, (hotT tag.toList).2.2.1, (hotT tag.toList).2.2.2.1, (hotT tag.toList).2.2.2.2.1, (hotT tag.toList).2.2.2.2.2, false, ex⟩

set_option maxRecDepth 100000 in
set_option maxHeartbeats 4000000 in
theorem New_yes (tag : ByteArray) (m : Mp) (N : Nat) (L : List Int) (r : Ram) (ao : Option Addr) (cap b off : Nat) (w : World) (ht : Tab w) (hf : find tag = some m) (hft : fits m (L.length : Int) = true) (hs : Sound m (L.length : Int) N) (hS : SeenB w ao cap b off L) (hne : L ≠ []) :
    Calls Tryd.prog 18 #[.string tag, .slice ao L.length cap, .agg (bytes r.l).toArray] w fun e w' => ∃ d, e = .returned (.tuple #[.pointer (some ⟨d, 0, none⟩), .int .i64 0]) ∧ w.heap.size ≤ d ∧ CAt w' d (made tag m N L r.l) ∧ Below w.heap.size w w' := by
  have h0 := ht.lt
  have HT : Hid (Tab w) := ht
  have HF : Hid (find tag = some m ∧ fits m (L.length : Int) = true ∧ Sound m (L.length : Int) N) := ⟨hf, hft, hs⟩
  have HS : Hid (SeenB w ao cap b off L) := hS
  have HN : Hid (L ≠ []) := hne
  have hz85 : ∀ w, (zeroValue 85).run Tryd.prog w = .ok (.agg (Value.string ByteArray.empty :: .int .i64 0 :: .int .i64 0 :: .int .i64 0 :: .bool false :: .int .i64 0 :: .int .i64 0 :: .int .i64 0 :: .int .i64 0 :: .string ByteArray.empty :: .int .u16 0 :: .int .u16 0 :: .int .u16 0 :: .int .u16 0 :: .int .u16 0 :: .int .u16 0 :: .bool false :: bytes zer).toArray) w := zeroCart
  have hzl : (bytes zer).length = 128 := (by rw [bytes_length]; rfl)
  have hfold := fold_ram r
  have hu := Tryd.underlying35
  have hlen : (bytes r.l).length = 128 := by rw [bytes_length, r.h]
  have hinf : (Tryd.prog.info? 35).map (·.size) = some (bytes r.l).length := by rw [info128, hlen]
  have hone := one_bytes r.l
  clear ht hf hft hs hS hne
  go_enter Tryd.func18, Tryd.ntmps18
  go_wp2_with (go_at_call 36; fail)
  generalize hw1 : w.alloc _ = w1
  have HB1 : Hid (Below w.heap.size w w1) := (by rw [← hw1]; exact (Below.refl _ _).alloc (Nat.le_refl _) _ : Below w.heap.size w w1)
  have HX1 : Hid (w1.heap[w.heap.size]? = some (.cells (bytes r.l).toArray 35 (0, 0))) := (by rw [← hw1]; exact heap_alloc_new _ _ : w1.heap[w.heap.size]? = _)
  clear hw1
  obtain ⟨X, hX⟩ : ∃ X, X = w.heap.size := ⟨_, rfl⟩
  rw [← hX] at HX1 ⊢
  clear hX
  have hX1 : X < w1.heap.size := (Array.getElem?_eq_some_iff.1 HX1.out).1
  refine (open_yes tag m N L ao cap b off _ (HT.out.below HB1.out h0) HF.out.1 HF.out.2.1 HF.out.2.2 (HS.out.below HB1.out) HN.out).mono ?_
  rintro e w2 ⟨rfl, hB2⟩
  have HB2 : Hid (Below w.heap.size w w2) := HB1.out.trans (hB2.mono HB1.out.size)
  have HX2 : Hid (w2.heap[X]? = some (.cells (bytes r.l).toArray 35 (0, 0))) := (hB2.block X hX1).trans HX1.out
  have hX2 : X < w2.heap.size := (Array.getElem?_eq_some_iff.1 HX2.out).1
  clear hB2 HB1 HX1 hX1
  simp only
  iterate 15 go_step
  generalize hw3 : w2.alloc _ = w3
  have hB3 : Below w2.heap.size w2 w3 := by rw [← hw3]; exact (Below.refl _ _).alloc (Nat.le_refl _) _
  have hV3 : w3.heap[w2.heap.size]? = some (.cells #[.string (strOfNums L), .int .i64 ((L.length : Int) / m.size), .int .i64 m.size, .int .i64 N, .bool m.extra, .int .i64 (pad (firsts m L.length N) 0), .int .i64 (pad (firsts m L.length N) 1), .int .i64 (pad (firsts m L.length N) 2), .int .i64 (pad (firsts m L.length N) 3)] 77 (0, 0)) := by rw [← hw3]; exact heap_alloc_new _ _
  have HX3 : Hid (w3.heap[X]? = some (.cells (bytes r.l).toArray 35 (0, 0))) := (hB3.block X hX2).trans HX2.out
  have HB3 : Hid (Below w.heap.size w w3) := HB2.out.trans (hB3.mono HB2.out.size)
  have x0 : w3.cell? ⟨w2.heap.size, 0, none⟩ = some (.string (strOfNums L)) := cell_of_row _ _ _ _ _ _ hV3
  have x1 : w3.cell? ⟨w2.heap.size, 1, none⟩ = some (.int .i64 ((L.length : Int) / m.size)) := cell_of_row _ _ _ _ _ _ hV3
  have x2 : w3.cell? ⟨w2.heap.size, 2, none⟩ = some (.int .i64 m.size) := cell_of_row _ _ _ _ _ _ hV3
  have x3 : w3.cell? ⟨w2.heap.size, 3, none⟩ = some (.int .i64 N) := cell_of_row _ _ _ _ _ _ hV3
  have x4 : w3.cell? ⟨w2.heap.size, 4, none⟩ = some (.bool m.extra) := cell_of_row _ _ _ _ _ _ hV3
  have x5 : w3.cell? ⟨w2.heap.size, 5, none⟩ = some (.int .i64 (pad (firsts m L.length N) 0)) := cell_of_row _ _ _ _ _ _ hV3
  have x6 : w3.cell? ⟨w2.heap.size, 6, none⟩ = some (.int .i64 (pad (firsts m L.length N) 1)) := cell_of_row _ _ _ _ _ _ hV3
  have x7 : w3.cell? ⟨w2.heap.size, 7, none⟩ = some (.int .i64 (pad (firsts m L.length N) 2)) := cell_of_row _ _ _ _ _ _ hV3
  have x8 : w3.cell? ⟨w2.heap.size, 8, none⟩ = some (.int .i64 (pad (firsts m L.length N) 3)) := cell_of_row _ _ _ _ _ _ hV3
  have HV3 : Hid (w3.heap[w2.heap.size]? = some (.cells #[.string (strOfNums L), .int .i64 ((L.length : Int) / m.size), .int .i64 m.size, .int .i64 N, .bool m.extra, .int .i64 (pad (firsts m L.length N) 0), .int .i64 (pad (firsts m L.length N) 1), .int .i64 (pad (firsts m L.length N) 2), .int .i64 (pad (firsts m L.length N) 3)] 77 (0, 0))) := hV3
  have hVl : w2.heap.size < w3.heap.size := (Array.getElem?_eq_some_iff.1 hV3).1
  have hXl : X < w3.heap.size := (Array.getElem?_eq_some_iff.1 HX3.out).1
  clear hw3 hB3 hV3 HX2 HB2 hX2
  generalize w2.heap.size = V at *
  have hrg : w3.rangeAt X 0 (bytes r.l) := fun j u hj => by rw [cell_of_row _ _ _ _ _ _ HX3.out, Nat.zero_add]; simpa using hj
  go_wp2
  go_region_held3 (fun w' => w'.cell? ⟨V, 0, none⟩ = some (.string (strOfNums L)) ∧ w'.cell? ⟨V, 1, none⟩ = some (.int .i64 ((L.length : Int) / m.size)) ∧ w'.cell? ⟨V, 2, none⟩ = some (.int .i64 m.size) ∧ w'.cell? ⟨V, 3, none⟩ = some (.int .i64 N) ∧ w'.cell? ⟨V, 4, none⟩ = some (.bool m.extra) ∧ w'.cell? ⟨V, 5, none⟩ = some (.int .i64 (pad (firsts m L.length N) 0)) ∧ w'.cell? ⟨V, 6, none⟩ = some (.int .i64 (pad (firsts m L.length N) 1)) ∧ w'.cell? ⟨V, 7, none⟩ = some (.int .i64 (pad (firsts m L.length N) 2)) ∧ w'.cell? ⟨V, 8, none⟩ = some (.int .i64 (pad (firsts m L.length N) 3)) ∧ w'.rangeAt X 0 (bytes r.l)) (first | exact ⟨by assumption, by assumption, by assumption, by assumption, by assumption, by assumption, by assumption, by assumption, by assumption, by assumption⟩ | exact ⟨old_cell _ (by assumption), old_cell _ (by assumption), old_cell _ (by assumption), old_cell _ (by assumption), old_cell _ (by assumption), old_cell _ (by assumption), old_cell _ (by assumption), old_cell _ (by assumption), old_cell _ (by assumption), World.rangeAt_alloc (by assumption) _⟩ | go_keep_ranges) (first
    | (go_at_call 37; refine (hotRows_ tag m _ HF.out.1).mono ?_; rintro e w4 ⟨rfl, hB4'⟩; unfold hotV; have hB4 : Below w3.heap.size w3 w4 := (by first | exact hB4' | exact (below_drewN (Below.refl _ w3) _).trans hB4'); have HB4 : Hid (Below w.heap.size w w4) := HB3.out.trans (hB4.mono HB3.out.size); have hV4 := (hB4.block V hVl).trans HV3.out; have u0 := cell_of_row _ _ 0 _ _ _ hV4; have u1 := cell_of_row _ _ 1 _ _ _ hV4; have u2 := cell_of_row _ _ 2 _ _ _ hV4; have u3 := cell_of_row _ _ 3 _ _ _ hV4; have u4 := cell_of_row _ _ 4 _ _ _ hV4; have u5 := cell_of_row _ _ 5 _ _ _ hV4; have u6 := cell_of_row _ _ 6 _ _ _ hV4; have u7 := cell_of_row _ _ 7 _ _ _ hV4; have u8 := cell_of_row _ _ 8 _ _ _ hV4; have hrg4 : w4.rangeAt X 0 (bytes r.l) := (fun j u hj => by rw [cell_of_row _ _ _ _ _ _ ((hB4.block X hXl).trans HX3.out), Nat.zero_add]; simpa using hj); clear hB4 hB4' hV4))
  all_goals go_wp2
  all_goals go_returns
  all_goals exact ⟨w4.heap.size, rfl, HB4.out.size, heap_alloc_new w4 _, by first | exact HB4.out.alloc HB4.out.size _ | exact below_drewN (HB4.out.alloc HB4.out.size _) _⟩

end Go.Proofs.YtcohalkofahphaaDoor.Ca
