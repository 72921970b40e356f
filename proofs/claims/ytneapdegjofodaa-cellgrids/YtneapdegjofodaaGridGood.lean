/- CellGrids, walked: whatever comes in, true comes out. -/
import Derived.Test.YtneapdegjofodaaGridLaw
namespace Go.Proofs.Ytneapdegjofodaa.cellGrids
open Go.RowKit

/-- How things stand: the grid, and what is below. -/
structure Held (W0 w : World) (gb gg W H : Nat) (f : List Int) : Prop where
  grid : Grid.GAt w gb gg W H (H * W) f
  below : Below W0.heap.size W0 w
  gb_ge : W0.heap.size ≤ gb
  gg_ge : W0.heap.size ≤ gg
theorem Held.draws {W0 w : World} {gb gg W H : Nat} {f : List Int} (h : Held W0 w gb gg W H f) (q : Nat) : Held W0 (w.drewN q) gb gg W H f := ⟨h.grid.draws q, below_drewN h.below q, h.gb_ge, h.gg_ge⟩
theorem Held.later {W0 w w' : World} {gb gg W H : Nat} {f : List Int} (h : Held W0 w gb gg W H f) (hb : Below w.heap.size w w') : Held W0 w' gb gg W H f := ⟨h.grid.below hb, h.below.trans (hb.mono h.below.size), h.gb_ge, h.gg_ge⟩
theorem Held.set {W0 w : World} {gb gg W H : Nat} {f : List Int} (h : Held W0 w gb gg W H f) (i : Nat) (x : Int) : Held W0 (w.setCell ⟨gg, i, none⟩ (.int .i64 x)) gb gg W H (f.set i x) := ⟨h.grid.set i x, h.below.setCell (p := ⟨gg, i, none⟩) h.gg_ge _, h.gb_ge, h.gg_ge⟩

set_option maxRecDepth 100000 in
set_option maxHeartbeats 100000000 in
theorem good {W H : Nat} {ao : Option Addr} {cap b off : Nat} {D : List (Int × Int × Int)} {W0 : World} (hS : SeenD W0 ao cap b off D) (hb : D.length ≤ 100) (hw1 : 1 ≤ W) (hw2 : W ≤ 60) (hh1 : 1 ≤ H) (hh2 : H ≤ 60) :
    Calls Try.prog 4 #[.int .i64 (W : Int), .int .i64 (H : Int), .slice ao D.length cap] W0 fun e w' => e = .returned (.bool true) ∧ Below W0.heap.size W0 w' := by
  have HS : Hid (SeenD W0 ao cap b off D) := hS
  have hbi : (D.length : Int) ≤ 100 := by omega
  have iw1 : (1 : Int) ≤ (W : Int) := by omega
  have iw2 : (W : Int) ≤ 60 := by omega
  have iw3 : (W : Int) ≤ 1024 := by omega
  have ih1 : (1 : Int) ≤ (H : Int) := by omega
  have ih2 : (H : Int) ≤ 60 := by omega
  have ih3 : (H : Int) ≤ 1024 := by omega
  clear hS
  go_enter Try.func4, Try.ntmps4
  go_wp2_with (go_at_call 18; fail)
  refine (Grid.New_yes W H 7 _ hw1 (by omega) hh1 (by omega)).mono ?_
  rintro e w1 ⟨gb, gg, rfl, hgg, hgb, hG1, hB1⟩
  have HI : Hid (Held W0 w1 gb gg W H (paints W H [])) := ⟨hG1, hB1, hgb, hgg⟩
  clear hG1 hB1
  go_wp2_with (go_at_call 19; fail)
  refine (Grid.Size gb gg W H _ _ _ HI.out.grid).mono ?_
  rintro e w2 ⟨rfl, q2, hq2⟩
  subst w2
  have HI2 : Hid (Held W0 (w1.drewN q2) gb gg W H (paints W H [])) := HI.out.draws q2
  clear HI
  go_wp2
  go_loopw [13] (fun i wr => ∃ (k : Nat), k ≤ D.length ∧ i = .int .i64 (k : Int) ∧ Held W0 wr gb gg W H (paints W H (D.take k))) (fun i _ => D.length - (intOf i).toNat)
  case atStart => exact ⟨0, by omega, rfl, by rw [List.take_zero]; exact HI2.out⟩
  case round =>
    obtain ⟨k, hk, rfl, hI⟩ := hrel
    have HB : Hid (Held W0 wr gb gg W H (paints W H (D.take k))) := hI
    clear HI2 hI
    by_cases hl : k < D.length
    · obtain ⟨⟨x, y, v⟩, hx⟩ : ∃ x, D[k]? = some x := ⟨_, List.getElem?_eq_getElem hl⟩
      have hne : D ≠ [] := fun e => by rw [e] at hx; cases hx
      have hao := HS.out.at_ hne
      subst hao
      have cx : wr.cell? ⟨b, off + k * 3, none⟩ = some (.int .i64 x) := (HB.out.below.cell (p := ⟨b, off + k * 3, none⟩) (HS.out.lt hne)).trans (HS.out.cell k _ hx).1
      have cy : wr.cell? ⟨b, off + k * 3 + 1, none⟩ = some (.int .i64 y) := (HB.out.below.cell (p := ⟨b, off + k * 3 + 1, none⟩) (HS.out.lt hne)).trans (HS.out.cell k _ hx).2.1
      have cv : wr.cell? ⟨b, off + k * 3 + 2, none⟩ = some (.int .i64 v) := (HB.out.below.cell (p := ⟨b, off + k * 3 + 2, none⟩) (HS.out.lt hne)).trans (HS.out.cell k _ hx).2.2
      have k0 : (0 : Int) ≤ (k : Int) := by omega
      have k1 : (k : Int) < (D.length : Int) := by omega
      have HL : Hid (b < W0.heap.size) := HS.out.lt hne
      have HP : Hid (paints W H (D.take (k + 1)) = paint W H (paints W H (D.take k)) (x, y, v)) := paints_take hx
      clear hx hne
      by_cases hin : inside W H (x, y, v)
      · obtain ⟨p1, p2, p3, p4⟩ := hin
        simp only at p1 p2 p3 p4
        obtain ⟨x', rfl⟩ := Int.eq_ofNat_of_zero_le p1
        obtain ⟨y', rfl⟩ := Int.eq_ofNat_of_zero_le p3
        have HP' : Hid (paints W H (D.take (k + 1)) = (paints W H (D.take k)).set (y' * W + x') v) := by
          have := HP.out
          unfold paint at this
          rw [if_pos (show inside W H ((x' : Int), (y' : Int), v) from ⟨p1, p2, p3, p4⟩)] at this
          exact this
        have hset : ∀ (o i : Nat) (u : Value), (wr.setCell ⟨gg, i, none⟩ u).cell? ⟨b, o, none⟩ = wr.cell? ⟨b, o, none⟩ := fun o i u => World.cell?_of_block (w := wr) (Below.heap_setCell _ _ _ _ (show b ≠ gg from by have := HL.out; omega))
        have HSET : Hid (∀ (o i : Nat) (u : Value), (wr.setCell ⟨gg, i, none⟩ u).cell? ⟨b, o, none⟩ = wr.cell? ⟨b, o, none⟩) := hset
        clear hset
        go_wp2
        go_region_held3 (fun w => w.cell? ⟨b, off + k * 3, none⟩ = some (.int .i64 (x' : Int)) ∧ w.cell? ⟨b, off + k * 3 + 1, none⟩ = some (.int .i64 (y' : Int)) ∧ w.cell? ⟨b, off + k * 3 + 2, none⟩ = some (.int .i64 v)) (first | exact ⟨cx, cy, cv⟩ | exact ⟨(HSET.out _ _ _).trans cx, (HSET.out _ _ _).trans cy, (HSET.out _ _ _).trans cv⟩ | go_keep) (first
          | (go_at_call 21; refine (Grid.Set_yes gb gg W H (H * W) x' y' _ v _ _ (by exact HB.out.grid.draws 1) (by omega) (by omega) rfl).mono ?_; rintro e w3 ⟨rfl, hw⟩; subst w3))
        all_goals go_wp2
        all_goals go_roundw
        case rel => exact ⟨k + 1, by omega, by go_num, by rw [HP'.out]; exact (HB.out.set _ _).draws 1⟩
        case measure => simp [intOf]; omega
      · have HNI : Hid (¬ (0 ≤ x ∧ x < W ∧ 0 ≤ y ∧ y < H)) := hin
        have HP' : Hid (paints W H (D.take (k + 1)) = paints W H (D.take k)) := by
          have := HP.out
          unfold paint at this
          rw [if_neg hin] at this
          exact this
        have hc : x < 0 ∨ (0 ≤ x ∧ (W : Int) ≤ x) ∨ (0 ≤ x ∧ x < (W : Int) ∧ y < 0) ∨ (0 ≤ x ∧ x < (W : Int) ∧ 0 ≤ y ∧ (H : Int) ≤ y) := by
          unfold inside at hin
          simp only at hin
          omega
        clear hin
        rcases hc with p1 | ⟨p1, p2⟩ | ⟨p1, p2, p3⟩ | ⟨p1, p2, p3, p4⟩
        · as_aux_lemma =>
            go_wp2
            go_region_held3 (fun w => w.cell? ⟨b, off + k * 3, none⟩ = some (.int .i64 x) ∧ w.cell? ⟨b, off + k * 3 + 1, none⟩ = some (.int .i64 y) ∧ w.cell? ⟨b, off + k * 3 + 2, none⟩ = some (.int .i64 v)) (first | exact ⟨cx, cy, cv⟩ | go_keep) (first
              | (go_at_call 21; refine (Grid.Set_no gb gg W H (H * W) x y v _ _ (by exact HB.out.grid.draws 1) HNI.out).mono ?_; rintro e w3 ⟨rfl, hw⟩; subst w3))
            all_goals go_wp2
            all_goals go_roundw
            case rel => exact ⟨k + 1, by omega, by go_num, by rw [HP'.out]; exact HB.out.draws 1⟩
            case measure => simp [intOf]; omega
        · as_aux_lemma =>
            go_wp2
            go_region_held3 (fun w => w.cell? ⟨b, off + k * 3, none⟩ = some (.int .i64 x) ∧ w.cell? ⟨b, off + k * 3 + 1, none⟩ = some (.int .i64 y) ∧ w.cell? ⟨b, off + k * 3 + 2, none⟩ = some (.int .i64 v)) (first | exact ⟨cx, cy, cv⟩ | go_keep) (first
              | (go_at_call 21; refine (Grid.Set_no gb gg W H (H * W) x y v _ _ (by exact HB.out.grid.draws 1) HNI.out).mono ?_; rintro e w3 ⟨rfl, hw⟩; subst w3))
            all_goals go_wp2
            all_goals go_roundw
            case rel => exact ⟨k + 1, by omega, by go_num, by rw [HP'.out]; exact HB.out.draws 1⟩
            case measure => simp [intOf]; omega
        · as_aux_lemma =>
            go_wp2
            go_region_held3 (fun w => w.cell? ⟨b, off + k * 3, none⟩ = some (.int .i64 x) ∧ w.cell? ⟨b, off + k * 3 + 1, none⟩ = some (.int .i64 y) ∧ w.cell? ⟨b, off + k * 3 + 2, none⟩ = some (.int .i64 v)) (first | exact ⟨cx, cy, cv⟩ | go_keep) (first
              | (go_at_call 21; refine (Grid.Set_no gb gg W H (H * W) x y v _ _ (by exact HB.out.grid.draws 1) HNI.out).mono ?_; rintro e w3 ⟨rfl, hw⟩; subst w3))
            all_goals go_wp2
            all_goals go_roundw
            case rel => exact ⟨k + 1, by omega, by go_num, by rw [HP'.out]; exact HB.out.draws 1⟩
            case measure => simp [intOf]; omega
        · as_aux_lemma =>
            go_wp2
            go_region_held3 (fun w => w.cell? ⟨b, off + k * 3, none⟩ = some (.int .i64 x) ∧ w.cell? ⟨b, off + k * 3 + 1, none⟩ = some (.int .i64 y) ∧ w.cell? ⟨b, off + k * 3 + 2, none⟩ = some (.int .i64 v)) (first | exact ⟨cx, cy, cv⟩ | go_keep) (first
              | (go_at_call 21; refine (Grid.Set_no gb gg W H (H * W) x y v _ _ (by exact HB.out.grid.draws 1) HNI.out).mono ?_; rintro e w3 ⟨rfl, hw⟩; subst w3))
            all_goals go_wp2
            all_goals go_roundw
            case rel => exact ⟨k + 1, by omega, by go_num, by rw [HP'.out]; exact HB.out.draws 1⟩
            case measure => simp [intOf]; omega
    · have hkl : k = D.length := by omega
      have HI3 : Hid (Held W0 wr gb gg W H (paints W H D)) := by
        have := HB.out
        rw [hkl, List.take_length] at this
        exact this
      have hkl2 : (D.length : Int) ≤ (k : Int) := by omega
      clear hkl HB
      go_wp2
      go_loopw [16] (fun i wr => ∃ (k : Nat), k ≤ D.length ∧ i = .int .i64 (k : Int) ∧ Held W0 wr gb gg W H (paints W H D)) (fun i _ => D.length - (intOf i).toNat)
      case atStart => exact ⟨0, by omega, rfl, HI3.out⟩
      case round =>
        obtain ⟨k, hk, rfl, hI⟩ := hrel
        have HB : Hid (Held W0 wr gb gg W H (paints W H D)) := hI
        clear HI3 hI
        by_cases hl : k < D.length
        · obtain ⟨⟨x, y, v⟩, hx⟩ : ∃ x, D[k]? = some x := ⟨_, List.getElem?_eq_getElem hl⟩
          have hne : D ≠ [] := fun e => by rw [e] at hx; cases hx
          have hao := HS.out.at_ hne
          subst hao
          have HX : Hid (W0.cell? ⟨b, off + k * 3, none⟩ = some (.int .i64 x) ∧ W0.cell? ⟨b, off + k * 3 + 1, none⟩ = some (.int .i64 y)) := ⟨(HS.out.cell k _ hx).1, (HS.out.cell k _ hx).2.1⟩
          have cx : wr.cell? ⟨b, off + k * 3, none⟩ = some (.int .i64 x) := (HB.out.below.cell (p := ⟨b, off + k * 3, none⟩) (HS.out.lt hne)).trans (HS.out.cell k _ hx).1
          have cy : wr.cell? ⟨b, off + k * 3 + 1, none⟩ = some (.int .i64 y) := (HB.out.below.cell (p := ⟨b, off + k * 3 + 1, none⟩) (HS.out.lt hne)).trans (HS.out.cell k _ hx).2.1
          have cv : wr.cell? ⟨b, off + k * 3 + 2, none⟩ = some (.int .i64 v) := (HB.out.below.cell (p := ⟨b, off + k * 3 + 2, none⟩) (HS.out.lt hne)).trans (HS.out.cell k _ hx).2.2
          have k0 : (0 : Int) ≤ (k : Int) := by omega
          have k1 : (k : Int) < (D.length : Int) := by omega
          have HL : Hid (b < W0.heap.size) := HS.out.lt hne
          clear hx hne
          have hcx : x < 0 ∨ (0 ≤ x ∧ (W : Int) ≤ x) ∨ (0 ≤ x ∧ x < (W : Int)) := by omega
          have hcy : (y < 0 ∨ (H : Int) ≤ y) ∨ (0 ≤ y ∧ y < (H : Int)) := by omega
          rcases hcx with x1 | ⟨x1, x2⟩ | ⟨x1, x2⟩
          · rcases hcy with y1 | y1
            · as_aux_lemma =>
                have HNY : Hid (¬ (0 ≤ y ∧ y < (H : Int))) := (by omega : ¬ (0 ≤ y ∧ y < (H : Int)))
                have HNI : Hid (¬ (0 ≤ x ∧ x < W ∧ 0 ≤ y ∧ y < H)) := fun h => HNY.out h.2.2
                go_wp2
                go_region_held3 (fun w => w.cell? ⟨b, off + k * 3, none⟩ = some (.int .i64 x) ∧ w.cell? ⟨b, off + k * 3 + 1, none⟩ = some (.int .i64 y) ∧ w.cell? ⟨b, off + k * 3 + 2, none⟩ = some (.int .i64 v)) (first | exact ⟨cx, cy, cv⟩ | go_keep) (first
                  | (go_at_call 20; refine (Grid.Get_no gb gg W H (H * W) x y _ _ (by exact HB.out.grid.draws 1) HNI.out).mono ?_; rintro e w3 ⟨rfl, hw⟩; subst w3))
                go_wp2_with (go_at_call 22; fail)
                refine (Grid.Row_no gb gg W H (H * W) y _ _ (by exact HB.out.grid.draws 1) HNY.out).mono ?_
                rintro e w4 ⟨rfl, hw⟩
                have HB4 : Hid (Held W0 w4 gb gg W H (paints W H D)) := by rw [hw]; exact HB.out.draws 1
                clear hw
                have cx4 : w4.cell? ⟨b, off + k * 3, none⟩ = some (.int .i64 x) := (HB4.out.below.cell (p := ⟨b, off + k * 3, none⟩) HL.out).trans HX.out.1
                have cy4 : w4.cell? ⟨b, off + k * 3 + 1, none⟩ = some (.int .i64 y) := (HB4.out.below.cell (p := ⟨b, off + k * 3 + 1, none⟩) HL.out).trans HX.out.2
                clear cx cy cv
                go_wp2
                go_loopw [21, 22] (fun u i wq => ∃ (k2 q : Nat), k2 ≤ D.length ∧ i = .int .i64 (k2 : Int) ∧ u = .int .i64 (want x y (D.take k2)) ∧ wq = w4.drewN q) (fun _ i _ => D.length - (intOf i).toNat)
                case atStart => exact ⟨0, 0, by omega, rfl, rfl, rfl⟩
                case round =>
                  obtain ⟨k2, q, hk2, rfl, rfl, rfl⟩ := hrel
                  by_cases hl2 : k2 < D.length
                  · obtain ⟨⟨x2, y2, v2⟩, hx2⟩ : ∃ x, D[k2]? = some x := ⟨_, List.getElem?_eq_getElem hl2⟩
                    have dx : w4.cell? ⟨b, off + k2 * 3, none⟩ = some (.int .i64 x2) := (HB4.out.below.cell (p := ⟨b, off + k2 * 3, none⟩) HL.out).trans (HS.out.cell k2 _ hx2).1
                    have dy : w4.cell? ⟨b, off + k2 * 3 + 1, none⟩ = some (.int .i64 y2) := (HB4.out.below.cell (p := ⟨b, off + k2 * 3 + 1, none⟩) HL.out).trans (HS.out.cell k2 _ hx2).2.1
                    have dv : w4.cell? ⟨b, off + k2 * 3 + 2, none⟩ = some (.int .i64 v2) := (HB4.out.below.cell (p := ⟨b, off + k2 * 3 + 2, none⟩) HL.out).trans (HS.out.cell k2 _ hx2).2.2
                    have k20 : (0 : Int) ≤ (k2 : Int) := by omega
                    have k21 : (k2 : Int) < (D.length : Int) := by omega
                    have HWT : Hid (want x y (D.take (k2 + 1)) = wants x y (want x y (D.take k2)) (x2, y2, v2)) := want_take hx2
                    clear hx2
                    by_cases hex : x2 = x
                    · by_cases hey : y2 = y
                      · have HV : Hid (want x y (D.take (k2 + 1)) = v2) := by
                          have := HWT.out
                          unfold wants at this
                          rw [if_pos ⟨hex, hey⟩] at this
                          exact this
                        subst hex hey
                        go_wp2
                        go_quiet (fail)
                        go_wp2
                        go_roundw
                        case rel => exact ⟨k2 + 1, _, by omega, by go_num, by rw [HV.out], rfl⟩
                        case measure => simp [intOf]; omega
                      · have HV : Hid (want x y (D.take (k2 + 1)) = want x y (D.take k2)) := by
                          have := HWT.out
                          unfold wants at this
                          rw [if_neg (fun h => hey h.2)] at this
                          exact this
                        subst hex
                        go_wp2
                        go_quiet (fail)
                        go_wp2
                        go_roundw
                        case rel => exact ⟨k2 + 1, _, by omega, by go_num, by rw [HV.out], rfl⟩
                        case measure => simp [intOf]; omega
                    · have HV : Hid (want x y (D.take (k2 + 1)) = want x y (D.take k2)) := by
                        have := HWT.out
                        unfold wants at this
                        rw [if_neg (fun h => hex h.1)] at this
                        exact this
                      go_wp2
                      go_quiet (fail)
                      go_wp2
                      go_roundw
                      case rel => exact ⟨k2 + 1, _, by omega, by go_num, by rw [HV.out], rfl⟩
                      case measure => simp [intOf]; omega
                  · have hkl2 : k2 = D.length := by omega
                    have HKL : Hid (D.take k2 = D) := by rw [hkl2]; exact List.take_length
                    have hki : (D.length : Int) ≤ (k2 : Int) := by omega
                    clear hkl2
                    go_wp2
                    all_goals go_roundw
                    all_goals first
                      | exact ⟨k + 1, by omega, by go_num, HB4.out.draws _⟩
                      | (simp [intOf]; omega)
            · as_aux_lemma =>
                obtain ⟨yy1, yy2⟩ := y1
                obtain ⟨y', rfl⟩ := Int.eq_ofNat_of_zero_le yy1
                have HNI : Hid (¬ (0 ≤ x ∧ x < W ∧ 0 ≤ (y' : Int) ∧ (y' : Int) < H)) := (by omega : ¬ (0 ≤ x ∧ x < W ∧ 0 ≤ (y' : Int) ∧ (y' : Int) < H))
                go_wp2
                go_region_held3 (fun w => w.cell? ⟨b, off + k * 3, none⟩ = some (.int .i64 x) ∧ w.cell? ⟨b, off + k * 3 + 1, none⟩ = some (.int .i64 (y' : Int)) ∧ w.cell? ⟨b, off + k * 3 + 2, none⟩ = some (.int .i64 v)) (first | exact ⟨cx, cy, cv⟩ | go_keep) (first
                  | (go_at_call 20; refine (Grid.Get_no gb gg W H (H * W) x (y' : Int) _ _ (by exact HB.out.grid.draws 1) HNI.out).mono ?_; rintro e w3 ⟨rfl, hw⟩; subst w3))
                go_wp2_with (go_at_call 22; fail)
                refine (Grid.Row_yes gb gg W H (H * W) y' _ _ (by exact HB.out.grid.draws 1) (by omega)).mono ?_
                rintro e w4 ⟨rb, rfl, hrb, hrr, hB4⟩
                have HB4 : Hid (Held W0 w4 gb gg W H (paints W H D)) := (HB.out.draws 1).later hB4
                clear hB4 hrr
                have cx4 : w4.cell? ⟨b, off + k * 3, none⟩ = some (.int .i64 x) := (HB4.out.below.cell (p := ⟨b, off + k * 3, none⟩) HL.out).trans HX.out.1
                have cy4 : w4.cell? ⟨b, off + k * 3 + 1, none⟩ = some (.int .i64 (y' : Int)) := (HB4.out.below.cell (p := ⟨b, off + k * 3 + 1, none⟩) HL.out).trans HX.out.2
                clear cx cy cv
                go_wp2
                go_loopw [21, 22] (fun u i wq => ∃ (k2 q : Nat), k2 ≤ D.length ∧ i = .int .i64 (k2 : Int) ∧ u = .int .i64 (want x (y' : Int) (D.take k2)) ∧ wq = w4.drewN q) (fun _ i _ => D.length - (intOf i).toNat)
                case atStart => exact ⟨0, 0, by omega, rfl, rfl, rfl⟩
                case round =>
                  obtain ⟨k2, q, hk2, rfl, rfl, rfl⟩ := hrel
                  by_cases hl2 : k2 < D.length
                  · obtain ⟨⟨x2, y2, v2⟩, hx2⟩ : ∃ x, D[k2]? = some x := ⟨_, List.getElem?_eq_getElem hl2⟩
                    have dx : w4.cell? ⟨b, off + k2 * 3, none⟩ = some (.int .i64 x2) := (HB4.out.below.cell (p := ⟨b, off + k2 * 3, none⟩) HL.out).trans (HS.out.cell k2 _ hx2).1
                    have dy : w4.cell? ⟨b, off + k2 * 3 + 1, none⟩ = some (.int .i64 y2) := (HB4.out.below.cell (p := ⟨b, off + k2 * 3 + 1, none⟩) HL.out).trans (HS.out.cell k2 _ hx2).2.1
                    have dv : w4.cell? ⟨b, off + k2 * 3 + 2, none⟩ = some (.int .i64 v2) := (HB4.out.below.cell (p := ⟨b, off + k2 * 3 + 2, none⟩) HL.out).trans (HS.out.cell k2 _ hx2).2.2
                    have k20 : (0 : Int) ≤ (k2 : Int) := by omega
                    have k21 : (k2 : Int) < (D.length : Int) := by omega
                    have HWT : Hid (want x (y' : Int) (D.take (k2 + 1)) = wants x (y' : Int) (want x (y' : Int) (D.take k2)) (x2, y2, v2)) := want_take hx2
                    clear hx2
                    by_cases hex : x2 = x
                    · by_cases hey : y2 = (y' : Int)
                      · have HV : Hid (want x (y' : Int) (D.take (k2 + 1)) = v2) := by
                          have := HWT.out
                          unfold wants at this
                          rw [if_pos ⟨hex, hey⟩] at this
                          exact this
                        subst hex hey
                        go_wp2
                        go_quiet (fail)
                        go_wp2
                        go_roundw
                        case rel => exact ⟨k2 + 1, _, by omega, by go_num, by rw [HV.out], rfl⟩
                        case measure => simp [intOf]; omega
                      · have HV : Hid (want x (y' : Int) (D.take (k2 + 1)) = want x (y' : Int) (D.take k2)) := by
                          have := HWT.out
                          unfold wants at this
                          rw [if_neg (fun h => hey h.2)] at this
                          exact this
                        subst hex
                        go_wp2
                        go_quiet (fail)
                        go_wp2
                        go_roundw
                        case rel => exact ⟨k2 + 1, _, by omega, by go_num, by rw [HV.out], rfl⟩
                        case measure => simp [intOf]; omega
                    · have HV : Hid (want x (y' : Int) (D.take (k2 + 1)) = want x (y' : Int) (D.take k2)) := by
                        have := HWT.out
                        unfold wants at this
                        rw [if_neg (fun h => hex h.1)] at this
                        exact this
                      go_wp2
                      go_quiet (fail)
                      go_wp2
                      go_roundw
                      case rel => exact ⟨k2 + 1, _, by omega, by go_num, by rw [HV.out], rfl⟩
                      case measure => simp [intOf]; omega
                  · have hkl2 : k2 = D.length := by omega
                    have HKL : Hid (D.take k2 = D) := by rw [hkl2]; exact List.take_length
                    have hki : (D.length : Int) ≤ (k2 : Int) := by omega
                    clear hkl2
                    go_wp2
                    all_goals go_roundw
                    all_goals first
                      | exact ⟨k + 1, by omega, by go_num, HB4.out.draws _⟩
                      | (simp [intOf]; omega)
          · rcases hcy with y1 | y1
            · as_aux_lemma =>
                have HNY : Hid (¬ (0 ≤ y ∧ y < (H : Int))) := (by omega : ¬ (0 ≤ y ∧ y < (H : Int)))
                have HNI : Hid (¬ (0 ≤ x ∧ x < W ∧ 0 ≤ y ∧ y < H)) := fun h => HNY.out h.2.2
                go_wp2
                go_region_held3 (fun w => w.cell? ⟨b, off + k * 3, none⟩ = some (.int .i64 x) ∧ w.cell? ⟨b, off + k * 3 + 1, none⟩ = some (.int .i64 y) ∧ w.cell? ⟨b, off + k * 3 + 2, none⟩ = some (.int .i64 v)) (first | exact ⟨cx, cy, cv⟩ | go_keep) (first
                  | (go_at_call 20; refine (Grid.Get_no gb gg W H (H * W) x y _ _ (by exact HB.out.grid.draws 1) HNI.out).mono ?_; rintro e w3 ⟨rfl, hw⟩; subst w3))
                go_wp2_with (go_at_call 22; fail)
                refine (Grid.Row_no gb gg W H (H * W) y _ _ (by exact HB.out.grid.draws 1) HNY.out).mono ?_
                rintro e w4 ⟨rfl, hw⟩
                have HB4 : Hid (Held W0 w4 gb gg W H (paints W H D)) := by rw [hw]; exact HB.out.draws 1
                clear hw
                have cx4 : w4.cell? ⟨b, off + k * 3, none⟩ = some (.int .i64 x) := (HB4.out.below.cell (p := ⟨b, off + k * 3, none⟩) HL.out).trans HX.out.1
                have cy4 : w4.cell? ⟨b, off + k * 3 + 1, none⟩ = some (.int .i64 y) := (HB4.out.below.cell (p := ⟨b, off + k * 3 + 1, none⟩) HL.out).trans HX.out.2
                clear cx cy cv
                go_wp2
                go_loopw [21, 22] (fun u i wq => ∃ (k2 q : Nat), k2 ≤ D.length ∧ i = .int .i64 (k2 : Int) ∧ u = .int .i64 (want x y (D.take k2)) ∧ wq = w4.drewN q) (fun _ i _ => D.length - (intOf i).toNat)
                case atStart => exact ⟨0, 0, by omega, rfl, rfl, rfl⟩
                case round =>
                  obtain ⟨k2, q, hk2, rfl, rfl, rfl⟩ := hrel
                  by_cases hl2 : k2 < D.length
                  · obtain ⟨⟨x2, y2, v2⟩, hx2⟩ : ∃ x, D[k2]? = some x := ⟨_, List.getElem?_eq_getElem hl2⟩
                    have dx : w4.cell? ⟨b, off + k2 * 3, none⟩ = some (.int .i64 x2) := (HB4.out.below.cell (p := ⟨b, off + k2 * 3, none⟩) HL.out).trans (HS.out.cell k2 _ hx2).1
                    have dy : w4.cell? ⟨b, off + k2 * 3 + 1, none⟩ = some (.int .i64 y2) := (HB4.out.below.cell (p := ⟨b, off + k2 * 3 + 1, none⟩) HL.out).trans (HS.out.cell k2 _ hx2).2.1
                    have dv : w4.cell? ⟨b, off + k2 * 3 + 2, none⟩ = some (.int .i64 v2) := (HB4.out.below.cell (p := ⟨b, off + k2 * 3 + 2, none⟩) HL.out).trans (HS.out.cell k2 _ hx2).2.2
                    have k20 : (0 : Int) ≤ (k2 : Int) := by omega
                    have k21 : (k2 : Int) < (D.length : Int) := by omega
                    have HWT : Hid (want x y (D.take (k2 + 1)) = wants x y (want x y (D.take k2)) (x2, y2, v2)) := want_take hx2
                    clear hx2
                    by_cases hex : x2 = x
                    · by_cases hey : y2 = y
                      · have HV : Hid (want x y (D.take (k2 + 1)) = v2) := by
                          have := HWT.out
                          unfold wants at this
                          rw [if_pos ⟨hex, hey⟩] at this
                          exact this
                        subst hex hey
                        go_wp2
                        go_quiet (fail)
                        go_wp2
                        go_roundw
                        case rel => exact ⟨k2 + 1, _, by omega, by go_num, by rw [HV.out], rfl⟩
                        case measure => simp [intOf]; omega
                      · have HV : Hid (want x y (D.take (k2 + 1)) = want x y (D.take k2)) := by
                          have := HWT.out
                          unfold wants at this
                          rw [if_neg (fun h => hey h.2)] at this
                          exact this
                        subst hex
                        go_wp2
                        go_quiet (fail)
                        go_wp2
                        go_roundw
                        case rel => exact ⟨k2 + 1, _, by omega, by go_num, by rw [HV.out], rfl⟩
                        case measure => simp [intOf]; omega
                    · have HV : Hid (want x y (D.take (k2 + 1)) = want x y (D.take k2)) := by
                        have := HWT.out
                        unfold wants at this
                        rw [if_neg (fun h => hex h.1)] at this
                        exact this
                      go_wp2
                      go_quiet (fail)
                      go_wp2
                      go_roundw
                      case rel => exact ⟨k2 + 1, _, by omega, by go_num, by rw [HV.out], rfl⟩
                      case measure => simp [intOf]; omega
                  · have hkl2 : k2 = D.length := by omega
                    have HKL : Hid (D.take k2 = D) := by rw [hkl2]; exact List.take_length
                    have hki : (D.length : Int) ≤ (k2 : Int) := by omega
                    clear hkl2
                    go_wp2
                    all_goals go_roundw
                    all_goals first
                      | exact ⟨k + 1, by omega, by go_num, HB4.out.draws _⟩
                      | (simp [intOf]; omega)
            · as_aux_lemma =>
                obtain ⟨yy1, yy2⟩ := y1
                obtain ⟨y', rfl⟩ := Int.eq_ofNat_of_zero_le yy1
                have HNI : Hid (¬ (0 ≤ x ∧ x < W ∧ 0 ≤ (y' : Int) ∧ (y' : Int) < H)) := (by omega : ¬ (0 ≤ x ∧ x < W ∧ 0 ≤ (y' : Int) ∧ (y' : Int) < H))
                go_wp2
                go_region_held3 (fun w => w.cell? ⟨b, off + k * 3, none⟩ = some (.int .i64 x) ∧ w.cell? ⟨b, off + k * 3 + 1, none⟩ = some (.int .i64 (y' : Int)) ∧ w.cell? ⟨b, off + k * 3 + 2, none⟩ = some (.int .i64 v)) (first | exact ⟨cx, cy, cv⟩ | go_keep) (first
                  | (go_at_call 20; refine (Grid.Get_no gb gg W H (H * W) x (y' : Int) _ _ (by exact HB.out.grid.draws 1) HNI.out).mono ?_; rintro e w3 ⟨rfl, hw⟩; subst w3))
                go_wp2_with (go_at_call 22; fail)
                refine (Grid.Row_yes gb gg W H (H * W) y' _ _ (by exact HB.out.grid.draws 1) (by omega)).mono ?_
                rintro e w4 ⟨rb, rfl, hrb, hrr, hB4⟩
                have HB4 : Hid (Held W0 w4 gb gg W H (paints W H D)) := (HB.out.draws 1).later hB4
                clear hB4 hrr
                have cx4 : w4.cell? ⟨b, off + k * 3, none⟩ = some (.int .i64 x) := (HB4.out.below.cell (p := ⟨b, off + k * 3, none⟩) HL.out).trans HX.out.1
                have cy4 : w4.cell? ⟨b, off + k * 3 + 1, none⟩ = some (.int .i64 (y' : Int)) := (HB4.out.below.cell (p := ⟨b, off + k * 3 + 1, none⟩) HL.out).trans HX.out.2
                clear cx cy cv
                go_wp2
                go_loopw [21, 22] (fun u i wq => ∃ (k2 q : Nat), k2 ≤ D.length ∧ i = .int .i64 (k2 : Int) ∧ u = .int .i64 (want x (y' : Int) (D.take k2)) ∧ wq = w4.drewN q) (fun _ i _ => D.length - (intOf i).toNat)
                case atStart => exact ⟨0, 0, by omega, rfl, rfl, rfl⟩
                case round =>
                  obtain ⟨k2, q, hk2, rfl, rfl, rfl⟩ := hrel
                  by_cases hl2 : k2 < D.length
                  · obtain ⟨⟨x2, y2, v2⟩, hx2⟩ : ∃ x, D[k2]? = some x := ⟨_, List.getElem?_eq_getElem hl2⟩
                    have dx : w4.cell? ⟨b, off + k2 * 3, none⟩ = some (.int .i64 x2) := (HB4.out.below.cell (p := ⟨b, off + k2 * 3, none⟩) HL.out).trans (HS.out.cell k2 _ hx2).1
                    have dy : w4.cell? ⟨b, off + k2 * 3 + 1, none⟩ = some (.int .i64 y2) := (HB4.out.below.cell (p := ⟨b, off + k2 * 3 + 1, none⟩) HL.out).trans (HS.out.cell k2 _ hx2).2.1
                    have dv : w4.cell? ⟨b, off + k2 * 3 + 2, none⟩ = some (.int .i64 v2) := (HB4.out.below.cell (p := ⟨b, off + k2 * 3 + 2, none⟩) HL.out).trans (HS.out.cell k2 _ hx2).2.2
                    have k20 : (0 : Int) ≤ (k2 : Int) := by omega
                    have k21 : (k2 : Int) < (D.length : Int) := by omega
                    have HWT : Hid (want x (y' : Int) (D.take (k2 + 1)) = wants x (y' : Int) (want x (y' : Int) (D.take k2)) (x2, y2, v2)) := want_take hx2
                    clear hx2
                    by_cases hex : x2 = x
                    · by_cases hey : y2 = (y' : Int)
                      · have HV : Hid (want x (y' : Int) (D.take (k2 + 1)) = v2) := by
                          have := HWT.out
                          unfold wants at this
                          rw [if_pos ⟨hex, hey⟩] at this
                          exact this
                        subst hex hey
                        go_wp2
                        go_quiet (fail)
                        go_wp2
                        go_roundw
                        case rel => exact ⟨k2 + 1, _, by omega, by go_num, by rw [HV.out], rfl⟩
                        case measure => simp [intOf]; omega
                      · have HV : Hid (want x (y' : Int) (D.take (k2 + 1)) = want x (y' : Int) (D.take k2)) := by
                          have := HWT.out
                          unfold wants at this
                          rw [if_neg (fun h => hey h.2)] at this
                          exact this
                        subst hex
                        go_wp2
                        go_quiet (fail)
                        go_wp2
                        go_roundw
                        case rel => exact ⟨k2 + 1, _, by omega, by go_num, by rw [HV.out], rfl⟩
                        case measure => simp [intOf]; omega
                    · have HV : Hid (want x (y' : Int) (D.take (k2 + 1)) = want x (y' : Int) (D.take k2)) := by
                        have := HWT.out
                        unfold wants at this
                        rw [if_neg (fun h => hex h.1)] at this
                        exact this
                      go_wp2
                      go_quiet (fail)
                      go_wp2
                      go_roundw
                      case rel => exact ⟨k2 + 1, _, by omega, by go_num, by rw [HV.out], rfl⟩
                      case measure => simp [intOf]; omega
                  · have hkl2 : k2 = D.length := by omega
                    have HKL : Hid (D.take k2 = D) := by rw [hkl2]; exact List.take_length
                    have hki : (D.length : Int) ≤ (k2 : Int) := by omega
                    clear hkl2
                    go_wp2
                    all_goals go_roundw
                    all_goals first
                      | exact ⟨k + 1, by omega, by go_num, HB4.out.draws _⟩
                      | (simp [intOf]; omega)
          · rcases hcy with (y1 | y1) | y1
            · as_aux_lemma =>
                have HNY : Hid (¬ (0 ≤ y ∧ y < (H : Int))) := (by omega : ¬ (0 ≤ y ∧ y < (H : Int)))
                have HNI : Hid (¬ (0 ≤ x ∧ x < W ∧ 0 ≤ y ∧ y < H)) := fun h => HNY.out h.2.2
                go_wp2
                go_region_held3 (fun w => w.cell? ⟨b, off + k * 3, none⟩ = some (.int .i64 x) ∧ w.cell? ⟨b, off + k * 3 + 1, none⟩ = some (.int .i64 y) ∧ w.cell? ⟨b, off + k * 3 + 2, none⟩ = some (.int .i64 v)) (first | exact ⟨cx, cy, cv⟩ | go_keep) (first
                  | (go_at_call 20; refine (Grid.Get_no gb gg W H (H * W) x y _ _ (by exact HB.out.grid.draws 1) HNI.out).mono ?_; rintro e w3 ⟨rfl, hw⟩; subst w3))
                go_wp2_with (go_at_call 22; fail)
                refine (Grid.Row_no gb gg W H (H * W) y _ _ (by exact HB.out.grid.draws 1) HNY.out).mono ?_
                rintro e w4 ⟨rfl, hw⟩
                have HB4 : Hid (Held W0 w4 gb gg W H (paints W H D)) := by rw [hw]; exact HB.out.draws 1
                clear hw
                have cx4 : w4.cell? ⟨b, off + k * 3, none⟩ = some (.int .i64 x) := (HB4.out.below.cell (p := ⟨b, off + k * 3, none⟩) HL.out).trans HX.out.1
                have cy4 : w4.cell? ⟨b, off + k * 3 + 1, none⟩ = some (.int .i64 y) := (HB4.out.below.cell (p := ⟨b, off + k * 3 + 1, none⟩) HL.out).trans HX.out.2
                clear cx cy cv
                go_wp2
                go_loopw [21, 22] (fun u i wq => ∃ (k2 q : Nat), k2 ≤ D.length ∧ i = .int .i64 (k2 : Int) ∧ u = .int .i64 (want x y (D.take k2)) ∧ wq = w4.drewN q) (fun _ i _ => D.length - (intOf i).toNat)
                case atStart => exact ⟨0, 0, by omega, rfl, rfl, rfl⟩
                case round =>
                  obtain ⟨k2, q, hk2, rfl, rfl, rfl⟩ := hrel
                  by_cases hl2 : k2 < D.length
                  · obtain ⟨⟨x2, y2, v2⟩, hx2⟩ : ∃ x, D[k2]? = some x := ⟨_, List.getElem?_eq_getElem hl2⟩
                    have dx : w4.cell? ⟨b, off + k2 * 3, none⟩ = some (.int .i64 x2) := (HB4.out.below.cell (p := ⟨b, off + k2 * 3, none⟩) HL.out).trans (HS.out.cell k2 _ hx2).1
                    have dy : w4.cell? ⟨b, off + k2 * 3 + 1, none⟩ = some (.int .i64 y2) := (HB4.out.below.cell (p := ⟨b, off + k2 * 3 + 1, none⟩) HL.out).trans (HS.out.cell k2 _ hx2).2.1
                    have dv : w4.cell? ⟨b, off + k2 * 3 + 2, none⟩ = some (.int .i64 v2) := (HB4.out.below.cell (p := ⟨b, off + k2 * 3 + 2, none⟩) HL.out).trans (HS.out.cell k2 _ hx2).2.2
                    have k20 : (0 : Int) ≤ (k2 : Int) := by omega
                    have k21 : (k2 : Int) < (D.length : Int) := by omega
                    have HWT : Hid (want x y (D.take (k2 + 1)) = wants x y (want x y (D.take k2)) (x2, y2, v2)) := want_take hx2
                    clear hx2
                    by_cases hex : x2 = x
                    · by_cases hey : y2 = y
                      · have HV : Hid (want x y (D.take (k2 + 1)) = v2) := by
                          have := HWT.out
                          unfold wants at this
                          rw [if_pos ⟨hex, hey⟩] at this
                          exact this
                        subst hex hey
                        go_wp2
                        go_quiet (fail)
                        go_wp2
                        go_roundw
                        case rel => exact ⟨k2 + 1, _, by omega, by go_num, by rw [HV.out], rfl⟩
                        case measure => simp [intOf]; omega
                      · have HV : Hid (want x y (D.take (k2 + 1)) = want x y (D.take k2)) := by
                          have := HWT.out
                          unfold wants at this
                          rw [if_neg (fun h => hey h.2)] at this
                          exact this
                        subst hex
                        go_wp2
                        go_quiet (fail)
                        go_wp2
                        go_roundw
                        case rel => exact ⟨k2 + 1, _, by omega, by go_num, by rw [HV.out], rfl⟩
                        case measure => simp [intOf]; omega
                    · have HV : Hid (want x y (D.take (k2 + 1)) = want x y (D.take k2)) := by
                        have := HWT.out
                        unfold wants at this
                        rw [if_neg (fun h => hex h.1)] at this
                        exact this
                      go_wp2
                      go_quiet (fail)
                      go_wp2
                      go_roundw
                      case rel => exact ⟨k2 + 1, _, by omega, by go_num, by rw [HV.out], rfl⟩
                      case measure => simp [intOf]; omega
                  · have hkl2 : k2 = D.length := by omega
                    have HKL : Hid (D.take k2 = D) := by rw [hkl2]; exact List.take_length
                    have hki : (D.length : Int) ≤ (k2 : Int) := by omega
                    clear hkl2
                    go_wp2
                    all_goals go_roundw
                    all_goals first
                      | exact ⟨k + 1, by omega, by go_num, HB4.out.draws _⟩
                      | (simp [intOf]; omega)
            · as_aux_lemma =>
                have y0 : 0 ≤ y := by omega
                have HNY : Hid (¬ (0 ≤ y ∧ y < (H : Int))) := (by omega : ¬ (0 ≤ y ∧ y < (H : Int)))
                have HNI : Hid (¬ (0 ≤ x ∧ x < W ∧ 0 ≤ y ∧ y < H)) := fun h => HNY.out h.2.2
                go_wp2
                go_region_held3 (fun w => w.cell? ⟨b, off + k * 3, none⟩ = some (.int .i64 x) ∧ w.cell? ⟨b, off + k * 3 + 1, none⟩ = some (.int .i64 y) ∧ w.cell? ⟨b, off + k * 3 + 2, none⟩ = some (.int .i64 v)) (first | exact ⟨cx, cy, cv⟩ | go_keep) (first
                  | (go_at_call 20; refine (Grid.Get_no gb gg W H (H * W) x y _ _ (by exact HB.out.grid.draws 1) HNI.out).mono ?_; rintro e w3 ⟨rfl, hw⟩; subst w3))
                go_wp2_with (go_at_call 22; fail)
                refine (Grid.Row_no gb gg W H (H * W) y _ _ (by exact HB.out.grid.draws 1) HNY.out).mono ?_
                rintro e w4 ⟨rfl, hw⟩
                have HB4 : Hid (Held W0 w4 gb gg W H (paints W H D)) := by rw [hw]; exact HB.out.draws 1
                clear hw
                have cx4 : w4.cell? ⟨b, off + k * 3, none⟩ = some (.int .i64 x) := (HB4.out.below.cell (p := ⟨b, off + k * 3, none⟩) HL.out).trans HX.out.1
                have cy4 : w4.cell? ⟨b, off + k * 3 + 1, none⟩ = some (.int .i64 y) := (HB4.out.below.cell (p := ⟨b, off + k * 3 + 1, none⟩) HL.out).trans HX.out.2
                clear cx cy cv
                go_wp2
                go_loopw [21, 22] (fun u i wq => ∃ (k2 q : Nat), k2 ≤ D.length ∧ i = .int .i64 (k2 : Int) ∧ u = .int .i64 (want x y (D.take k2)) ∧ wq = w4.drewN q) (fun _ i _ => D.length - (intOf i).toNat)
                case atStart => exact ⟨0, 0, by omega, rfl, rfl, rfl⟩
                case round =>
                  obtain ⟨k2, q, hk2, rfl, rfl, rfl⟩ := hrel
                  by_cases hl2 : k2 < D.length
                  · obtain ⟨⟨x2, y2, v2⟩, hx2⟩ : ∃ x, D[k2]? = some x := ⟨_, List.getElem?_eq_getElem hl2⟩
                    have dx : w4.cell? ⟨b, off + k2 * 3, none⟩ = some (.int .i64 x2) := (HB4.out.below.cell (p := ⟨b, off + k2 * 3, none⟩) HL.out).trans (HS.out.cell k2 _ hx2).1
                    have dy : w4.cell? ⟨b, off + k2 * 3 + 1, none⟩ = some (.int .i64 y2) := (HB4.out.below.cell (p := ⟨b, off + k2 * 3 + 1, none⟩) HL.out).trans (HS.out.cell k2 _ hx2).2.1
                    have dv : w4.cell? ⟨b, off + k2 * 3 + 2, none⟩ = some (.int .i64 v2) := (HB4.out.below.cell (p := ⟨b, off + k2 * 3 + 2, none⟩) HL.out).trans (HS.out.cell k2 _ hx2).2.2
                    have k20 : (0 : Int) ≤ (k2 : Int) := by omega
                    have k21 : (k2 : Int) < (D.length : Int) := by omega
                    have HWT : Hid (want x y (D.take (k2 + 1)) = wants x y (want x y (D.take k2)) (x2, y2, v2)) := want_take hx2
                    clear hx2
                    by_cases hex : x2 = x
                    · by_cases hey : y2 = y
                      · have HV : Hid (want x y (D.take (k2 + 1)) = v2) := by
                          have := HWT.out
                          unfold wants at this
                          rw [if_pos ⟨hex, hey⟩] at this
                          exact this
                        subst hex hey
                        go_wp2
                        go_quiet (fail)
                        go_wp2
                        go_roundw
                        case rel => exact ⟨k2 + 1, _, by omega, by go_num, by rw [HV.out], rfl⟩
                        case measure => simp [intOf]; omega
                      · have HV : Hid (want x y (D.take (k2 + 1)) = want x y (D.take k2)) := by
                          have := HWT.out
                          unfold wants at this
                          rw [if_neg (fun h => hey h.2)] at this
                          exact this
                        subst hex
                        go_wp2
                        go_quiet (fail)
                        go_wp2
                        go_roundw
                        case rel => exact ⟨k2 + 1, _, by omega, by go_num, by rw [HV.out], rfl⟩
                        case measure => simp [intOf]; omega
                    · have HV : Hid (want x y (D.take (k2 + 1)) = want x y (D.take k2)) := by
                        have := HWT.out
                        unfold wants at this
                        rw [if_neg (fun h => hex h.1)] at this
                        exact this
                      go_wp2
                      go_quiet (fail)
                      go_wp2
                      go_roundw
                      case rel => exact ⟨k2 + 1, _, by omega, by go_num, by rw [HV.out], rfl⟩
                      case measure => simp [intOf]; omega
                  · have hkl2 : k2 = D.length := by omega
                    have HKL : Hid (D.take k2 = D) := by rw [hkl2]; exact List.take_length
                    have hki : (D.length : Int) ≤ (k2 : Int) := by omega
                    clear hkl2
                    go_wp2
                    all_goals go_roundw
                    all_goals first
                      | exact ⟨k + 1, by omega, by go_num, HB4.out.draws _⟩
                      | (simp [intOf]; omega)
            · as_aux_lemma =>
                obtain ⟨yy1, yy2⟩ := y1
                obtain ⟨y', rfl⟩ := Int.eq_ofNat_of_zero_le yy1
                obtain ⟨x', rfl⟩ := Int.eq_ofNat_of_zero_le x1
                have HWA : Hid ((paints W H D)[y' * W + x']? = some (want (x' : Int) (y' : Int) D)) := paints_at (by omega) (by omega) D
                go_wp2
                go_region_held3 (fun w => w.cell? ⟨b, off + k * 3, none⟩ = some (.int .i64 (x' : Int)) ∧ w.cell? ⟨b, off + k * 3 + 1, none⟩ = some (.int .i64 (y' : Int)) ∧ w.cell? ⟨b, off + k * 3 + 2, none⟩ = some (.int .i64 v)) (first | exact ⟨cx, cy, cv⟩ | go_keep) (first
                  | (go_at_call 20; refine (Grid.Get_yes gb gg W H (H * W) x' y' _ _ _ _ (by exact HB.out.grid.draws 1) (by omega) (by omega) rfl HWA.out).mono ?_; rintro e w3 ⟨rfl, hw⟩; subst w3))
                go_wp2_with (go_at_call 22; fail)
                refine (Grid.Row_yes gb gg W H (H * W) y' _ _ (by exact HB.out.grid.draws 1) (by omega)).mono ?_
                rintro e w4 ⟨rb, rfl, hrb, hrr, hB4⟩
                have HB4 : Hid (Held W0 w4 gb gg W H (paints W H D)) := (HB.out.draws 1).later hB4
                have HRR : Hid (w4.cell? ⟨rb, x', none⟩ = some (.int .i64 (want (x' : Int) (y' : Int) D))) := by
                  have e1 : (Grid.rowOf W y' (paints W H D))[x']? = some (want (x' : Int) (y' : Int) D) := (Grid.rowOf_at (by omega)).trans HWA.out
                  show w4.cell? ⟨rb, x', none⟩ = _
                  rw [Joins.cell_of_block hrr x']
                  simp [e1]
                clear hB4 hrr
                have cx4 : w4.cell? ⟨b, off + k * 3, none⟩ = some (.int .i64 (x' : Int)) := (HB4.out.below.cell (p := ⟨b, off + k * 3, none⟩) HL.out).trans HX.out.1
                have cy4 : w4.cell? ⟨b, off + k * 3 + 1, none⟩ = some (.int .i64 (y' : Int)) := (HB4.out.below.cell (p := ⟨b, off + k * 3 + 1, none⟩) HL.out).trans HX.out.2
                clear cx cy cv
                go_wp2
                go_loopw [21, 22] (fun u i wq => ∃ (k2 q : Nat), k2 ≤ D.length ∧ i = .int .i64 (k2 : Int) ∧ u = .int .i64 (want (x' : Int) (y' : Int) (D.take k2)) ∧ wq = w4.drewN q) (fun _ i _ => D.length - (intOf i).toNat)
                case atStart => exact ⟨0, 0, by omega, rfl, rfl, rfl⟩
                case round =>
                  obtain ⟨k2, q, hk2, rfl, rfl, rfl⟩ := hrel
                  by_cases hl2 : k2 < D.length
                  · obtain ⟨⟨x2, y2, v2⟩, hx2⟩ : ∃ x, D[k2]? = some x := ⟨_, List.getElem?_eq_getElem hl2⟩
                    have dx : w4.cell? ⟨b, off + k2 * 3, none⟩ = some (.int .i64 x2) := (HB4.out.below.cell (p := ⟨b, off + k2 * 3, none⟩) HL.out).trans (HS.out.cell k2 _ hx2).1
                    have dy : w4.cell? ⟨b, off + k2 * 3 + 1, none⟩ = some (.int .i64 y2) := (HB4.out.below.cell (p := ⟨b, off + k2 * 3 + 1, none⟩) HL.out).trans (HS.out.cell k2 _ hx2).2.1
                    have dv : w4.cell? ⟨b, off + k2 * 3 + 2, none⟩ = some (.int .i64 v2) := (HB4.out.below.cell (p := ⟨b, off + k2 * 3 + 2, none⟩) HL.out).trans (HS.out.cell k2 _ hx2).2.2
                    have k20 : (0 : Int) ≤ (k2 : Int) := by omega
                    have k21 : (k2 : Int) < (D.length : Int) := by omega
                    have HWT : Hid (want (x' : Int) (y' : Int) (D.take (k2 + 1)) = wants (x' : Int) (y' : Int) (want (x' : Int) (y' : Int) (D.take k2)) (x2, y2, v2)) := want_take hx2
                    clear hx2
                    by_cases hex : x2 = (x' : Int)
                    · by_cases hey : y2 = (y' : Int)
                      · have HV : Hid (want (x' : Int) (y' : Int) (D.take (k2 + 1)) = v2) := by
                          have := HWT.out
                          unfold wants at this
                          rw [if_pos ⟨hex, hey⟩] at this
                          exact this
                        subst hex hey
                        go_wp2
                        go_quiet (fail)
                        go_wp2
                        go_roundw
                        case rel => exact ⟨k2 + 1, _, by omega, by go_num, by rw [HV.out], rfl⟩
                        case measure => simp [intOf]; omega
                      · have HV : Hid (want (x' : Int) (y' : Int) (D.take (k2 + 1)) = want (x' : Int) (y' : Int) (D.take k2)) := by
                          have := HWT.out
                          unfold wants at this
                          rw [if_neg (fun h => hey h.2)] at this
                          exact this
                        subst hex
                        go_wp2
                        go_quiet (fail)
                        go_wp2
                        go_roundw
                        case rel => exact ⟨k2 + 1, _, by omega, by go_num, by rw [HV.out], rfl⟩
                        case measure => simp [intOf]; omega
                    · have HV : Hid (want (x' : Int) (y' : Int) (D.take (k2 + 1)) = want (x' : Int) (y' : Int) (D.take k2)) := by
                        have := HWT.out
                        unfold wants at this
                        rw [if_neg (fun h => hex h.1)] at this
                        exact this
                      go_wp2
                      go_quiet (fail)
                      go_wp2
                      go_roundw
                      case rel => exact ⟨k2 + 1, _, by omega, by go_num, by rw [HV.out], rfl⟩
                      case measure => simp [intOf]; omega
                  · have hkl2 : k2 = D.length := by omega
                    have HKL : Hid (D.take k2 = D) := by rw [hkl2]; exact List.take_length
                    have hki : (D.length : Int) ≤ (k2 : Int) := by omega
                    clear hkl2
                    have er : w4.cell? ⟨rb, x', none⟩ = some (.int .i64 (want (x' : Int) (y' : Int) (D.take k2))) := (by rw [HKL.out]; exact HRR.out)
                    have HWQ : Hid (want (x' : Int) (y' : Int) (D.take k2) = want (x' : Int) (y' : Int) D) := (by rw [HKL.out] : want (x' : Int) (y' : Int) (D.take k2) = want (x' : Int) (y' : Int) D)
                    rw [← HWQ.out]
                    go_wp2
                    all_goals go_roundw
                    all_goals first
                      | exact ⟨k + 1, by omega, by go_num, HB4.out.draws _⟩
                      | (simp [intOf]; omega)
        · have hkl : (D.length : Int) ≤ (k : Int) := by omega
          go_wp2_with (go_at_call 15; refine (awake3 _).mono ?_; rintro e w4 ⟨rfl, hb4⟩)
          go_ret
          exact ⟨rfl, HB.out.below.trans (hb4.mono HB.out.below.size)⟩

end Go.Proofs.Ytneapdegjofodaa.cellGrids
