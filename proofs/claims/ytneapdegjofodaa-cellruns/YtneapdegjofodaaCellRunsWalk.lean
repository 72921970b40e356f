/- CellRuns, walked: whatever comes in, true comes out. -/
import Derived.Test.YtneapdegjofodaaSeenOwn
import Derived.Deep.AppendLies
import Derived.Deep.RegionHeldLaw
namespace Go.Proofs.Ytneapdegjofodaa.cellRuns
open Go.RowKit PackInt Ref3

set_option maxRecDepth 100000 in
set_option maxHeartbeats 1000000 in
theorem great {ao : Option Addr} {n cap : Nat} {ao1 : Option Addr} {n1 cap1 : Nat} {W : World} (a2 : Int) (hn : n ≤ 9223372036854775807) (hn1 : n1 ≤ 9223372036854775807) (h : 300 < n ∨ 60 < n1 ∨ 3000 < a2) :
    Calls Try.prog 5 #[.slice ao n cap, .slice ao1 n1 cap1, .int .i64 a2] W fun e w' => e = .returned (.bool true) ∧ Below W.heap.size W w' := by
  by_cases h1 : 300 < n
  · have hbi : (300 : Int) < (n : Int) := by omega
    clear h
    go_enter Try.func5, Try.ntmps5
    go_wp2
    go_ret
    exact ⟨rfl, Below.refl _ _⟩
  · have h1' : (n : Int) ≤ 300 := by omega
    by_cases h2 : 60 < n1
    · have hbi : (60 : Int) < (n1 : Int) := by omega
      clear h
      go_enter Try.func5, Try.ntmps5
      go_wp2
      go_ret
      exact ⟨rfl, Below.refl _ _⟩
    · have h2' : (n1 : Int) ≤ 60 := by omega
      have h3 : 3000 < a2 := by omega
      clear h
      go_enter Try.func5, Try.ntmps5
      go_wp2
      go_ret
      exact ⟨rfl, Below.refl _ _⟩

theorem far {wr w5 : World} {o : Obj} {row : Option Nat} {b1 o1 q : Nat} {v : Value} (h : wr.cell? ⟨b1, o1, none⟩ = some v) (hg : ((wr.drewN q).alloc o).grownBy w5 row) (hr : some b1 ≠ row) : w5.cell? ⟨b1, o1, none⟩ = some v :=
  (hg.cell_far ⟨b1, o1, none⟩ (by have := lt_of_cell h; simp; omega) hr).trans (old_cell o h)

theorem told_more {W wr w5 : World} {r v' : Value} {k : Nat} {R : List (Int × Int)} {x c : Int} (hO : wr.ownsRow W.heap.size 56 2 r k (cells (R.take k))) (hB : Below W.heap.size W wr) (hT : R.take (k + 1) = R.take k ++ [(x, c)])
    (hg : ((wr.drewN 1).alloc (.cells #[.int .i64 x, .int .i64 c] 56)).grownBy w5 r.ownBlock) (hO' : w5.ownsRow W.heap.size 56 2 v' (k + 1) (cells (R.take k) ++ [.int .i64 x, .int .i64 c])) :
    w5.ownsRow W.heap.size 56 2 v' (k + 1) (cells (R.take (k + 1))) ∧ Below W.heap.size W w5 := by
  refine ⟨by rw [hT, cells_snoc]; exact hO', ?_⟩
  have hs := hB.size
  exact ((below_drewN hB 1).alloc (by simpa using hs) _).grown hg (by simp; omega) (fun j e => (hO.lt j e).1)

set_option maxRecDepth 100000 in
set_option maxHeartbeats 4000000 in
theorem good {ao : Option Addr} {n cap b off : Nat} {L : List Int} {W : World} (hS : Seen (fun x => .int .i64 x) W ao cap b off L) (hn : n = L.length) (hz : ao = none → n = 0 ∧ cap = 0)
    {ao1 : Option Addr} {n1 cap1 b1 off1 : Nat} {R : List (Int × Int)} (hS1 : SeenR W ao1 cap1 b1 off1 R) (hn1 : n1 = R.length) (a2 : Int) (h0 : -9223372036854775808 ≤ a2) (h1 : n ≤ 300) (h2 : n1 ≤ 60) (h3 : a2 ≤ 3000) :
    Calls Try.prog 5 #[.slice ao n cap, .slice ao1 n1 cap1, .int .i64 a2] W fun e w' => e = .returned (.bool true) ∧ Below W.heap.size W w' := by
  obtain ⟨i0, hi0, hz0, hz1, hz2⟩ := info_parts Unpack.infoInt
  obtain ⟨j0, hj0, hy0, hy1, hy2⟩ := info_parts PackInt.info
  have HS : Hid (Seen (fun x => .int .i64 x) W ao cap b off L) := hS
  have HN : Hid (n = L.length) := hn
  have HZ : Hid (ao = none → n = 0 ∧ cap = 0) := hz
  have HS1 : Hid (SeenR W ao1 cap1 b1 off1 R) := hS1
  have HN1 : Hid (n1 = R.length) := hn1
  have h1' : (n : Int) ≤ 300 := by omega
  have h2' : (n1 : Int) ≤ 60 := by omega
  clear hS hn hz hS1 hn1
  have HW : Hid ((W.alloc (.cells #[] 3)).ownsRow W.heap.size 3 1 (.slice (some ⟨W.heap.size, 0, none⟩) 0 0) 0 []) := World.ownsRow_made W #[] 0 (Nat.le_refl _) (by decide) rfl
  go_enter Try.func5, Try.ntmps5
  go_wp2_with (first
    | (at_builtin; refine append_any _ rfl (.tmp 28) (.tmp 29) 29 rfl W.heap.size 3 i0 (.int .i64 0) 1 8 Try.underlying29 hi0 hz0 hz1 hz2 rfl (by decide) _ 0 [] rfl HW.out ao n cap (L.map fun x => Value.int .i64 x) rfl (by rw [List.length_map, ← HN.out, Nat.mul_one]) HZ.out (src_cells HS.out ((Below.refl _ W).alloc (Nat.le_refl _) _)) (by intro v hv; obtain ⟨x, _, rfl⟩ := List.mem_map.1 hv; rfl) (by unfold maxLen; omega) (by omega) (by simp) ?_; intro v1 w1 hown1 hgrow1; simp only [Nat.zero_add, List.nil_append] at hown1; obtain ⟨ao2, cap2, g2, rfl, hS2, hg2⟩ := Seen.ofRow hown1 HN.out; have HS2 : Hid (Seen (fun x => .int .i64 x) w1 ao2 cap2 g2 0 L) := hS2; have HB1 : Hid (Below W.heap.size W w1) := ((Below.refl _ W).alloc (Nat.le_refl _) _).grown hgrow1 (by simp) (fun k e => by have := (HW.out.lt k e).1; omega); clear hown1 hgrow1 hS2)
    | (go_at_call 23; fail))
  refine (Pack L _ cap2 g2 0 _ HS2.out (by rw [← HN.out]; omega)).mono ?_
  rintro e w2 ⟨v2, rfl, hO2, hB2⟩
  obtain ⟨ao3, cap3, g3, rfl, hR3, hg3⟩ := SeenR.ofRow hO2 rfl
  have HB2 : Hid (Below W.heap.size W w2) := HB1.out.trans (hB2.mono HB1.out.size)
  have HR3 : Hid (SeenR w2 ao3 cap3 g3 0 (runs L)) := hR3
  clear hO2 hB2 hR3
  go_wp2_with (go_at_call 24; fail)
  refine (RPack L n ao cap b off _ (HS.out.below HB2.out) HN.out (by omega)).mono ?_
  rintro e w3 ⟨v3, rfl, hO3, hB3⟩
  obtain ⟨ao4, cap4, g4, rfl, hR4, hg4⟩ := SeenR.ofRow hO3 rfl
  have HB3 : Hid (Below W.heap.size W w3) := HB2.out.trans (hB3.mono HB2.out.size)
  have HR3' : Hid (SeenR w3 ao3 cap3 g3 0 (runs L)) := HR3.out.below hB3
  have HR4 : Hid (SeenR w3 ao4 cap4 g4 0 (runs L)) := hR4
  obtain ⟨m, hm⟩ : ∃ m, m = (runs L).length := ⟨_, rfl⟩
  have hm3 : m ≤ 300 := by rw [hm]; exact Nat.le_trans (good_runs L).len (by rw [← HN.out]; exact h1)
  have HM : Hid (m = (runs L).length) := hm
  rw [← hm]
  clear hO3 hB3 hR4 HR3 hm HB1 HB2 HS2 HW
  go_wp2
  go_loopw [9] (fun v wr => ∃ k q : Nat, k ≤ m ∧ v = .int .i64 (k : Int) ∧ wr = w3.drewN q) (fun v _ => m - (intOf v).toNat)
  case atStart => exact ⟨0, 0, by omega, rfl, rfl⟩
  case round =>
    obtain ⟨k, q, hk2, rfl, rfl⟩ := hrel
    by_cases hl : k < m
    · obtain ⟨p, hp⟩ : ∃ p, (runs L)[k]? = some p := ⟨_, List.getElem?_eq_getElem (by rw [← HM.out]; exact hl)⟩
      have hne : runs L ≠ [] := fun e => by rw [e] at hp; cases hp
      have e1 := HR3'.out.at_ hne
      have e2 := HR4.out.at_ hne
      subst e1
      subst e2
      obtain ⟨x, c⟩ := p
      obtain ⟨c0, c1⟩ := HR3'.out.cell k _ hp
      obtain ⟨c2, c3⟩ := HR4.out.cell k _ hp
      simp only [Nat.zero_add] at c0 c1 c2 c3
      have k0 : (0 : Int) ≤ (k : Int) := by omega
      have k1 : (k : Int) < (m : Int) := by omega
      have hxx : (x != x) = false := by simp
      clear hp hne
      go_wp2
      go_quiet (fail)
      go_wp2
      go_roundw
      case rel => exact ⟨k + 1, _, by omega, by go_num, rfl⟩
      case measure => simp [intOf]; omega
    · have hkm : (m : Int) ≤ (k : Int) := by omega
      have HBq : Hid (Below W.heap.size W (w3.drewN q)) := below_drewN HB3.out q
      go_wp2
      go_loopw [10, 11] (fun v i wr => ∃ k : Nat, k ≤ n1 ∧ i = .int .i64 (k : Int) ∧ wr.ownsRow W.heap.size 56 2 v k (cells (R.take k)) ∧ Below W.heap.size W wr) (fun _ i _ => n1 - (intOf i).toNat)
      case atStart => exact ⟨0, by omega, rfl, World.ownsRow_nil _ _ _ _, HBq.out⟩
      case round =>
        obtain ⟨k, hk, rfl, hO, hB⟩ := hrel
        have HO : Hid (wr.ownsRow W.heap.size 56 2 u10 k (cells (R.take k))) := hO
        have HB : Hid (Below W.heap.size W wr) := hB
        have hsz := hB.size
        clear HBq
        by_cases hl : k < n1
        · obtain ⟨p, hp⟩ : ∃ p, R[k]? = some p := ⟨_, List.getElem?_eq_getElem (by rw [← HN1.out]; exact hl)⟩
          have hne : R ≠ [] := fun e => by rw [e] at hp; cases hp
          have hao := HS1.out.at_ hne
          subst hao
          have hbw := HS1.out.lt hne
          obtain ⟨x, c⟩ := p
          have c0 : wr.cell? ⟨b1, off1 + k * 2, none⟩ = some (.int .i64 x) := (hB.cell (p := ⟨b1, off1 + k * 2, none⟩) hbw).trans (HS1.out.cell k _ hp).1
          have c1 : wr.cell? ⟨b1, off1 + k * 2 + 1, none⟩ = some (.int .i64 c) := (hB.cell (p := ⟨b1, off1 + k * 2 + 1, none⟩) hbw).trans (HS1.out.cell k _ hp).2
          have k0 : (0 : Int) ≤ (k : Int) := by omega
          have k1 : (k : Int) < (n1 : Int) := by omega
          have HT : Hid (R.take (k + 1) = R.take k ++ [(x, c)]) := by show _ = _; rw [List.take_add_one, hp]; rfl
          have HNE : Hid (some b1 ≠ u10.ownBlock) := fun e => by have := (HO.out.lt b1 e.symm).1; omega
          clear hO hB hp hne
          go_wp2
          go_region_held_law (fun w' => w'.cell? ⟨b1, off1 + k * 2, none⟩ = some (.int .i64 x) ∧ w'.cell? ⟨b1, off1 + k * 2 + 1, none⟩ = some (.int .i64 c)) (first | assumption | go_keep)
            (first
              | (refine step_append_lies _ rfl (.tmp 75) (.tmp 87) 52 rfl W.heap.size 56 j0 _ 2 16 Try.underlying52 hj0 hy0 hy1 hy2 rfl (by decide) _ k _ rfl (World.ownsRow.alloc (show World.ownsRow _ _ _ _ _ _ _ from HO.out) _) _ 1 1 [_, _] rfl rfl (cell_two_new _ _ _ _) (by simp [Value.oneCell']) (by decide) (by unfold maxLen; omega) (by omega) (by simp; omega) _ rfl ?_; intro g5 cap5 w5 hown5 hgrow5 hat5 hlt5; have HO5 : Hid (w5.ownsRow _ _ _ _ _ _) := hown5; have HG5 : Hid (World.grownBy _ w5 _) := hgrow5; have hS5 : w5.cell? ⟨b1, off1 + k * 2, none⟩ = some (.int .i64 x) ∧ w5.cell? ⟨b1, off1 + k * 2 + 1, none⟩ = some (.int .i64 c) := ⟨far c0 (by exact hgrow5) HNE.out, far c1 (by exact hgrow5) HNE.out⟩; clear hown5 hgrow5 hat5))
          obtain ⟨r1, r2⟩ := told_more HO.out HB.out HT.out (by exact HG5.out) (by exact HO5.out)
          go_wp2
          go_roundw
          case rel => exact ⟨k + 1, by omega, by go_num, r1, r2⟩
          case measure => simp [intOf]; omega
        · have hkn : k = n1 := by omega
          subst hkn
          have hO' : wr.ownsRow W.heap.size 56 2 u10 k (cells R) := by rw [HN1.out, List.take_length] at hO; rw [HN1.out]; exact hO
          obtain ⟨ao5, cap5, g5, rfl, hR5, hg5⟩ := SeenR.ofRow hO' HN1.out
          have HR5 : Hid (SeenR wr ao5 cap5 g5 0 R) := hR5
          obtain ⟨E, hE⟩ : ∃ E, runE (Unpack.roomOf a2) 0 R = E := ⟨_, rfl⟩
          have HE : Hid (runE (Unpack.roomOf a2) 0 R = E) := hE
          have hEE : (E == E) = true := beq_self_eq_true E
          have HS1' : Hid (SeenR wr ao1 cap1 b1 off1 R) := HS1.out.below HB.out
          have hkR : R.length = k := HN1.out.symm
          rw [hkR]
          clear hO hB hO' hR5 HO hkR
          by_cases hE0 : E = 0
          · subst hE0
            have hNb : runN R ≤ 100000 := by
              obtain ⟨hc, hb⟩ := runE_ok hE
              by_cases hRn : R = []
              · subst hRn; simp [runN]
              · have := hb hRn
                by_cases hneg : a2 < 0
                · rw [Unpack.roomOf_neg hneg] at this; omega
                · rw [Unpack.roomOf_pos hneg] at this; omega
            have HNb : Hid (runN R ≤ 100000) := hNb
            clear hE hNb
            go_wp2_with (go_at_call 25; fail)
            refine (Unpack.Unpack_yes R k a2 _ cap5 g5 0 _ HR5.out HN1.out (by omega) HE.out HNb.out).mono ?_
            rintro e w6 ⟨g6, c6, rfl, hO6, hB6⟩
            have HS6 : Hid (Seen (fun x => .int .i64 x) w6 (some ⟨g6, 0, none⟩) c6 g6 0 (expand R)) := seen_own hO6 rfl
            have HB6 : Hid (Below W.heap.size W w6) := HB.out.trans (hB6.mono HB.out.size)
            have HS1'' : Hid (SeenR w6 ao1 cap1 b1 off1 R) := HS1.out.below HB6.out
            clear hO6 hB6
            go_wp2_with (go_at_call 26; fail)
            refine (RUnpack R k a2 _ cap1 b1 off1 _ HS1''.out HN1.out h0 (by omega) (by omega)).mono ?_
            rintro e w7 ⟨v7, rfl, hO7, hB7⟩
            rw [HE.out]
            rw [outL_yes HE.out] at hO7
            obtain ⟨ao8, cap8, g8, rfl, hS8, hg8⟩ := Seen.ofRow hO7 rfl
            have HS8 : Hid (Seen (fun x => .int .i64 x) w7 ao8 cap8 g8 0 (expand R)) := hS8
            have HS7 : Hid (Seen (fun x => .int .i64 x) w7 (some ⟨g6, 0, none⟩) c6 g6 0 (expand R)) := HS6.out.below hB7
            have HB7 : Hid (Below W.heap.size W w7) := HB6.out.trans (hB7.mono HB6.out.size)
            clear hO7 hB7 hS8
            go_wp2_with (first
              | (go_at_call 17; refine (Same (expand R) _ _ _ _ c6 cap8 g6 g8 0 0 _ HS7.out HS8.out rfl rfl).mono ?_; rintro e w9 ⟨rfl, q9, hq⟩; subst w9)
              | (go_at_call 15; refine (awake3 _).mono ?_; rintro e w4 ⟨rfl, hb4⟩))
            go_ret
            exact ⟨rfl, (below_drewN HB7.out _).trans (hb4.mono (by simpa using HB7.out.size))⟩
          · clear hE
            have HE0 : Hid (E ≠ 0) := hE0
            clear hE0
            go_wp2_with (go_at_call 25; fail)
            refine (Unpack.Unpack_no R k a2 E _ cap5 g5 0 _ HR5.out HN1.out (by omega) HE.out HE0.out).mono ?_
            rintro e w6 ⟨rfl, hB6⟩
            have HB6 : Hid (Below W.heap.size W w6) := HB.out.trans (hB6.mono HB.out.size)
            have HS1'' : Hid (SeenR w6 ao1 cap1 b1 off1 R) := HS1.out.below HB6.out
            clear hB6
            go_wp2_with (go_at_call 26; fail)
            refine (RUnpack R k a2 _ cap1 b1 off1 _ HS1''.out HN1.out h0 (by omega) (by omega)).mono ?_
            rintro e w7 ⟨v7, rfl, hO7, hB7⟩
            rw [HE.out]
            rw [outL_no (by rw [HE.out]; exact HE0.out)] at hO7
            obtain ⟨ao8, cap8, g8, rfl, hS8, hg8⟩ := Seen.ofRow hO7 rfl
            have HS8 : Hid (Seen (fun x => .int .i64 x) w7 ao8 cap8 g8 0 []) := hS8
            have HB7 : Hid (Below W.heap.size W w7) := HB6.out.trans (hB7.mono HB6.out.size)
            clear hO7 hB7 hS8
            go_wp2_with (first
              | (go_at_call 17; refine (Same [] 0 0 _ _ 0 cap8 0 g8 0 0 _ (Seen.nil _ _ _ (by omega) 0 0) HS8.out rfl rfl).mono ?_; rintro e w9 ⟨rfl, q9, hq⟩; subst w9)
              | (go_at_call 15; refine (awake3 _).mono ?_; rintro e w4 ⟨rfl, hb4⟩))
            go_ret
            exact ⟨rfl, (below_drewN HB7.out _).trans (hb4.mono (by simpa using HB7.out.size))⟩

theorem walk {ao : Option Addr} {n cap b off : Nat} {L : List Int} {W : World} (hS : Seen (fun x => .int .i64 x) W ao cap b off L) (hn : n = L.length) (hz : ao = none → n = 0 ∧ cap = 0)
    {ao1 : Option Addr} {n1 cap1 b1 off1 : Nat} {R : List (Int × Int)} (hS1 : SeenR W ao1 cap1 b1 off1 R) (hn1 : n1 = R.length) (_ : ao1 = none → n1 = 0 ∧ cap1 = 0) (a2 : Int) (w2 : (Lit.int .i64 a2).wf = true) :
    Calls Try.prog 5 #[.slice ao n cap, .slice ao1 n1 cap1, .int .i64 a2] W fun e w' => e = .returned (.bool true) ∧ Below W.heap.size W w' := by
  have hb := bounds_i64 w2
  have m1 := hS.max
  have l1 := hS.le
  have m2 := hS1.max
  have l2 := hS1.le
  by_cases h : 300 < n ∨ 60 < n1 ∨ 3000 < a2
  · exact great a2 (by omega) (by omega) h
  · exact good hS hn hz hS1 hn1 a2 hb.1 (by omega) (by omega) (by omega)

end Go.Proofs.Ytneapdegjofodaa.cellRuns
