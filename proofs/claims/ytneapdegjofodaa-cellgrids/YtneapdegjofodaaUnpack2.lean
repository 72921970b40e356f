/- What Unpack of runs of int does, where nothing is wrong. -/
import Derived.Test.YtneapdegjofodaaUnpack
import Derived.OneCell
namespace Go.Proofs.Ytneapdegjofodaa.Unpack
open Go.RowKit

theorem expand_take {R : List (Int × Int)} {k : Nat} {p : Int × Int} (hp : R[k]? = some p) : expand (R.take (k + 1)) = expand (R.take k) ++ List.replicate p.2.toNat p.1 := by
  rw [List.take_add_one, hp]; exact expand_snoc _ _
theorem expand_take_le (R : List (Int × Int)) (k : Nat) : (expand (R.take k)).length ≤ (expand R).length := by
  have : expand R = expand (R.take k) ++ expand (R.drop k) := by
    have e : R = R.take k ++ R.drop k := (List.take_append_drop k R).symm
    conv => lhs; rw [e]
    unfold expand
    rw [List.flatMap_append]
  rw [this]; simp

/-- One thing more in the row. -/
theorem unpack_round {w wr w1 : World} {g Bx m N T2 : Nat} {x c : Int} {xs : List Int} (hg : w.heap.size ≤ g) (hO : wr.ownsRow w.heap.size 3 1 (.slice (some ⟨g, 0, none⟩) m N) m (xs.map fun x => .int .i64 x)) (hB : Below w.heap.size w wr)
    (hx : wr.heap[Bx]? = some (.cells #[.int .i64 x, .int .i64 c] T2 (0, 0))) (hT : T2 ≠ 3)
    (hgr : (wr.alloc (.cells #[.int .i64 x] 3)).grownBy w1 (some g)) (hO' : w1.ownsRow w.heap.size 3 1 (.slice (some ⟨g, 0, none⟩) (m + 1) N) (m + 1) ((xs.map fun x => .int .i64 x) ++ [.int .i64 x])) :
    w1.ownsRow w.heap.size 3 1 (.slice (some ⟨g, 0, none⟩) (m + 1) N) (m + 1) ((xs ++ [x]).map fun x => .int .i64 x) ∧ Below w.heap.size w w1 ∧ w1.heap[Bx]? = some (.cells #[.int .i64 x, .int .i64 c] T2 (0, 0)) := by
  have hlt : Bx < wr.heap.size := (Array.getElem?_eq_some_iff.1 hx).1
  refine ⟨by rw [List.map_append]; exact hO', (hB.alloc hB.size _).grown hgr (by simp; have := hB.size; omega) (fun j e => by injection e; omega), ?_⟩
  have hne : Bx ≠ g := by
    intro e
    subst e
    rcases hO.2 with ⟨h', _⟩ | ⟨g', cap', cur, h', _, hh, _⟩
    · cases h'
    · injection h' with h1; injection h1 with h1; injection h1 with h1; subst h1
      rw [hx] at hh; injection hh with hh; injection hh with _ h2; exact hT h2
  rw [hgr.block Bx (by simp; omega) (by simp; exact hne), Below.heap_alloc _ _ _ hlt]
  exact hx

set_option maxRecDepth 100000 in
set_option maxHeartbeats 2000000 in
theorem Unpack_pos (R : List (Int × Int)) (n : Nat) (most : Int) (ao : Option Addr) (cap b off : Nat) (w : World) (h : SeenR w ao cap b off R) (hn : n = R.length) (h0 : 0 ≤ most) (h1 : most ≤ 9223372036854775807) (hE : runE most 0 R = 0) (hN : runN R ≤ 100000) :
    Calls Try.prog 25 #[.slice ao n cap, .int .i64 most] w fun e w' => ∃ g c, e = .returned (.tuple #[.slice (some ⟨g, 0, none⟩) (expand R).length c, .int .i64 0]) ∧
      w'.ownsRow w.heap.size 3 1 (.slice (some ⟨g, 0, none⟩) (expand R).length c) (expand R).length ((expand R).map fun x => .int .i64 x) ∧ Below w.heap.size w w' := by
  obtain ⟨i0, hi0, hz0, hz1, hz2⟩ := info_parts infoInt
  obtain ⟨hc, _⟩ := runE_ok hE
  obtain ⟨N, hNe⟩ : ∃ N, N = (expand R).length := ⟨_, rfl⟩
  have hNN : rowN most R = (N : Int) := by unfold rowN; rw [if_pos hE, runN_expand hc, hNe]
  have hN2 : N ≤ 100000 := by rw [runN_expand hc] at hN; omega
  have HS : Hid (SeenR w ao cap b off R) := h
  have HN : Hid (n = R.length) := hn
  have HE : Hid (runE most 0 R = 0 ∧ rowN most R = (N : Int)) := ⟨hE, hNN⟩
  have HC : Hid (Counted R) := hc
  have HNe : Hid (N = (expand R).length) := hNe
  have hmax := h.max
  have hle := h.le
  rw [← hn] at hle
  rw [← hNe]
  clear h hn hE hc hNe hNN hN
  go_enter Try.func25, Try.ntmps25
  go_wp2_with (go_at_call 36; fail)
  refine (rowLength R n most ao cap b off _ HS.out HN.out h0 h1).mono ?_
  rintro e w1 ⟨rfl, hB1⟩
  rw [HE.out.1, HE.out.2]
  have HB1 : Hid (Below w.heap.size w w1) := hB1
  clear hB1
  go_wp2_with (at_make; refine wpList_make_own _ rfl _ _ 29 rfl w.heap.size 3 i0 (.int .i64 0) 1 Try.underlying29 hi0 hz0 hz1 _ _ _ N rfl rfl rfl (by rw [hz2]; omega) (by unfold maxLen; omega) HB1.out.size ?_; intro w2 hown hgrow)
  have HB2 : Hid (Below w.heap.size w w2) := HB1.out.grown hgrow HB1.out.size (fun _ e => by cases e)
  have HO2 : Hid (w2.ownsRow w.heap.size 3 1 (.slice (some ⟨w1.heap.size, 0, none⟩) 0 N) 0 []) := hown
  have hg := HB1.out.size
  clear hown hgrow
  go_loopw [8, 25] (fun v i wr => ∃ (k m : Nat), k ≤ n ∧ m = (expand (R.take k)).length ∧ i = .int .i64 (k : Int) ∧ v = .slice (some ⟨w1.heap.size, 0, none⟩) m N ∧
      wr.ownsRow w.heap.size 3 1 (.slice (some ⟨w1.heap.size, 0, none⟩) m N) m ((expand (R.take k)).map fun x => .int .i64 x) ∧ Below w.heap.size w wr)
    (fun _ i _ => n - (intOf i).toNat)
  case atStart => exact ⟨0, 0, by omega, rfl, rfl, rfl, HO2.out, HB2.out⟩
  case round =>
    obtain ⟨k, m, hk, hm, rfl, rfl, hO, hB⟩ := hrel
    obtain ⟨W0, rfl⟩ : ∃ W0, W0 = wr := ⟨_, rfl⟩
    have HO : Hid (W0.ownsRow w.heap.size 3 1 (.slice (some ⟨w1.heap.size, 0, none⟩) m N) m ((expand (R.take k)).map fun x => .int .i64 x)) := hO
    have HB : Hid (Below w.heap.size w W0) := hB
    have HM : Hid (m = (expand (R.take k)).length) := hm
    have hsz := hB.size
    by_cases hl : k < n
    · obtain ⟨p, hp⟩ : ∃ p, R[k]? = some p := ⟨_, List.getElem?_eq_getElem (by rw [← HN.out]; exact hl)⟩
      have hne : R ≠ [] := fun e => by rw [e] at hp; cases hp
      have hao := HS.out.at_ hne
      subst hao
      have hbw := HS.out.lt hne
      obtain ⟨x, c⟩ := p
      have hc1 : 1 ≤ c := HC.out (x, c) (List.mem_of_getElem? hp)
      have c0 : W0.cell? ⟨b, off + k * 2, none⟩ = some (.int .i64 x) := (hB.cell (p := ⟨b, off + k * 2, none⟩) hbw).trans (HS.out.cell k _ hp).1
      have c1 : W0.cell? ⟨b, off + k * 2 + 1, none⟩ = some (.int .i64 c) := (hB.cell (p := ⟨b, off + k * 2 + 1, none⟩) hbw).trans (HS.out.cell k _ hp).2
      obtain ⟨d, rfl⟩ := Int.eq_ofNat_of_zero_le (show 0 ≤ c by omega)
      have et := expand_take hp
      have hmd : m + d ≤ N := by
        have := expand_take_le R (k + 1)
        rw [et] at this
        simp at this
        rw [HNe.out, hm]; omega
      have HT : Hid (expand (R.take (k + 1)) = expand (R.take k) ++ List.replicate d x) := et
      clear hO hB hp hne hm et
      go_wp2
      go_loopw [8, 31] (fun v i wi => ∃ (j mj : Nat), j ≤ d ∧ mj = m + j ∧ i = .int .i64 (j : Int) ∧ v = .slice (some ⟨w1.heap.size, 0, none⟩) mj N ∧
          wi.ownsRow w.heap.size 3 1 (.slice (some ⟨w1.heap.size, 0, none⟩) mj N) mj ((expand (R.take k) ++ List.replicate j x).map fun x => .int .i64 x) ∧ Below w.heap.size w wi ∧
          wi.heap[W0.heap.size]? = some (.cells #[.int .i64 x, .int .i64 (d : Int)] 56 (0, 0)))
        (fun _ i _ => d - (intOf i).toNat)
      case atStart => exact ⟨0, m, by omega, rfl, rfl, rfl, by simpa using HO.out.alloc _, HB.out.alloc hsz _, heap_alloc_new W0 _⟩
      case round =>
        obtain ⟨j, mj, hj, hmj, rfl, rfl, hOi, hBi, hXi⟩ := hrel
        have HOi : Hid (wr.ownsRow w.heap.size 3 1 (.slice (some ⟨w1.heap.size, 0, none⟩) mj N) mj ((expand (R.take k) ++ List.replicate j x).map fun x => .int .i64 x)) := hOi
        have HBi : Hid (Below w.heap.size w wr) := hBi
        have HXi : Hid (wr.heap[W0.heap.size]? = some (.cells #[.int .i64 x, .int .i64 (d : Int)] 56 (0, 0))) := hXi
        have cx : wr.cell? ⟨W0.heap.size, 0, none⟩ = some (.int .i64 x) := cell_of_row _ _ _ _ _ _ hXi
        have HMj : Hid (mj = m + j) := hmj
        have hmjN : mj ≤ m + d := by omega
        have hsi := hBi.size
        clear hOi hBi hXi hmj
        by_cases hjl : j < d
        · have hmj2 : mj + 1 ≤ N := by have := HMj.out; omega
          go_wp2_with (at_builtin; refine wpList_append_fits _ rfl _ _ 29 rfl w.heap.size 3 i0 1 Try.underlying29 hi0 hz1 w1.heap.size mj N _ rfl (World.ownsRow.alloc (show World.ownsRow _ _ _ _ _ _ _ from HOi.out) _) _ 1 1 [_] rfl rfl (cell_one_new _ _ _) (by simp [Value.oneCell']) hmj2 ?_; intro w3 hown3 hgrow3)
          obtain ⟨r1, r2, r3⟩ := unpack_round hg HOi.out HBi.out HXi.out (by decide) hgrow3 hown3
          go_roundw
          case rel => exact ⟨j + 1, mj + 1, by omega, by have := HMj.out; omega, by go_num, rfl, by rw [List.replicate_succ', ← List.append_assoc]; exact r1, r2, r3⟩
          case measure => simp [intOf]; omega
        · have hjd : j = d := by omega
          subst hjd
          have HOj : Hid (wr.ownsRow w.heap.size 3 1 (.slice (some ⟨w1.heap.size, 0, none⟩) mj N) mj ((expand (R.take (k + 1))).map fun x => .int .i64 x)) := by rw [HT.out]; exact HOi.out
          have HMk : Hid (mj = (expand (R.take (k + 1))).length) := by
            show _ = _
            rw [HT.out, HMj.out, HM.out]; simp
          go_wp2
          go_roundw
          case rel => exact ⟨k + 1, mj, by omega, HMk.out, by go_num, rfl, HOj.out, HBi.out⟩
          case measure => simp [intOf]; omega
    · have hkn : k = n := by omega
      subst hkn
      have hmN : m = N := by rw [hm, HNe.out, HN.out, List.take_length]
      have HOj : Hid (W0.ownsRow w.heap.size 3 1 (.slice (some ⟨w1.heap.size, 0, none⟩) N N) N ((expand R).map fun x => .int .i64 x)) := by
        have := HO.out
        rw [hmN, HN.out, List.take_length] at this
        exact this
      subst hmN
      clear hm hO hB
      go_wp2
      go_ret2
      exact ⟨_, _, rfl, HOj.out, HB.out⟩

set_option maxRecDepth 100000 in
set_option maxHeartbeats 2000000 in
theorem Unpack_neg (most : Int) (ao : Option Addr) (cap b off : Nat) (w : World) (h : SeenR w ao cap b off []) (hm : most < 0) :
    Calls Try.prog 25 #[.slice ao 0 cap, .int .i64 most] w fun e w' => ∃ g c, e = .returned (.tuple #[.slice (some ⟨g, 0, none⟩) 0 c, .int .i64 0]) ∧
      w'.ownsRow w.heap.size 3 1 (.slice (some ⟨g, 0, none⟩) 0 c) 0 [] ∧ Below w.heap.size w w' := by
  obtain ⟨i0, hi0, hz0, hz1, hz2⟩ := info_parts infoInt
  have HS : Hid (SeenR w ao cap b off []) := h
  have HE : Hid (runE 0 0 [] = 0 ∧ rowN 0 [] = 0) := ⟨rfl, rfl⟩
  clear h
  go_enter Try.func25, Try.ntmps25
  go_wp2_with (go_at_call 36; fail)
  refine (rowLength [] 0 0 ao cap b off _ HS.out rfl (by omega) (by omega)).mono ?_
  rintro e w1 ⟨rfl, hB1⟩
  rw [HE.out.1, HE.out.2]
  have HB1 : Hid (Below w.heap.size w w1) := hB1
  clear hB1
  go_wp2_with (at_make; refine wpList_make_own _ rfl _ _ 29 rfl w.heap.size 3 i0 (.int .i64 0) 1 Try.underlying29 hi0 hz0 hz1 _ _ _ 0 rfl rfl rfl (by simp) (by simp) HB1.out.size ?_; intro w2 hown hgrow)
  have HB2 : Hid (Below w.heap.size w w2) := HB1.out.grown hgrow HB1.out.size (fun _ e => by cases e)
  have HO2 : Hid (w2.ownsRow w.heap.size 3 1 (.slice (some ⟨w1.heap.size, 0, none⟩) 0 0) 0 []) := hown
  clear hown hgrow
  go_loopw [8, 25] (fun v i wr => i = .int .i64 0 ∧ v = .slice (some ⟨w1.heap.size, 0, none⟩) 0 0 ∧ wr = w2) (fun _ _ _ => 0)
  case atStart => exact ⟨rfl, rfl, rfl⟩
  case round =>
    obtain ⟨rfl, rfl, rfl⟩ := hrel
    go_wp2
    go_ret2
    exact ⟨_, _, rfl, HO2.out, HB2.out⟩

theorem Unpack_yes (R : List (Int × Int)) (n : Nat) (most : Int) (ao : Option Addr) (cap b off : Nat) (w : World) (h : SeenR w ao cap b off R) (hn : n = R.length) (h1 : most ≤ 9223372036854775807) (hE : runE (roomOf most) 0 R = 0) (hN : runN R ≤ 100000) :
    Calls Try.prog 25 #[.slice ao n cap, .int .i64 most] w fun e w' => ∃ g c, e = .returned (.tuple #[.slice (some ⟨g, 0, none⟩) (expand R).length c, .int .i64 0]) ∧
      w'.ownsRow w.heap.size 3 1 (.slice (some ⟨g, 0, none⟩) (expand R).length c) (expand R).length ((expand R).map fun x => .int .i64 x) ∧ Below w.heap.size w w' := by
  by_cases hm : most < 0
  · rw [roomOf_neg hm] at hE
    have hR : R = [] := by
      match R, hE with
      | [], _ => rfl
      | p :: R, hE =>
        simp only [runE] at hE
        split at hE
        · omega
        · split at hE
          · omega
          · omega
    subst hR
    have hn' : n = 0 := hn
    subst hn'
    exact Unpack_neg most ao cap b off w h hm
  · rw [roomOf_pos hm] at hE
    exact Unpack_pos R n most ao cap b off w h hn (by omega) h1 hE hN

end Go.Proofs.Ytneapdegjofodaa.Unpack
