/- What Pack of rows of byte does. -/
import Derived.Test.YtneapdegjofodaaSeen
import Derived.Test.YtneapdegjofodaaRuns
import Derived.Test.YtneapdegjofodaaRows
import Derived.ProofKit
import Derived.OpenShut
import Derived.Handy
import Derived.WalkLawsBesides
import Derived.Deep.RegionHeld3
import Derived.BigQuiet
import Derived.Deep.QuietTactic
import Derived.Maps.AppendAt
import Derived.WalkSmall
import Derived.Recover
namespace Go.Proofs.Ytneapdegjofodaa.PackByte
open Go.RowKit

theorem info : (Try.prog.info? 80).map (fun i => (i.zero, i.size, i.bytes)) = some (some (.agg #[.int .u8 0, .int .i64 0]), 2, 16) := by kernel_rfl

/-- What is deferred finds no panic. -/
theorem catch_idle (w : World) :
    CallsD Try.prog 42 #[] .returning w fun e u' w' => e = .returned (.tuple #[]) ∧ u' = .returning ∧ w' = w := by
  refine callsD_of_wpS Try.func42 rfl fun c₀ cs hu => ?_
  apply wpS_region
  simp [wpOpsS, go_sem, recoverD, hu, Try.ntmps42, bodyPostS, results, Try.results42]
  cases c₀
  simp_all

set_option maxRecDepth 100000 in
set_option maxHeartbeats 1000000 in
/-- How many of a row, from its first on, are like the first. -/
theorem alike (x : Int) (xs : List Int) (n len : Nat) (ao : Option Addr) (cap b off : Nat) (w : World) (h : Seen (fun x => .int .u8 x) w ao cap b off (x :: xs)) (hn1 : 1 ≤ n) (hn2 : n ≤ (x :: xs).length)
    (hx : ∀ j, j < n → (x :: xs)[j]? = some x) (hy : ∀ y, (x :: xs)[n]? = some y → y ≠ x) (hlen : len = (x :: xs).length) :
    Calls Try.prog 40 #[.slice ao len cap] w fun e w' => e = .returned (.int .i64 (n : Int)) ∧ ∃ q, w' = w.drewN q := by
  have hao := h.at_ (by simp)
  subst hao
  have hmax := h.max
  have hle := h.le
  have HL : Hid (len = (x :: xs).length) := hlen
  have HS : Hid (Seen (fun x => .int .u8 x) w (some ⟨b, off, none⟩) cap b off (x :: xs)) := h
  have HX : Hid (∀ j, j < n → (x :: xs)[j]? = some x) := hx
  have HY : Hid (∀ y, (x :: xs)[n]? = some y → y ≠ x) := hy
  have hmf : ∀ (fn : Fn) (first cap : Array Value) (w : World), (Instr.makeFunc fn first cap).run Try.prog w = .ok (.func fn first cap) w := fun _ _ _ _ => rfl
  have cz : w.cell? ⟨b, off, none⟩ = some (.int .u8 x) := by have := h.cell 0 x rfl; simpa using this
  rw [← hlen] at hn2 hle
  clear h hx hy hlen
  go_enter_defers Try.func40, Try.ntmps40
  go_wp2
  go_loopw [2] (fun v wr => ∃ k q : Nat, 1 ≤ k ∧ k ≤ n ∧ v = .int .i64 (k : Int) ∧ wr = w.drewN q) (fun v _ => n - (intOf v).toNat)
  case atStart => exact ⟨1, 0, by omega, hn1, rfl, rfl⟩
  case round =>
    obtain ⟨k, q, hk1, hk, rfl, rfl⟩ := hrel
    have hnl : n ≤ len := hn2
    by_cases hl : k < n
    · have ck : w.cell? ⟨b, off + k, none⟩ = some (.int .u8 x) := HS.out.cell k x (HX.out k hl)
      have hd : decide ((k : Int) < (len : Int)) = true := by rw [decide_eq_true_iff]; omega
      have k0 : (0 : Int) ≤ (k : Int) := by omega
      have k1 : (k : Int) < (len : Int) := by omega
      go_wp2
      go_quiet (fail)
      go_wp2
      go_roundw
      case rel => exact ⟨k + 1, _, by omega, by omega, by go_num, rfl⟩
      case measure => simp [intOf]; omega
    · have hkn : k = n := by omega
      subst hkn
      by_cases hk2 : k < len
      · obtain ⟨y, hy⟩ : ∃ y, (x :: xs)[k]? = some y := ⟨_, List.getElem?_eq_getElem (by rw [← HL.out]; exact hk2)⟩
        have hyx : (y == x) = false := beq_eq_false_iff_ne.2 (HY.out y hy)
        have ck : w.cell? ⟨b, off + k, none⟩ = some (.int .u8 y) := HS.out.cell k y hy
        have hd : decide ((k : Int) < (len : Int)) = true := by rw [decide_eq_true_iff]; omega
        have k0 : (0 : Int) ≤ (k : Int) := by omega
        have k1 : (k : Int) < (len : Int) := by omega
        clear hy
        go_wp2
        go_quiet (fail)
        go_wp2
        refine leaves_cons (f := 42) (args := #[]) (by simp) (by simp [go_sem]) ?_
        refine (catch_idle _).mono ?_
        rintro e u' w'' ⟨rfl, rfl, rfl⟩
        exact ⟨_, results_tmp rfl _ _ _, rfl, _, World.drewN_drewN _ _ _⟩
      · have hd : decide ((k : Int) < (len : Int)) = false := by rw [decide_eq_false_iff_not]; omega
        go_wp2
        go_quiet (fail)
        go_wp2
        refine leaves_cons (f := 42) (args := #[]) (by simp) (by simp [go_sem]) ?_
        refine (catch_idle _).mono ?_
        rintro e u' w'' ⟨rfl, rfl, rfl⟩
        exact ⟨_, results_tmp rfl _ _ _, rfl, _, World.drewN_drewN _ _ _⟩

/-- How long a slice is. -/
def lenOf (v : Value) : Nat := match v with | .slice _ n _ => n | _ => 0

/-- The cells of runs. -/
def cells (R : List (Int × Int)) : List Value := R.flatMap fun p => [.int .u8 p.1, .int .i64 p.2]
theorem cells_snoc (R : List (Int × Int)) (p : Int × Int) : cells (R ++ [p]) = cells R ++ [.int .u8 p.1, .int .i64 p.2] := by simp [cells]
theorem cells_at : ∀ (R : List (Int × Int)) (i : Nat) (p : Int × Int), R[i]? = some p → (cells R)[i * 2]? = some (.int .u8 p.1) ∧ (cells R)[i * 2 + 1]? = some (.int .i64 p.2)
  | [], i, p, h => by cases h
  | q :: R, 0, p, h => by simp at h; subst h; exact ⟨rfl, rfl⟩
  | q :: R, i + 1, p, h => by
    have := cells_at R i p (by simpa using h)
    rw [show (i + 1) * 2 = i * 2 + 2 from by omega]
    exact this
theorem cells_length (R : List (Int × Int)) : (cells R).length = R.length * 2 := by
  induction R with
  | nil => rfl
  | cons p R ih => show (cells R).length + 1 + 1 = _; rw [ih]; simp; omega

/-- A row's first run is so long. -/
theorem first_run (x : Int) (xs : List Int) : ∃ n, 1 ≤ n ∧ n ≤ (x :: xs).length ∧ (∀ j, j < n → (x :: xs)[j]? = some x) ∧ ∀ y, (x :: xs)[n]? = some y → y ≠ x := by
  induction xs with
  | nil => exact ⟨1, by omega, by simp, fun j hj => by (have : j = 0 := by omega); subst this; rfl, fun y h => by simp at h⟩
  | cons z xs ih =>
    by_cases hz : z = x
    · subst hz
      obtain ⟨n, h1, h2, h3, h4⟩ := ih
      refine ⟨n + 1, by omega, by simp at h2 ⊢; omega, fun j hj => ?_, fun y h => h4 y (by simpa using h)⟩
      match j, hj with
      | 0, _ => rfl
      | j + 1, hj => exact h3 j (by omega)
    · exact ⟨1, by omega, by simp, fun j hj => by (have : j = 0 := by omega); subst this; rfl, fun y h => by simp at h; rw [← h]; exact hz⟩

theorem pack_round {l xs : List Int} {x : Int} {w wr w1 : World} {k n m c b off q : Nat} {r v' : Value} (hb : b < w.heap.size) (hk : k < l.length) (hd : l.drop k = x :: xs) (hm : m = l.length - k)
    (hS : Seen (fun x => .int .u8 x) wr (some ⟨b, off + k, none⟩) c b (off + k) (x :: xs)) (hO : wr.ownsRow w.heap.size 80 2 r (runs (l.take k)).length (cells (runs (l.take k))))
    (hT : ∀ x y c, l[k]? = some x → (runs (l.take k)).getLast? = some (y, c) → y ≠ x) (hB : Below w.heap.size w wr) (hn1 : 1 ≤ n) (hn2 : n ≤ m)
    (hn3 : ∀ j, j < n → (x :: xs)[j]? = some x) (hn4 : ∀ y, (x :: xs)[n]? = some y → y ≠ x)
    (hg : ((wr.drewN q).alloc (.cells #[.int .u8 x, .int .i64 (n : Int)] 80)).grownBy w1 r.ownBlock)
    (hO' : w1.ownsRow w.heap.size 80 2 v' ((runs (l.take k)).length + 1) (cells (runs (l.take k)) ++ [.int .u8 x, .int .i64 (n : Int)])) :
    k + n ≤ l.length ∧ m - n = l.length - (k + n) ∧ Seen (fun x => .int .u8 x) w1 (if c = n then some ⟨b, off + k, none⟩ else some ⟨b, off + k + n, none⟩) (c - n) b (off + (k + n)) (l.drop (k + n)) ∧
      w1.ownsRow w.heap.size 80 2 v' (runs (l.take (k + n))).length (cells (runs (l.take (k + n)))) ∧ (∀ x y c, l[k + n]? = some x → (runs (l.take (k + n))).getLast? = some (y, c) → y ≠ x) ∧ Below w.heap.size w w1 := by
  have hx : ∀ j, (x :: xs)[j]? = l[k + j]? := fun j => by rw [← hd, List.getElem?_drop]
  have e : runs (l.take (k + n)) = runs (l.take k) ++ [(x, (n : Int))] := by
    obtain ⟨n', rfl⟩ : ∃ n', n = n' + 1 := ⟨n - 1, by omega⟩
    have := runs_take (l := l) (x := x) (k := k) (n := n') (fun y c h => hT x y c (by rw [← Nat.add_zero k, ← hx 0]; rfl) h) (fun j hj => by rw [← hx j]; exact hn3 j (by omega))
    rw [this]; simp
  have hlen : (x :: xs).length = l.length - k := by rw [← hd, List.length_drop]
  refine ⟨by omega, by omega, ?_, ?_, ?_, ?_⟩
  · have := (hS.tail (n := n) (by omega)).draws q
    rw [show (x :: xs).drop n = l.drop (k + n) from by rw [← hd, List.drop_drop]] at this
    rw [← Nat.add_assoc]
    refine this.kept fun _ => ?_
    have hs := hB.size
    refine (hg.block b (by simp; omega) (fun e => by have := (hO.lt b e.symm).1; omega)).trans ?_
    exact Below.heap_alloc _ _ _ (by simp; omega)
  · rw [e, cells_snoc]
    simpa using hO'
  · intro a y c ha hc
    rw [e] at hc
    simp at hc
    obtain ⟨rfl, _⟩ := hc
    have := hn4 a (by rw [hx n]; exact ha)
    exact fun h => this h.symm
  · have hs := hB.size
    exact ((below_drewN hB q).alloc (by simpa using hs) _).grown hg (by simp; omega) (fun j e => (hO.lt j e).1)

set_option maxRecDepth 100000 in
set_option maxHeartbeats 1000000 in
theorem Pack (l : List Int) (ao : Option Addr) (cap b off : Nat) (w : World) (h : Seen (fun x => .int .u8 x) w ao cap b off l) (hl : l.length ≤ 100000) :
    Calls Try.prog 32 #[.slice ao l.length cap] w fun e w' => ∃ v, e = .returned v ∧ w'.ownsRow w.heap.size 80 2 v (runs l).length (cells (runs l)) ∧ Below w.heap.size w w' := by
  obtain ⟨i0, hi0, hz0, hz1, hz2⟩ := info_parts info
  have HS : Hid (Seen (fun x => .int .u8 x) w ao cap b off l) := h
  clear h
  go_enter Try.func32, Try.ntmps32
  go_wp2
  go_loopw [0, 3] (fun v r wr => ∃ (k : Nat) (a : Option Addr) (c : Nat), k ≤ l.length ∧ v = .slice a (l.length - k) c ∧ Seen (fun x => .int .u8 x) wr a c b (off + k) (l.drop k) ∧
      wr.ownsRow w.heap.size 80 2 r (runs (l.take k)).length (cells (runs (l.take k))) ∧ (∀ x y c, l[k]? = some x → (runs (l.take k)).getLast? = some (y, c) → y ≠ x) ∧ Below w.heap.size w wr)
    (fun v _ _ => lenOf v)
  case atStart => exact ⟨0, ao, cap, by omega, rfl, by simpa using HS.out, World.ownsRow_nil _ _ _ _, fun x y c _ h => by simp [runs] at h, Below.refl _ _⟩
  case round =>
    obtain ⟨k, a, c, hk, rfl, hSr, hOr, hlast, hBr⟩ := hrel
    have HO : Hid (wr.ownsRow w.heap.size 80 2 u3 (runs (l.take k)).length (cells (runs (l.take k)))) := hOr
    have HB : Hid (Below w.heap.size w wr) := hBr
    have HT : Hid (∀ x y c, l[k]? = some x → (runs (l.take k)).getLast? = some (y, c) → y ≠ x) := hlast
    have hsz := hBr.size
    have hrl : (runs (l.take k)).length ≤ l.length := by have := (good_runs (l.take k)).len; rw [List.length_take] at this; omega
    clear hOr hBr hlast
    by_cases hkl : k < l.length
    · obtain ⟨x, xs, hd⟩ : ∃ x xs, l.drop k = x :: xs := by
        match hm : l.drop k with
        | [] => have := congrArg List.length hm; simp at this; omega
        | x :: xs => exact ⟨x, xs, rfl⟩
      rw [hd] at hSr
      obtain ⟨n, hn1, hn2, hn3, hn4⟩ := first_run x xs
      have hdl : (x :: xs).length = l.length - k := by rw [← hd, List.length_drop]
      have hao := hSr.at_ (by simp)
      subst hao
      have hmax := hSr.max
      have hle := hSr.le
      rw [hdl] at hn2 hle
      have HS2 : Hid (Seen (fun x => .int .u8 x) wr (some ⟨b, off + k, none⟩) c b (off + k) (x :: xs)) := hSr
      have HN : Hid ((∀ j, j < n → (x :: xs)[j]? = some x) ∧ ∀ y, (x :: xs)[n]? = some y → y ≠ x) := ⟨hn3, hn4⟩
      have HD : Hid (l.drop k = x :: xs ∧ (x :: xs).length = l.length - k) := ⟨hd, hdl⟩
      have c0 : wr.cell? ⟨b, off + k, none⟩ = some (.int .u8 x) := by have := hSr.cell 0 x rfl; simpa using this
      obtain ⟨m, hm⟩ : ∃ m, m = l.length - k := ⟨_, rfl⟩
      have HM : Hid (m = l.length - k) := hm
      rw [← hm] at hn2 hle ⊢
      have hm0 : (0 : Int) < (m : Int) := by omega
      have hm0' : 0 < m := by omega
      clear hd hdl hSr hn3 hn4 hm
      go_wp2_with (go_at_call 40; fail)
      refine (alike x xs n m _ c b (off + k) _ HS2.out hn1 (by rw [HD.out.2, ← HM.out]; exact hn2) HN.out.1 HN.out.2 (by rw [HD.out.2, ← HM.out])).mono ?_
      rintro e w2 ⟨rfl, q, rfl⟩
      have n0 : (0 : Int) ≤ (n : Int) := by omega
      have n1 : (n : Int) ≤ (m : Int) := by omega
      go_wp2_with (at_builtin; refine wpList_append_own _ rfl _ _ 76 rfl w.heap.size 80 i0 _ 2 16 Try.underlying76 hi0 hz0 hz1 hz2 rfl (by decide) _ _ _ rfl (World.ownsRow.alloc (show World.ownsRow _ _ _ _ _ _ _ from HO.out) _) _ 1 1 [_, _] rfl rfl (cell_two_new _ _ _ _) (by simp [Value.oneCell']) (by unfold maxLen; omega) (by omega) (by simp; omega) ?_; intro v' w1 hown' hgrow _)
      have hg : ((wr.drewN q).alloc (.cells #[.int .u8 x, .int .i64 (n : Int)] 80)).grownBy w1 u3.ownBlock := hgrow
      have hb : b < w.heap.size := HS.out.lt (fun e => by rw [e] at hkl; simp at hkl)
      obtain ⟨r1, r2, r3, r4, r5, r6⟩ := pack_round hb hkl HD.out.1 HM.out HS2.out HO.out HT.out HB.out hn1 hn2 HN.out.1 HN.out.2 hg hown'
      go_roundw
      case rel => exact ⟨k + n, _, _, r1, by rw [r2], r3, r4, r5, r6⟩
      case measure => show m - n < m; omega
    · have hkl' : k = l.length := by omega
      subst hkl'
      have HO2 : Hid (wr.ownsRow w.heap.size 80 2 u3 (runs l).length (cells (runs l))) := by have := HO.out; rw [List.take_length] at this; exact this
      have hz : l.length - l.length = 0 := Nat.sub_self _
      rw [hz]
      go_wp2
      go_ret
      exact ⟨_, rfl, HO2.out, HB.out⟩

end Go.Proofs.Ytneapdegjofodaa.PackByte
