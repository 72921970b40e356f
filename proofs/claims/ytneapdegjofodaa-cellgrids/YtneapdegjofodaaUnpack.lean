/- What Unpack of runs of int does. -/
import Derived.Test.YtneapdegjofodaaSeen
import Derived.Test.YtneapdegjofodaaRuns
import Derived.Test.YtneapdegjofodaaRows
import Derived.ProofKit
import Derived.OpenShut
import Derived.Handy
import Derived.WalkLawsBesides
import Derived.Deep.RegionHeld3
import Derived.BigQuiet
import Derived.Deep.QuietTactic
import Derived.Maps.AppendAt
import Derived.WalkSmall
namespace Go.Proofs.Ytneapdegjofodaa.Unpack
open Go.RowKit

theorem infoInt : (Try.prog.info? 3).map (fun i => (i.zero, i.size, i.bytes)) = some (some (.int .i64 0), 1, 8) := by kernel_rfl

/-- How long the row is, if nothing is wrong. -/
def rowN (most : Int) (R : List (Int × Int)) : Int := if runE most 0 R = 0 then runN R else 0

theorem runE_drop {most acc : Int} {R : List (Int × Int)} {k : Nat} {p : Int × Int} (hp : R[k]? = some p) :
    runE most acc (R.drop k) = if p.2 < 1 then 6 else if most - acc < p.2 then 13 else runE most (acc + p.2) (R.drop (k + 1)) := by
  have hk := (List.getElem?_eq_some_iff.1 hp).1
  rw [List.drop_eq_getElem_cons hk]
  have : R[k] = p := by rw [List.getElem?_eq_getElem hk] at hp; injection hp
  rw [this]; rfl
theorem runN_drop {R : List (Int × Int)} {k : Nat} {p : Int × Int} (hp : R[k]? = some p) : runN (R.drop k) = p.2 + runN (R.drop (k + 1)) := by
  have hk := (List.getElem?_eq_some_iff.1 hp).1
  rw [List.drop_eq_getElem_cons hk]
  have : R[k] = p := by rw [List.getElem?_eq_getElem hk] at hp; injection hp
  rw [this]; rfl

set_option maxRecDepth 100000 in
set_option maxHeartbeats 1000000 in
theorem rowLength (R : List (Int × Int)) (n : Nat) (most : Int) (ao : Option Addr) (cap b off : Nat) (w : World) (h : SeenR w ao cap b off R) (hn : n = R.length) (h0 : 0 ≤ most) (h1 : most ≤ 9223372036854775807) :
    Calls Try.prog 36 #[.slice ao n cap, .int .i64 most] w fun e w' => e = .returned (.tuple #[.int .i64 (rowN most R), .int .i64 (runE most 0 R)]) ∧ Below w.heap.size w w' := by
  have HS : Hid (SeenR w ao cap b off R) := h
  have HN : Hid (n = R.length) := hn
  have hmax := h.max
  have hle := h.le
  rw [← hn] at hle
  clear h hn
  go_enter Try.func36, Try.ntmps36
  go_wp2
  go_loopw [6, 11] (fun v i wr => ∃ (k : Nat) (acc : Int), k ≤ n ∧ i = .int .i64 (k : Int) ∧ v = .int .i64 acc ∧ 0 ≤ acc ∧ acc ≤ most ∧ runE most 0 R = runE most acc (R.drop k) ∧ runN R = acc + runN (R.drop k) ∧ Below w.heap.size w wr)
    (fun _ i _ => n - (intOf i).toNat)
  case atStart => exact ⟨0, 0, by omega, rfl, rfl, by omega, h0, rfl, by simp, Below.refl _ _⟩
  case round =>
    obtain ⟨k, acc, hk, rfl, rfl, ha0, ha1, hE, hN, hB⟩ := hrel
    have HE : Hid (runE most 0 R = runE most acc (R.drop k) ∧ runN R = acc + runN (R.drop k)) := ⟨hE, hN⟩
    have HB : Hid (Below w.heap.size w wr) := hB
    have hsz := hB.size
    by_cases hl : k < n
    · obtain ⟨p, hp⟩ : ∃ p, R[k]? = some p := ⟨_, List.getElem?_eq_getElem (by rw [← HN.out]; exact hl)⟩
      have hne : R ≠ [] := fun e => by rw [e] at hp; cases hp
      have hao := HS.out.at_ hne
      subst hao
      have hbw := HS.out.lt hne
      obtain ⟨x, c⟩ := p
      have c0 : wr.cell? ⟨b, off + k * 2, none⟩ = some (.int .i64 x) := (hB.cell (p := ⟨b, off + k * 2, none⟩) hbw).trans (HS.out.cell k _ hp).1
      have c1 : wr.cell? ⟨b, off + k * 2 + 1, none⟩ = some (.int .i64 c) := (hB.cell (p := ⟨b, off + k * 2 + 1, none⟩) hbw).trans (HS.out.cell k _ hp).2
      have HR : Hid (runE most acc (R.drop k) = (if c < 1 then 6 else if most - acc < c then 13 else runE most (acc + c) (R.drop (k + 1))) ∧ runN (R.drop k) = c + runN (R.drop (k + 1))) := ⟨runE_drop hp, runN_drop hp⟩
      clear hE hN hB hp hne
      by_cases hc1 : c < 1
      · have HF : Hid (runE most 0 R = 6 ∧ rowN most R = 0) := by
          have e : runE most 0 R = 6 := by rw [HE.out.1, HR.out.1, if_pos hc1]
          exact ⟨e, by unfold rowN; rw [e]; rfl⟩
        go_wp2
        go_ret2
        exact ⟨by rw [HF.out.1, HF.out.2]; rfl, HB.out.alloc hsz _⟩
      · by_cases hc2 : most - acc < c
        · have HF : Hid (runE most 0 R = 13 ∧ rowN most R = 0) := by
            have e : runE most 0 R = 13 := by rw [HE.out.1, HR.out.1, if_neg hc1, if_pos hc2]
            exact ⟨e, by unfold rowN; rw [e]; rfl⟩
          go_wp2
          go_ret2
          exact ⟨by rw [HF.out.1, HF.out.2]; rfl, HB.out.alloc hsz _⟩
        · have HF : Hid (runE most 0 R = runE most (acc + c) (R.drop (k + 1)) ∧ runN R = acc + c + runN (R.drop (k + 1))) := by
            refine ⟨by rw [HE.out.1, HR.out.1, if_neg hc1, if_neg hc2], by rw [HE.out.2, HR.out.2]; omega⟩
          go_wp2
          go_roundw
          case rel => exact ⟨k + 1, acc + c, by omega, by go_num, rfl, by omega, by omega, HF.out.1, HF.out.2, HB.out.alloc hsz _⟩
          case measure => simp [intOf]; omega
    · have hkn : k = n := by omega
      subst hkn
      have HF : Hid (runE most 0 R = 0 ∧ rowN most R = acc) := by
        have ed : R.drop k = [] := by rw [HN.out]; exact List.drop_length
        have e : runE most 0 R = 0 := by rw [HE.out.1, ed]; rfl
        refine ⟨e, ?_⟩
        unfold rowN
        rw [if_pos e, HE.out.2, ed]; simp [runN]
      clear hE hN
      go_wp2
      go_ret2
      exact ⟨by rw [HF.out.1, HF.out.2]; rfl, HB.out⟩

/-- What there is room for. -/
def roomOf (most : Int) : Int := if most < 0 then 0 else most
theorem roomOf_neg {most : Int} (h : most < 0) : roomOf most = 0 := if_pos h
theorem roomOf_pos {most : Int} (h : ¬ most < 0) : roomOf most = most := if_neg h

set_option maxRecDepth 100000 in
set_option maxHeartbeats 1000000 in
theorem Unpack_no (R : List (Int × Int)) (n : Nat) (most E : Int) (ao : Option Addr) (cap b off : Nat) (w : World) (h : SeenR w ao cap b off R) (hn : n = R.length) (h1 : most ≤ 9223372036854775807) (hE : runE (roomOf most) 0 R = E) (hE0 : E ≠ 0) :
    Calls Try.prog 25 #[.slice ao n cap, .int .i64 most] w fun e w' => e = .returned (.tuple #[.slice none 0 0, .int .i64 E]) ∧ Below w.heap.size w w' := by
  have HS : Hid (SeenR w ao cap b off R) := h
  have HN : Hid (n = R.length) := hn
  have hne : (E != 0) = true := bne_iff_ne.2 hE0
  by_cases hm : most < 0
  · have HE : Hid (runE 0 0 R = E) := by rw [roomOf_neg hm] at hE; exact hE
    clear h hn hE hE0
    go_enter Try.func25, Try.ntmps25
    go_wp2_with (go_at_call 36; fail)
    refine (rowLength R n 0 ao cap b off _ HS.out HN.out (by omega) (by omega)).mono ?_
    rintro e w1 ⟨rfl, hB⟩
    rw [HE.out]
    go_wp2
    go_ret2
    exact ⟨rfl, hB⟩
  · have HE : Hid (runE most 0 R = E) := by rw [roomOf_pos hm] at hE; exact hE
    have hm' : 0 ≤ most := by omega
    clear h hn hE hE0 hm
    go_enter Try.func25, Try.ntmps25
    go_wp2_with (go_at_call 36; fail)
    refine (rowLength R n most ao cap b off _ HS.out HN.out hm' h1).mono ?_
    rintro e w1 ⟨rfl, hB⟩
    rw [HE.out]
    go_wp2
    go_ret2
    exact ⟨rfl, hB⟩

end Go.Proofs.Ytneapdegjofodaa.Unpack
