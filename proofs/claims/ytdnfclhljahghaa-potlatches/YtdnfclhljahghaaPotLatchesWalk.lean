/- PotLatches, walked. -/
import Derived.Test.YtdnfclhljahghaaPot4
import Derived.Test.YtdnfclhljahghaaSeenX
set_option linter.unusedVariables false
namespace Go.Proofs.Ytdnfclhljahghaa.potLatches
open Go.RowKit Po

/-- Latched ports; button k (4 or 5) has been low, or not; it is high, or not. -/
def lt (k : Nat) (hi ok : Bool) : Pt := if k = 4 then { Pt.new with l := true, h0 := hi, t0 := ok } else { Pt.new with l := true, h1 := hi, t1 := ok }
theorem lt_new (k : Nat) (hk : k = 4 ∨ k = 5) : Pt.new.latch true = lt k true true := by rcases hk with rfl | rfl <;> rfl
theorem lt_in (k v : Nat) (hi ok : Bool) (hk : k = 4 ∨ k = 5) : (lt k hi ok).in_ k v = lt k (decide (128 ≤ v)) (ok && decide (128 ≤ v)) := by
  rcases hk with rfl | rfl
  · show ({ lt 4 hi ok with h0 := decide (128 ≤ v), t0 := un true (decide (128 ≤ v)) ok } : Pt) = _
    simp [lt, un]
  · show ({ lt 5 hi ok with h1 := decide (128 ≤ v), t1 := un true (decide (128 ≤ v)) ok } : Pt) = _
    simp [lt, un]
theorem lt_high (k : Nat) (hi ok : Bool) (hk : k = 4 ∨ k = 5) : (lt k hi ok).high k = ok := by rcases hk with rfl | rfl <;> rfl
theorem lt_off (k : Nat) (hi ok : Bool) (hk : k = 4 ∨ k = 5) : ((lt k hi ok).latch false).high k = hi := by rcases hk with rfl | rfl <;> rfl

/-- Whether the last byte leaves the button high; whether all do. -/
def lastHi (A : List Nat) (k : Nat) : Bool := match k with | 0 => true | k + 1 => match A[k]? with | some v => decide (128 ≤ v) | none => true
def allHi (A : List Nat) : Nat → Bool
  | 0 => true
  | k + 1 => allHi A k && lastHi A (k + 1)
theorem lastHi_succ {A : List Nat} {k v : Nat} (h : A[k]? = some v) : lastHi A (k + 1) = decide (128 ≤ v) := by simp only [lastHi, h]

def row (v : Nat) : List Go.Value := [.int .u8 (v : Int)]

set_option maxRecDepth 100000 in
set_option maxHeartbeats 1000000 in
theorem big (a n cap : Nat) (ao : Option Addr) (W : World) (ha : a < 256) (hl : 60 < n) (hc : n ≤ cap) (hm : cap ≤ 9223372036854775807) :
    Calls Try.prog 10 #[.int .u8 (a : Int), .slice ao n cap] W fun e w' => e = .returned (.bool true) ∧ Below W.heap.size W w' := by
  have hl' : (60 : Int) < (n : Int) := by omega
  clear hl
  go_enter Try.func10, Try.ntmps10
  go_wp2
  go_returns
  exact ⟨rfl, Below.refl _ _⟩

set_option maxRecDepth 100000 in
set_option maxHeartbeats 4000000 in
theorem good (A : List Nat) (ao : Option Addr) (cap b0 off0 : Nat) (a : Nat) (W : World) (ha : a < 256) (hA : ∀ v ∈ A, v < 256) (hl : A.length ≤ 60) (hS : SeenX W ao cap b0 off0 1 (A.map row)) :
    Calls Try.prog 10 #[.int .u8 (a : Int), .slice ao A.length cap] W fun e w' => e = .returned (.bool true) ∧ Below W.heap.size W w' := by
  have HA : Hid (∀ v ∈ A, v < 256) := hA
  have HS : Hid (SeenX W ao cap b0 off0 1 (A.map row)) := hS
  have hcap := hS.max
  have hle := hS.le
  rw [List.length_map] at hle
  clear hA hS
  generalize hn : A.length = n at *
  have HN : Hid (A.length = n) := hn
  obtain ⟨r, hr⟩ : ∃ r : Nat, (a : Int) % 2 = (r : Int) := ⟨a % 2, by omega⟩
  have hr2 : r < 2 := by omega
  obtain ⟨k, hk⟩ : ∃ k : Nat, k = 4 + r := ⟨_, rfl⟩
  have HK : Hid (k = 4 ∨ k = 5) := (by omega : k = 4 ∨ k = 5)
  have ea : IntKind.i64.wrap (a : Int) = (a : Int) := IntWalk.i64_in _ (by omega)
  have ek : (4 : Int) + (r : Int) = (k : Int) := by omega
  have HC : Hid (∀ (w' : World) (i v : Nat), A[i]? = some v → Below W.heap.size W w' → ao = some ⟨b0, off0, none⟩ ∧ w'.cell? ⟨b0, off0 + i, none⟩ = some (.int .u8 (v : Int)) ∧ v < 256) := fun w' i v hi hw' =>
    have hrow : (A.map row)[i]? = some (row v) := by rw [List.getElem?_map, hi]; rfl
    have hc := (HS.out.below hw' (Nat.le_refl _)).cell i _ hrow 0 _ rfl
    ⟨HS.out.at_ (fun e => by rw [e] at hrow; cases hrow), by simpa using hc, HA.out v (List.mem_of_getElem? hi)⟩
  clear hn hk
  go_enter Try.func10, Try.ntmps10
  go_wp2_with (go_at_call 26; fail)
  refine (NewB W).mono ?_
  rintro e w1 ⟨b, rfl, h⟩
  have H1 : Hid (Pb W b Pt.new w1) := h
  clear h
  go_wp2_with (go_at_call 34; fail)
  refine (LatchB true H1.out).mono ?_
  rintro e w2 ⟨rfl, h⟩
  have H2 : Hid (Pb W b (lt k true true) w2) := lt_new k HK.out ▸ h
  clear h H1
  go_wp2_with (fail)
  go_loopw [7, 8] (fun lo u wr => ∃ i : Nat, i ≤ n ∧ u = .int .i64 (i : Int) ∧ lo = .bool (!allHi A i) ∧ Pb W b (lt k (lastHi A i) (allHi A i)) wr) (fun _ u _ => n - (intOf u).toNat)
  case atStart => exact ⟨0, by omega, rfl, rfl, H2.out⟩
  case round =>
    obtain ⟨i, hi, rfl, rfl, hR⟩ := hrel
    have HR : Hid (Pb W b (lt k (lastHi A i) (allHi A i)) wr) := hR
    clear hR H2
    by_cases hin : i < n
    · obtain ⟨v, hv⟩ : ∃ v, A[i]? = some v := ⟨_, List.getElem?_eq_getElem (by rw [HN.out]; exact hin)⟩
      obtain ⟨hao, c0, hv2⟩ := HC.out wr i v hv HR.out.old
      have HV : Hid (A[i]? = some v) := hv
      have i0 : (0 : Int) ≤ (i : Int) := by omega
      have i1 : (i : Int) < (n : Int) := by omega
      obtain ⟨ai, hai⟩ : ∃ ai, allHi A i = ai := ⟨_, rfl⟩
      obtain ⟨d, hd⟩ : ∃ d, decide (128 ≤ v) = d := ⟨_, rfl⟩
      have HD : Hid (lastHi A (i + 1) = d ∧ allHi A (i + 1) = (ai && d)) := by
        have e1 : lastHi A (i + 1) = d := by rw [lastHi_succ hv, hd]
        exact ⟨e1, by rw [show allHi A (i + 1) = (allHi A i && lastHi A (i + 1)) from rfl, e1, hai]⟩
      have hd' : decide ((v : Int) < 128) = !d := by rw [← hd, Bool.eq_iff_iff]; simp only [decide_eq_true_eq, Bool.not_eq_true', decide_eq_false_iff_not]; omega
      have HX : Hid (decide (128 ≤ v) = d) := hd
      rw [hai] at HR ⊢
      subst hao
      clear hv hai hd
      go_wp2_with (go_at_call 28; fail)
      refine (InB k v hv2 HR.out).mono ?_
      rintro e w3 ⟨rfl, h⟩
      rw [lt_in k v _ _ HK.out, HX.out] at h
      have H3 : Hid (Pb W b (lt k d (ai && d)) w3) := h
      clear h HR c0
      obtain ⟨-, c0, -⟩ := HC.out w3 i v HV.out H3.out.old
      cases ai <;> cases d
      all_goals
        go_wp2_with (go_at_call 39; fail)
        refine (HighB k _ (lt_high k _ _ HK.out) H3.out).mono ?_
        rintro e w4 ⟨rfl, h⟩
        have H4 : Hid (Pb W b (lt k (lastHi A (i + 1)) (allHi A (i + 1))) w4) := by rw [HD.out.1, HD.out.2]; exact h
        clear h H3 c0
        go_wp2_with (fail)
        go_roundw
        case rel => exact ⟨i + 1, by omega, by go_num, by rw [HD.out.2]; rfl, H4.out⟩
        case measure => simp [intOf]; omega
    · have hin' : i = n := by omega
      subst hin'
      go_wp2_with (go_at_call 34; fail)
      refine (LatchB false HR.out).mono ?_
      rintro e w3 ⟨rfl, h⟩
      have H3 : Hid (Pb W b ((lt k (lastHi A i) (allHi A i)).latch false) w3) := h
      clear h HR
      go_wp2_with (go_at_call 39; fail)
      refine (HighB k _ (lt_off k _ _ HK.out) H3.out).mono ?_
      rintro e w4 ⟨rfl, h⟩
      have H4 : Hid (Below W.heap.size W w4) := h.old
      clear h H3
      by_cases hi0 : i = 0
      · subst hi0
        rw [show lastHi A 0 = true from rfl]
        go_wp2_with (go_at_call 43; refine (awake20 _).mono ?_; rintro e w5 ⟨rfl, hB5⟩)
        go_returns
        exact ⟨rfl, H4.out.trans (hB5.mono H4.out.size)⟩
      · obtain ⟨j, rfl⟩ : ∃ j, i = j + 1 := ⟨i - 1, by omega⟩
        obtain ⟨v, hv⟩ : ∃ v, A[j]? = some v := ⟨_, List.getElem?_eq_getElem (by rw [HN.out]; omega)⟩
        obtain ⟨hao, c0, hv2⟩ := HC.out w4 j v hv H4.out
        rw [lastHi_succ hv]
        obtain ⟨d, hd⟩ : ∃ d, decide (128 ≤ v) = d := ⟨_, rfl⟩
        have hd' : decide (128 ≤ (v : Int)) = d := by rw [← hd, Bool.eq_iff_iff]; simp only [decide_eq_true_eq]; omega
        rw [hd]
        subst hao
        have e1 : IntKind.i64.wrap (((j + 1 : Nat) : Int) - 1) = (j : Int) := by rw [IntWalk.i64_in _ (by omega)]; omega
        have j0 : (0 : Int) ≤ (j : Int) := by omega
        have j1 : (j : Int) < ((j + 1 : Nat) : Int) := by omega
        have j2 : (((j + 1 : Nat) : Int) == 0) = false := by rw [beq_eq_false_iff_ne]; omega
        clear hv hd
        cases d
        all_goals
          go_wp2_with (go_at_call 43; refine (awake20 _).mono ?_; rintro e w5 ⟨rfl, hB5⟩)
          go_returns
          exact ⟨rfl, H4.out.trans (hB5.mono H4.out.size)⟩

theorem walk {L : List (List Go.Value)} {ao : Option Addr} {n cap b off : Nat} {W : World} (a0 : Int) (h0 : (Lit.int .u8 a0).wf = true) (hS : SeenX W ao cap b off 1 L) (hn : n = L.length) (hL : ∀ r ∈ L, ∃ v : Nat, r = row v ∧ v < 256) :
    Calls Try.prog 10 #[.int .u8 a0, .slice ao n cap] W fun e w' => e = .returned (.bool true) ∧ Below W.heap.size W w' := by
  obtain ⟨A, rfl, hA⟩ := map_of hL
  rw [List.length_map] at hn
  subst hn
  have hle := hS.le
  rw [List.length_map] at hle
  have b0 := bounds_u8 h0
  obtain ⟨a, rfl⟩ := Int.eq_ofNat_of_zero_le b0.1
  by_cases h : A.length ≤ 60
  · exact good A ao cap b off a W (by omega) hA h hS
  · exact big _ _ _ _ _ (by omega) (by omega) hle hS.max

end Go.Proofs.Ytdnfclhljahghaa.potLatches
