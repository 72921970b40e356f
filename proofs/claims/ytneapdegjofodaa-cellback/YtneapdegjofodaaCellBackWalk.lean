/- CellBack, walked: whatever comes in, true comes out. -/
import Derived.Test.YtneapdegjofodaaSeenOwn
namespace Go.Proofs.Ytneapdegjofodaa.cellBack
open Go.RowKit PackInt

set_option maxRecDepth 100000 in
set_option maxHeartbeats 2000000 in
theorem walk {ao : Option Addr} {n cap b off : Nat} {L : List Int} {W : World} (hS : Seen (fun x => .int .i64 x) W ao cap b off L) (hn : n = L.length) (_ : ao = none → n = 0 ∧ cap = 0) (a1 : Int) (w1 : (Lit.int .i64 a1).wf = true) :
    Calls Try.prog 6 #[.slice ao n cap, .int .i64 a1] W fun e w' => e = .returned (.bool true) ∧ Below W.heap.size W w' := by
  have hmax := hS.max
  have hle := hS.le
  have hb1 := bounds_i64 w1
  obtain ⟨hb2, hb3⟩ := hb1
  subst hn
  by_cases hbig : 300 < L.length
  · have hbi : (300 : Int) < (L.length : Int) := by omega
    go_enter Try.func6, Try.ntmps6
    go_wp2
    go_ret
    exact ⟨rfl, Below.refl _ _⟩
  · have hbi : (L.length : Int) ≤ 300 := by omega
    have HS : Hid (Seen (fun x => .int .i64 x) W ao cap b off L) := hS
    clear hS w1 hbig
    go_enter Try.func6, Try.ntmps6
    go_wp2_with (go_at_call 23; fail)
    refine (Pack L ao cap b off _ HS.out (by omega)).mono ?_
    rintro e w1 ⟨v1, rfl, hO1, hB1⟩
    obtain ⟨ao1, cap1, g1, rfl, hR1, hg1⟩ := SeenR.ofRow hO1 rfl
    have HR1 : Hid (SeenR w1 ao1 cap1 g1 0 (runs L)) := hR1
    have HB1 : Hid (Below W.heap.size W w1) := hB1
    have HG : Hid (Good L (runs L)) := good_runs L
    obtain ⟨m, hm⟩ : ∃ m, m = (runs L).length := ⟨_, rfl⟩
    have hm3 : m ≤ L.length := by rw [hm]; exact HG.out.len
    have HM : Hid (m = (runs L).length) := hm
    rw [← hm]
    clear hO1 hB1 hR1 hm
    go_wp2
    go_loopw [6] (fun v wr => ∃ k q : Nat, 1 ≤ k ∧ (k ≤ m ∨ k = 1) ∧ v = .int .i64 (k : Int) ∧ wr = w1.drewN q) (fun v _ => m - (intOf v).toNat)
    case atStart => exact ⟨1, 0, by omega, .inr rfl, rfl, rfl⟩
    case round =>
      obtain ⟨k, q, hk1, hk2, rfl, rfl⟩ := hrel
      by_cases hl : k < m
      · obtain ⟨k', rfl⟩ : ∃ k', k = k' + 1 := ⟨k - 1, by omega⟩
        obtain ⟨p, hp⟩ : ∃ p, (runs L)[k' + 1]? = some p := ⟨_, List.getElem?_eq_getElem (by rw [← HM.out]; exact hl)⟩
        obtain ⟨p', hp'⟩ : ∃ p, (runs L)[k']? = some p := ⟨_, List.getElem?_eq_getElem (by rw [← HM.out]; omega)⟩
        have hne : runs L ≠ [] := fun e => by rw [e] at hp; cases hp
        have hao := HR1.out.at_ hne
        subst hao
        obtain ⟨x, c⟩ := p
        obtain ⟨x', c'⟩ := p'
        have hxx : (x == x') = false := beq_eq_false_iff_ne.2 (fun e => HG.out.apart k' _ _ hp' hp e.symm)
        have hc : 1 ≤ c := HG.out.cnt (x, c) (List.mem_of_getElem? hp)
        obtain ⟨c0, c1⟩ := HR1.out.cell (k' + 1) _ hp
        obtain ⟨c2, c3⟩ := HR1.out.cell k' _ hp'
        simp only [Nat.zero_add] at c0 c1 c2 c3
        have k0 : (0 : Int) ≤ (k' : Int) := by omega
        have k1 : (k' : Int) + 1 < (m : Int) := by omega
        clear hp hp' hne
        go_wp2
        go_quiet (fail)
        go_wp2
        go_roundw
        case rel => exact ⟨k' + 1 + 1, _, by omega, .inl (by omega), by go_num, rfl⟩
        case measure => simp [intOf]; omega
      · have hkm : (m : Int) ≤ (k : Int) := by omega
        have HE : Hid (runE (Unpack.roomOf a1) 0 (runs L) = if runs L ≠ [] ∧ Unpack.roomOf a1 < 0 + runN (runs L) then 13 else 0) := runE_good HG.out.cnt
        have HN2 : Hid (runN (runs L) = (L.length : Int)) := runN_runs L
        by_cases hA : 0 < L.length ∧ a1 < (L.length : Int)
        · obtain ⟨hA1, hA2⟩ := hA
          have hE13 : runE (Unpack.roomOf a1) 0 (runs L) = 13 := by
            rw [HE.out, HN2.out, if_pos]
            refine ⟨fun e => by rw [runs_nil_iff] at e; rw [e] at hA1; simp at hA1, ?_⟩
            by_cases hneg : a1 < 0
            · rw [Unpack.roomOf_neg hneg]; omega
            · rw [Unpack.roomOf_pos hneg]; omega
          have HE13 : Hid (runE (Unpack.roomOf a1) 0 (runs L) = 13) := hE13
          have hA1' : (0 : Int) < (L.length : Int) := by omega
          clear hE13
          go_wp2_with (go_at_call 25; fail)
          refine (Unpack.Unpack_no (runs L) m a1 13 _ cap1 g1 0 _ (HR1.out.draws q) HM.out hb3 HE13.out (by decide)).mono ?_
          rintro e w2 ⟨rfl, hB2⟩
          have HB2 : Hid (Below W.heap.size W w2) := (below_drewN HB1.out q).trans (hB2.mono (by simpa using HB1.out.size))
          clear hB2
          go_wp2_with (go_at_call 15; refine (awake3 _).mono ?_; rintro e w3 ⟨rfl, hb3'⟩)
          go_ret
          exact ⟨rfl, HB2.out.trans (hb3'.mono HB2.out.size)⟩
        · have hE0 : runE (Unpack.roomOf a1) 0 (runs L) = 0 := by
            rw [HE.out, HN2.out, if_neg]
            intro ⟨h1, h2⟩
            have hL0 : 0 < L.length := by
              match L, h1 with
              | [], h1 => exact absurd rfl h1
              | _ :: _, _ => simp
            by_cases hneg : a1 < 0
            · rw [Unpack.roomOf_neg hneg] at h2; omega
            · rw [Unpack.roomOf_pos hneg] at h2; omega
          have HE0 : Hid (runE (Unpack.roomOf a1) 0 (runs L) = 0) := hE0
          have hNb : runN (runs L) ≤ 100000 := by rw [HN2.out]; omega
          have HNb : Hid (runN (runs L) ≤ 100000) := hNb
          have HX : Hid (expand (runs L) = L) := HG.out.ex
          have hmi : (m : Int) ≤ (L.length : Int) := by omega
          clear hE0 hNb
          go_wp2_with (go_at_call 25; fail)
          refine (Unpack.Unpack_yes (runs L) m a1 _ cap1 g1 0 _ (HR1.out.draws q) HM.out hb3 HE0.out HNb.out).mono ?_
          rintro e w2 ⟨g2, c2, rfl, hO2, hB2⟩
          rw [HX.out] at hO2 ⊢
          have HB2 : Hid (Below W.heap.size W w2) := (below_drewN HB1.out q).trans (hB2.mono (by simpa using HB1.out.size))
          have HS2 : Hid (Seen (fun x => .int .i64 x) w2 (some ⟨g2, 0, none⟩) c2 g2 0 L) := Ref3.seen_own hO2 rfl
          have HL2 : Hid (Seen (fun x => .int .i64 x) w2 ao cap b off L) := HS.out.below HB2.out
          clear hB2 hO2
          by_cases hL0 : 0 < L.length
          · have hA3 : (L.length : Int) ≤ a1 := by omega
            have hL0' : (0 : Int) < (L.length : Int) := by omega
            clear hA
            go_wp2_with (first
              | (go_at_call 17; refine (Ref3.Same L _ _ _ _ c2 cap g2 b 0 off _ HS2.out HL2.out rfl rfl).mono ?_; rintro e w3 ⟨rfl, q3, hq3⟩; subst w3)
              | (go_at_call 15; refine (awake3 _).mono ?_; rintro e w4 ⟨rfl, hb4⟩))
            go_ret
            exact ⟨rfl, (below_drewN HB2.out _).trans (hb4.mono (by simpa using HB2.out.size))⟩
          · have hLn : L = [] := List.length_eq_zero_iff.1 (by omega)
            subst hLn
            have hm0 : m = 0 := Nat.le_zero.1 hm3
            subst hm0
            clear hA hL0 hbi hle hm3 hmi hkm hk2 hl
            go_wp2_with (first
              | (go_at_call 17; refine (Ref3.Same [] 0 0 _ _ c2 cap g2 b 0 off _ HS2.out HL2.out rfl rfl).mono ?_; rintro e w3 ⟨rfl, q3, hq3⟩; subst w3)
              | (go_at_call 15; refine (awake3 _).mono ?_; rintro e w4 ⟨rfl, hb4⟩))
            go_ret
            exact ⟨rfl, (below_drewN HB2.out _).trans (hb4.mono (by simpa using HB2.out.size))⟩

end Go.Proofs.Ytneapdegjofodaa.cellBack
