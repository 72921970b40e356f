/- What the small calls of package tone do: one contract a function. -/
import Derived.Test.YtdnfclhljahghaaToneM
import Derived.Test.YtdnfclhljahghaaRing8
namespace Go.Proofs.Ytdnfclhljahghaa.To
open Go.RowKit
set_option linter.unusedVariables false

set_option maxHeartbeats 400000 in
theorem falls8 (b off s size tap : Nat) (w : World) (hg : Poly8.Good size tap s) (h : Poly8.At w b off s size tap) :
    Calls Try.prog 72 #[.pointer (some ⟨b, off, none⟩)] w fun e w' => e = .returned (.bool (decide (s % 2 = 1))) ∧ w' = w.setCell ⟨b, off, none⟩ (.int .u8 ((nxt size tap s : Nat) : Int)) := by
  have HG : Hid (Poly8.Good size tap s) := hg
  have H : Hid (Poly8.At w b off s size tap) := h
  obtain ⟨m, hm⟩ : ∃ m, m = s % 2 := ⟨_, rfl⟩
  have HE : Hid (((m : Int) == 1) = decide (s % 2 = 1)) := (show ((m : Int) == 1) = decide (s % 2 = 1) by rw [Bool.eq_iff_iff]; simp; omega)
  have HM : Hid (((s % 2 : Nat) : Int) = (m : Int)) := (show ((s % 2 : Nat) : Int) = (m : Int) by rw [hm])
  clear hg h hm
  go_enter Try.func72, Try.ntmps72
  go_wp2_with (go_at_call 81; refine (Poly8.Step b off s size tap _ HG.out H.out).mono ?_; rintro e w1 ⟨rfl, rfl⟩; rw [HM.out])
  go_returns
  exact ⟨ret_bool HE.out, rfl⟩

set_option maxHeartbeats 400000 in
theorem falls16 (b off s size tap : Nat) (w : World) (hg : Poly16.Good size tap s) (h : Poly16.At w b off s size tap) :
    Calls Try.prog 74 #[.pointer (some ⟨b, off, none⟩)] w fun e w' => e = .returned (.bool (decide (s % 2 = 1))) ∧ w' = w.setCell ⟨b, off, none⟩ (.int .u16 ((nxt size tap s : Nat) : Int)) := by
  have HG : Hid (Poly16.Good size tap s) := hg
  have H : Hid (Poly16.At w b off s size tap) := h
  obtain ⟨m, hm⟩ : ∃ m, m = s % 2 := ⟨_, rfl⟩
  have HE : Hid (((m : Int) == 1) = decide (s % 2 = 1)) := (show ((m : Int) == 1) = decide (s % 2 = 1) by rw [Bool.eq_iff_iff]; simp; omega)
  have HM : Hid (((s % 2 : Nat) : Int) = (m : Int)) := (show ((s % 2 : Nat) : Int) = (m : Int) by rw [hm])
  clear hg h hm
  go_enter Try.func74, Try.ntmps74
  go_wp2_with (go_at_call 83; refine (Poly16.Step b off s size tap _ HG.out H.out).mono ?_; rintro e w1 ⟨rfl, rfl⟩; rw [HM.out])
  go_returns
  exact ⟨ret_bool HE.out, rfl⟩

set_option maxHeartbeats 400000 in
theorem length (b : Nat) (p : Vo) (w : World) (h : VAt w b p) : Calls Try.prog 60 #[.pointer (some ⟨b, 0, none⟩)] w fun e w' => e = .returned (.int .i64 (p.len : Int)) ∧ w' = w := by
  have c0 := h.r.at_ 0 _ rfl
  have c1 := h.r.at_ 1 _ rfl
  have hr := h.ok.r
  obtain ⟨c, hc⟩ : ∃ c, p.c = c := ⟨_, rfl⟩
  obtain ⟨r, hr'⟩ : ∃ r, p.r = r := ⟨_, rfl⟩
  have HL : Hid (p.len = if 12 ≤ c then 3 * (r + 1) else r + 1) := (show p.len = if 12 ≤ c then 3 * (r + 1) else r + 1 by unfold Vo.len; rw [hc, hr'])
  rw [hc] at c0
  rw [hr'] at c1 hr
  clear h hc hr'
  have e0 : IntKind.i64.wrap (r : Int) = (r : Int) := IntWalk.i64_in _ (by omega)
  have e1 : IntKind.i64.wrap ((r : Int) + 1) = (r : Int) + 1 := IntWalk.i64_in _ (by omega)
  have e2 : IntKind.i64.wrap (((r : Int) + 1) * 3) = ((r : Int) + 1) * 3 := IntWalk.i64_in _ (by omega)
  by_cases hx : 12 ≤ c
  · have hx' : (12 : Int) ≤ (c : Int) := by omega
    go_enter Try.func60, Try.ntmps60
    go_wp2
    go_returns
    exact ⟨ret_int (by rw [HL.out, if_pos hx]; omega), rfl⟩
  · have hx' : ¬ (12 : Int) ≤ (c : Int) := by omega
    go_enter Try.func60, Try.ntmps60
    go_wp2
    go_returns
    exact ⟨ret_int (by rw [HL.out, if_neg hx]; omega), rfl⟩

def stB (c : Nat) : Bool := decide (c = 0) || decide (c = 11)

set_option maxHeartbeats 400000 in
theorem isSteady (b c : Nat) (w : World) (c0 : w.cell? ⟨b, 0, none⟩ = some (.int .u8 (c : Int))) : Calls Try.prog 52 #[.pointer (some ⟨b, 0, none⟩)] w fun e w' => e = .returned (.bool (stB c)) ∧ w' = w := by
  by_cases h : c = 0
  · subst h
    go_enter Try.func52, Try.ntmps52
    go_wp2
    go_returns
    exact ⟨rfl, rfl⟩
  · have h' : ((c : Int) == 0) = false := beq_eq_false_iff_ne.2 (by omega)
    have HE : Hid (((c : Int) == 11) = stB c) := (show ((c : Int) == 11) = stB c by unfold stB; rw [Bool.eq_iff_iff]; simp; omega)
    go_enter Try.func52, Try.ntmps52
    go_wp2
    go_returns
    exact ⟨ret_bool HE.out, rfl⟩

theorem level_eq (p : Vo) : p.level = if (!p.hi && !stB p.c) = true then 0 else p.v := by
  unfold Vo.level stB
  by_cases h : p.hi = true ∨ p.c = 0 ∨ p.c = 11
  · rw [if_pos h, if_neg (by rcases h with h | h | h <;> simp [h])]
  · have h1 : p.hi = false := by cases hh : p.hi with | false => rfl | true => exact absurd (.inl hh) h
    have h2 : ¬ p.c = 0 := fun e => h (.inr (.inl e))
    have h3 : ¬ p.c = 11 := fun e => h (.inr (.inr e))
    rw [if_neg h, if_pos (by simp [h1, h2, h3])]

set_option maxHeartbeats 1000000 in
theorem Level (b : Nat) (p : Vo) (w : World) (h : VAt w b p) : Calls Try.prog 16 #[.pointer (some ⟨b, 0, none⟩)] w fun e w' => e = .returned (.int .u8 (p.level : Int)) ∧ w' = w := by
  have C0 : Hid (w.cell? ⟨b, 0, none⟩ = some (.int .u8 (p.c : Int))) := h.r.at_ 0 _ rfl
  have c2 := h.r.at_ 2 _ rfl
  have c13 := h.r.at_ 13 _ rfl
  have HL : Hid (p.level = if (!p.hi && !stB p.c) = true then 0 else p.v) := level_eq p
  clear h
  obtain ⟨hi, hh⟩ : ∃ hi, p.hi = hi := ⟨_, rfl⟩
  obtain ⟨st, hs⟩ : ∃ st, stB p.c = st := ⟨_, rfl⟩
  have HS : Hid (stB p.c = st) := hs
  rw [hh] at c13 HL
  rw [hs] at HL
  clear hh hs
  cases hi
  · cases st
    all_goals
      go_enter Try.func16, Try.ntmps16
      go_wp2_with (go_at_call 52; refine (isSteady b p.c _ C0.out).mono ?_; rintro e w1 ⟨rfl, rfl⟩; rw [HS.out])
      go_returns
      exact ⟨ret_int (by rw [HL.out]; rfl), rfl⟩
  · go_enter Try.func16, Try.ntmps16
    go_wp2_with (fail)
    go_returns
    exact ⟨ret_int (by rw [HL.out]; rfl), rfl⟩

set_option maxRecDepth 100000 in
set_option maxHeartbeats 1000000 in
theorem goesOn (b : Nat) (p : Vo) (five : Bool) (w : World) (h : VAt w b p) : Calls Try.prog 73 #[.pointer (some ⟨b, 0, none⟩), .bool five] w fun e w' => e = .returned (.bool (goB p.c p.f5 five)) ∧ Below w.heap.size w w' := by
  have c0 := h.r.at_ 0 _ rfl
  have H : Hid (VAt w b p) := h
  have hc := h.ok.c
  have h3 := and3 p.c h.ok.c
  obtain ⟨s, hs⟩ : ∃ s, p.f5 = s := ⟨_, rfl⟩
  obtain ⟨c, hcc⟩ : ∃ c, p.c = c := ⟨_, rfl⟩
  have HC : Hid (p.c = c ∧ p.f5 = s) := ⟨hcc, hs⟩
  rw [hcc] at c0 hc h3
  clear h hs hcc
  rcases (show c % 4 = 2 ∨ c % 4 = 3 ∨ c % 4 < 2 by omega) with hq | hq | hq
  · have h4 : (c : Int) % 4 = 2 := by omega
    have HE : Hid (goB p.c p.f5 five = isAt s) := (show goB p.c p.f5 five = isAt s by rw [HC.out.1, HC.out.2]; unfold goB; rw [if_pos hq])
    have HQ : Hid ((plB 5 2 31 s && (((plN 5 2 31 s : Nat) : Int) == 0 || ((plN 5 2 31 s : Nat) : Int) == 18)) = isAt s) := by rw [← HC.out.2]; exact place5 _ H.out.ok.f5
    have HA : Hid (Poly8.At w b 6 s 5 2) := by rw [← HC.out.2]; exact H.out.p5
    rw [hq] at h3
    clear hq hc
    obtain ⟨n, hn⟩ : ∃ n, plN 5 2 31 s = n := ⟨_, rfl⟩
    obtain ⟨y, hy⟩ : ∃ y, plB 5 2 31 s = y := ⟨_, rfl⟩
    have HN : Hid (plN 5 2 31 s = n ∧ plB 5 2 31 s = y) := ⟨hn, hy⟩
    rw [hn, hy] at HQ
    rw [HE.out]
    obtain ⟨e0, he0⟩ : ∃ e0, ((n : Int) == 0) = e0 := ⟨_, rfl⟩
    rw [he0] at HQ
    clear hn hy HE
    cases y <;> cases e0
    all_goals
      go_enter Try.func73, Try.ntmps73
      go_wp2_with (fail)
      go_region_with (first
        | (go_at_call 50; refine (Poly8.State b 6 s _ (HA.out.drew.c0)).mono ?_; rintro e w1 ⟨rfl, rfl⟩)
        | (go_at_call 82; refine (Poly8.Place b 6 s 5 2 31 s _ ⟨by decide, by decide, by decide, by decide⟩ per5 HA.out.drew).mono ?_; rintro e w2 ⟨rfl, hB2⟩; rw [HN.out.1, HN.out.2]))
      all_goals
        go_wp2
        go_returns
        exact ⟨ret_bool (by simpa using HQ.out), below_drew hB2⟩
  · have h4 : (c : Int) % 4 = 3 := by omega
    have HE : Hid (goB p.c p.f5 five = five) := (show goB p.c p.f5 five = five by rw [HC.out.1]; unfold goB; rw [if_neg (by omega), if_pos hq])
    rw [hq] at h3
    rw [HE.out]
    clear hq hc HE
    go_enter Try.func73, Try.ntmps73
    go_wp2
    go_returns
    exact ⟨rfl, Below.refl _ _⟩
  · obtain ⟨q, hq'⟩ : ∃ q : Nat, c % 4 = q := ⟨_, rfl⟩
    have h4 : (c : Int) % 4 = (q : Int) := by omega
    have HE : Hid (goB p.c p.f5 five = true) := (show goB p.c p.f5 five = true by rw [HC.out.1]; unfold goB; rw [if_neg (by omega), if_neg (by omega)])
    have q2 : ((q : Int) == 2) = false := beq_eq_false_iff_ne.2 (by omega)
    have q3 : ((q : Int) == 3) = false := beq_eq_false_iff_ne.2 (by omega)
    rw [hq'] at h3
    rw [HE.out]
    clear hq hc HE hq'
    go_enter Try.func73, Try.ntmps73
    go_wp2
    go_returns
    exact ⟨rfl, Below.refl _ _⟩

end Go.Proofs.Ytdnfclhljahghaa.To
