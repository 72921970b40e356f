/- What Watch, Where, Peek do. -/
import Derived.Test.YtcohalkofahphaaDoorCart2
set_option linter.unusedSimpArgs false
set_option linter.unusedVariables false
namespace Go.Proofs.YtcohalkofahphaaDoor.Ca
open Go.RowKit Img

set_option maxHeartbeats 400000 in
theorem Watch_nil (a x : Int) (wr : Bool) (w : World) : Calls Tryd.prog 25 #[.pointer none, .int .u16 a, .int .u8 x, .bool wr] w fun e w' => e = .returned (.tuple #[]) ∧ w' = w := by
  go_enter Tryd.func25, Tryd.ntmps25
  go_wp2
  go_returns
  exact ⟨rfl, rfl⟩

set_option maxRecDepth 100000 in
set_option maxHeartbeats 2000000 in
theorem Watch (b a x : Nat) (wr : Bool) (c : Ct) (w : World) (h : CAt w b c) (hp : Plain c) (hbk : 1 ≤ c.banks) (hbk2 : c.banks ≤ 1000000) (ha : a < 65536) (hx : x < 256) : Calls Tryd.prog 25 #[.pointer (some ⟨b, 0, none⟩), .int .u16 (a : Int), .int .u8 (x : Int), .bool wr] w fun e w' => e = .returned (.tuple #[]) ∧ CAt w' b (watch c a x wr) ∧ Turn b w w' := by
  have H : Hid (CAt w b c) := h
  have HP : Hid (Plain c) := hp
  have hm := mask13 a ha
  have HW : Hid (watch c a x wr = watch13 c ((a % 8192 : Nat) : Int) x wr) := (by unfold watch; rfl : watch c a x wr = watch13 c ((a % 8192 : Nat) : Int) x wr)
  have ha2 : a % 8192 < 8192 := by omega
  generalize a % 8192 = d at *
  have ct : w.cell? ⟨b, 9, none⟩ = some (.string c.tag) := h.cell 9
  have cb : w.cell? ⟨b, 1, none⟩ = some (.int .i64 c.banks) := h.cell 1
  have b0 : ¬ c.banks = 0 := by omega
  have hx64 : IntKind.i64.wrap (x : Int) = x := by rw [IntKind.wrap_i64]; omega
  have d0 : (0 : Int) ≤ (d : Int) := by omega
  have hmod : (x : Int).tmod c.banks = (x : Int) % c.banks := Int.tmod_eq_emod_of_nonneg (by omega)
  clear h hp
  by_cases h3 : c.tag.toList = [51, 70]
  · have HV : Hid (watch13 c (d : Int) x wr = if wr && decide ((d : Int) < 64) then c.put 0 ((x : Int) % c.banks) else c) := if_pos h3
    cases wr
    · go_enter Tryd.func25, Tryd.ntmps25
      go_wp2
      go_returns
      rw [HW.out, HV.out]
      exact ⟨rfl, H.out, Turn.refl _ _⟩
    · by_cases hd : d < 64
      · have HE : Hid (watch13 c (d : Int) x true = c.put 0 ((x : Int) % c.banks)) := (by rw [HV.out, if_pos (by simp; omega)] : watch13 c (d : Int) x true = c.put 0 ((x : Int) % c.banks))
        have hd' : (d : Int) < 64 := by omega
        clear HV
        go_enter Tryd.func25, Tryd.ntmps25
        go_wp2
        go_region_held3 (fun w' => w'.cell? ⟨b, 1, none⟩ = some (.int .i64 c.banks)) (first | assumption | go_keep) (first
          | (go_at_call 41; refine (show_ b 0 _ c _ (by omega) (by first | exact H.out | exact H.out.draws _)).mono ?_; rintro e w2 ⟨rfl, hA2, hT2'⟩; have hT2 : Turn b w w2 := (by first | exact hT2' | exact hT2'.draws); have hcb2 : w2.cell? ⟨b, 1, none⟩ = some (.int .i64 c.banks) := (by rw [hA2.cell 1]; rfl)))
        all_goals go_wp2
        all_goals go_returns
        all_goals rw [HW.out, HE.out]
        all_goals exact ⟨rfl, hA2, hT2⟩
      · have HE : Hid (watch13 c (d : Int) x true = c) := (by rw [HV.out, if_neg (by simp; omega)] : watch13 c (d : Int) x true = c)
        have hd' : (64 : Int) ≤ (d : Int) := by omega
        clear HV
        go_enter Tryd.func25, Tryd.ntmps25
        go_wp2
        go_returns
        rw [HW.out, HE.out]
        exact ⟨rfl, H.out, Turn.refl _ _⟩
  have e3 : (c.tag.toList == [51, 70]) = false := beq_eq_false_iff_ne.2 h3
  by_cases hE : c.tag.toList = [70, 69]
  · have HV : Hid (watch13 c (d : Int) x wr = pile c d x) := (by unfold watch13; rw [if_neg h3, if_pos hE] : watch13 c (d : Int) x wr = pile c d x)
    clear h3
    go_enter Tryd.func25, Tryd.ntmps25
    go_wp2_with (go_at_call 42; refine (watchStack_ b d x c _ H.out (by omega) hx).mono ?_; rintro e w2 ⟨rfl, hA2, hT2⟩)
    go_returns
    rw [HW.out, HV.out]
    exact ⟨rfl, hA2, hT2⟩
  have eE : (c.tag.toList == [70, 69]) = false := beq_eq_false_iff_ne.2 hE
  have hb12 := bit12 d (by omega)
  by_cases hd : 4096 ≤ d
  · have HV : Hid (watch13 c (d : Int) x wr = own c ((d % 4096 : Nat) : Int) x) := (by unfold watch13; rw [if_neg h3, if_neg hE, if_pos (by omega)]; congr 1; omega : watch13 c (d : Int) x wr = own c ((d % 4096 : Nat) : Int) x)
    rw [show d / 4096 % 2 * 4096 = 4096 by omega] at hb12
    have hm12 := mask12 d (by omega)
    have hr : d % 4096 < 4096 := by omega
    generalize d % 4096 = r at *
    clear h3 hE
    go_enter Tryd.func25, Tryd.ntmps25
    go_wp2_with (go_at_call 43; refine (watchOwn_ b r x c _ H.out HP.out hr hx).mono ?_; rintro e w2 ⟨rfl, hA2, hT2⟩)
    go_returns
    rw [HW.out, HV.out]
    exact ⟨rfl, hA2, hT2⟩
  · have HV : Hid (watch13 c (d : Int) x wr = c) := (by unfold watch13; rw [if_neg h3, if_neg hE, if_neg (by omega)] : watch13 c (d : Int) x wr = c)
    rw [show d / 4096 % 2 * 4096 = 0 by omega] at hb12
    clear h3 hE
    go_enter Tryd.func25, Tryd.ntmps25
    go_wp2
    go_returns
    rw [HW.out, HV.out]
    exact ⟨rfl, H.out, Turn.refl _ _⟩

/-- What is so of a cartridge that was made and has watched. -/
structure Good (c : Ct) : Prop where
  plain : Plain c
  s1 : 1 ≤ c.size
  s2 : c.size ≤ 4096
  win : 4096 = c.size * c.win
  w4 : c.win ≤ 4
  b1 : 1 ≤ c.banks
  b2 : c.banks ≤ 524288
  whole : c.banks * c.size = c.img.size
  len : c.img.size ≤ 524288
  at0 : ∀ k : Nat, k < 4 → 0 ≤ c.at k ∧ c.at k < c.banks
  hotb : ∀ k : Nat, (c.hot k).2 ≤ c.banks
  fe : c.tag.toList = [70, 69] → 2 ≤ c.banks

theorem Good.place {c : Ct} (h : Good c) {o : Nat} (ho : o < 4096) : 0 ≤ place c o ∧ place c o < c.img.size ∧ ∃ s k : Nat, c.size = (s : Int) ∧ 1 ≤ s ∧ s ≤ 4096 ∧ o / s = k ∧ k < 4 ∧ 0 ≤ c.at k ∧ c.at k * c.size ≤ 1000000 ∧ (k : Int) < c.win := by
  obtain ⟨s, hs⟩ := Int.eq_ofNat_of_zero_le (show 0 ≤ c.size by have := h.s1; omega)
  have s1 := h.s1
  have s2 := h.s2
  rw [hs] at s1 s2
  obtain ⟨W, hW⟩ := Int.eq_ofNat_of_zero_le (show 0 ≤ c.win by
    have := h.win
    rw [hs] at this
    by_cases hn : 0 ≤ c.win
    · exact hn
    · have : (s : Int) * c.win ≤ (s : Int) * 0 := Int.mul_le_mul_of_nonneg_left (by omega) (by omega)
      omega)
  have hw := h.win
  rw [hs, hW] at hw
  have hw' : 4096 = s * W := by
    have e : ((4096 : Nat) : Int) = ((s * W : Nat) : Int) := by rw [Int.natCast_mul]; exact hw
    exact Int.ofNat.inj e
  have w4 := h.w4
  rw [hW] at w4
  have hk : o / s < W := (Nat.div_lt_iff_lt_mul (by omega)).2 (by rw [Nat.mul_comm]; omega)
  have h4 : o / s < 4 := by omega
  obtain ⟨a0, a1⟩ := h.at0 _ h4
  have e : Ca.place c o = c.at (o / s) * (s : Int) + ((o % s : Nat) : Int) := by
    unfold Ca.place
    rw [hs, show ((o : Int) / (s : Int)).toNat = o / s from rfl]
    rfl
  have hm : o % s < s := Nat.mod_lt _ (by omega)
  have p0 : 0 ≤ c.at (o / s) * (s : Int) := Int.mul_nonneg a0 (by omega)
  have p1 : (c.at (o / s) + 1) * (s : Int) ≤ c.banks * (s : Int) := Int.mul_le_mul_of_nonneg_right (by omega) (by omega)
  have wh := h.whole
  rw [hs] at wh
  have hl := h.len
  rw [Int.add_mul, Int.one_mul] at p1
  refine ⟨by rw [e]; omega, by rw [e]; omega, s, o / s, hs, by omega, by omega, rfl, h4, a0, by rw [hs]; omega, by rw [hW]; omega⟩

set_option maxHeartbeats 400000 in
theorem Where_nil (a : Int) (w : World) : Calls Tryd.prog 23 #[.pointer none, .int .u16 a] w fun e w' => e = .returned (.int .i64 (-1)) ∧ w' = w := by
  go_enter Tryd.func23, Tryd.ntmps23
  go_wp2
  go_returns
  exact ⟨rfl, rfl⟩

set_option maxRecDepth 100000 in
set_option maxHeartbeats 2000000 in
theorem Where (b a : Nat) (c : Ct) (w : World) (h : CAt w b c) (hg : Good c) (ha : a < 65536) : Calls Tryd.prog 23 #[.pointer (some ⟨b, 0, none⟩), .int .u16 (a : Int)] w fun e w' => e = .returned (.int .i64 (wher c a)) ∧ ∃ q, w' = w.drewN q := by
  have H : Hid (CAt w b c) := h
  have HG : Hid (Good c) := hg
  have hb12 := bit12 a ha
  have ce : w.cell? ⟨b, 4, none⟩ = some (.bool c.extra) := h.cell 4
  clear h hg
  by_cases h0 : a / 4096 % 2 = 0
  · have HV : Hid (wher c a = -1) := (by unfold wher; rw [if_pos (by omega)] : wher c a = -1)
    rw [h0] at hb12
    simp at hb12
    go_enter Tryd.func23, Tryd.ntmps23
    go_wp2
    go_returns
    rw [HV.out]
    exact ⟨rfl, 0, rfl⟩
  · rw [show a / 4096 % 2 * 4096 = 4096 by omega] at hb12
    have hm12 := mask12 a ha
    have hr : a % 4096 < 4096 := by omega
    have HV : Hid (wher c a = if c.extra && decide (((a % 4096 : Nat) : Int) < 256) then -1 else place c ((a % 4096 : Nat) : Int)) := (by unfold wher; rw [if_neg (by omega)]; rfl : wher c a = if c.extra && decide (((a % 4096 : Nat) : Int) < 256) then -1 else place c ((a % 4096 : Nat) : Int))
    generalize a % 4096 = r at *
    have hr64 : IntKind.i64.wrap (r : Int) = r := by rw [IntKind.wrap_i64]; omega
    clear h0
    match hex : c.extra with
    | true =>
      rw [hex] at ce
      by_cases h256 : r < 256
      · have HE : Hid (wher c a = -1) := (by rw [HV.out, if_pos (by rw [hex]; simp; omega)] : wher c a = -1)
        have h256' : (r : Int) < 256 := by omega
        clear HV
        go_enter Tryd.func23, Tryd.ntmps23
        go_wp2
        go_returns
        rw [HE.out]
        exact ⟨rfl, 0, rfl⟩
      · have HE : Hid (wher c a = place c (r : Int)) := (by rw [HV.out, if_neg (by rw [hex]; simp; omega)] : wher c a = place c (r : Int))
        have h256' : (256 : Int) ≤ (r : Int) := by omega
        obtain ⟨_, _, s, k, e1, e2, e3, e4, e5, e6, e7, _⟩ := HG.out.place hr
        clear HV
        go_enter Tryd.func23, Tryd.ntmps23
        go_wp2_with (go_at_call 40; refine (place_ b r k s c _ H.out e1 e2 e3 e4 e5 hr e6 e7).mono ?_; rintro e w2 ⟨rfl, q, rfl⟩)
        go_returns
        rw [HE.out]
        exact ⟨rfl, q, rfl⟩
    | false =>
      rw [hex] at ce
      have HE : Hid (wher c a = place c (r : Int)) := (by rw [HV.out, if_neg (by rw [hex]; simp)] : wher c a = place c (r : Int))
      obtain ⟨_, _, s, k, e1, e2, e3, e4, e5, e6, e7, _⟩ := HG.out.place hr
      clear HV
      go_enter Tryd.func23, Tryd.ntmps23
      go_wp2_with (go_at_call 40; refine (place_ b r k s c _ H.out e1 e2 e3 e4 e5 hr e6 e7).mono ?_; rintro e w2 ⟨rfl, q, rfl⟩)
      go_returns
      rw [HE.out]
      exact ⟨rfl, q, rfl⟩

end Go.Proofs.YtcohalkofahphaaDoor.Ca
