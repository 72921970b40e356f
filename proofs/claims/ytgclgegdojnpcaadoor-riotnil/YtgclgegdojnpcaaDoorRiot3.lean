/- What Read and Store of a riot do. -/
import Derived.Test.YtgclgegdojnpcaaDoorRiot2
namespace Go.Proofs.YtgclgegdojnpcaaDoor.Ri
open Go.RowKit Po

theorem FlagK {B : Rb} {r : Rs} {w : World} (h : RAt w B r) : Calls Tryd.prog 68 #[.pointer (some ⟨B.pt, 0, none⟩)] w fun e w' => e = .returned (.bool r.t.flag) ∧ w' = w := Tm.Flag B.pt 0 r.t w h.t
theorem TakeK {B : Rb} {r : Rs} {w : World} (hB : B.ok) (h : RAt w B r) : Calls Tryd.prog 69 #[.pointer (some ⟨B.pe, 0, none⟩)] w fun e w' => e = .returned (.bool r.e.c) ∧ RAt w' B ⟨r.ram, r.a, r.b, r.t, ⟨r.e.h, r.e.r, false⟩⟩ ∧ Rt B w w' :=
  (Take B.pe r.e w h.e).mono fun _ _ ⟨he, ha, ht⟩ => ⟨he, h.turn_e hB ht ha, Rt.of_turn ht B.in4⟩

set_option maxHeartbeats 2000000 in
theorem takeFlags (B : Rb) (r : Rs) (w : World) (hB : B.ok) (h : RAt w B r) : Calls Tryd.prog 50 #[.pointer (some ⟨B.b, 0, none⟩)] w fun e w' => e = .returned (.int .u8 (flags r : Int)) ∧ RAt w' B ⟨r.ram, r.a, r.b, r.t, ⟨r.e.h, r.e.r, false⟩⟩ ∧ Rt B w w' := by
  have H : Hid (RAt w B r) := h
  have HB : Hid B.ok := hB
  have h2 := h.c2
  have h3 := h.c3
  have o1 : bits .or .u8 0 128 = 128 := by decide
  have o2 : bits .or .u8 0 64 = 64 := by decide
  have o3 : bits .or .u8 128 64 = 192 := by decide
  have HF : Hid (flags r = (if r.t.flag then 128 else 0) + (if r.e.c then 64 else 0)) := rfl
  clear h hB
  obtain ⟨f, hf⟩ : ∃ f, r.t.flag = f := ⟨_, rfl⟩
  obtain ⟨c, hc⟩ : ∃ c, r.e.c = c := ⟨_, rfl⟩
  have HFl : Hid (r.t.flag = f) := hf
  have HC : Hid (r.e.c = c) := hc
  clear hf hc
  cases f <;> cases c
  all_goals
    go_enter Tryd.func50, Tryd.ntmps50
    go_wp2_with (go_at_call 68; fail)
    refine (FlagK H.out).mono ?_
    rintro e w2 ⟨rfl, rfl⟩
    rw [HFl.out]
    go_wp2_with (go_at_call 69; fail)
    refine (TakeK HB.out H.out).mono ?_
    rintro e w3 ⟨rfl, hR3, hT3⟩
    rw [HC.out]
    have H3 : Hid (RAt w3 B ⟨r.ram, r.a, r.b, r.t, ⟨r.e.h, r.e.r, false⟩⟩) := hR3
    have HT3 : Hid (Rt B w2 w3) := hT3
    clear hR3 hT3
    go_wp2
    go_returns
    rw [HF.out, HFl.out, HC.out]
    exact ⟨rfl, H3.out, HT3.out⟩

/-- The bits of an address. -/
theorem and512 (n : Nat) (h : n ≤ 65535) : bits .and .u16 (n : Int) 512 = (n / 512 % 2 * 512 : Nat) := by
  have := u16_and_nat n 512 (by omega) (by decide)
  rw [show (512 : Nat) = 2 ^ 9 from rfl, and_pow] at this
  exact this
theorem and4 (n : Nat) (h : n ≤ 65535) : bits .and .u16 (n : Int) 4 = (n / 4 % 2 * 4 : Nat) := by
  have := u16_and_nat n 4 (by omega) (by decide)
  rw [show (4 : Nat) = 2 ^ 2 from rfl, and_pow] at this
  exact this
theorem and16 (n : Nat) (h : n ≤ 65535) : bits .and .u16 (n : Int) 16 = (n / 16 % 2 * 16 : Nat) := by
  have := u16_and_nat n 16 (by omega) (by decide)
  rw [show (16 : Nat) = 2 ^ 4 from rfl, and_pow] at this
  exact this
theorem and1 (n : Nat) (h : n ≤ 65535) : bits .and .u16 (n : Int) 1 = (n % 2 : Nat) := by
  have := u16_and_nat n 1 (by omega) (by decide)
  rw [show (1 : Nat) = 2 ^ 0 from rfl, and_pow] at this
  rw [Nat.pow_zero, Nat.div_one, Nat.mul_one] at this
  exact this
theorem and3 (n : Nat) (h : n ≤ 65535) : bits .and .u16 (n : Int) 3 = (n % 4 : Nat) := by
  have := u16_and_nat n 3 (by omega) (by decide)
  rw [show (3 : Nat) = 2 ^ 2 - 1 from rfl, Nat.and_two_pow_sub_one_eq_mod] at this
  exact this

set_option maxHeartbeats 2000000 in
theorem Read_ram (B : Rb) (r : Rs) (n : Nat) (x : Int) (w : World) (hB : B.ok) (hr : r.ok) (hn : n ≤ 65535) (h9 : n / 512 % 2 = 0) (hx : r.ram[n % 128]? = some x) (h : RAt w B r) : Calls Tryd.prog 21 #[.pointer (some ⟨B.b, 0, none⟩), .int .u16 (n : Int)] w fun e w' => e = .returned (.int .u8 x) ∧ RAt w' B r ∧ Rt B w w' := by
  have H : Hid (RAt w B r) := h
  have HB : Hid B.ok := hB
  have HO : Hid r.ok := hr
  have b9 : bits .and .u16 (n : Int) 512 = 0 := by rw [and512 n hn, h9]; rfl
  have hz : n % 2 = 0 ∨ n % 2 = 1 := by omega
  have HX : Hid (r.ram[n % 128]? = some x) := hx
  clear hx h9 h
  clear hB hr
  rcases hz with h0 | h0
  all_goals
    first | (have b0 : bits .and .u16 (n : Int) 1 = 0 := by rw [and1 n hn, h0]; rfl) | (have b0 : bits .and .u16 (n : Int) 1 = 1 := by rw [and1 n hn, h0]; rfl)
    clear h0
    go_enter Tryd.func21, Tryd.ntmps21
    go_wp2_with (go_at_call 48; fail)
    refine (load B r n x _ hn HX.out H.out).mono ?_
    rintro e w2 ⟨rfl, rfl⟩
    go_wp2
    go_returns
    exact ⟨rfl, H.out, Rt.refl _ _⟩

set_option maxHeartbeats 2000000 in
theorem Read_ways_a (B : Rb) (r : Rs) (n : Nat) (w : World) (hB : B.ok) (hr : r.ok) (hn : n ≤ 65535) (h9 : n / 512 % 2 = 1) (h2 : n / 4 % 2 = 0) (h0 : n % 2 = 1) (hx : n / 2 % 2 = 0) (h : RAt w B r) : Calls Tryd.prog 21 #[.pointer (some ⟨B.b, 0, none⟩), .int .u16 (n : Int)] w fun e w' => e = .returned (.int .u8 (r.a.v : Int)) ∧ RAt w' B r ∧ Rt B w w' := by
  have H : Hid (RAt w B r) := h
  have HB : Hid B.ok := hB
  have HO : Hid r.ok := hr
  have b9 : bits .and .u16 (n : Int) 512 = 512 := by rw [and512 n hn, h9]; rfl
  have b2 : bits .and .u16 (n : Int) 4 = 0 := by rw [and4 n hn, h2]; rfl
  have b0 : bits .and .u16 (n : Int) 1 = 1 := by rw [and1 n hn, h0]; rfl
  have HX : Hid (n / 2 % 2 = 0) := hx
  clear hx h9 h2 h0 h
  clear hB hr
  go_enter Tryd.func21, Tryd.ntmps21
  go_wp2_with (go_at_call 43; fail)
  refine (portAt_a B r n _ hn HX.out H.out).mono ?_
  rintro e w2 ⟨rfl, rfl⟩
  go_wp2_with (go_at_call 49; fail)
  refine (Ways B.pa r.a _ H.out.a).mono ?_
  rintro e w3 ⟨rfl, rfl⟩
  go_wp2
  go_returns
  exact ⟨rfl, H.out, Rt.refl _ _⟩

set_option maxHeartbeats 2000000 in
theorem Read_lev_a (B : Rb) (r : Rs) (n : Nat) (w : World) (hB : B.ok) (hr : r.ok) (hn : n ≤ 65535) (h9 : n / 512 % 2 = 1) (h2 : n / 4 % 2 = 0) (h0 : n % 2 = 0) (hx : n / 2 % 2 = 0) (h : RAt w B r) : Calls Tryd.prog 21 #[.pointer (some ⟨B.b, 0, none⟩), .int .u16 (n : Int)] w fun e w' => e = .returned (.int .u8 (lev r.a : Int)) ∧ RAt w' B r ∧ Rt B w w' := by
  have H : Hid (RAt w B r) := h
  have HB : Hid B.ok := hB
  have HO : Hid r.ok := hr
  have b9 : bits .and .u16 (n : Int) 512 = 512 := by rw [and512 n hn, h9]; rfl
  have b2 : bits .and .u16 (n : Int) 4 = 0 := by rw [and4 n hn, h2]; rfl
  have b0 : bits .and .u16 (n : Int) 1 = 0 := by rw [and1 n hn, h0]; rfl
  have HX : Hid (n / 2 % 2 = 0) := hx
  clear hx h9 h2 h0 h
  clear hB hr
  go_enter Tryd.func21, Tryd.ntmps21
  go_wp2_with (go_at_call 43; fail)
  refine (portAt_a B r n _ hn HX.out H.out).mono ?_
  rintro e w2 ⟨rfl, rfl⟩
  go_wp2_with (go_at_call 40; fail)
  refine (Level B.pa r.a _ HO.out.a H.out.a).mono ?_
  rintro e w3 ⟨rfl, q, rfl⟩
  go_wp2
  go_returns
  exact ⟨rfl, H.out.draws q, Rt.draws q⟩

set_option maxHeartbeats 2000000 in
theorem Read_ways_b (B : Rb) (r : Rs) (n : Nat) (w : World) (hB : B.ok) (hr : r.ok) (hn : n ≤ 65535) (h9 : n / 512 % 2 = 1) (h2 : n / 4 % 2 = 0) (h0 : n % 2 = 1) (hx : n / 2 % 2 = 1) (h : RAt w B r) : Calls Tryd.prog 21 #[.pointer (some ⟨B.b, 0, none⟩), .int .u16 (n : Int)] w fun e w' => e = .returned (.int .u8 (r.b.v : Int)) ∧ RAt w' B r ∧ Rt B w w' := by
  have H : Hid (RAt w B r) := h
  have HB : Hid B.ok := hB
  have HO : Hid r.ok := hr
  have b9 : bits .and .u16 (n : Int) 512 = 512 := by rw [and512 n hn, h9]; rfl
  have b2 : bits .and .u16 (n : Int) 4 = 0 := by rw [and4 n hn, h2]; rfl
  have b0 : bits .and .u16 (n : Int) 1 = 1 := by rw [and1 n hn, h0]; rfl
  have HX : Hid (n / 2 % 2 = 1) := hx
  clear hx h9 h2 h0 h
  clear hB hr
  go_enter Tryd.func21, Tryd.ntmps21
  go_wp2_with (go_at_call 43; fail)
  refine (portAt_b B r n _ hn HX.out H.out).mono ?_
  rintro e w2 ⟨rfl, rfl⟩
  go_wp2_with (go_at_call 49; fail)
  refine (Ways B.pb r.b _ H.out.b).mono ?_
  rintro e w3 ⟨rfl, rfl⟩
  go_wp2
  go_returns
  exact ⟨rfl, H.out, Rt.refl _ _⟩

set_option maxHeartbeats 2000000 in
theorem Read_lev_b (B : Rb) (r : Rs) (n : Nat) (w : World) (hB : B.ok) (hr : r.ok) (hn : n ≤ 65535) (h9 : n / 512 % 2 = 1) (h2 : n / 4 % 2 = 0) (h0 : n % 2 = 0) (hx : n / 2 % 2 = 1) (h : RAt w B r) : Calls Tryd.prog 21 #[.pointer (some ⟨B.b, 0, none⟩), .int .u16 (n : Int)] w fun e w' => e = .returned (.int .u8 (lev r.b : Int)) ∧ RAt w' B r ∧ Rt B w w' := by
  have H : Hid (RAt w B r) := h
  have HB : Hid B.ok := hB
  have HO : Hid r.ok := hr
  have b9 : bits .and .u16 (n : Int) 512 = 512 := by rw [and512 n hn, h9]; rfl
  have b2 : bits .and .u16 (n : Int) 4 = 0 := by rw [and4 n hn, h2]; rfl
  have b0 : bits .and .u16 (n : Int) 1 = 0 := by rw [and1 n hn, h0]; rfl
  have HX : Hid (n / 2 % 2 = 1) := hx
  clear hx h9 h2 h0 h
  clear hB hr
  go_enter Tryd.func21, Tryd.ntmps21
  go_wp2_with (go_at_call 43; fail)
  refine (portAt_b B r n _ hn HX.out H.out).mono ?_
  rintro e w2 ⟨rfl, rfl⟩
  go_wp2_with (go_at_call 40; fail)
  refine (Level B.pb r.b _ HO.out.b H.out.b).mono ?_
  rintro e w3 ⟨rfl, q, rfl⟩
  go_wp2
  go_returns
  exact ⟨rfl, H.out.draws q, Rt.draws q⟩

set_option maxHeartbeats 2000000 in
theorem Read_flags (B : Rb) (r : Rs) (n : Nat) (w : World) (hB : B.ok) (hr : r.ok) (hn : n ≤ 65535) (h9 : n / 512 % 2 = 1) (h2 : n / 4 % 2 = 1) (h0 : n % 2 = 1) (h : RAt w B r) : Calls Tryd.prog 21 #[.pointer (some ⟨B.b, 0, none⟩), .int .u16 (n : Int)] w fun e w' => e = .returned (.int .u8 (flags r : Int)) ∧ RAt w' B ⟨r.ram, r.a, r.b, r.t, ⟨r.e.h, r.e.r, false⟩⟩ ∧ Rt B w w' := by
  have H : Hid (RAt w B r) := h
  have HB : Hid B.ok := hB
  have HO : Hid r.ok := hr
  have b9 : bits .and .u16 (n : Int) 512 = 512 := by rw [and512 n hn, h9]; rfl
  have b2 : bits .and .u16 (n : Int) 4 = 4 := by rw [and4 n hn, h2]; rfl
  have b0 : bits .and .u16 (n : Int) 1 = 1 := by rw [and1 n hn, h0]; rfl
  clear h9 h2 h0 h
  clear hB hr
  go_enter Tryd.func21, Tryd.ntmps21
  go_wp2_with (go_at_call 50; fail)
  refine (takeFlags B r _ HB.out H.out).mono ?_
  rintro e w2 ⟨rfl, hR2, hT2⟩
  have H2 : Hid (RAt w2 B ⟨r.ram, r.a, r.b, r.t, ⟨r.e.h, r.e.r, false⟩⟩) := hR2
  have HT2 : Hid (Rt B w w2) := hT2
  clear hR2 hT2
  go_wp2
  go_returns
  exact ⟨rfl, H2.out, HT2.out⟩

set_option maxHeartbeats 2000000 in
theorem Read_timer (B : Rb) (r : Rs) (n : Nat) (w : World) (hB : B.ok) (hr : r.ok) (hn : n ≤ 65535) (h9 : n / 512 % 2 = 1) (h2 : n / 4 % 2 = 1) (h0 : n % 2 = 0) (h : RAt w B r) : Calls Tryd.prog 21 #[.pointer (some ⟨B.b, 0, none⟩), .int .u16 (n : Int)] w fun e w' => e = .returned (.int .u8 (r.t.v : Int)) ∧ RAt w' B ⟨r.ram, r.a, r.b, Tm.rd r.t, r.e⟩ ∧ Rt B w w' := by
  have H : Hid (RAt w B r) := h
  have HB : Hid B.ok := hB
  have HO : Hid r.ok := hr
  have b9 : bits .and .u16 (n : Int) 512 = 512 := by rw [and512 n hn, h9]; rfl
  have b2 : bits .and .u16 (n : Int) 4 = 4 := by rw [and4 n hn, h2]; rfl
  have b0 : bits .and .u16 (n : Int) 1 = 0 := by rw [and1 n hn, h0]; rfl
  have c2 := h.c2
  clear h9 h2 h0 h
  clear hB hr
  go_enter Tryd.func21, Tryd.ntmps21
  go_wp2_with (go_at_call 51; fail)
  refine (Tm.Read B.pt 0 r.t _ H.out.t).mono ?_
  rintro e w2 ⟨rfl, hA2, hT2⟩
  have H2 : Hid (RAt w2 B ⟨r.ram, r.a, r.b, Tm.rd r.t, r.e⟩) := H.out.turn_t HB.out hT2 hA2
  have HT2 : Hid (Rt B w w2) := Rt.of_turn hT2 B.in3
  clear hA2 hT2
  go_wp2
  go_returns
  exact ⟨rfl, H2.out, HT2.out⟩

theorem Read (B : Rb) (r : Rs) (n : Nat) (w : World) (hB : B.ok) (hr : r.ok) (hn : n ≤ 65535) (h : RAt w B r) : Calls Tryd.prog 21 #[.pointer (some ⟨B.b, 0, none⟩), .int .u16 (n : Int)] w fun e w' => e = .returned (.int .u8 (rdV r n)) ∧ RAt w' B (rdS r n) ∧ Rt B w w' := by
  have e9 : n / 512 % 2 = 0 ∨ n / 512 % 2 = 1 := by omega
  have e2 : n / 4 % 2 = 0 ∨ n / 4 % 2 = 1 := by omega
  have e0 : n % 2 = 0 ∨ n % 2 = 1 := by omega
  have e1 : n / 2 % 2 = 0 ∨ n / 2 % 2 = 1 := by omega
  rcases e9 with e9 | e9
  · obtain ⟨x, hx⟩ : ∃ x, r.ram[n % 128]? = some x := ⟨_, List.getElem?_eq_getElem (by rw [hr.len]; omega)⟩
    rw [show rdV r n = x by simp [rdV, e9, hx], show rdS r n = r by simp [rdS, e9]]
    exact Read_ram B r n x w hB hr hn e9 hx h
  · rcases e2 with e2 | e2 <;> rcases e0 with e0 | e0
    · rcases e1 with e1 | e1
      · rw [show rdV r n = (lev r.a : Int) by simp [rdV, e9, e2, e0, e1], show rdS r n = r by simp [rdS, e9, e2]]
        exact Read_lev_a B r n w hB hr hn e9 e2 e0 e1 h
      · rw [show rdV r n = (lev r.b : Int) by simp [rdV, e9, e2, e0, e1], show rdS r n = r by simp [rdS, e9, e2]]
        exact Read_lev_b B r n w hB hr hn e9 e2 e0 e1 h
    · rcases e1 with e1 | e1
      · rw [show rdV r n = (r.a.v : Int) by simp [rdV, e9, e2, e0, e1], show rdS r n = r by simp [rdS, e9, e2]]
        exact Read_ways_a B r n w hB hr hn e9 e2 e0 e1 h
      · rw [show rdV r n = (r.b.v : Int) by simp [rdV, e9, e2, e0, e1], show rdS r n = r by simp [rdS, e9, e2]]
        exact Read_ways_b B r n w hB hr hn e9 e2 e0 e1 h
    · rw [show rdV r n = (r.t.v : Int) by simp [rdV, e9, e2, e0], show rdS r n = ⟨r.ram, r.a, r.b, Tm.rd r.t, r.e⟩ by simp [rdS, e9, e2, e0]]
      exact Read_timer B r n w hB hr hn e9 e2 e0 h
    · rw [show rdV r n = (flags r : Int) by simp [rdV, e9, e2, e0], show rdS r n = ⟨r.ram, r.a, r.b, r.t, ⟨r.e.h, r.e.r, false⟩⟩ by simp [rdS, e9, e2, e0]]
      exact Read_flags B r n w hB hr hn e9 e2 e0 h

end Go.Proofs.YtgclgegdojnpcaaDoor.Ri
