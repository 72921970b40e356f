/- What Store of a riot does. -/
import Derived.Test.YtgclgegdojnpcaaDoorRiot3
namespace Go.Proofs.YtgclgegdojnpcaaDoor.Ri
open Go.RowKit Po

set_option maxHeartbeats 2000000 in
theorem Store_ram (B : Rb) (r : Rs) (n : Nat) (v : Nat) (w : World) (hB : B.ok) (hr : r.ok) (hn : n ≤ 65535) (h9 : n / 512 % 2 = 0) (h : RAt w B r) : Calls Tryd.prog 20 #[.pointer (some ⟨B.b, 0, none⟩), .int .u16 (n : Int), .int .u8 (v : Int)] w fun e w' => e = .returned (.tuple #[]) ∧ RAt w' B ⟨r.ram.set (n % 128) v, r.a, r.b, r.t, r.e⟩ ∧ Rt B w w' := by
  have H : Hid (RAt w B r) := h
  have HB : Hid B.ok := hB
  have HO : Hid r.ok := hr
  have b9 : bits .and .u16 (n : Int) 512 = 0 := by rw [and512 n hn, h9]; rfl
  have hz : n % 2 = 0 ∨ n % 2 = 1 := by omega
  clear h9 h
  clear hB hr
  rcases hz with h0 | h0
  all_goals
    first | (have b0 : bits .and .u16 (n : Int) 1 = 0 := by rw [and1 n hn, h0]; rfl) | (have b0 : bits .and .u16 (n : Int) 1 = 1 := by rw [and1 n hn, h0]; rfl)
    clear h0
    go_enter Tryd.func20, Tryd.ntmps20
    go_wp2_with (go_at_call 42; fail)
    refine (keep B r n v _ HB.out hn HO.out.len H.out).mono ?_
    rintro e w9 ⟨rfl, hR9, hT9⟩
    have H9 : Hid (RAt w9 B ⟨r.ram.set (n % 128) v, r.a, r.b, r.t, r.e⟩) := hR9
    have HT9 : Hid (Rt B w w9) := hT9
    clear hR9 hT9
    go_wp2
    go_returns
    exact ⟨rfl, H9.out, HT9.out⟩

set_option maxHeartbeats 2000000 in
theorem Store_way_a (B : Rb) (r : Rs) (n : Nat) (v : Nat) (w : World) (hB : B.ok) (hr : r.ok) (hn : n ≤ 65535) (h9 : n / 512 % 2 = 1) (h2 : n / 4 % 2 = 0) (h0 : n % 2 = 1) (hx : n / 2 % 2 = 0) (h : RAt w B r) : Calls Tryd.prog 20 #[.pointer (some ⟨B.b, 0, none⟩), .int .u16 (n : Int), .int .u8 (v : Int)] w fun e w' => e = .returned (.tuple #[]) ∧ RAt w' B ⟨r.ram, ⟨r.a.i, r.a.o, v⟩, r.b, r.t, r.e⟩ ∧ Rt B w w' := by
  have H : Hid (RAt w B r) := h
  have HB : Hid B.ok := hB
  have HO : Hid r.ok := hr
  have b9 : bits .and .u16 (n : Int) 512 = 512 := by rw [and512 n hn, h9]; rfl
  have b2 : bits .and .u16 (n : Int) 4 = 0 := by rw [and4 n hn, h2]; rfl
  have b0 : bits .and .u16 (n : Int) 1 = 1 := by rw [and1 n hn, h0]; rfl
  have HX : Hid (n / 2 % 2 = 0) := hx
  clear hx h9 h2 h0 h
  clear hB hr
  go_enter Tryd.func20, Tryd.ntmps20
  go_wp2_with (go_at_call 43; fail)
  refine (portAt_a B r n _ hn HX.out H.out).mono ?_
  rintro e w2 ⟨rfl, rfl⟩
  go_wp2_with (go_at_call 44; fail)
  refine (Po.Way B.pa v r.a _ H.out.a).mono ?_
  rintro e w9 ⟨rfl, hA9, hU9⟩
  have hR9 := H.out.turn_a HB.out hU9 hA9
  have hT9 : Rt B w2 w9 := Rt.of_turn hU9 B.in1
  clear hA9 hU9
  have H9 : Hid (RAt w9 B ⟨r.ram, ⟨r.a.i, r.a.o, v⟩, r.b, r.t, r.e⟩) := hR9
  have HT9 : Hid (Rt B w2 w9) := hT9
  clear hR9 hT9
  go_wp2
  go_returns
  exact ⟨rfl, H9.out, HT9.out⟩

set_option maxHeartbeats 2000000 in
theorem Store_out_a (B : Rb) (r : Rs) (n : Nat) (v : Nat) (w : World) (hB : B.ok) (hr : r.ok) (hn : n ≤ 65535) (h9 : n / 512 % 2 = 1) (h2 : n / 4 % 2 = 0) (h0 : n % 2 = 0) (hx : n / 2 % 2 = 0) (h : RAt w B r) : Calls Tryd.prog 20 #[.pointer (some ⟨B.b, 0, none⟩), .int .u16 (n : Int), .int .u8 (v : Int)] w fun e w' => e = .returned (.tuple #[]) ∧ RAt w' B ⟨r.ram, ⟨r.a.i, v, r.a.v⟩, r.b, r.t, r.e⟩ ∧ Rt B w w' := by
  have H : Hid (RAt w B r) := h
  have HB : Hid B.ok := hB
  have HO : Hid r.ok := hr
  have b9 : bits .and .u16 (n : Int) 512 = 512 := by rw [and512 n hn, h9]; rfl
  have b2 : bits .and .u16 (n : Int) 4 = 0 := by rw [and4 n hn, h2]; rfl
  have b0 : bits .and .u16 (n : Int) 1 = 0 := by rw [and1 n hn, h0]; rfl
  have HX : Hid (n / 2 % 2 = 0) := hx
  clear hx h9 h2 h0 h
  clear hB hr
  go_enter Tryd.func20, Tryd.ntmps20
  go_wp2_with (go_at_call 43; fail)
  refine (portAt_a B r n _ hn HX.out H.out).mono ?_
  rintro e w2 ⟨rfl, rfl⟩
  go_wp2_with (go_at_call 45; fail)
  refine (Po.Out B.pa v r.a _ H.out.a).mono ?_
  rintro e w9 ⟨rfl, hA9, hU9⟩
  have hR9 := H.out.turn_a HB.out hU9 hA9
  have hT9 : Rt B w2 w9 := Rt.of_turn hU9 B.in1
  clear hA9 hU9
  have H9 : Hid (RAt w9 B ⟨r.ram, ⟨r.a.i, v, r.a.v⟩, r.b, r.t, r.e⟩) := hR9
  have HT9 : Hid (Rt B w2 w9) := hT9
  clear hR9 hT9
  go_wp2
  go_returns
  exact ⟨rfl, H9.out, HT9.out⟩

set_option maxHeartbeats 2000000 in
theorem Store_way_b (B : Rb) (r : Rs) (n : Nat) (v : Nat) (w : World) (hB : B.ok) (hr : r.ok) (hn : n ≤ 65535) (h9 : n / 512 % 2 = 1) (h2 : n / 4 % 2 = 0) (h0 : n % 2 = 1) (hx : n / 2 % 2 = 1) (h : RAt w B r) : Calls Tryd.prog 20 #[.pointer (some ⟨B.b, 0, none⟩), .int .u16 (n : Int), .int .u8 (v : Int)] w fun e w' => e = .returned (.tuple #[]) ∧ RAt w' B ⟨r.ram, r.a, ⟨r.b.i, r.b.o, v⟩, r.t, r.e⟩ ∧ Rt B w w' := by
  have H : Hid (RAt w B r) := h
  have HB : Hid B.ok := hB
  have HO : Hid r.ok := hr
  have b9 : bits .and .u16 (n : Int) 512 = 512 := by rw [and512 n hn, h9]; rfl
  have b2 : bits .and .u16 (n : Int) 4 = 0 := by rw [and4 n hn, h2]; rfl
  have b0 : bits .and .u16 (n : Int) 1 = 1 := by rw [and1 n hn, h0]; rfl
  have HX : Hid (n / 2 % 2 = 1) := hx
  clear hx h9 h2 h0 h
  clear hB hr
  go_enter Tryd.func20, Tryd.ntmps20
  go_wp2_with (go_at_call 43; fail)
  refine (portAt_b B r n _ hn HX.out H.out).mono ?_
  rintro e w2 ⟨rfl, rfl⟩
  go_wp2_with (go_at_call 44; fail)
  refine (Po.Way B.pb v r.b _ H.out.b).mono ?_
  rintro e w9 ⟨rfl, hA9, hU9⟩
  have hR9 := H.out.turn_b HB.out hU9 hA9
  have hT9 : Rt B w2 w9 := Rt.of_turn hU9 B.in2
  clear hA9 hU9
  have H9 : Hid (RAt w9 B ⟨r.ram, r.a, ⟨r.b.i, r.b.o, v⟩, r.t, r.e⟩) := hR9
  have HT9 : Hid (Rt B w2 w9) := hT9
  clear hR9 hT9
  go_wp2
  go_returns
  exact ⟨rfl, H9.out, HT9.out⟩

set_option maxHeartbeats 2000000 in
theorem Store_out_b (B : Rb) (r : Rs) (n : Nat) (v : Nat) (w : World) (hB : B.ok) (hr : r.ok) (hn : n ≤ 65535) (h9 : n / 512 % 2 = 1) (h2 : n / 4 % 2 = 0) (h0 : n % 2 = 0) (hx : n / 2 % 2 = 1) (h : RAt w B r) : Calls Tryd.prog 20 #[.pointer (some ⟨B.b, 0, none⟩), .int .u16 (n : Int), .int .u8 (v : Int)] w fun e w' => e = .returned (.tuple #[]) ∧ RAt w' B ⟨r.ram, r.a, ⟨r.b.i, v, r.b.v⟩, r.t, r.e⟩ ∧ Rt B w w' := by
  have H : Hid (RAt w B r) := h
  have HB : Hid B.ok := hB
  have HO : Hid r.ok := hr
  have b9 : bits .and .u16 (n : Int) 512 = 512 := by rw [and512 n hn, h9]; rfl
  have b2 : bits .and .u16 (n : Int) 4 = 0 := by rw [and4 n hn, h2]; rfl
  have b0 : bits .and .u16 (n : Int) 1 = 0 := by rw [and1 n hn, h0]; rfl
  have HX : Hid (n / 2 % 2 = 1) := hx
  clear hx h9 h2 h0 h
  clear hB hr
  go_enter Tryd.func20, Tryd.ntmps20
  go_wp2_with (go_at_call 43; fail)
  refine (portAt_b B r n _ hn HX.out H.out).mono ?_
  rintro e w2 ⟨rfl, rfl⟩
  go_wp2_with (go_at_call 45; fail)
  refine (Po.Out B.pb v r.b _ H.out.b).mono ?_
  rintro e w9 ⟨rfl, hA9, hU9⟩
  have hR9 := H.out.turn_b HB.out hU9 hA9
  have hT9 : Rt B w2 w9 := Rt.of_turn hU9 B.in2
  clear hA9 hU9
  have H9 : Hid (RAt w9 B ⟨r.ram, r.a, ⟨r.b.i, v, r.b.v⟩, r.t, r.e⟩) := hR9
  have HT9 : Hid (Rt B w2 w9) := hT9
  clear hR9 hT9
  go_wp2
  go_returns
  exact ⟨rfl, H9.out, HT9.out⟩

set_option maxHeartbeats 2000000 in
theorem Store_timer (B : Rb) (r : Rs) (n : Nat) (v : Nat) (w : World) (hB : B.ok) (hr : r.ok) (hn : n ≤ 65535) (ht : Tm.Tab w) (h9 : n / 512 % 2 = 1) (h2 : n / 4 % 2 = 1) (h4 : n / 16 % 2 = 1) (h : RAt w B r) : Calls Tryd.prog 20 #[.pointer (some ⟨B.b, 0, none⟩), .int .u16 (n : Int), .int .u8 (v : Int)] w fun e w' => e = .returned (.tuple #[]) ∧ RAt w' B ⟨r.ram, r.a, r.b, Tm.wr v (n % 4 : Nat), r.e⟩ ∧ Rt B w w' := by
  have H : Hid (RAt w B r) := h
  have HB : Hid B.ok := hB
  have HO : Hid r.ok := hr
  have b9 : bits .and .u16 (n : Int) 512 = 512 := by rw [and512 n hn, h9]; rfl
  have b2 : bits .and .u16 (n : Int) 4 = 4 := by rw [and4 n hn, h2]; rfl
  have b4 : bits .and .u16 (n : Int) 16 = 16 := by rw [and16 n hn, h4]; rfl
  have hz : n % 2 = 0 ∨ n % 2 = 1 := by omega
  have c2 := h.c2
  have HT : Hid (Tm.Tab w) := ht
  have b3 : bits .and .u16 (n : Int) 3 = (n % 4 : Nat) := and3 n hn
  have hm : n % 4 < 4 := by omega
  clear h9 h2 h4 h ht
  generalize n % 4 = m at *
  have hm64 : IntKind.i64.wrap (m : Int) = m := by rw [IntKind.wrap_i64]; omega
  clear hB hr
  rcases hz with h0 | h0
  all_goals
    first | (have b0 : bits .and .u16 (n : Int) 1 = 0 := by rw [and1 n hn, h0]; rfl) | (have b0 : bits .and .u16 (n : Int) 1 = 1 := by rw [and1 n hn, h0]; rfl)
    clear h0
    go_enter Tryd.func20, Tryd.ntmps20
    go_wp2_with (go_at_call 46; fail)
    refine (Tm.Write B.pt 0 r.t v (m : Int) _ HT.out H.out.t).mono ?_
    rintro e w9 ⟨rfl, hA9, hU9⟩
    have hR9 := H.out.turn_t HB.out hU9 hA9
    have hT9 : Rt B w w9 := Rt.of_turn hU9 B.in3
    clear hA9 hU9
    have H9 : Hid (RAt w9 B ⟨r.ram, r.a, r.b, Tm.wr v (m : Int), r.e⟩) := hR9
    have HT9 : Hid (Rt B w w9) := hT9
    clear hR9 hT9
    go_wp2
    go_returns
    exact ⟨rfl, H9.out, HT9.out⟩

set_option maxHeartbeats 2000000 in
theorem Store_edge0 (B : Rb) (r : Rs) (n : Nat) (v : Nat) (w : World) (hB : B.ok) (hr : r.ok) (hn : n ≤ 65535) (h9 : n / 512 % 2 = 1) (h2 : n / 4 % 2 = 1) (h4 : n / 16 % 2 = 0) (h0 : n % 2 = 0) (h : RAt w B r) : Calls Tryd.prog 20 #[.pointer (some ⟨B.b, 0, none⟩), .int .u16 (n : Int), .int .u8 (v : Int)] w fun e w' => e = .returned (.tuple #[]) ∧ RAt w' B ⟨r.ram, r.a, r.b, r.t, ⟨r.e.h, false, r.e.c⟩⟩ ∧ Rt B w w' := by
  have H : Hid (RAt w B r) := h
  have HB : Hid B.ok := hB
  have HO : Hid r.ok := hr
  have b9 : bits .and .u16 (n : Int) 512 = 512 := by rw [and512 n hn, h9]; rfl
  have b2 : bits .and .u16 (n : Int) 4 = 4 := by rw [and4 n hn, h2]; rfl
  have b4 : bits .and .u16 (n : Int) 16 = 0 := by rw [and16 n hn, h4]; rfl
  have b0 : bits .and .u16 (n : Int) 1 = 0 := by rw [and1 n hn, h0]; rfl
  have c3 := h.c3
  clear h9 h2 h4 h0 h
  clear hB hr
  go_enter Tryd.func20, Tryd.ntmps20
  go_wp2_with (go_at_call 47; fail)
  refine (Choose B.pe false r.e _ H.out.e).mono ?_
  rintro e w9 ⟨rfl, hA9, hU9⟩
  have hR9 := H.out.turn_e HB.out hU9 hA9
  have hT9 : Rt B w w9 := Rt.of_turn hU9 B.in4
  clear hA9 hU9
  have H9 : Hid (RAt w9 B ⟨r.ram, r.a, r.b, r.t, ⟨r.e.h, false, r.e.c⟩⟩) := hR9
  have HT9 : Hid (Rt B w w9) := hT9
  clear hR9 hT9
  go_wp2
  go_returns
  exact ⟨rfl, H9.out, HT9.out⟩

set_option maxHeartbeats 2000000 in
theorem Store_edge1 (B : Rb) (r : Rs) (n : Nat) (v : Nat) (w : World) (hB : B.ok) (hr : r.ok) (hn : n ≤ 65535) (h9 : n / 512 % 2 = 1) (h2 : n / 4 % 2 = 1) (h4 : n / 16 % 2 = 0) (h0 : n % 2 = 1) (h : RAt w B r) : Calls Tryd.prog 20 #[.pointer (some ⟨B.b, 0, none⟩), .int .u16 (n : Int), .int .u8 (v : Int)] w fun e w' => e = .returned (.tuple #[]) ∧ RAt w' B ⟨r.ram, r.a, r.b, r.t, ⟨r.e.h, true, r.e.c⟩⟩ ∧ Rt B w w' := by
  have H : Hid (RAt w B r) := h
  have HB : Hid B.ok := hB
  have HO : Hid r.ok := hr
  have b9 : bits .and .u16 (n : Int) 512 = 512 := by rw [and512 n hn, h9]; rfl
  have b2 : bits .and .u16 (n : Int) 4 = 4 := by rw [and4 n hn, h2]; rfl
  have b4 : bits .and .u16 (n : Int) 16 = 0 := by rw [and16 n hn, h4]; rfl
  have b0 : bits .and .u16 (n : Int) 1 = 1 := by rw [and1 n hn, h0]; rfl
  have c3 := h.c3
  clear h9 h2 h4 h0 h
  clear hB hr
  go_enter Tryd.func20, Tryd.ntmps20
  go_wp2_with (go_at_call 47; fail)
  refine (Choose B.pe true r.e _ H.out.e).mono ?_
  rintro e w9 ⟨rfl, hA9, hU9⟩
  have hR9 := H.out.turn_e HB.out hU9 hA9
  have hT9 : Rt B w w9 := Rt.of_turn hU9 B.in4
  clear hA9 hU9
  have H9 : Hid (RAt w9 B ⟨r.ram, r.a, r.b, r.t, ⟨r.e.h, true, r.e.c⟩⟩) := hR9
  have HT9 : Hid (Rt B w w9) := hT9
  clear hR9 hT9
  go_wp2
  go_returns
  exact ⟨rfl, H9.out, HT9.out⟩

theorem Store (B : Rb) (r : Rs) (n v : Nat) (w : World) (ht : Tm.Tab w) (hB : B.ok) (hr : r.ok) (hn : n ≤ 65535) (h : RAt w B r) : Calls Tryd.prog 20 #[.pointer (some ⟨B.b, 0, none⟩), .int .u16 (n : Int), .int .u8 (v : Int)] w fun e w' => e = .returned (.tuple #[]) ∧ RAt w' B (st r n v) ∧ Rt B w w' := by
  have e9 : n / 512 % 2 = 0 ∨ n / 512 % 2 = 1 := by omega
  have e2 : n / 4 % 2 = 0 ∨ n / 4 % 2 = 1 := by omega
  have e4 : n / 16 % 2 = 0 ∨ n / 16 % 2 = 1 := by omega
  have e0 : n % 2 = 0 ∨ n % 2 = 1 := by omega
  have e1 : n / 2 % 2 = 0 ∨ n / 2 % 2 = 1 := by omega
  rcases e9 with e9 | e9
  · rw [show st r n v = ⟨r.ram.set (n % 128) v, r.a, r.b, r.t, r.e⟩ by simp [st, e9]]
    exact Store_ram B r n v w hB hr hn e9 h
  · rcases e2 with e2 | e2
    · rcases e0 with e0 | e0 <;> rcases e1 with e1 | e1
      · rw [show st r n v = ⟨r.ram, ⟨r.a.i, v, r.a.v⟩, r.b, r.t, r.e⟩ by simp [st, e9, e2, e0, e1]]
        exact Store_out_a B r n v w hB hr hn e9 e2 e0 e1 h
      · rw [show st r n v = ⟨r.ram, r.a, ⟨r.b.i, v, r.b.v⟩, r.t, r.e⟩ by simp [st, e9, e2, e0, e1]]
        exact Store_out_b B r n v w hB hr hn e9 e2 e0 e1 h
      · rw [show st r n v = ⟨r.ram, ⟨r.a.i, r.a.o, v⟩, r.b, r.t, r.e⟩ by simp [st, e9, e2, e0, e1]]
        exact Store_way_a B r n v w hB hr hn e9 e2 e0 e1 h
      · rw [show st r n v = ⟨r.ram, r.a, ⟨r.b.i, r.b.o, v⟩, r.t, r.e⟩ by simp [st, e9, e2, e0, e1]]
        exact Store_way_b B r n v w hB hr hn e9 e2 e0 e1 h
    · rcases e4 with e4 | e4
      · rcases e0 with e0 | e0
        · rw [show st r n v = ⟨r.ram, r.a, r.b, r.t, ⟨r.e.h, false, r.e.c⟩⟩ by simp [st, e9, e2, e4, e0]]
          exact Store_edge0 B r n v w hB hr hn e9 e2 e4 e0 h
        · rw [show st r n v = ⟨r.ram, r.a, r.b, r.t, ⟨r.e.h, true, r.e.c⟩⟩ by simp [st, e9, e2, e4, e0]]
          exact Store_edge1 B r n v w hB hr hn e9 e2 e4 e0 h
      · rw [show st r n v = ⟨r.ram, r.a, r.b, Tm.wr v (n % 4 : Nat), r.e⟩ by simp [st, e9, e2, e4]]
        exact Store_timer B r n v w hB hr hn ht e9 e2 e4 h

end Go.Proofs.YtgclgegdojnpcaaDoor.Ri
