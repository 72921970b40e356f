/- What New, Control, Rate, Volume of package tone do; the calls of a voice that is not there. (Written by wip/gen/gen_tone3.py.) -/
import Derived.Test.YtdnfclhljahghaaTone2
import Derived.Deep.RegionHeld
namespace Go.Proofs.Ytdnfclhljahghaa.To
open Go.RowKit
set_option linter.unusedVariables false

theorem mask15 : ∀ n : Nat, n < 256 → bits .and .u8 (n : Int) 15 = (n : Int) % 16 := by decide +kernel
theorem mask31 : ∀ n : Nat, n < 256 → bits .and .u8 (n : Int) 31 = (n : Int) % 32 := by decide +kernel

set_option maxRecDepth 100000 in
set_option maxHeartbeats 1000000 in
theorem control1 (g h b : Nat) (p : Vo) (n : Nat) (w : World) (hn : n < 256) (h0 : w.cell? ⟨g, 0, none⟩ = some (.int .u8 (n : Int))) (h1 : w.cell? ⟨h, 0, none⟩ = some (.pointer (some ⟨b, 0, none⟩))) (H0 : VAt w b p) :
    Calls Try.prog 54 #[.pointer (some ⟨g, 0, none⟩), .pointer (some ⟨h, 0, none⟩)] w fun e w' => e = .returned (.tuple #[]) ∧ VAt w' b { p with c := n % 16 } ∧ Turn b w w' := by
  have H : Hid (VAt w b p) := H0
  have c := H0.r.at_ 0 _ rfl
  have f := H0.r.fz 0
  have ok := H0.ok
  clear H0
  have HC : Hid (VAt (w.setCell ⟨b, 0, none⟩ (.int .u8 ((n : Int) % 16))) b { p with c := n % 16 }) := ⟨(H.out.r.put 0 _).to rfl, ⟨Nat.mod_lt _ (by decide), ok.r, ok.v, ok.f4, ok.f5, ok.f9, ok.k⟩⟩
  have HX : Hid (bits .and .u8 (n : Int) 15 = (n : Int) % 16) := mask15 n hn
  clear ok
  go_enter Try.func54, Try.ntmps54
  go_wp2
  go_end0
  refine ⟨rfl, ?_, (Turn.refl _ _).set _ _⟩
  first | exact HC.out | (rw [HX.out]; exact HC.out)

set_option maxRecDepth 100000 in
set_option maxHeartbeats 1000000 in
theorem putControl (g h b : Nat) (p : Vo) (n : Nat) (w : World) (hn : n < 256) (h0 : w.cell? ⟨g, 0, none⟩ = some (.int .u8 (n : Int))) (h1 : w.cell? ⟨h, 0, none⟩ = some (.pointer (some ⟨b, 0, none⟩))) (H0 : VAt w b p) :
    Calls Try.prog 53 #[.pointer (some ⟨b, 0, none⟩), .func (.func 54) #[] #[.pointer (some ⟨g, 0, none⟩), .pointer (some ⟨h, 0, none⟩)]] w fun e w' => e = .returned (.tuple #[]) ∧ VAt w' b { p with c := n % 16 } ∧ Turn b w w' := by
  have C : Hid (Calls Try.prog 54 #[.pointer (some ⟨g, 0, none⟩), .pointer (some ⟨h, 0, none⟩)] w fun e w' => e = .returned (.tuple #[]) ∧ VAt w' b { p with c := n % 16 } ∧ Turn b w w') := control1 g h b p n w hn h0 h1 H0
  clear H0 h0 h1
  go_enter Try.func53, Try.ntmps53
  go_wp2_with (go_at_call 54; fail)
  refine C.out.mono ?_
  rintro e w1 ⟨rfl, h2, h3⟩
  go_wp2
  go_end0
  exact ⟨rfl, h2, h3⟩

set_option maxRecDepth 100000 in
set_option maxHeartbeats 1000000 in
theorem Control (b : Nat) (p : Vo) (n : Nat) (w : World) (hn : n < 256) (h : VAt w b p) : Calls Try.prog 19 #[.pointer (some ⟨b, 0, none⟩), .int .u8 (n : Int)] w fun e w' => e = .returned (.tuple #[]) ∧ VAt w' b { p with c := n % 16 } ∧ Turn b w w' := by
  have H : Hid (VAt w b p) := h
  clear h
  go_enter Try.func19, Try.ntmps19
  go_wp2_with (go_at_call 53; fail)
  generalize hw1 : World.alloc (World.alloc _ _) _ = w1
  have H1 : Hid (VAt w1 b p ∧ Turn b w w1) := by rw [← hw1]; exact ⟨(H.out.alloc _).alloc _, ((Turn.refl _ _).alloc _).alloc _⟩
  have hr : w1.cell? ⟨w.heap.size, 0, none⟩ = some (.pointer (some ⟨b, 0, none⟩)) ∧ w1.cell? ⟨w.heap.size + 1, 0, none⟩ = some (.int .u8 (n : Int)) := by
    rw [← hw1]
    obtain ⟨r1, r2, -⟩ := rows2 w #[.pointer (some ⟨b, 0, none⟩)] #[.int .u8 (n : Int)] 23 5 (by simp)
    exact ⟨r1.at_ 0 _ rfl, r2.at_ 0 _ rfl⟩
  clear hw1
  refine (putControl (w.heap.size + 1) w.heap.size b p n w1 hn hr.2 hr.1 H1.out.1).mono ?_
  rintro e w2 ⟨rfl, h2, h3⟩
  go_wp2
  go_end0
  exact ⟨rfl, h2, H1.out.2.trans h3⟩

set_option maxRecDepth 100000 in
set_option maxHeartbeats 400000 in
theorem putControl_nil (g h : Nat) (w : World) : Calls Try.prog 53 #[.pointer none, .func (.func 54) #[] #[.pointer (some ⟨g, 0, none⟩), .pointer (some ⟨h, 0, none⟩)]] w fun e w' => e = .returned (.tuple #[]) ∧ w' = w := by
  go_enter Try.func53, Try.ntmps53
  go_wp2
  go_end0
  exact ⟨rfl, rfl⟩

set_option maxRecDepth 100000 in
set_option maxHeartbeats 400000 in
theorem Control_nil (n : Int) (w : World) : Calls Try.prog 19 #[.pointer none, .int .u8 n] w fun e w' => e = .returned (.tuple #[]) ∧ Below w.heap.size w w' := by
  go_enter Try.func19, Try.ntmps19
  go_wp2_with (go_at_call 53; refine (putControl_nil _ _ _).mono ?_; rintro e w1 ⟨rfl, rfl⟩)
  go_end0
  exact ⟨rfl, by go_grown⟩

set_option maxRecDepth 100000 in
set_option maxHeartbeats 1000000 in
theorem rate1 (g h b : Nat) (p : Vo) (n : Nat) (w : World) (hn : n < 256) (h0 : w.cell? ⟨g, 0, none⟩ = some (.int .u8 (n : Int))) (h1 : w.cell? ⟨h, 0, none⟩ = some (.pointer (some ⟨b, 0, none⟩))) (H0 : VAt w b p) :
    Calls Try.prog 55 #[.pointer (some ⟨g, 0, none⟩), .pointer (some ⟨h, 0, none⟩)] w fun e w' => e = .returned (.tuple #[]) ∧ VAt w' b { p with r := n % 32 } ∧ Turn b w w' := by
  have H : Hid (VAt w b p) := H0
  have c := H0.r.at_ 1 _ rfl
  have f := H0.r.fz 1
  have ok := H0.ok
  clear H0
  have HC : Hid (VAt (w.setCell ⟨b, 1, none⟩ (.int .u8 ((n : Int) % 32))) b { p with r := n % 32 }) := ⟨(H.out.r.put 1 _).to rfl, ⟨ok.c, Nat.mod_lt _ (by decide), ok.v, ok.f4, ok.f5, ok.f9, ok.k⟩⟩
  have HX : Hid (bits .and .u8 (n : Int) 31 = (n : Int) % 32) := mask31 n hn
  clear ok
  go_enter Try.func55, Try.ntmps55
  go_wp2
  go_end0
  refine ⟨rfl, ?_, (Turn.refl _ _).set _ _⟩
  first | exact HC.out | (rw [HX.out]; exact HC.out)

set_option maxRecDepth 100000 in
set_option maxHeartbeats 1000000 in
theorem putRate (g h b : Nat) (p : Vo) (n : Nat) (w : World) (hn : n < 256) (h0 : w.cell? ⟨g, 0, none⟩ = some (.int .u8 (n : Int))) (h1 : w.cell? ⟨h, 0, none⟩ = some (.pointer (some ⟨b, 0, none⟩))) (H0 : VAt w b p) :
    Calls Try.prog 53 #[.pointer (some ⟨b, 0, none⟩), .func (.func 55) #[] #[.pointer (some ⟨g, 0, none⟩), .pointer (some ⟨h, 0, none⟩)]] w fun e w' => e = .returned (.tuple #[]) ∧ VAt w' b { p with r := n % 32 } ∧ Turn b w w' := by
  have C : Hid (Calls Try.prog 55 #[.pointer (some ⟨g, 0, none⟩), .pointer (some ⟨h, 0, none⟩)] w fun e w' => e = .returned (.tuple #[]) ∧ VAt w' b { p with r := n % 32 } ∧ Turn b w w') := rate1 g h b p n w hn h0 h1 H0
  clear H0 h0 h1
  go_enter Try.func53, Try.ntmps53
  go_wp2_with (go_at_call 55; fail)
  refine C.out.mono ?_
  rintro e w1 ⟨rfl, h2, h3⟩
  go_wp2
  go_end0
  exact ⟨rfl, h2, h3⟩

set_option maxRecDepth 100000 in
set_option maxHeartbeats 1000000 in
theorem Rate (b : Nat) (p : Vo) (n : Nat) (w : World) (hn : n < 256) (h : VAt w b p) : Calls Try.prog 20 #[.pointer (some ⟨b, 0, none⟩), .int .u8 (n : Int)] w fun e w' => e = .returned (.tuple #[]) ∧ VAt w' b { p with r := n % 32 } ∧ Turn b w w' := by
  have H : Hid (VAt w b p) := h
  clear h
  go_enter Try.func20, Try.ntmps20
  go_wp2_with (go_at_call 53; fail)
  generalize hw1 : World.alloc (World.alloc _ _) _ = w1
  have H1 : Hid (VAt w1 b p ∧ Turn b w w1) := by rw [← hw1]; exact ⟨(H.out.alloc _).alloc _, ((Turn.refl _ _).alloc _).alloc _⟩
  have hr : w1.cell? ⟨w.heap.size, 0, none⟩ = some (.pointer (some ⟨b, 0, none⟩)) ∧ w1.cell? ⟨w.heap.size + 1, 0, none⟩ = some (.int .u8 (n : Int)) := by
    rw [← hw1]
    obtain ⟨r1, r2, -⟩ := rows2 w #[.pointer (some ⟨b, 0, none⟩)] #[.int .u8 (n : Int)] 23 5 (by simp)
    exact ⟨r1.at_ 0 _ rfl, r2.at_ 0 _ rfl⟩
  clear hw1
  refine (putRate (w.heap.size + 1) w.heap.size b p n w1 hn hr.2 hr.1 H1.out.1).mono ?_
  rintro e w2 ⟨rfl, h2, h3⟩
  go_wp2
  go_end0
  exact ⟨rfl, h2, H1.out.2.trans h3⟩

set_option maxRecDepth 100000 in
set_option maxHeartbeats 400000 in
theorem putRate_nil (g h : Nat) (w : World) : Calls Try.prog 53 #[.pointer none, .func (.func 55) #[] #[.pointer (some ⟨g, 0, none⟩), .pointer (some ⟨h, 0, none⟩)]] w fun e w' => e = .returned (.tuple #[]) ∧ w' = w := by
  go_enter Try.func53, Try.ntmps53
  go_wp2
  go_end0
  exact ⟨rfl, rfl⟩

set_option maxRecDepth 100000 in
set_option maxHeartbeats 400000 in
theorem Rate_nil (n : Int) (w : World) : Calls Try.prog 20 #[.pointer none, .int .u8 n] w fun e w' => e = .returned (.tuple #[]) ∧ Below w.heap.size w w' := by
  go_enter Try.func20, Try.ntmps20
  go_wp2_with (go_at_call 53; refine (putRate_nil _ _ _).mono ?_; rintro e w1 ⟨rfl, rfl⟩)
  go_end0
  exact ⟨rfl, by go_grown⟩

set_option maxRecDepth 100000 in
set_option maxHeartbeats 1000000 in
theorem volume1 (g h b : Nat) (p : Vo) (n : Nat) (w : World) (hn : n < 256) (h0 : w.cell? ⟨g, 0, none⟩ = some (.int .u8 (n : Int))) (h1 : w.cell? ⟨h, 0, none⟩ = some (.pointer (some ⟨b, 0, none⟩))) (H0 : VAt w b p) :
    Calls Try.prog 56 #[.pointer (some ⟨g, 0, none⟩), .pointer (some ⟨h, 0, none⟩)] w fun e w' => e = .returned (.tuple #[]) ∧ VAt w' b { p with v := n % 16 } ∧ Turn b w w' := by
  have H : Hid (VAt w b p) := H0
  have c := H0.r.at_ 2 _ rfl
  have f := H0.r.fz 2
  have ok := H0.ok
  clear H0
  have HC : Hid (VAt (w.setCell ⟨b, 2, none⟩ (.int .u8 ((n : Int) % 16))) b { p with v := n % 16 }) := ⟨(H.out.r.put 2 _).to rfl, ⟨ok.c, ok.r, Nat.mod_lt _ (by decide), ok.f4, ok.f5, ok.f9, ok.k⟩⟩
  have HX : Hid (bits .and .u8 (n : Int) 15 = (n : Int) % 16) := mask15 n hn
  clear ok
  go_enter Try.func56, Try.ntmps56
  go_wp2
  go_end0
  refine ⟨rfl, ?_, (Turn.refl _ _).set _ _⟩
  first | exact HC.out | (rw [HX.out]; exact HC.out)

set_option maxRecDepth 100000 in
set_option maxHeartbeats 1000000 in
theorem putVolume (g h b : Nat) (p : Vo) (n : Nat) (w : World) (hn : n < 256) (h0 : w.cell? ⟨g, 0, none⟩ = some (.int .u8 (n : Int))) (h1 : w.cell? ⟨h, 0, none⟩ = some (.pointer (some ⟨b, 0, none⟩))) (H0 : VAt w b p) :
    Calls Try.prog 53 #[.pointer (some ⟨b, 0, none⟩), .func (.func 56) #[] #[.pointer (some ⟨g, 0, none⟩), .pointer (some ⟨h, 0, none⟩)]] w fun e w' => e = .returned (.tuple #[]) ∧ VAt w' b { p with v := n % 16 } ∧ Turn b w w' := by
  have C : Hid (Calls Try.prog 56 #[.pointer (some ⟨g, 0, none⟩), .pointer (some ⟨h, 0, none⟩)] w fun e w' => e = .returned (.tuple #[]) ∧ VAt w' b { p with v := n % 16 } ∧ Turn b w w') := volume1 g h b p n w hn h0 h1 H0
  clear H0 h0 h1
  go_enter Try.func53, Try.ntmps53
  go_wp2_with (go_at_call 56; fail)
  refine C.out.mono ?_
  rintro e w1 ⟨rfl, h2, h3⟩
  go_wp2
  go_end0
  exact ⟨rfl, h2, h3⟩

set_option maxRecDepth 100000 in
set_option maxHeartbeats 1000000 in
theorem Volume (b : Nat) (p : Vo) (n : Nat) (w : World) (hn : n < 256) (h : VAt w b p) : Calls Try.prog 21 #[.pointer (some ⟨b, 0, none⟩), .int .u8 (n : Int)] w fun e w' => e = .returned (.tuple #[]) ∧ VAt w' b { p with v := n % 16 } ∧ Turn b w w' := by
  have H : Hid (VAt w b p) := h
  clear h
  go_enter Try.func21, Try.ntmps21
  go_wp2_with (go_at_call 53; fail)
  generalize hw1 : World.alloc (World.alloc _ _) _ = w1
  have H1 : Hid (VAt w1 b p ∧ Turn b w w1) := by rw [← hw1]; exact ⟨(H.out.alloc _).alloc _, ((Turn.refl _ _).alloc _).alloc _⟩
  have hr : w1.cell? ⟨w.heap.size, 0, none⟩ = some (.pointer (some ⟨b, 0, none⟩)) ∧ w1.cell? ⟨w.heap.size + 1, 0, none⟩ = some (.int .u8 (n : Int)) := by
    rw [← hw1]
    obtain ⟨r1, r2, -⟩ := rows2 w #[.pointer (some ⟨b, 0, none⟩)] #[.int .u8 (n : Int)] 23 5 (by simp)
    exact ⟨r1.at_ 0 _ rfl, r2.at_ 0 _ rfl⟩
  clear hw1
  refine (putVolume (w.heap.size + 1) w.heap.size b p n w1 hn hr.2 hr.1 H1.out.1).mono ?_
  rintro e w2 ⟨rfl, h2, h3⟩
  go_wp2
  go_end0
  exact ⟨rfl, h2, H1.out.2.trans h3⟩

set_option maxRecDepth 100000 in
set_option maxHeartbeats 400000 in
theorem putVolume_nil (g h : Nat) (w : World) : Calls Try.prog 53 #[.pointer none, .func (.func 56) #[] #[.pointer (some ⟨g, 0, none⟩), .pointer (some ⟨h, 0, none⟩)]] w fun e w' => e = .returned (.tuple #[]) ∧ w' = w := by
  go_enter Try.func53, Try.ntmps53
  go_wp2
  go_end0
  exact ⟨rfl, rfl⟩

set_option maxRecDepth 100000 in
set_option maxHeartbeats 400000 in
theorem Volume_nil (n : Int) (w : World) : Calls Try.prog 21 #[.pointer none, .int .u8 n] w fun e w' => e = .returned (.tuple #[]) ∧ Below w.heap.size w w' := by
  go_enter Try.func21, Try.ntmps21
  go_wp2_with (go_at_call 53; refine (putVolume_nil _ _ _).mono ?_; rintro e w1 ⟨rfl, rfl⟩)
  go_end0
  exact ⟨rfl, by go_grown⟩

set_option maxRecDepth 100000 in
set_option maxHeartbeats 400000 in
theorem Tick_nil (w : World) : Calls Try.prog 25 #[.pointer none] w fun e w' => e = .returned (.tuple #[]) ∧ w' = w := by
  go_enter Try.func25, Try.ntmps25
  go_wp2
  first | (go_end0; exact ⟨rfl, rfl⟩) | (go_returns; exact ⟨rfl, rfl⟩)
set_option maxHeartbeats 400000 in
theorem Level_nil (w : World) : Calls Try.prog 16 #[.pointer none] w fun e w' => e = .returned (.int .u8 0) ∧ w' = w := by
  go_enter Try.func16, Try.ntmps16
  go_wp2
  go_returns
  exact ⟨rfl, rfl⟩
set_option maxHeartbeats 400000 in
theorem Copy_nil (w : World) : Calls Try.prog 24 #[.pointer none] w fun e w' => e = .returned (.pointer none) ∧ w' = w := by
  go_enter Try.func24, Try.ntmps24
  go_wp2
  go_returns
  exact ⟨rfl, rfl⟩
set_option maxRecDepth 100000 in
set_option maxHeartbeats 1000000 in
theorem Words_nil (w : World) : Calls Try.prog 14 #[.pointer none] w fun e w' => e = .returned (.agg #[.int .i64 0, .int .i64 0, .int .i64 0, .int .i64 0, .int .i64 0, .int .i64 0, .int .i64 0, .int .i64 0]) ∧ Below w.heap.size w w' := by
  go_enter Try.func14, Try.ntmps14
  go_wp2
  go_returns
  exact ⟨rfl, by go_grown⟩
set_option maxRecDepth 100000 in
set_option maxHeartbeats 1000000 in
theorem Set_nil (w : World) : Calls Try.prog 23 #[.pointer none, .agg #[.int .i64 0, .int .i64 0, .int .i64 0, .int .i64 0, .int .i64 0, .int .i64 0, .int .i64 0, .int .i64 0]] w fun e w' => e = .returned (.int .i64 1) ∧ Below w.heap.size w w' := by
  go_enter Try.func23, Try.ntmps23
  go_wp2
  go_returns
  exact ⟨rfl, by go_grown⟩

end Go.Proofs.Ytdnfclhljahghaa.To
