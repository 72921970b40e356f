/- What the calls of package cart do that watch. -/
import Derived.Test.YtcohalkofahphaaDoorCart1
set_option linter.unusedSimpArgs false
set_option linter.unusedVariables false
namespace Go.Proofs.YtcohalkofahphaaDoor.Ca
open Go.RowKit Img

set_option maxHeartbeats 400000 in
theorem byteAt_ (b p : Nat) (c : Ct) (w : World) (h : CAt w b c) (hp : p < c.img.size) : Calls Tryd.prog 38 #[.pointer (some ⟨b, 0, none⟩), .int .i64 (p : Int)] w fun e w' => e = .returned (.int .u8 ((c.img[p]).toNat : Int)) ∧ w' = w := by
  have hc : w.cell? ⟨b, 0, none⟩ = some (.string c.img) := h.cell 0
  have p0 : (0 : Int) ≤ (p : Int) := by omega
  have p1 : (p : Int) < (c.img.size : Int) := by omega
  clear h
  go_enter Tryd.func38, Tryd.ntmps38
  go_wp2
  go_returns
  exact ⟨rfl, rfl⟩

set_option maxHeartbeats 1000000 in
theorem watchStack_ (b a x : Nat) (c : Ct) (w : World) (h : CAt w b c) (ha : a < 65536) (hx : x < 256) : Calls Tryd.prog 42 #[.pointer (some ⟨b, 0, none⟩), .int .u16 (a : Int), .int .u8 (x : Int)] w fun e w' => e = .returned (.tuple #[]) ∧ CAt w' b (pile c a x) ∧ Turn b w w' := by
  have H : Hid (CAt w b c) := h
  have hc : w.cell? ⟨b, 16, none⟩ = some (.bool c.stack) := h.cell 16
  have hf := h.fz
  have hb5 := bit5 x hx
  clear h
  match hst : c.stack with
  | false =>
    have HE : Hid (pile c a x = c.arm (decide ((a : Int) = 510))) := (by unfold pile; rw [hst]; rfl : pile c a x = c.arm (decide ((a : Int) = 510)))
    rw [hst] at hc
    go_enter Tryd.func42, Tryd.ntmps42
    go_wp2
    go_returns
    rw [HE.out]
    exact ⟨rfl, H.out.arm _, (Turn.refl b w).set _ _⟩
  | true =>
    rw [hst] at hc
    have h2 : x / 32 % 2 = 0 ∨ x / 32 % 2 = 1 := by omega
    rcases h2 with h2 | h2
    · have HE : Hid (pile c a x = (c.put 0 1).arm (decide ((a : Int) = 510))) := (by unfold pile; rw [hst, if_pos rfl, if_neg (by omega)] : pile c a x = (c.put 0 1).arm (decide ((a : Int) = 510)))
      rw [h2] at hb5
      clear h2
      go_enter Tryd.func42, Tryd.ntmps42
      go_wp2_with (go_at_call 41; fail)
      refine (show_ b 0 1 c _ (by omega) H.out).mono ?_
      rintro e w2 ⟨rfl, hA2, hT2⟩
      have HA2 : Hid (CAt w2 b (c.put 0 1)) := hA2
      have HT2 : Hid (Turn b w w2) := hT2
      have hc2 : w2.cell? ⟨b, 16, none⟩ = some (.bool true) := by rw [hA2.cell 16, ← hst]; rfl
      have hf2 := hA2.fz
      clear hA2 hT2
      go_wp2
      go_returns
      rw [HE.out]
      exact ⟨rfl, HA2.out.arm _, HT2.out.set _ _⟩
    · have HE : Hid (pile c a x = (c.put 0 0).arm (decide ((a : Int) = 510))) := (by unfold pile; rw [hst, if_pos rfl, if_pos (by omega)] : pile c a x = (c.put 0 0).arm (decide ((a : Int) = 510)))
      rw [h2] at hb5
      clear h2
      go_enter Tryd.func42, Tryd.ntmps42
      go_wp2_with (go_at_call 41; fail)
      refine (show_ b 0 0 c _ (by omega) H.out).mono ?_
      rintro e w2 ⟨rfl, hA2, hT2⟩
      have HA2 : Hid (CAt w2 b (c.put 0 0)) := hA2
      have HT2 : Hid (Turn b w w2) := hT2
      have hc2 : w2.cell? ⟨b, 16, none⟩ = some (.bool true) := by rw [hA2.cell 16, ← hst]; rfl
      have hf2 := hA2.fz
      clear hA2 hT2
      go_wp2
      go_returns
      rw [HE.out]
      exact ⟨rfl, HA2.out.arm _, HT2.out.set _ _⟩

/-- What is so of a cartridge's hot rows and RAM. -/
structure Plain (c : Ct) : Prop where
  hot : ∀ k, 0 ≤ (c.hot k).1 ∧ 0 ≤ (c.hot k).2 ∧ (c.hot k).1 + (c.hot k).2 ≤ 65535
  ex : c.ex.length = 128

theorem size2 (w : World) : (sizeOf 81).run Tryd.prog w = .ok 2 w := by
  have h : (Tryd.prog.info? 81).map (·.size) = some 2 := by kernel_rfl
  obtain ⟨i, h1, h2⟩ := Option.map_eq_some_iff.1 h
  rw [run_sizeOf w h1, show Tryd.prog.cellsOf 81 = 2 by kernel_rfl]
theorem agg2 (w : World) : (isAgg 81).run Tryd.prog w = .ok true w := by
  unfold isAgg
  rw [Sem.run_bind, run_underlying Tryd.underlying81 w]
  simp
theorem row3 (c : Ct) (k : Nat) (hk : k < 3) (w : World) : (Instr.index 82 (.agg #[.int .u16 c.h0, .int .u16 c.g0, .int .u16 c.h1, .int .u16 c.g1, .int .u16 c.h2, .int .u16 c.g2]) (.int .i64 (k : Int))).run Tryd.prog w = .ok (.agg #[.int .u16 (c.hot k).1, .int .u16 (c.hot k).2]) w := by
  have h1 : (0 : Int) ≤ (k : Int) ∧ (k : Int) < 3 := by omega
  simp [Instr.index, run_underlying Tryd.underlying82, asIntOf, h1, size2, agg2, hk, go_sem]
  match k, hk with
  | 0, _ => rfl
  | 1, _ => rfl
  | 2, _ => rfl

theorem rows_hot (c : Ct) (o : Int) (j : Nat) : ∀ k, (rows c o k).hot j = c.hot j
  | 0 => rfl
  | k + 1 => by
    unfold rows
    split
    · rw [← rows_hot c o j k]
      unfold Ct.put
      split <;> rfl
    · exact rows_hot c o j k
theorem put_ex (c : Ct) (k : Nat) (v : Int) : (c.put k v).ex = c.ex ∧ (c.put k v).extra = c.extra := by
  unfold Ct.put
  split <;> exact ⟨rfl, rfl⟩
theorem rows_ex (c : Ct) (o : Int) : ∀ k, (rows c o k).ex = c.ex ∧ (rows c o k).extra = c.extra
  | 0 => ⟨rfl, rfl⟩
  | k + 1 => by
    unfold rows
    split
    · rw [(put_ex _ _ _).1, (put_ex _ _ _).2]; exact rows_ex c o k
    · exact rows_ex c o k

set_option maxRecDepth 100000 in
set_option maxHeartbeats 2000000 in
theorem watchOwn_ (b o x : Nat) (c : Ct) (w : World) (h : CAt w b c) (hp : Plain c) (ho : o < 4096) (hx : x < 256) : Calls Tryd.prog 43 #[.pointer (some ⟨b, 0, none⟩), .int .u16 (o : Int), .int .u8 (x : Int)] w fun e w' => e = .returned (.tuple #[]) ∧ CAt w' b (own c o x) ∧ Turn b w w' := by
  have H : Hid (CAt w b c) := h
  have HP : Hid (Plain c) := hp
  have c0 : w.cell? ⟨b, 10, none⟩ = some (.int .u16 c.h0) := h.cell 10
  have c1 : w.cell? ⟨b, 11, none⟩ = some (.int .u16 c.g0) := h.cell 11
  have c2 : w.cell? ⟨b, 12, none⟩ = some (.int .u16 c.h1) := h.cell 12
  have c3 : w.cell? ⟨b, 13, none⟩ = some (.int .u16 c.g1) := h.cell 13
  have c4 : w.cell? ⟨b, 14, none⟩ = some (.int .u16 c.h2) := h.cell 14
  have c5 : w.cell? ⟨b, 15, none⟩ = some (.int .u16 c.g2) := h.cell 15
  clear h hp
  go_enter Tryd.func43, Tryd.ntmps43
  go_wp2
  clear c0 c1 c2 c3 c4 c5
  go_loopw [14] (fun v wr => ∃ k : Nat, k ≤ 3 ∧ v = .int .i64 (k : Int) ∧ CAt wr b (rows c o k) ∧ Turn b w wr) (fun v _ => 3 - (intOf v).toNat)
  case atStart => exact ⟨0, by omega, rfl, H.out, Turn.refl _ _⟩
  case round =>
    obtain ⟨k, hk, rfl, hA, hT⟩ := hrel
    have HA : Hid (CAt wr b (rows c o k)) := hA
    have HT : Hid (Turn b w wr) := hT
    have hbr := hA.lt
    clear hA hT
    by_cases hl : k < 3
    · have hix := row3 c k hl
      obtain ⟨f0, f1, f2⟩ := HP.out.hot k
      have HR : Hid (rows c o (k + 1) = if hits c k o then (rows c o k).put k ((o : Int) - (c.hot k).1) else rows c o k) := rfl
      have HH : Hid (hits c k o = (decide ((c.hot k).1 ≤ (o : Int)) && decide ((o : Int) - (c.hot k).1 < (c.hot k).2))) := rfl
      generalize (c.hot k).1 = f at *
      generalize (c.hot k).2 = g at *
      go_wp2_with (go_at_call 39; fail)
      by_cases hh : f ≤ (o : Int) ∧ (o : Int) - f < g
      · refine (num_yes o f g _ hh.1 hh.2 f0 (by omega)).mono ?_
        rintro e w2 ⟨rfl, hw2⟩
        subst hw2
        generalize hw3 : wr.alloc _ = w3
        have hB3 : Below wr.heap.size wr w3 := by rw [← hw3]; exact (Below.refl _ _).alloc (Nat.le_refl _) _
        have HA3 : Hid (CAt w3 b (rows c o k)) := HA.out.below hB3
        have HT3 : Hid (Turn b w w3) := HT.out.trans (Turn.of_below hB3)
        clear hw3 hB3
        have HE : Hid (rows c o (k + 1) = (rows c o k).put k ((o : Int) - f)) := (by rw [HR.out, HH.out, if_pos (by simp [hh.1, hh.2])] : rows c o (k + 1) = (rows c o k).put k ((o : Int) - f))
        clear HR HH hh
        go_wp2_with (go_at_call 41; refine (show_ b k _ _ _ (by omega) HA3.out).mono ?_; rintro e w4 ⟨rfl, hA4, hT4⟩)
        go_roundw
        case rel => exact ⟨k + 1, by omega, by go_num, by rw [HE.out]; exact hA4, HT3.out.trans hT4⟩
        case measure => simp [intOf]; omega
      · refine (num_no o f g _ hh f0 (by omega)).mono ?_
        rintro e w2 ⟨rfl, hw2⟩
        subst hw2
        generalize hw3 : wr.alloc _ = w3
        have hB3 : Below wr.heap.size wr w3 := by rw [← hw3]; exact (Below.refl _ _).alloc (Nat.le_refl _) _
        have HA3 : Hid (CAt w3 b (rows c o k)) := HA.out.below hB3
        have HT3 : Hid (Turn b w w3) := HT.out.trans (Turn.of_below hB3)
        clear hw3 hB3
        have HE : Hid (rows c o (k + 1) = rows c o k) := (by rw [HR.out, HH.out, if_neg (by simp; omega)] : rows c o (k + 1) = rows c o k)
        clear HR HH hh
        go_wp2
        go_roundw
        case rel => exact ⟨k + 1, by omega, by go_num, by rw [HE.out]; exact HA3.out, HT3.out⟩
        case measure => simp [intOf]; omega
    · have hk3 : k = 3 := by omega
      subst hk3
      have hE : wr.cell? ⟨b, 4, none⟩ = some (.bool c.extra) := by rw [HA.out.cell 4, ← (rows_ex c o 3).2]; rfl
      match hex : c.extra with
      | false =>
        rw [hex] at hE
        have HO : Hid (own c o x = rows c o 3) := (by unfold own; rw [hex]; rfl : own c o x = rows c o 3)
        go_wp2
        go_returns
        rw [HO.out]
        exact ⟨rfl, HA.out, HT.out⟩
      | true =>
        rw [hex] at hE
        by_cases h128 : o < 128
        · have HO : Hid (own c o x = (rows c o 3).ram o x) := (by unfold own; rw [hex, if_pos (by simp; omega)]; rfl : own c o x = (rows c o 3).ram o x)
          obtain ⟨y, hy⟩ : ∃ y, c.ex[o]? = some y := ⟨_, List.getElem?_eq_getElem (by rw [HP.out.ex]; exact h128)⟩
          have hce : wr.cell? ⟨b, 17 + o, none⟩ = some (.int .u8 y) := by rw [HA.out.ex, (rows_ex c o 3).1, hy]; rfl
          have hf := HA.out.fz
          have o0 : (0 : Int) ≤ (o : Int) := by omega
          have o1 : (o : Int) < 128 := by omega
          clear hy hex
          go_wp2
          go_returns
          rw [HO.out]
          exact ⟨rfl, HA.out.ram o x, HT.out.set _ _⟩
        · have HO : Hid (own c o x = rows c o 3) := (by unfold own; rw [if_neg (by simp; omega)] : own c o x = rows c o 3)
          have o1 : (128 : Int) ≤ (o : Int) := by omega
          go_wp2
          go_returns
          rw [HO.out]
          exact ⟨rfl, HA.out, HT.out⟩

end Go.Proofs.YtcohalkofahphaaDoor.Ca
