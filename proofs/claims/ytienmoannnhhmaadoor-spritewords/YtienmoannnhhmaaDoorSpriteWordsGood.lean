/- SpriteWords, no more than twenty acts: walked. -/
import Derived.Test.YtienmoannnhhmaaDoorSpriteWordsM
set_option linter.unusedVariables false
namespace Go.Proofs.YtienmoannnhhmaaDoor.spriteWords
open Go.RowKit Count Sp

set_option maxRecDepth 100000 in
set_option maxHeartbeats 8000000 in
theorem good (A : List Sp.Act) (ao : Option Addr) (cap b0 off0 c : Nat) (W : World) (ht : Tb W) (hc : c < 256) (hA : ∀ a ∈ A, a.ok) (hl : A.length ≤ 20) (hS : SeenX W ao cap b0 off0 7 (A.map Sp.Act.row)) :
    Calls Tryd.prog 6 #[.slice ao A.length cap, .int .u8 (c : Int)] W fun e w' => e = .returned (.bool true) ∧ Below W.heap.size W w' := by
  have HT : Hid (Tb W) := ht
  have HA : Hid (∀ a ∈ A, a.ok) := hA
  have HS : Hid (SeenX W ao cap b0 off0 7 (A.map Sp.Act.row)) := hS
  have hcap := hS.max
  have hle := hS.le
  rw [List.length_map] at hle
  clear hA hS ht
  generalize hn : A.length = n at *
  have HN : Hid (A.length = n) := hn
  clear hn
  go_enter Tryd.func6, Tryd.ntmps6
  go_wp2_with (go_at_call 8; fail)
  refine (New W).mono ?_
  rintro e w1 ⟨b, pb, rfl, hb, hpb, hA1, hB1⟩
  have HB1 : Hid (Below W.heap.size W w1 ∧ W.heap.size ≤ b ∧ W.heap.size ≤ pb) := ⟨hB1, hb, hpb⟩
  have HA1 : Hid (TAt w1 b pb 0 0) := hA1
  clear hA1 hB1 hb hpb
  go_wp2_with (go_at_call 8; fail)
  refine (New w1).mono ?_
  rintro e w2 ⟨b2, pb2, rfl, hb2, hpb2, hA2, hB2⟩
  have HW : Hid (Tw W b pb 0 0 b2 pb2 w2) := (by
    have l1 := HA1.out.lt
    have l2 := HA1.out.pl.lt
    exact ⟨HA1.out.below hB2, hA2, b_keep HB1.out.1 hB2, HB1.out.2, by omega, by omega, by omega, by omega⟩ : Tw W b pb 0 0 b2 pb2 w2)
  clear hA2 hB2 HA1 HB1 hb2 hpb2
  go_wp2
  go_loopw [7] (fun v wr => ∃ (k n' X : Nat), k ≤ n ∧ v = .int .i64 (k : Int) ∧ Tw W b pb n' X b2 pb2 wr) (fun v _ => n - (intOf v).toNat)
  case atStart => exact ⟨0, 0, 0, by omega, rfl, HW.out⟩
  case round =>
    obtain ⟨k, n', X, hk, rfl, hR⟩ := hrel
    have HR : Hid (Tw W b pb n' X b2 pb2 wr) := hR
    clear hR HW
    by_cases hkn : k < n
    · obtain ⟨a, ha⟩ : ∃ a, A[k]? = some a := ⟨_, List.getElem?_eq_getElem (by rw [HN.out]; exact hkn)⟩
      obtain ⟨r0, r1, r2, r3⟩ := HA.out a (List.mem_of_getElem? ha)
      have hrow : (A.map Sp.Act.row)[k]? = some a.row := by rw [List.getElem?_map, ha]; rfl
      have hao := HS.out.at_ (fun e => by rw [e] at hrow; cases hrow)
      subst hao
      have HC : Hid (∀ w', Below W.heap.size W w' → w'.cell? ⟨b0, off0 + k * 7, none⟩ = some (.int .i64 a.kind) ∧ w'.cell? ⟨b0, off0 + k * 7 + 1, none⟩ = some (.int .u16 (a.ticks : Int)) ∧ w'.cell? ⟨b0, off0 + k * 7 + 2, none⟩ = some (.int .u8 (a.copies : Int)) ∧ w'.cell? ⟨b0, off0 + k * 7 + 3, none⟩ = some (.int .i64 a.n) ∧ w'.cell? ⟨b0, off0 + k * 7 + 4, none⟩ = some (.int .i64 a.x) ∧ w'.cell? ⟨b0, off0 + k * 7 + 5, none⟩ = some (.int .i64 a.y) ∧ w'.cell? ⟨b0, off0 + k * 7 + 6, none⟩ = some (.int .i64 a.z)) := fun w' hw' =>
        have hSr := HS.out.below hw' (Nat.le_refl _)
        ⟨hSr.cell k _ hrow 0 _ rfl, hSr.cell k _ hrow 1 _ rfl, hSr.cell k _ hrow 2 _ rfl, hSr.cell k _ hrow 3 _ rfl, hSr.cell k _ hrow 4 _ rfl, hSr.cell k _ hrow 5 _ rfl, hSr.cell k _ hrow 6 _ rfl⟩
      obtain ⟨c0, c1, c2, c3, c4, c5, c6⟩ := HC.out _ HR.out.old
      obtain ⟨q, hq⟩ : ∃ q, a.kind.tmod 5 = q := ⟨_, rfl⟩
      obtain ⟨q1, q2⟩ := kind5 hq
      have k0 : (0 : Int) ≤ (k : Int) := by omega
      have k1 : (k : Int) < (n : Int) := by omega
      clear hrow ha
      have h5 : (q + 5) % 5 = 0 ∨ (q + 5) % 5 = 1 ∨ (q + 5) % 5 = 2 ∨ (q + 5) % 5 = 3 ∨ (q + 5) % 5 = 4 := by omega
      rcases h5 with hm | hm | hm | hm | hm
      · skip
        obtain ⟨N, hN⟩ : ∃ N : Nat, (a.ticks : Int) % 400 = (N : Int) := ⟨a.ticks % 400, by omega⟩
        have hN4 : N ≤ 400 := by omega
        go_wp2
        clear hm hq q1 q2 c0 c3 c4 c5 c6
        generalize (q + 5) % 5 = qq
        generalize q + 5 = qr
        go_loopw [8] (fun v wr => ∃ (m n' X' : Nat), m ≤ N ∧ v = .int .i64 (m : Int) ∧ Tw W b pb n' X' b2 pb2 wr) (fun v _ => N - (intOf v).toNat)
        case atStart => exact ⟨0, n', X, by omega, rfl, HR.out⟩
        case round =>
          obtain ⟨m, n', X, hm', rfl, hR2⟩ := hrel
          have HR2 : Hid (Tw W b pb n' X b2 pb2 wr) := hR2
          clear hR2 HR c1 c2
          obtain ⟨_, c1, c2, _⟩ := HC.out _ HR2.out.old
          by_cases hmn : m < N
          · go_wp2_with (go_at_call 14; fail)
            refine (Tick b pb n' X a.copies _ r3 HR2.out.t).mono ?_
            rintro e w3 ⟨rfl, hA3, hT3⟩
            have HR3 : Hid (Tw W b pb (rndN n' 160) (stp X (stB (rndN n' 160) a.copies)) b2 pb2 w3) := HR2.out.turn hT3 hA3
            clear hA3 hT3 HR2
            go_wp2
            go_roundw
            case rel => exact ⟨m + 1, _, _, by omega, by go_num, HR3.out⟩
            case measure => simp [intOf]; omega
          · go_wp2
            go_roundw
            case rel => exact ⟨k + 1, _, _, by omega, by go_num, HR2.out⟩
            case measure => simp [intOf]; omega
      · skip
        obtain ⟨N, hN⟩ : ∃ N : Nat, (a.ticks : Int) % 400 = (N : Int) := ⟨a.ticks % 400, by omega⟩
        have hN4 : N ≤ 400 := by omega
        go_wp2
        clear hm hq q1 q2 c0 c3 c4 c5 c6
        generalize (q + 5) % 5 = qq
        generalize q + 5 = qr
        go_loopw [8] (fun v wr => ∃ (m n' X' : Nat), m ≤ N ∧ v = .int .i64 (m : Int) ∧ Tw W b pb n' X' b2 pb2 wr) (fun v _ => N - (intOf v).toNat)
        case atStart => exact ⟨0, n', X, by omega, rfl, HR.out⟩
        case round =>
          obtain ⟨m, n', X, hm', rfl, hR2⟩ := hrel
          have HR2 : Hid (Tw W b pb n' X b2 pb2 wr) := hR2
          clear hR2 HR c1 c2
          obtain ⟨_, c1, c2, _⟩ := HC.out _ HR2.out.old
          by_cases hmn : m < N
          · go_wp2_with (go_at_call 14; fail)
            refine (Tick b pb n' X a.copies _ r3 HR2.out.t).mono ?_
            rintro e w3 ⟨rfl, hA3, hT3⟩
            have HR3 : Hid (Tw W b pb (rndN n' 160) (stp X (stB (rndN n' 160) a.copies)) b2 pb2 w3) := HR2.out.turn hT3 hA3
            clear hA3 hT3 HR2
            go_wp2
            go_roundw
            case rel => exact ⟨m + 1, _, _, by omega, by go_num, HR3.out⟩
            case measure => simp [intOf]; omega
          · go_wp2
            go_roundw
            case rel => exact ⟨k + 1, _, _, by omega, by go_num, HR2.out⟩
            case measure => simp [intOf]; omega
      · skip
        obtain ⟨N, hN⟩ : ∃ N : Nat, (a.ticks : Int) % 400 = (N : Int) := ⟨a.ticks % 400, by omega⟩
        have hN4 : N ≤ 400 := by omega
        go_wp2
        clear hm hq q1 q2 c0 c3 c4 c5 c6
        generalize (q + 5) % 5 = qq
        generalize q + 5 = qr
        go_loopw [8] (fun v wr => ∃ (m n' X' : Nat), m ≤ N ∧ v = .int .i64 (m : Int) ∧ Tw W b pb n' X' b2 pb2 wr) (fun v _ => N - (intOf v).toNat)
        case atStart => exact ⟨0, n', X, by omega, rfl, HR.out⟩
        case round =>
          obtain ⟨m, n', X, hm', rfl, hR2⟩ := hrel
          have HR2 : Hid (Tw W b pb n' X b2 pb2 wr) := hR2
          clear hR2 HR c1 c2
          obtain ⟨_, c1, c2, _⟩ := HC.out _ HR2.out.old
          by_cases hmn : m < N
          · go_wp2_with (go_at_call 14; fail)
            refine (Tick b pb n' X a.copies _ r3 HR2.out.t).mono ?_
            rintro e w3 ⟨rfl, hA3, hT3⟩
            have HR3 : Hid (Tw W b pb (rndN n' 160) (stp X (stB (rndN n' 160) a.copies)) b2 pb2 w3) := HR2.out.turn hT3 hA3
            clear hA3 hT3 HR2
            go_wp2
            go_roundw
            case rel => exact ⟨m + 1, _, _, by omega, by go_num, HR3.out⟩
            case measure => simp [intOf]; omega
          · go_wp2
            go_roundw
            case rel => exact ⟨k + 1, _, _, by omega, by go_num, HR2.out⟩
            case measure => simp [intOf]; omega
      · skip
        clear c1 c2 c4 c5 c6
        go_wp2_with (go_at_call 10; fail)
        refine (Put b pb n' X a.n _ HR.out.t).mono ?_
        rintro e w3 ⟨rfl, hA3, hT3⟩
        have HR3 : Hid (Tw W b pb (cntS 160 n' a.n) X b2 pb2 w3) := HR.out.turn hT3 hA3
        clear hA3 hT3 HR
        go_wp2
        go_roundw
        case rel => exact ⟨k + 1, _, _, by omega, by go_num, HR3.out⟩
        case measure => simp [intOf]; omega
      · skip
        clear c1 c2 c3
        go_wp2_with (go_at_call 11; fail)
        refine (Set_any b pb n' X a.x a.y a.z _ HR.out.t).mono ?_
        rintro e w3 ⟨v, n2, X2, rfl, hA3, hT3⟩
        have HR3 : Hid (Tw W b pb n2 X2 b2 pb2 w3) := HR.out.turn hT3 hA3
        clear hA3 hT3 HR
        go_wp2
        go_roundw
        case rel => exact ⟨k + 1, _, _, by omega, by go_num, HR3.out⟩
        case measure => simp [intOf]; omega
    · have hkn' : ¬ (k : Int) < (n : Int) := by omega
      have hT0 := HT.out
      clear hcap hle hk
      obtain ⟨y, hy⟩ : ∃ y, y = (ag X).1 := ⟨_, rfl⟩
      obtain ⟨z, hz⟩ : ∃ z, z = (ag X).2 := ⟨_, rfl⟩
      have hmay := ag_may X
      rw [← hy, ← hz] at hmay
      have HY : Hid (y = (ag X).1 ∧ z = (ag X).2 ∧ mayB y z) := ⟨hy, hz, hmay⟩
      clear hy hz hmay hT0
      go_wp2_with (go_at_call 18; fail)
      refine (WordsA b pb n' X y z _ HY.out.1 HY.out.2.1 (HT.out.below HR.out.old) HR.out.t).mono ?_
      rintro e w3 ⟨rfl, hB3⟩
      have HR3 : Hid (Tw W b pb n' X b2 pb2 w3) := HR.out.below hB3
      clear hB3 HR
      go_wp2_with (go_at_call 11; fail)
      refine (Set_yes b2 pb2 0 0 n' y z _ HR3.out.t.pl.n1 (canB_of HY.out.2.2) HR3.out.u).mono ?_
      rintro e w4 ⟨rfl, hU4, hT4⟩
      have HU4 : Hid (TAt w4 b2 pb2 n' (2 ^ y ||| 2 ^ z) ∧ TAt w4 b pb n' X ∧ Below W.heap.size W w4 ∧ (W.heap.size ≤ b ∧ W.heap.size ≤ pb) ∧ (b < b2 ∧ b < pb2 ∧ pb < b2 ∧ pb < pb2)) := (by
        have l0 := HR3.out.lo
        have l1 := HR3.out.ap
        exact ⟨hU4, HR3.out.t.turn hT4 (by rintro (e | e) <;> omega) (by rintro (e | e) <;> omega), s2_back (by rintro k (rfl | rfl) <;> omega) HR3.out.old hT4, l0, l1⟩)
      clear hU4 hT4 HR3
      go_wp2_with (go_at_call 25; fail)
      refine (Copy b pb n' X _ HU4.out.2.1).mono ?_
      rintro e w5 ⟨b3, pb3, rfl, hb3, hpb3, hC5, hB5⟩
      have HU5 : Hid (TAt w5 b3 pb3 n' X ∧ TAt w5 b2 pb2 n' (2 ^ y ||| 2 ^ z) ∧ TAt w5 b pb n' X ∧ Below W.heap.size W w5 ∧ (W.heap.size ≤ b ∧ W.heap.size ≤ pb) ∧ (b < b2 ∧ b < pb2 ∧ pb < b2 ∧ pb < pb2) ∧ (b2 < b3 ∧ b2 < pb3 ∧ pb2 < b3 ∧ pb2 < pb3)) := (by
        obtain ⟨u1, u2, u3, u4, u5⟩ := HU4.out
        have l1 := u1.lt
        have l2 := u1.pl.lt
        exact ⟨hC5, u1.below hB5, u2.below hB5, b_keep u3 hB5, u4, u5, by omega, by omega, by omega, by omega⟩)
      clear hb3 hpb3 hC5 hB5 HU4
      go_wp2_with (go_at_call 18; fail)
      refine (WordsA b pb n' X y z _ HY.out.1 HY.out.2.1 (HT.out.below HU5.out.2.2.2.1) HU5.out.2.2.1).mono ?_
      rintro e w6 ⟨rfl, hB6⟩
      have HU6 : Hid (TAt w6 b3 pb3 n' X ∧ TAt w6 b2 pb2 n' (2 ^ y ||| 2 ^ z) ∧ TAt w6 b pb n' X ∧ Below W.heap.size W w6 ∧ (W.heap.size ≤ b ∧ W.heap.size ≤ pb) ∧ (b < b2 ∧ b < pb2 ∧ pb < b2 ∧ pb < pb2) ∧ (b2 < b3 ∧ b2 < pb3 ∧ pb2 < b3 ∧ pb2 < pb3)) := (by
        obtain ⟨u1, u2, u3, u4, u5, u6, u7⟩ := HU5.out
        exact ⟨u1.below hB6, u2.below hB6, u3.below hB6, b_keep u4 hB6, u5, u6, u7⟩)
      clear hB6 HU5
      go_wp2
      have hh := heap_alloc_new w6 (.cells #[.int .i64 (n' : Int), .int .i64 (y : Int), .int .i64 (z : Int)] 29)
      obtain ⟨q0, q1, q2⟩ := cell3 hh
      have hBn : Below w6.heap.size w6 (w6.alloc (.cells #[.int .i64 (n' : Int), .int .i64 (y : Int), .int .i64 (z : Int)] 29)) := (Below.refl _ w6).alloc (Nat.le_refl _) _
      obtain ⟨g, hg⟩ : ∃ g, g = w6.heap.size := ⟨_, rfl⟩
      have HK : Hid (Al W ⟨b, pb, b2, pb2, b3, pb3, g⟩ n' X n' (2 ^ y ||| 2 ^ z) X (w6.alloc (.cells #[.int .i64 (n' : Int), .int .i64 (y : Int), .int .i64 (z : Int)] 29))) := (by
        obtain ⟨u1, u2, u3, u4, u5, u6, u7⟩ := HU6.out
        have l1 := u1.lt
        have l2 := u1.pl.lt
        refine ⟨u3.below hBn, u2.below hBn, u1.below hBn, ?_, ?_, ?_, ?_, b_keep u4 hBn, ⟨u5, u6, u7, ?_, ?_⟩⟩
        · rw [ag_two HY.out.2.2, HY.out.1, HY.out.2.1]
        · rw [hg]; exact q0
        · rw [hg, ← HY.out.1]; exact q1
        · rw [hg, ← HY.out.2.1]; exact q2
        · show b3 < g; omega
        · show pb3 < g; omega)
      rw [← hg]
      clear hh q0 q1 q2 hBn hg HU6
      generalize w6.alloc _ = w7 at HK ⊢
      go_loopw [12] (fun v wr => ∃ (m r Y Z : Nat), m ≤ c ∧ v = .int .i64 (m : Int) ∧ Al W ⟨b, pb, b2, pb2, b3, pb3, g⟩ n' X r Y Z wr) (fun v _ => c - (intOf v).toNat)
      case atStart => exact ⟨0, n', _, _, by omega, rfl, HK.out⟩
      case round =>
        obtain ⟨m, r, Y, Z, hm, rfl, hR⟩ := hrel
        have HR : Hid (Al W ⟨b, pb, b2, pb2, b3, pb3, g⟩ n' X r Y Z wr) := hR
        have HO : Hid ((b2 < b3 ∧ b2 < pb3 ∧ pb2 < b3 ∧ pb2 < pb3)) := hR.ok.a3
        clear hR HK
        by_cases hmc : m < c
        · go_wp2_with (go_at_call 14; fail)
          refine (Tick b2 pb2 r Y c _ hc HR.out.u).mono ?_
          rintro e w8 ⟨rfl, hU8, hT8⟩
          have HC8 : Hid (TAt w8 b3 pb3 r Z) := (by
            have l := HO.out
            exact HR.out.c.turn hT8 (by rintro (e | e) <;> simp only at e <;> omega) (by rintro (e | e) <;> simp only at e <;> omega))
          have HU8 : Hid (TAt w8 b2 pb2 (rndN r 160) (stp Y (stB (rndN r 160) c)) ∧ Tn (S2 b2 pb2) wr w8) := ⟨hU8, hT8⟩
          clear hU8 hT8
          go_wp2_with (go_at_call 14; fail)
          refine (Tick b3 pb3 r Z c _ hc HC8.out).mono ?_
          rintro e w9 ⟨rfl, hC9, hT9⟩
          have HR9 : Hid (Al W ⟨b, pb, b2, pb2, b3, pb3, g⟩ n' X (rndN r 160) (stp Y (stB (rndN r 160) c)) (stp Z (stB (rndN r 160) c)) w9) := HR.out.step HU8.out.2 HU8.out.1 hT9 hC9 (by rw [ag_stp, ag_stp, HR.out.e])
          clear hC9 hT9 HU8 HC8 HR
          generalize stp Y _ = Y2 at HR9
          generalize stp Z _ = Z2 at HR9
          generalize rndN r 160 = r2 at HR9
          obtain ⟨d5, hd5⟩ : ∃ d, d = dotI (ag Y2).1 (ag Y2).2 (ldN 5) := ⟨_, rfl⟩
          obtain ⟨d4, hd4⟩ : ∃ d, d = dotI (ag Y2).1 (ag Y2).2 (ldN 4) := ⟨_, rfl⟩
          have HD : Hid (d5 = dotI (ag Y2).1 (ag Y2).2 (ldN 5) ∧ d4 = dotI (ag Y2).1 (ag Y2).2 (ldN 4)) := ⟨hd5, hd4⟩
          clear hd5 hd4
          go_wp2_with (go_at_call 16; fail)
          refine (Dot b2 pb2 r2 Y2 5 _ (by decide) (HT.out.below HR9.out.old) HR9.out.u).mono ?_
          rintro e w10 ⟨rfl, hB10⟩
          rw [← HD.out.1]
          have HR10 : Hid (Al W ⟨b, pb, b2, pb2, b3, pb3, g⟩ n' X r2 Y2 Z2 w10) := HR9.out.below hB10
          clear hB10 HR9
          go_wp2_with (go_at_call 16; fail)
          refine (Dot b3 pb3 r2 Z2 5 _ (by decide) (HT.out.below HR10.out.old) HR10.out.c).mono ?_
          rintro e w11 ⟨rfl, hB11⟩
          rw [HR10.out.e, ← HD.out.1]
          have HR11 : Hid (Al W ⟨b, pb, b2, pb2, b3, pb3, g⟩ n' X r2 Y2 Z2 w11) := HR10.out.below hB11
          clear hB11 HR10
          go_wp2_with (go_at_call 16; fail)
          refine (Dot b2 pb2 r2 Y2 4 _ (by decide) (HT.out.below HR11.out.old) HR11.out.u).mono ?_
          rintro e w12 ⟨rfl, hB12⟩
          rw [← HD.out.2]
          have HR12 : Hid (Al W ⟨b, pb, b2, pb2, b3, pb3, g⟩ n' X r2 Y2 Z2 w12) := HR11.out.below hB12
          clear hB12 HR11
          go_wp2_with (go_at_call 16; fail)
          refine (Dot b3 pb3 r2 Z2 4 _ (by decide) (HT.out.below HR12.out.old) HR12.out.c).mono ?_
          rintro e w13 ⟨rfl, hB13⟩
          rw [HR12.out.e, ← HD.out.2]
          have HR13 : Hid (Al W ⟨b, pb, b2, pb2, b3, pb3, g⟩ n' X r2 Y2 Z2 w13) := HR12.out.below hB13
          clear hB13 HR12
          go_wp2
          go_roundw
          case rel => exact ⟨m + 1, r2, Y2, Z2, by omega, by go_num, HR13.out⟩
          case measure => simp [intOf]; omega
        · obtain ⟨yy, hyy⟩ : ∃ d, d = (ag Y).1 := ⟨_, rfl⟩
          obtain ⟨zz, hzz⟩ : ∃ d, d = (ag Y).2 := ⟨_, rfl⟩
          have HZ : Hid (yy = (ag Y).1 ∧ zz = (ag Y).2) := ⟨hyy, hzz⟩
          have heq := words_self
          clear hyy hzz hm
          go_wp2
          obtain ⟨i0, i1, i2⟩ := HR.out.gs HY.out
          have HX : Hid (yy = (ag Z).1 ∧ zz = (ag Z).2) := (by rw [HR.out.e]; exact HZ.out)
          clear hl hmc hkn hkn'
          go_region_held3 (fun w' => w'.cell? ⟨g, 0, none⟩ = some (.int .i64 (n' : Int)) ∧ w'.cell? ⟨g, 1, none⟩ = some (.int .i64 (y : Int)) ∧ w'.cell? ⟨g, 2, none⟩ = some (.int .i64 (z : Int))) (first | exact ⟨by assumption, by assumption, by assumption⟩ | go_keep) (first
            | (have hx := H10; clear hx; go_at_call 21; refine (awake16 _ (by first | exact HT.out.below H10.out.old | exact HT.out.below (H10.out.draws _).old)).mono ?_; rintro e w11 ⟨rfl, hB⟩; have H11 : Hid (Al W ⟨b, pb, b2, pb2, b3, pb3, g⟩ n' X r Y Z w11) := (by first | exact H10.out.below hB | exact (H10.out.draws _).below hB); obtain ⟨i0', i1', i2'⟩ := H11.out.gs HY.out; clear hB)
            | (have hx := H9; clear hx; go_at_call 18; refine (WordsA b pb n' X y z _ HY.out.1 HY.out.2.1 (by first | exact HT.out.below H9.out.old | exact HT.out.below (H9.out.draws _).old) (by first | exact H9.out.t | exact (H9.out.draws _).t)).mono ?_; rintro e w10 ⟨rfl, hB⟩; have H10 : Hid (Al W ⟨b, pb, b2, pb2, b3, pb3, g⟩ n' X r Y Z w10) := (by first | exact H9.out.below hB | exact (H9.out.draws _).below hB); obtain ⟨i0', i1', i2'⟩ := H10.out.gs HY.out; clear hB)
            | (have hx := H8; clear hx; go_at_call 18; refine (WordsA b3 pb3 r Z yy zz _ HX.out.1 HX.out.2 (by first | exact HT.out.below H8.out.old | exact HT.out.below (H8.out.draws _).old) (by first | exact H8.out.c | exact (H8.out.draws _).c)).mono ?_; rintro e w9 ⟨rfl, hB⟩; have H9 : Hid (Al W ⟨b, pb, b2, pb2, b3, pb3, g⟩ n' X r Y Z w9) := (by first | exact H8.out.below hB | exact (H8.out.draws _).below hB); obtain ⟨i0', i1', i2'⟩ := H9.out.gs HY.out; clear hB)
            | (go_at_call 18; refine (WordsA b2 pb2 r Y yy zz _ HZ.out.1 HZ.out.2 (by first | exact HT.out.below HR.out.old | exact HT.out.below (HR.out.draws _).old) (by first | exact HR.out.u | exact (HR.out.draws _).u)).mono ?_; rintro e w8 ⟨rfl, hB⟩; have H8 : Hid (Al W ⟨b, pb, b2, pb2, b3, pb3, g⟩ n' X r Y Z w8) := (by first | exact HR.out.below hB | exact (HR.out.draws _).below hB); obtain ⟨i0', i1', i2'⟩ := H8.out.gs HY.out; clear hB))
          all_goals
            go_wp2
            go_returns
            exact ⟨rfl, H11.out.old⟩

end Go.Proofs.YtienmoannnhhmaaDoor.spriteWords
