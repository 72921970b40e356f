/- BeamPlays, at a clock that is one: walked. -/
import Derived.Test.YtienmoannnhhmaaBeamPlaysM
import Derived.Deep.QuietTactic
set_option linter.unusedVariables false
namespace Go.Proofs.Ytienmoannnhhmaa.beamPlays
open Go.RowKit Count Bm

set_option maxRecDepth 100000 in
set_option maxHeartbeats 8000000 in
theorem good (A : List Act) (ao : Option Addr) (cap b0 off0 : Nat) (c : Nat) (W : World) (hc : c < 228) (hA : ∀ a ∈ A, a.ok) (hl : A.length ≤ 20) (hS : SeenX W ao cap b0 off0 4 (A.map Act.row)) :
    Calls Try.prog 3 #[.int .i64 (c : Int), .slice ao A.length cap] W fun e w' => e = .returned (.bool true) ∧ Below W.heap.size W w' := by
  have HA : Hid (∀ a ∈ A, a.ok) := hA
  have HS : Hid (SeenX W ao cap b0 off0 4 (A.map Act.row)) := hS
  have hcap := hS.max
  have hle := hS.le
  rw [List.length_map] at hle
  clear hA hS
  generalize hn : A.length = n at *
  have HN : Hid (A.length = n) := hn
  clear hn
  go_enter Try.func3, Try.ntmps3
  go_wp2_with (go_at_call 5; fail)
  refine (New_yes c W hc).mono ?_
  rintro e w1 ⟨b, cb, db, rfl, hb, hcb, hdb, hA1, hB1⟩
  have HB1 : Hid (Below W.heap.size W w1) := hB1
  have HA1 : Hid (BAt w1 b cb db c false) := hA1
  clear hA1 hB1
  go_wp2
  generalize hw2 : w1.alloc _ = w2
  obtain ⟨B, hB⟩ : ∃ B : Bk, B = ⟨b, cb, db, w1.heap.size⟩ := ⟨_, rfl⟩
  have HB2 : Hid (Be W B c false c false w2) := (by
    subst hB
    rw [← hw2]
    have hh := heap_alloc_new w1 (.cells #[.int .i64 (c : Int), .bool false] 26)
    have hB := (Below.refl w1.heap.size w1).alloc (Nat.le_refl _) (.cells #[.int .i64 (c : Int), .bool false] 26)
    have a1 := HA1.out.lt
    have a2 := HA1.out.c.lt
    have a3 := HA1.out.d.lt
    exact ⟨HA1.out.below hB, cell_of_row _ _ _ _ _ _ hh, cell_of_row _ _ _ _ _ _ hh, fun _ => frozen_of_row _ _ _ _ _ hh, HB1.out.trans (hB.mono HB1.out.size), ⟨by rintro k (rfl | rfl | rfl) <;> assumption, HB1.out.size, by rintro (e | e | e) <;> simp only at e <;> omega⟩⟩ : Be W B c false c false w2)
  rw [show b = B.b by rw [hB], show w1.heap.size = B.g by rw [hB]]
  clear hB hw2 HA1 HB1 hb hcb hdb
  go_loopw [7] (fun v wr => ∃ (k t : Nat) (l : Bool), k ≤ n ∧ v = .int .i64 (k : Int) ∧ Be W B t l t l wr) (fun v _ => n - (intOf v).toNat)
  case atStart => exact ⟨0, c, false, by omega, rfl, HB2.out⟩
  case round =>
    obtain ⟨k, t, l, hk, rfl, hR⟩ := hrel
    have HR : Hid (Be W B t l t l wr) := hR
    clear hR HB2
    by_cases hkn : k < n
    · obtain ⟨a, ha⟩ : ∃ a, A[k]? = some a := ⟨_, List.getElem?_eq_getElem (by rw [HN.out]; exact hkn)⟩
      obtain ⟨r0, r1, r2⟩ := HA.out a (List.mem_of_getElem? ha)
      have hrow : (A.map Act.row)[k]? = some a.row := by rw [List.getElem?_map, ha]; rfl
      have hao := HS.out.at_ (fun e => by rw [e] at hrow; cases hrow)
      have hb0 : b0 < W.heap.size := HS.out.lt (fun e => by rw [e] at hrow; cases hrow)
      subst hao
      have HC : Hid (∀ w', Below W.heap.size W w' → w'.cell? ⟨b0, off0 + k * 4, none⟩ = some (.int .i64 a.kind) ∧ w'.cell? ⟨b0, off0 + k * 4 + 1, none⟩ = some (.int .u16 (a.n : Int)) ∧ w'.cell? ⟨b0, off0 + k * 4 + 2, none⟩ = some (.int .i64 a.w0) ∧ w'.cell? ⟨b0, off0 + k * 4 + 3, none⟩ = some (.int .i64 a.w1)) := fun w' hw' =>
        have hSr := HS.out.below hw' (Nat.le_refl _)
        ⟨hSr.cell k _ hrow 0 _ rfl, hSr.cell k _ hrow 1 _ rfl, hSr.cell k _ hrow 2 _ rfl, hSr.cell k _ hrow 3 _ rfl⟩
      obtain ⟨c0, c1, c2, c3⟩ := HC.out _ HR.out.old
      obtain ⟨q, hq⟩ : ∃ q, a.kind.tmod 5 = q := ⟨_, rfl⟩
      obtain ⟨q1, q2⟩ := kind5 hq
      have k0 : (0 : Int) ≤ (k : Int) := by omega
      have k1 : (k : Int) < (n : Int) := by omega
      have g0 := HR.out.g0
      have g1 := HR.out.g1
      have HROW : Hid ((A.map Act.row)[k]? = some a.row) := hrow
      clear hrow ha
      have heq := words_self
      have hne1 : ¬ b0 = B.g := by have := HR.out.ok.hg; omega
      have hne2 : ¬ B.g = b0 := by have := HR.out.ok.hg; omega
      have h5 : (q + 5) % 5 = 0 ∨ (q + 5) % 5 = 1 ∨ (q + 5) % 5 = 2 ∨ (q + 5) % 5 = 3 ∨ (q + 5) % 5 = 4 := by omega
      rcases h5 with hm | hm | hm | hm | hm
      · skip
        clear HC
        obtain ⟨N, hN⟩ : ∃ N : Nat, (a.n : Int) % 600 = (N : Int) := ⟨a.n % 600, by omega⟩
        have hN6 : N ≤ 600 := by omega
        have HC : Hid (∀ w', Below W.heap.size W w' → w'.cell? ⟨b0, off0 + k * 4 + 1, none⟩ = some (.int .u16 (a.n : Int))) := fun w' hw' =>
          (HS.out.below hw' (Nat.le_refl _)).cell k _ HROW.out 1 _ rfl
        go_wp2
        clear hm hq q1 q2
        generalize (q + 5) % 5 = qq
        generalize q + 5 = qr
        go_loopw [8] (fun v wr => ∃ (m t : Nat) (l : Bool), m ≤ N ∧ v = .int .i64 (m : Int) ∧ Be W B t l t l wr) (fun v _ => N - (intOf v).toNat)
        case atStart => exact ⟨0, t, l, by omega, rfl, HR.out⟩
        case round =>
          obtain ⟨m, t, l, hm', rfl, hR2⟩ := hrel
          have HR2 : Hid (Be W B t l t l wr) := hR2
          clear hR2 HR c0 c1 c2 c3 g0 g1
          have c1 := HC.out _ HR2.out.old
          by_cases hmn : m < N
          · have g0 := HR2.out.g0
            have g1 := HR2.out.g1
            go_wp2_with (go_at_call 16; fail)
            refine (RBeginP t l HR2.out).mono ?_
            rintro e w3 ⟨rfl, hRw3⟩
            have HR3 : Hid (Be W B t l t l w3) := hRw3
            clear hRw3
            clear g0 g1 HR2 c1
            go_wp2
            have HX3 : Hid (Bx W B t l t l w3.heap.size t (bl t l) (w3.alloc (.cells #[.int .i64 (t : Int), .bool (bl t l)] 26))) := Bx.new HR3.out t (bl t l) _
            generalize w3.alloc _ = w3a at HX3 ⊢
            generalize w3.heap.size = h at HX3 ⊢
            clear HR3
            have y0 := HX3.out.h0
            have y1 := HX3.out.h1
            obtain ⟨ll, hll⟩ : ∃ ll, bl t l = ll := ⟨_, rfl⟩
            have HLL : Hid (bl t l = ll) := hll
            rw [hll] at HX3 y1 ⊢
            clear hll
            go_region_held3 (fun w' => w'.cell? ⟨h, 0, none⟩ = some (.int .i64 (t : Int)) ∧ w'.cell? ⟨h, 1, none⟩ = some (.bool ll)) (first | exact ⟨by assumption, by assumption⟩ | go_keep) (first
              | (go_at_call 10; refine (BeginX (t := t) (l := l) (t' := t) (l' := l) (h := h) (u := t) (m := ll) (W := W) (by first | exact HX3.out | exact HX3.out.draws _)).mono ?_; rintro e w5 ⟨rfl, hR5⟩; rw [HLL.out] at hR5; have H5 : Hid (Bx W B t ll t l h t ll w5) := hR5; have i0' := hR5.h0; have i1' := hR5.h1; clear hR5)
              | (go_at_call 11; refine (DarkX H5.out).mono ?_; rintro e w6 ⟨rfl, hR6⟩; have H6 : Hid (Bx W B t ll t l h t ll w6) := hR6; have i0' := hR6.h0; have i1' := hR6.h1; clear hR6)
              | (go_at_call 17; refine (RDarkX H6.out).mono ?_; rintro e w7 ⟨rfl, hR7⟩; have H7 : Hid (Bx W B t ll t l h t ll w7) := hR7; have i0' := hR7.h0; have i1' := hR7.h1; clear hR7)
              | (go_at_call 12; refine (PulseX H7.out).mono ?_; rintro e w8 ⟨rfl, hR8⟩; have H8 : Hid (Bx W B t ll t l h t ll w8) := hR8; have i0' := hR8.h0; have i1' := hR8.h1; clear hR8)
              | (go_at_call 18; refine (RPulseX H8.out).mono ?_; rintro e w9 ⟨rfl, hR9⟩; have H9 : Hid (Bx W B t ll t l h t ll w9) := hR9; have i0' := hR9.h0; have i1' := hR9.h1; clear hR9)
              | (go_at_call 9; refine (ClockX H9.out).mono ?_; rintro e w10 ⟨rfl, hR10⟩; have H10 : Hid (Bx W B t ll t l h t ll w10) := hR10; have i0' := hR10.h0; have i1' := hR10.h1; clear hR10))
            all_goals
              clear HX3 H5 H6 H7 H8 H9
              have HQ : Hid (t < 228) := H10.out.b.p.t1
              go_wp2_with (go_at_call 6; fail)
              refine (NextX H10.out).mono ?_
              rintro e w11 ⟨rfl, hR11⟩
              have H11 : Hid (Bx W B (nx t) ll t l h t ll w11) := hR11
              have y0' := hR11.h0
              have y1' := hR11.h1
              have z0 := hR11.b.g0
              have z1 := hR11.b.g1
              have zy := hR11.b.gz 0
              have zx := hR11.b.gz 1
              have hgg := hR11.hg
              clear hR11 H10
              go_wp2_with (go_at_call 19; fail)
              refine (RNextX HQ.out H11.out).mono ?_
              rintro e w12 ⟨rfl, hR12⟩
              have H12 : Hid (Bx W B (nx t) ll t l h t ll w12) := hR12
              have z0' := hR12.b.g0
              have z1' := hR12.b.g1
              have zy' := hR12.b.gz 0
              have zx' := hR12.b.gz 1
              clear hR12 H11 y0' y1' z0 z1 zy zx
              go_wp2
              go_roundw
            case rel => exact ⟨m + 1, nx t, ll, by omega, by go_num, (H12.out.b.put0 (nx t)).put1 ll⟩
            case measure => simp [intOf]; omega
          · have hmN : m = N := by omega
            subst hmN
            have HZ : Hid (Be W B t l t l wr) := HR2.out
            clear HR2
            obtain ⟨tt, ll, HY⟩ : ∃ tt ll, Hid (Be W B tt ll tt ll wr) := ⟨_, _, HZ⟩
            clear HZ
            have e0 := HY.out.g0
            have e1 := HY.out.g1
            go_wp2
            go_region_held3 (fun w' => w'.cell? ⟨B.g, 0, none⟩ = some (.int .i64 (tt : Int)) ∧ w'.cell? ⟨B.g, 1, none⟩ = some (.bool ll)) (first | exact ⟨by assumption, by assumption⟩ | go_keep) (first
              | (go_at_call 13; refine (WordsP (t := tt) (l := ll) (t' := tt) (l' := ll) (W := W) (by first | exact HY.out | exact HY.out.draws _)).mono ?_; rintro e w5 ⟨rfl, hR5⟩; have H5 : Hid (Be W B tt ll tt ll w5) := hR5; have i0' := hR5.g0; have i1' := hR5.g1; clear hR5)
              | (go_at_call 21; refine (RWordsP tt ll H5.out).mono ?_; rintro e w6 ⟨rfl, hR6⟩; have H6 : Hid (Be W B tt ll tt ll w6) := hR6; have i0' := hR6.g0; have i1' := hR6.g1; clear hR6)
              | (go_at_call 11; refine (DarkP H6.out).mono ?_; rintro e w7 ⟨rfl, hR7⟩; have H7 : Hid (Be W B tt ll tt ll w7) := hR7; have i0' := hR7.g0; have i1' := hR7.g1; clear hR7)
              | (go_at_call 17; refine (RDarkP tt ll H7.out).mono ?_; rintro e w8 ⟨rfl, hR8⟩; have H8 : Hid (Be W B tt ll tt ll w8) := hR8; have i0' := hR8.g0; have i1' := hR8.g1; clear hR8))
            all_goals go_wp2
            all_goals go_roundw
            case rel => exact ⟨k + 1, tt, ll, by omega, by go_num, H8.out⟩
            case measure => simp [intOf]; omega
      · skip
        go_wp2_with (go_at_call 7; fail)
        refine (CombP HR.out).mono ?_
        rintro e w3 ⟨rfl, hRw3⟩
        have HR3 : Hid (Be W B t true t l w3) := hRw3
        clear hRw3
        have z1 := HR3.out.g1
        have zz := HR3.out.gz 1
        clear c0 c1 c2 c3 g0 g1 HR
        go_wp2
        generalize hw4 : World.setCell _ _ _ = w4
        have HX : Hid (Be W B t true t true w4) := (by rw [← hw4]; exact HR3.out.put1 true : Be W B t true t true w4)
        clear hw4 HR3 z1 zz
        obtain ⟨tt, ll, HY⟩ : ∃ tt ll, Hid (Be W B tt ll tt ll w4) := ⟨_, _, HX⟩
        clear HX
        have e0 := HY.out.g0
        have e1 := HY.out.g1
        go_wp2
        go_region_held3 (fun w' => w'.cell? ⟨B.g, 0, none⟩ = some (.int .i64 (tt : Int)) ∧ w'.cell? ⟨B.g, 1, none⟩ = some (.bool ll)) (first | exact ⟨by assumption, by assumption⟩ | go_keep) (first
          | (go_at_call 13; refine (WordsP (t := tt) (l := ll) (t' := tt) (l' := ll) (W := W) (by first | exact HY.out | exact HY.out.draws _)).mono ?_; rintro e w5 ⟨rfl, hR5⟩; have H5 : Hid (Be W B tt ll tt ll w5) := hR5; have i0' := hR5.g0; have i1' := hR5.g1; clear hR5)
          | (go_at_call 21; refine (RWordsP tt ll H5.out).mono ?_; rintro e w6 ⟨rfl, hR6⟩; have H6 : Hid (Be W B tt ll tt ll w6) := hR6; have i0' := hR6.g0; have i1' := hR6.g1; clear hR6)
          | (go_at_call 11; refine (DarkP H6.out).mono ?_; rintro e w7 ⟨rfl, hR7⟩; have H7 : Hid (Be W B tt ll tt ll w7) := hR7; have i0' := hR7.g0; have i1' := hR7.g1; clear hR7)
          | (go_at_call 17; refine (RDarkP tt ll H7.out).mono ?_; rintro e w8 ⟨rfl, hR8⟩; have H8 : Hid (Be W B tt ll tt ll w8) := hR8; have i0' := hR8.g0; have i1' := hR8.g1; clear hR8))
        all_goals go_wp2
        all_goals go_roundw
        case rel => exact ⟨k + 1, tt, ll, by omega, by go_num, H8.out⟩
        case measure => simp [intOf]; omega
      · skip
        go_wp2_with (go_at_call 8; fail)
        refine (ResetP HR.out).mono ?_
        rintro e w3 ⟨rfl, hRw3⟩
        have HR3 : Hid (Be W B 0 l t l w3) := hRw3
        clear hRw3
        have z0 := HR3.out.g0
        have zz := HR3.out.gz 0
        clear c0 c1 c2 c3 g0 g1 HR
        go_wp2
        generalize hw4 : World.setCell _ _ _ = w4
        have HX : Hid (Be W B 0 l 0 l w4) := (by rw [← hw4]; exact HR3.out.put0 0 : Be W B 0 l 0 l w4)
        clear hw4 HR3 z0 zz
        obtain ⟨tt, ll, HY⟩ : ∃ tt ll, Hid (Be W B tt ll tt ll w4) := ⟨_, _, HX⟩
        clear HX
        have e0 := HY.out.g0
        have e1 := HY.out.g1
        go_wp2
        go_region_held3 (fun w' => w'.cell? ⟨B.g, 0, none⟩ = some (.int .i64 (tt : Int)) ∧ w'.cell? ⟨B.g, 1, none⟩ = some (.bool ll)) (first | exact ⟨by assumption, by assumption⟩ | go_keep) (first
          | (go_at_call 13; refine (WordsP (t := tt) (l := ll) (t' := tt) (l' := ll) (W := W) (by first | exact HY.out | exact HY.out.draws _)).mono ?_; rintro e w5 ⟨rfl, hR5⟩; have H5 : Hid (Be W B tt ll tt ll w5) := hR5; have i0' := hR5.g0; have i1' := hR5.g1; clear hR5)
          | (go_at_call 21; refine (RWordsP tt ll H5.out).mono ?_; rintro e w6 ⟨rfl, hR6⟩; have H6 : Hid (Be W B tt ll tt ll w6) := hR6; have i0' := hR6.g0; have i1' := hR6.g1; clear hR6)
          | (go_at_call 11; refine (DarkP H6.out).mono ?_; rintro e w7 ⟨rfl, hR7⟩; have H7 : Hid (Be W B tt ll tt ll w7) := hR7; have i0' := hR7.g0; have i1' := hR7.g1; clear hR7)
          | (go_at_call 17; refine (RDarkP tt ll H7.out).mono ?_; rintro e w8 ⟨rfl, hR8⟩; have H8 : Hid (Be W B tt ll tt ll w8) := hR8; have i0' := hR8.g0; have i1' := hR8.g1; clear hR8))
        all_goals go_wp2
        all_goals go_roundw
        case rel => exact ⟨k + 1, tt, ll, by omega, by go_num, H8.out⟩
        case measure => simp [intOf]; omega
      · by_cases hby : 0 ≤ a.w0 ∧ a.w0 < 228 ∧ (a.w1 = 0 ∨ a.w1 = 1)
        · obtain ⟨j, hj⟩ := Int.eq_ofNat_of_zero_le hby.1
          have HJ : Hid (j < 228 ∧ (a.w1 = 0 ∨ a.w1 = 1)) := ⟨by omega, hby.2.2⟩
          have HD : Hid (right (j : Int) a.w1 = true) := (show right (j : Int) a.w1 = true from decide_eq_true (by rw [← hj]; exact hby))
          rw [hj] at c2 HC
          clear hby
          obtain ⟨v, hv⟩ : ∃ v, (a.w1 == 1) = v := ⟨_, rfl⟩
          go_wp2_with (go_at_call 14; fail)
          refine (SetP_yes j a.w1 HJ.out.1 HJ.out.2 HR.out).mono ?_
          rintro e w3 ⟨rfl, hR3⟩
          rw [hv] at hR3
          have HR3 : Hid (Be W B j v t l w3) := hR3
          obtain ⟨-, -, d2, d3⟩ := HC.out _ hR3.old
          clear hR3 c0 c1 c2 c3 g0 g1 HR
          go_wp2_with (go_at_call 20; fail)
          refine (RRightP _ _ HD.out HR3.out).mono ?_
          rintro e w3a ⟨rfl, hR3a⟩
          have HR3a : Hid (Be W B j v t l w3a) := hR3a
          obtain ⟨-, -, f2, f3⟩ := HC.out _ hR3a.old
          have z0 := hR3a.g0
          have z1 := hR3a.g1
          have zz := hR3a.gz
          have zy := zz 0
          have zx := zz 1
          clear hR3a d2 d3 HR3 zz
          go_wp2
          go_region_held3 (fun w' => w'.cell? ⟨b0, off0 + k * 4 + 2, none⟩ = some (.int .i64 (j : Int)) ∧ w'.cell? ⟨b0, off0 + k * 4 + 3, none⟩ = some (.int .i64 a.w1)) (go_keep) (fail)
          go_wp2_with (go_at_call 20; fail)
          generalize hw4 : World.drew _ = w4
          have HX : Hid (Be W B j v j v w4) := (by rw [← hw4]; exact ((HR3a.out.put0 j).put1 v).draws 1 : Be W B j v j v w4)
          clear hw4 HR3a f2 f3 z0 z1 zy zx
          refine (RRightP _ _ HD.out HX.out).mono ?_
          rintro e w4a ⟨rfl, hR4⟩
          have HZ : Hid (Be W B j v j v w4a) := hR4
          clear HX hR4 HC hne1 hne2
          obtain ⟨tt, ll, HY⟩ : ∃ tt ll, Hid (Be W B tt ll tt ll w4a) := ⟨_, _, HZ⟩
          clear HZ
          have e0 := HY.out.g0
          have e1 := HY.out.g1
          go_wp2
          go_region_held3 (fun w' => w'.cell? ⟨B.g, 0, none⟩ = some (.int .i64 (tt : Int)) ∧ w'.cell? ⟨B.g, 1, none⟩ = some (.bool ll)) (first | exact ⟨by assumption, by assumption⟩ | go_keep) (first
            | (go_at_call 13; refine (WordsP (t := tt) (l := ll) (t' := tt) (l' := ll) (W := W) (by first | exact HY.out | exact HY.out.draws _)).mono ?_; rintro e w5 ⟨rfl, hR5⟩; have H5 : Hid (Be W B tt ll tt ll w5) := hR5; have i0' := hR5.g0; have i1' := hR5.g1; clear hR5)
            | (go_at_call 21; refine (RWordsP tt ll H5.out).mono ?_; rintro e w6 ⟨rfl, hR6⟩; have H6 : Hid (Be W B tt ll tt ll w6) := hR6; have i0' := hR6.g0; have i1' := hR6.g1; clear hR6)
            | (go_at_call 11; refine (DarkP H6.out).mono ?_; rintro e w7 ⟨rfl, hR7⟩; have H7 : Hid (Be W B tt ll tt ll w7) := hR7; have i0' := hR7.g0; have i1' := hR7.g1; clear hR7)
            | (go_at_call 17; refine (RDarkP tt ll H7.out).mono ?_; rintro e w8 ⟨rfl, hR8⟩; have H8 : Hid (Be W B tt ll tt ll w8) := hR8; have i0' := hR8.g0; have i1' := hR8.g1; clear hR8))
          all_goals go_wp2
          all_goals go_roundw
          case rel => exact ⟨k + 1, tt, ll, by omega, by go_num, H8.out⟩
          case measure => simp [intOf]; omega
        · have HD : Hid (right a.w0 a.w1 = false) := (show right a.w0 a.w1 = false from decide_eq_false hby)
          have HNo : Hid (¬ (0 ≤ a.w0 ∧ a.w0 < 228 ∧ (a.w1 = 0 ∨ a.w1 = 1))) := hby
          clear hby
          go_wp2_with (go_at_call 14; fail)
          refine (SetP_no _ _ HNo.out HR.out).mono ?_
          rintro e w3 ⟨rfl, hR3⟩
          have HR3 : Hid (Be W B t l t l w3) := hR3
          obtain ⟨-, -, d2, d3⟩ := HC.out _ hR3.old
          clear hR3 c0 c1 c2 c3 g0 g1 HR
          go_wp2_with (go_at_call 20; fail)
          refine (RRightP _ _ HD.out HR3.out).mono ?_
          rintro e w3a ⟨rfl, hR3a⟩
          have HR3a : Hid (Be W B t l t l w3a) := hR3a
          obtain ⟨-, -, f2, f3⟩ := HC.out _ hR3a.old
          clear hR3a d2 d3 HR3
          go_wp2_with (go_at_call 20; fail)
          refine (RRightP _ _ HD.out HR3a.out).mono ?_
          rintro e w4a ⟨rfl, hR4⟩
          have HZ : Hid (Be W B t l t l w4a) := hR4
          clear HR3a hR4 HC f2 f3
          obtain ⟨tt, ll, HY⟩ : ∃ tt ll, Hid (Be W B tt ll tt ll w4a) := ⟨_, _, HZ⟩
          clear HZ
          have e0 := HY.out.g0
          have e1 := HY.out.g1
          go_wp2
          go_region_held3 (fun w' => w'.cell? ⟨B.g, 0, none⟩ = some (.int .i64 (tt : Int)) ∧ w'.cell? ⟨B.g, 1, none⟩ = some (.bool ll)) (first | exact ⟨by assumption, by assumption⟩ | go_keep) (first
            | (go_at_call 13; refine (WordsP (t := tt) (l := ll) (t' := tt) (l' := ll) (W := W) (by first | exact HY.out | exact HY.out.draws _)).mono ?_; rintro e w5 ⟨rfl, hR5⟩; have H5 : Hid (Be W B tt ll tt ll w5) := hR5; have i0' := hR5.g0; have i1' := hR5.g1; clear hR5)
            | (go_at_call 21; refine (RWordsP tt ll H5.out).mono ?_; rintro e w6 ⟨rfl, hR6⟩; have H6 : Hid (Be W B tt ll tt ll w6) := hR6; have i0' := hR6.g0; have i1' := hR6.g1; clear hR6)
            | (go_at_call 11; refine (DarkP H6.out).mono ?_; rintro e w7 ⟨rfl, hR7⟩; have H7 : Hid (Be W B tt ll tt ll w7) := hR7; have i0' := hR7.g0; have i1' := hR7.g1; clear hR7)
            | (go_at_call 17; refine (RDarkP tt ll H7.out).mono ?_; rintro e w8 ⟨rfl, hR8⟩; have H8 : Hid (Be W B tt ll tt ll w8) := hR8; have i0' := hR8.g0; have i1' := hR8.g1; clear hR8))
          all_goals go_wp2
          all_goals go_roundw
          case rel => exact ⟨k + 1, tt, ll, by omega, by go_num, H8.out⟩
          case measure => simp [intOf]; omega
      · skip
        go_wp2_with (go_at_call 16; fail)
        refine (RBeginP t l HR.out).mono ?_
        rintro e w3 ⟨rfl, hRw3⟩
        have HR3 : Hid (Be W B t l t l w3) := hRw3
        clear hRw3
        clear g0 g1 c0 c1 c2 c3 HR
        go_wp2_with (go_at_call 10; fail)
        have HX3 : Hid (Bx W B t l t l w3.heap.size t (bl t l) (w3.alloc (.cells #[.int .i64 (t : Int), .bool (bl t l)] 26))) := Bx.new HR3.out t (bl t l) _
        generalize w3.alloc _ = w3a at HX3 ⊢
        generalize w3.heap.size = h at HX3 ⊢
        clear HR3
        refine (BeginX HX3.out).mono ?_
        rintro e w4 ⟨rfl, hR4⟩
        have HX4 : Hid (Bx W B t (bl t l) t l h t (bl t l) w4) := hR4
        clear hR4 HX3
        have y0 := HX4.out.h0
        have y1 := HX4.out.h1
        have z0 := HX4.out.b.g0
        have z1 := HX4.out.b.g1
        have zy := HX4.out.b.gz 0
        have zx := HX4.out.b.gz 1
        have hg := HX4.out.hg
        go_wp2
        generalize hw5 : World.setCell (World.setCell _ _ _) _ _ = w5
        have HX : Hid (Be W B t (bl t l) t (bl t l) w5) := (by rw [← hw5]; exact ((HX4.out.b.put0 t).put1 (bl t l)) : Be W B t (bl t l) t (bl t l) w5)
        clear hw5 HX4 y0 y1 z0 z1 zy zx hg
        obtain ⟨tt, ll, HY⟩ : ∃ tt ll, Hid (Be W B tt ll tt ll w5) := ⟨_, _, HX⟩
        clear HX
        have e0 := HY.out.g0
        have e1 := HY.out.g1
        go_wp2
        go_region_held3 (fun w' => w'.cell? ⟨B.g, 0, none⟩ = some (.int .i64 (tt : Int)) ∧ w'.cell? ⟨B.g, 1, none⟩ = some (.bool ll)) (first | exact ⟨by assumption, by assumption⟩ | go_keep) (first
          | (go_at_call 13; refine (WordsP (t := tt) (l := ll) (t' := tt) (l' := ll) (W := W) (by first | exact HY.out | exact HY.out.draws _)).mono ?_; rintro e w5 ⟨rfl, hR5⟩; have H5 : Hid (Be W B tt ll tt ll w5) := hR5; have i0' := hR5.g0; have i1' := hR5.g1; clear hR5)
          | (go_at_call 21; refine (RWordsP tt ll H5.out).mono ?_; rintro e w6 ⟨rfl, hR6⟩; have H6 : Hid (Be W B tt ll tt ll w6) := hR6; have i0' := hR6.g0; have i1' := hR6.g1; clear hR6)
          | (go_at_call 11; refine (DarkP H6.out).mono ?_; rintro e w7 ⟨rfl, hR7⟩; have H7 : Hid (Be W B tt ll tt ll w7) := hR7; have i0' := hR7.g0; have i1' := hR7.g1; clear hR7)
          | (go_at_call 17; refine (RDarkP tt ll H7.out).mono ?_; rintro e w8 ⟨rfl, hR8⟩; have H8 : Hid (Be W B tt ll tt ll w8) := hR8; have i0' := hR8.g0; have i1' := hR8.g1; clear hR8))
        all_goals go_wp2
        all_goals go_roundw
        case rel => exact ⟨k + 1, tt, ll, by omega, by go_num, H8.out⟩
        case measure => simp [intOf]; omega
    · have hkn' : k = n := by omega
      subst hkn'
      go_wp2_with (go_at_call 15; refine (awake15 _).mono ?_; rintro e w5 ⟨rfl, hB5⟩)
      go_returns
      exact ⟨rfl, HR.out.old.trans (hB5.mono HR.out.old.size)⟩

end Go.Proofs.Ytienmoannnhhmaa.beamPlays
