/- CartServes, walked. -/
import Derived.Test.YtcohalkofahphaaDoorPlayB
set_option linter.unusedSimpArgs false
set_option linter.unusedVariables false
namespace Go.Proofs.YtcohalkofahphaaDoor.Ca
open Go.RowKit Img

set_option maxRecDepth 100000 in
set_option maxHeartbeats 2000000 in
theorem serves_big (p : Pl) (addr : Int) (W : World) (h : 200 < p.n ∨ 32768 < p.len) (hc : p.n ≤ p.cap) (hm : p.cap ≤ 9223372036854775807) :
    Calls Tryd.prog 6 #[.agg p.cells.toArray, .int .u16 addr] W fun e w' => e = .returned (.bool true) ∧ Below W.heap.size W w' := by
  go_enter Tryd.func6, Tryd.ntmps6
  go_wp2_with (first | (refine wpList_load_mid rfl 38 _ rfl W.heap.size 0 rfl p.cells _ (PAt.range (p := p) (heap_alloc_new _ _)) Tryd.underlying38 rfl (by rw [infoPlay, Pl.length]) ?_) | (go_at_call 16; refine (small_no p _ h hc hm).mono ?_; rintro e w2 ⟨rfl, hB2⟩))
  go_returns
  exact ⟨rfl, ((Below.refl _ W).alloc (Nat.le_refl _) _).trans (hB2.mono (by simp))⟩

set_option maxRecDepth 100000 in
set_option maxHeartbeats 4000000 in
theorem serves_good (p : Pl) (a : Nat) (A : List Acc) (b off : Nat) (W : World) (ht : Tab W) (h1 : p.n ≤ 200) (h2 : p.len ≤ 32768) (hsd : p.seed < 256) (ha : a < 65536) (hA : ∀ x ∈ A, x.ok) (hS : SeenX W p.ao p.cap b off 3 (A.map Acc.row)) (hn : p.n = A.length) :
    Calls Tryd.prog 6 #[.agg p.cells.toArray, .int .u16 (a : Int)] W fun e w' => e = .returned (.bool true) ∧ Below W.heap.size W w' := by
  have h0 := ht.lt
  have HT : Hid (Tab W) := ht
  have hcap := hS.max
  have hle := hS.le
  rw [List.length_map, ← hn] at hle
  have HS : Hid (SeenX W p.ao p.cap b off 3 (A.map Acc.row)) := hS
  have HA : Hid (∀ x ∈ A, x.ok) := hA
  have HN : Hid (p.n = A.length) := hn
  have hsd64 : IntKind.i64.wrap (p.seed : Int) = p.seed := by rw [IntKind.wrap_i64]; omega
  clear ht hS hA hn
  go_enter Tryd.func6, Tryd.ntmps6
  go_wp2_with (first | (refine wpList_load_mid rfl 38 _ rfl W.heap.size 0 rfl p.cells _ (PAt.range (p := p) (heap_alloc_new _ _)) Tryd.underlying38 rfl (by rw [infoPlay, Pl.length]) ?_) | (go_at_call 16; fail))
  generalize hw1 : W.alloc _ = w1
  have HP1 : Hid (PAt w1 W.heap.size p) := (by rw [← hw1]; exact heap_alloc_new _ _ : PAt w1 W.heap.size p)
  have HB1 : Hid (Below W.heap.size W w1) := (by rw [← hw1]; exact (Below.refl _ _).alloc (Nat.le_refl _) _ : Below W.heap.size W w1)
  clear hw1
  obtain ⟨X, hX⟩ : ∃ X, X = W.heap.size := ⟨_, rfl⟩
  rw [← hX] at HP1 ⊢
  have hX1 : W.heap.size ≤ X := by omega
  have hX2 : X ≤ W.heap.size := by omega
  clear hX
  refine (small_yes p _ h1 h2 hle hcap).mono ?_
  rintro e w2 ⟨rfl, hB2⟩
  have HP2 : Hid (PAt w2 X p) := HP1.out.below hB2 HP1.out.lt
  have HB2 : Hid (Below W.heap.size W w2) := HB1.out.trans (hB2.mono HB1.out.size)
  clear hB2 HP1 HB1
  have x1 : w2.cell? ⟨X, 1, none⟩ = some (.int .i64 p.len) := HP2.out.cell 1
  have x2 : w2.cell? ⟨X, 2, none⟩ = some (.int .u8 (p.seed : Int)) := HP2.out.cell 2
  go_wp2_with (go_at_call 17; fail)
  refine (Image p.len p.seed _ h2 hsd).mono ?_
  rintro e w3 ⟨L, lo, lc, lb, rfl, hL, hby, hL3, hlb, hB3⟩
  have HP3 : Hid (PAt w3 X p) := HP2.out.below hB3 HP2.out.lt
  have HB3 : Hid (Below W.heap.size W w3) := HB2.out.trans (hB3.mono HB2.out.size)
  have HL : Hid (L.length = p.len.toNat ∧ Bytes L) := ⟨hL, hby⟩
  have HL3 : Hid (SeenB w3 lo lc lb 0 L) := hL3
  have HT3 : Hid (Tab w3) := HT.out.below HB3.out h0
  clear hB3 HP2 HB2 hL hby hL3 x1 x2
  have y0 : w3.cell? ⟨X, 0, none⟩ = some (.string p.tag) := HP3.out.cell 0
  go_wp2_with (first | (refine wpList_load_mid rfl 35 _ rfl X 3 rfl (bytes p.r.l) _ HP3.out.ram Tryd.underlying35 rfl (by rw [info128, bytes_length, p.r.h]) ?_) | (go_at_call 18; fail))
  rcases fit_cases p.tag (L.length : Int) with ⟨m, N, hf, hft, hs, he⟩ | ⟨hf, c, hc, he⟩
  · have hL0 : L ≠ [] := fun e => by
      have := fits_pos hft (step_pos hf).1
      rw [e] at this
      simp at this
    have hlb' := hlb hL0
    have HG : Hid (Good (made p.tag m N L p.r.l)) := made_good p.r hf hft hs
    have HM : Hid (fit p.tag (L.length : Int) = .tuple #[Img.shape ((L.length : Int) / m.size) m.size N m.extra, .int .i64 0]) := he
    have HF : Hid (find p.tag = some m ∧ fits m (L.length : Int) = true ∧ Sound m (L.length : Int) N ∧ L ≠ []) := ⟨hf, hft, hs, hL0⟩
    refine (New_yes p.tag m N L p.r lo lc lb 0 _ HT3.out hf hft hs HL3.out hL0).mono ?_
    rintro e w4 ⟨d, rfl, hd, hC4, hB4⟩
    have hXd : X ≠ d := by have := HP3.out.lt; omega
    have hld : lb ≠ d := by have := HL3.out.lt hL0; omega
    have hWd : W.heap.size ≤ d := Nat.le_trans HB3.out.size hd
    have HC4 : Hid (CAt w4 d (made p.tag m N L p.r.l)) := hC4
    have HP4 : Hid (PAt w4 X p) := HP3.out.below hB4 HP3.out.lt
    have HB4 : Hid (Below W.heap.size W w4) := HB3.out.trans (hB4.mono HB3.out.size)
    have HL4 : Hid (SeenB w4 lo lc lb 0 L) := HL3.out.below hB4
    have HT4 : Hid (Tab w4) := HT.out.below HB4.out h0
    have hd4 := hC4.lt
    clear hB4 hC4 HP3 HB3 HL3 HT3 y0 he hf hft hs hL0 hlb hlb' hd
    have y0 : w4.cell? ⟨X, 0, none⟩ = some (.string p.tag) := HP4.out.cell 0
    go_wp2_with (go_at_call 10; fail)
    refine (Fit p.tag L.length _ HT4.out).mono ?_
    rintro e w5 ⟨rfl, hB5⟩
    rw [HM.out]
    have hd5 : d < w5.heap.size := Nat.lt_of_lt_of_le hd4 hB5.size
    have HB5 : Hid (Below W.heap.size W w5) := HB4.out.trans (hB5.mono HB4.out.size)
    have HP5 : Hid (PAt w5 X p) := HP4.out.below hB5 HP4.out.lt
    have HC5 : Hid (CAt w5 d (made p.tag m N L p.r.l)) := HC4.out.below hB5
    have HL5 : Hid (SeenB w5 lo lc lb 0 L) := HL4.out.below hB5
    clear hB5 HB4 HP4 HC4 HL4 HT4 y0 hd4
    simp only
    unfold Img.shape
    iterate 15 go_step
    generalize hw6 : w5.alloc _ = w6
    have hB6 : Below w5.heap.size w5 w6 := by rw [← hw6]; exact (Below.refl _ _).alloc (Nat.le_refl _) _
    have hS6 : w6.heap[w5.heap.size]? = some (.cells #[.int .i64 ((L.length : Int) / m.size), .int .i64 m.size, .int .i64 N, .bool m.extra] 23 (0, 0)) := by rw [← hw6]; exact heap_alloc_new _ _
    have hSd : w5.heap.size ≠ d := by omega
    have HK : Hid (Bn W X d w5.heap.size lb lc lo L p #[.int .i64 ((L.length : Int) / m.size), .int .i64 m.size, .int .i64 N, .bool m.extra] (goes (made p.tag m N L p.r.l) A 0) w6) := ⟨HP5.out.below hB6 HP5.out.lt, HC5.out.below hB6, hS6, HL5.out.below hB6, HB5.out.trans (hB6.mono HB5.out.size)⟩
    clear hw6 hB6 hS6 HB5 HP5 HC5 HL5 hd5
    generalize w5.heap.size = S at *
    go_wp2
    go_loopw [10] (fun v wr => ∃ k : Nat, k ≤ p.n ∧ v = .int .i64 (k : Int) ∧ Bn W X d S lb lc lo L p #[.int .i64 ((L.length : Int) / m.size), .int .i64 m.size, .int .i64 N, .bool m.extra] (goes (made p.tag m N L p.r.l) A k) wr) (fun v _ => p.n - (intOf v).toNat)
    case atStart => exact ⟨0, by omega, rfl, HK.out⟩
    case round =>
      obtain ⟨k, hk, rfl, hK⟩ := hrel
      have HR : Hid (Bn W X d S lb lc lo L p #[.int .i64 ((L.length : Int) / m.size), .int .i64 m.size, .int .i64 N, .bool m.extra] (goes (made p.tag m N L p.r.l) A k) wr) := hK
      have x131 := hK.p.slice
      have HGk : Hid (Good (goes (made p.tag m N L p.r.l) A k) ∧ Kin (made p.tag m N L p.r.l) (goes (made p.tag m N L p.r.l) A k)) := goes_good HG.out A k
      clear hK HK
      by_cases hkn : k < p.n
      · obtain ⟨x, hx⟩ : ∃ x, A[k]? = some x := ⟨_, List.getElem?_eq_getElem (by rw [← HN.out]; exact hkn)⟩
        obtain ⟨hxa, hxx⟩ := HA.out x (List.mem_of_getElem? hx)
        have hrow : (A.map Acc.row)[k]? = some x.row := by rw [List.getElem?_map, hx]; rfl
        have hne : A.map Acc.row ≠ [] := fun e => by rw [e] at hrow; cases hrow
        have hSr := HS.out.below HR.out.old (Nat.le_refl _)
        have hao := hSr.at_ hne
        have hb0 : b < W.heap.size := HS.out.lt hne
        have hbd : b ≠ d := by omega
        have hbw : b < wr.heap.size := Nat.lt_of_lt_of_le hb0 HR.out.old.size
        have hXw : X < wr.heap.size := HR.out.p.lt
        rw [hao] at x131
        have c0 : wr.cell? ⟨b, off + k * 3, none⟩ = some (.int .u16 (x.a : Int)) := hSr.cell k _ hrow 0 _ rfl
        have c1 : wr.cell? ⟨b, off + k * 3 + 1, none⟩ = some (.int .u8 (x.x : Int)) := hSr.cell k _ hrow 1 _ rfl
        have c2 : wr.cell? ⟨b, off + k * 3 + 2, none⟩ = some (.bool x.w) := hSr.cell k _ hrow 2 _ rfl
        have HST : Hid (goes (made p.tag m N L p.r.l) A (k + 1) = watch (goes (made p.tag m N L p.r.l) A k) x.a x.x x.w) := goes_succ hx
        have k0 : (0 : Int) ≤ (k : Int) := by omega
        have k1 : (k : Int) < (p.n : Int) := by omega
        clear hSr hrow hne hx hao
        go_wp2
        go_region_held3 (fun w' => w'.cell? ⟨X, 131, none⟩ = some (.slice (some ⟨b, off, none⟩) p.n p.cap) ∧ w'.cell? ⟨b, off + k * 3, none⟩ = some (.int .u16 (x.a : Int)) ∧ w'.cell? ⟨b, off + k * 3 + 1, none⟩ = some (.int .u8 (x.x : Int)) ∧ w'.cell? ⟨b, off + k * 3 + 2, none⟩ = some (.bool x.w)) (first | exact ⟨by assumption, by assumption, by assumption, by assumption⟩ | go_keep) (first
          | (go_at_call 25; refine (Watch d x.a x.x x.w _ _ (by first | exact HR.out.c | exact HR.out.c.draws _) HGk.out.1.plain HGk.out.1.b1 (by have := HGk.out.1.b2; omega) hxa hxx).mono ?_; rintro e w7 ⟨rfl, hC7, hT7'⟩; have hT7 : Turn d wr w7 := (by first | exact hT7' | exact hT7'.draws); have t0 := (hT7.cell (o := 131) hXw hXd).trans x131; have t1 := (hT7.cell (o := off + k * 3) hbw hbd).trans c0; have t2 := (hT7.cell (o := off + k * 3 + 1) hbw hbd).trans c1; have t3 := (hT7.cell (o := off + k * 3 + 2) hbw hbd).trans c2; clear hT7'))
        all_goals go_wp2
        all_goals go_roundw
        case rel => exact ⟨k + 1, by omega, by go_num, by rw [HST.out]; exact HR.out.turn hT7 hC7 hXd hSd hld hWd⟩
        case measure => simp [intOf]; omega
      · have hkn' : k = p.n := by omega
        have hkl : (p.n : Int) ≤ (k : Int) := by omega
        obtain ⟨c, hcd⟩ : ∃ c, c = goes (made p.tag m N L p.r.l) A k := ⟨_, rfl⟩
        rw [← hcd] at HR HGk
        clear hcd hkn
        have hwin : c.win = (N : Int) := HGk.out.2.win
        have hN4 : N ≤ 4 := HF.out.2.2.1.le4
        go_wp2_with (go_at_call 27; fail)
        refine (Show d N c _ HR.out.c hwin hN4).mono ?_
        rintro e w7 ⟨g, rfl, hg, hR7, hB7⟩
        have H7 : Hid (Bn W X d S lb lc lo L p #[.int .i64 ((L.length : Int) / m.size), .int .i64 m.size, .int .i64 N, .bool m.extra] c w7) := HR.out.below hB7
        have HR7 : Hid (Row w7 g (shown c N)) := hR7
        clear HR hR7 hB7 x131
        go_wp2_with (go_at_call 23; fail)
        refine (Where d a c _ H7.out.c HGk.out.1 ha).mono ?_
        rintro e w8 ⟨rfl, q8, hq8⟩
        have H8 : Hid (Bn W X d S lb lc lo L p #[.int .i64 ((L.length : Int) / m.size), .int .i64 m.size, .int .i64 N, .bool m.extra] c w8) := (by rw [hq8]; exact H7.out.draws q8 : Bn _ _ _ _ _ _ _ _ _ _ _ w8)
        have HR8 : Hid (Row w8 g (shown c N)) := (by rw [hq8]; exact HR7.out : Row w8 g (shown c N))
        clear H7 HR7 hq8
        go_wp2_with (go_at_call 21; fail)
        refine (Peek d a c _ H8.out.c HGk.out.1 ha).mono ?_
        rintro e w9 ⟨rfl, q9, hq9⟩
        have H9 : Hid (Bn W X d S lb lc lo L p #[.int .i64 ((L.length : Int) / m.size), .int .i64 m.size, .int .i64 N, .bool m.extra] c w9) := (by rw [hq9]; exact H8.out.draws q9 : Bn _ _ _ _ _ _ _ _ _ _ _ w9)
        have HR9 : Hid (Row w9 g (shown c N)) := (by rw [hq9]; exact HR8.out : Row w9 g (shown c N))
        have HT9 : Hid (Tab w9) := HT.out.below H9.out.old h0
        clear H8 HR8 hq9
        have s1 : w9.cell? ⟨S, 1, none⟩ = some (.int .i64 m.size) := cell_of_row _ _ _ _ _ _ H9.out.s
        have s2 : w9.cell? ⟨S, 2, none⟩ = some (.int .i64 N) := cell_of_row _ _ _ _ _ _ H9.out.s
        have s3 : w9.cell? ⟨S, 3, none⟩ = some (.bool m.extra) := cell_of_row _ _ _ _ _ _ H9.out.s
        have hsz1 : 1 ≤ m.size := (step_pos HF.out.1).2.1
        have hb12 := bit12 a ha
        have hm12 := mask12 a ha
        have hext : c.extra = m.extra := HGk.out.2.extra
        have himg : c.img = strOfNums L := HGk.out.2.img
        have hLl : L.length ≤ 32768 := by have := HL.out.1; omega
        rcases HGk.out.1.wher ha with ⟨hw, hc⟩ | ⟨q, hw, hq, h41, h42⟩
        · rw [hw]
          by_cases h4 : a / 4096 % 2 = 0
          · have hD : peekD c a = false := by unfold peekD; rw [hw]; simp; omega
            rw [hD]
            rw [h4] at hb12
            simp at hb12
            clear hc h4 hw hD
            go_wp2_with (go_at_call 20; refine (awake5 _ HT9.out).mono ?_; rintro e wa ⟨rfl, hBa⟩)
            go_returns
            exact ⟨rfl, H9.out.old.trans (hBa.mono H9.out.old.size)⟩
          · have hc' : c.extra = true ∧ a % 4096 < 256 := by rcases hc with hc | hc; exact absurd hc h4; exact hc
            rw [show a / 4096 % 2 * 4096 = 4096 by omega] at hb12
            rw [hext] at hc'
            obtain ⟨e1, e2⟩ := hc'
            rw [e1] at s3
            clear hc h4 hw
            generalize a % 4096 = r at *
            go_wp2_with (go_at_call 20; refine (awake5 _ HT9.out).mono ?_; rintro e wa ⟨rfl, hBa⟩)
            go_returns
            exact ⟨rfl, H9.out.old.trans (hBa.mono H9.out.old.size)⟩
        · have hbk := HGk.out.1
          obtain ⟨_, _, s, k', e1, e2, e3, e4, e5, e6, e7, e8⟩ := hbk.place (o := a % 4096) (by omega)
          have hpl : wher c a = place c ((a % 4096 : Nat) : Int) := by
            unfold wher
            rw [if_neg (by omega), if_neg (by simp only [Bool.and_eq_true, decide_eq_true_eq]; intro h; exact h42 ⟨h.1, by omega⟩)]
            rfl
          have hms : m.size = (s : Int) := HGk.out.2.size.symm.trans e1
          have hpe : place c ((a % 4096 : Nat) : Int) = c.at k' * (s : Int) + ((a % 4096 % s : Nat) : Int) := by
            unfold place
            rw [e1, show (((a % 4096 : Nat) : Int) / (s : Int)).toNat = k' by rw [← e4]; rfl]
            rfl
          have hqe : c.at k' * (s : Int) + ((a % 4096 % s : Nat) : Int) = (q : Int) := by rw [← hpe, ← hpl]; exact hw
          have hqL : q < L.length := by rw [himg, strOfNums_size] at hq; exact hq
          obtain ⟨y, hy⟩ : ∃ y, L[q]? = some y := ⟨_, List.getElem?_eq_getElem hqL⟩
          have hyb := HL.out.2 q y hy
          have hPB : peekB c a = y := by
            unfold peekB
            rw [hw, if_pos (by omega), himg]
            exact byteOf_nums (p := q) hy hyb.1 hyb.2
          have hPD : peekD c a = true := by unfold peekD; rw [hw]; simp
          have hkN : (k' : Int) < (N : Int) := by rw [← hwin]; exact e8
          have hsh : (shown c N)[k']? = some (c.at k') := by
            unfold shown
            rw [List.getElem?_take_of_lt (by omega)]
            match k', e5 with
            | 0, _ => rfl
            | 1, _ => rfl
            | 2, _ => rfl
            | 3, _ => rfl
          have cg : w9.cell? ⟨g, k', none⟩ = some (.int .i64 (c.at k')) := (HR9.out.at_ hsh).1
          have hlo : lo = some ⟨lb, 0, none⟩ := H9.out.l.at_ HF.out.2.2.2
          have cl : w9.cell? ⟨lb, q, none⟩ = some (.int .u8 y) := by have := H9.out.l.cell q y hy; rwa [Nat.zero_add] at this
          have hlc := H9.out.l.le
          have hlm := H9.out.l.max
          rw [hw, hPB, hPD]
          rw [hms] at s1
          rw [show a / 4096 % 2 * 4096 = 4096 by omega] at hb12
          rw [e1] at e7
          have hq0 : ((a % 4096 : Nat) : Int) / (s : Int) = (k' : Int) := by rw [← e4]; rfl
          have hr0 : ((a % 4096 : Nat) : Int) % (s : Int) = ((a % 4096 % s : Nat) : Int) := rfl
          have hr1 : a % 4096 < 4096 := by omega
          have hr2 : a % 4096 % s < 4096 := Nat.lt_of_le_of_lt (Nat.mod_le _ _) hr1
          generalize a % 4096 % s = t at *
          generalize a % 4096 = r at *
          generalize c.at k' = v at *
          have hr64 : IntKind.i64.wrap (r : Int) = r := by rw [IntKind.wrap_i64]; omega
          have s0 : ¬ (s : Int) = 0 := by omega
          have s1' : (1 : Int) ≤ (s : Int) := by omega
          have hv0 : 0 ≤ v * (s : Int) := Int.mul_nonneg e6 (by omega)
          have hrt : (r : Int).tmod (s : Int) = (t : Int) := by rw [Int.tmod_eq_emod_of_nonneg (by omega)]; exact hr0
          have hv64 : IntKind.i64.wrap (v * (s : Int)) = v * (s : Int) := by rw [IntKind.wrap_i64]; omega
          have ht64 : IntKind.i64.wrap (t : Int) = t := by rw [IntKind.wrap_i64]; omega
          have hq64 : IntKind.i64.wrap (q : Int) = q := by rw [IntKind.wrap_i64]; omega
          have k'0 : (0 : Int) ≤ (k' : Int) := by omega
          have q0 : (0 : Int) ≤ (q : Int) := by omega
          have q1 : (q : Int) < (L.length : Int) := by omega
          clear hy hyb hPB hPD hsh hpl hpe hw hq h41 h42 e1 e4 hext himg hms hbk
          subst hlo
          go_wp2
          go_region_held (fun w' => w'.cell? ⟨g, k', none⟩ = some (.int .i64 v) ∧ w'.cell? ⟨S, 1, none⟩ = some (.int .i64 (s : Int)) ∧ w'.cell? ⟨lb, q, none⟩ = some (.int .u8 y)) (first | exact ⟨by assumption, by assumption, by assumption⟩ | go_keep) (first
            | (go_at_call 20; refine (awake5 _ (by first | exact HT9.out | exact HT9.out.below (below_drewN (Below.refl _ w9) _) (by have := HT9.out.lt; simpa using this))).mono ?_; rintro e wa ⟨rfl, hBa'⟩; have hBa : Below w9.heap.size w9 wa := (by first | exact hBa' | exact (below_drewN (Below.refl _ w9) _).trans hBa'); have t0 := (hBa.cell (p := ⟨g, k', none⟩) (lt_of_cell cg)).trans cg; have t1 := (hBa.cell (p := ⟨S, 1, none⟩) (lt_of_cell s1)).trans s1; have t2 := (hBa.cell (p := ⟨lb, q, none⟩) (lt_of_cell cl)).trans cl; clear hBa'))
          all_goals go_wp2
          all_goals go_returns
          all_goals exact ⟨rfl, H9.out.old.trans (hBa.mono H9.out.old.size)⟩
  · have HE : Hid (fit p.tag (L.length : Int) = .tuple #[Img.shape 0 0 0 false, .int .i64 c]) := he
    have hc0 : ¬ c = 0 := by omega
    refine (New_no p.tag L.length lo lc p.r.l _ HT3.out c hc0 he).mono ?_
    rintro e w4 ⟨rfl, hB4⟩
    have HP4 : Hid (PAt w4 X p) := HP3.out.below hB4 HP3.out.lt
    have HB4 : Hid (Below W.heap.size W w4) := HB3.out.trans (hB4.mono HB3.out.size)
    have HT4 : Hid (Tab w4) := HT.out.below HB4.out h0
    clear hB4 HP3 HB3 y0 he hf hc
    have y0 : w4.cell? ⟨X, 0, none⟩ = some (.string p.tag) := HP4.out.cell 0
    go_wp2_with (go_at_call 10; fail)
    refine (Fit p.tag L.length _ HT4.out).mono ?_
    rintro e w5 ⟨rfl, hB5⟩
    rw [HE.out]
    have HB5 : Hid (Below W.heap.size W w5) := HB4.out.trans (hB5.mono HB4.out.size)
    clear hB5 HB4 HP4 y0
    simp only
    unfold Img.shape
    iterate 15 go_step
    generalize hw6 : w5.alloc _ = w6
    have HB6 : Hid (Below W.heap.size W w6) := (by rw [← hw6]; exact HB5.out.alloc HB5.out.size _ : Below W.heap.size W w6)
    clear hw6
    go_wp2_with (go_at_call 20; refine (awake5 _ (HT.out.below HB6.out h0)).mono ?_; rintro e w7 ⟨rfl, hB7⟩)
    go_returns
    exact ⟨rfl, HB6.out.trans (hB7.mono HB6.out.size)⟩

theorem cartServes_walk (p : Pl) (a1 : Int) (w1 : (Lit.int .u16 a1).wf = true) (A : List Acc) (b off : Nat) (W : World) (ht : Tab W) (hsd : p.seed < 256) (hA : ∀ x ∈ A, x.ok) (hS : SeenX W p.ao p.cap b off 3 (A.map Acc.row)) (hn : p.n = A.length) :
    Calls Tryd.prog 6 #[.agg p.cells.toArray, .int .u16 a1] W fun e w' => e = .returned (.bool true) ∧ Below W.heap.size W w' := by
  have hb := bounds_u16 w1
  obtain ⟨a, rfl⟩ := Int.eq_ofNat_of_zero_le hb.1
  have hle := hS.le
  rw [List.length_map, ← hn] at hle
  by_cases h : p.n ≤ 200 ∧ p.len ≤ 32768
  · exact serves_good p a A b off W ht h.1 h.2 hsd (by omega) hA hS hn
  · exact serves_big p _ W (by omega) hle hS.max

end Go.Proofs.YtcohalkofahphaaDoor.Ca
