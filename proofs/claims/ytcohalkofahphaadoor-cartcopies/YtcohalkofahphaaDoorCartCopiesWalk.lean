/- CartCopies, walked. -/
import Derived.Test.YtcohalkofahphaaDoorPlayC
import Derived.Test.YtcohalkofahphaaDoorArrEq
set_option linter.unusedSimpArgs false
set_option linter.unusedVariables false
namespace Go.Proofs.YtcohalkofahphaaDoor.Ca
open Go.RowKit Img

theorem ram_equal (l : List Int) (h : l.length = 128) (w : World) : (Op.equalIn 10000 35 (.agg (bytes l).toArray) (.agg (bytes l).toArray)).run Tryd.prog w = .ok true w :=
  equal_self (P := Tryd.prog) (t := 35) (e := 5) Tryd.underlying35 (by kernel_rfl) (by kernel_rfl) Tryd.underlying5 _ (fun j hj => ⟨.u8, l[j]'(by omega), by simp [bytes]⟩) w

set_option maxRecDepth 100000 in
set_option maxHeartbeats 2000000 in
theorem copies_big (p : Pl) (ao : Option Addr) (n cap : Nat) (W : World) (h : (200 < p.n ∨ 32768 < p.len) ∨ 100 < n) (hc : p.n ≤ p.cap) (hm : p.cap ≤ 9223372036854775807) (hn : n ≤ cap) (hcm : cap ≤ 9223372036854775807) :
    Calls Tryd.prog 8 #[.agg p.cells.toArray, .slice ao n cap] W fun e w' => e = .returned (.bool true) ∧ Below W.heap.size W w' := by
  by_cases hs : p.n ≤ 200 ∧ p.len ≤ 32768
  · have hn' : (100 : Int) < (n : Int) := by omega
    go_enter Tryd.func8, Tryd.ntmps8
    go_wp2_with (first | (refine wpList_load_mid rfl 38 _ rfl W.heap.size 0 rfl p.cells _ (PAt.range (p := p) (heap_alloc_new _ _)) Tryd.underlying38 rfl (by rw [infoPlay, Pl.length]) ?_) | (go_at_call 16; refine (small_yes p _ hs.1 hs.2 hc hm).mono ?_; rintro e w2 ⟨rfl, hB2⟩))
    go_returns
    exact ⟨rfl, ((Below.refl _ W).alloc (Nat.le_refl _) _).trans (hB2.mono (by simp))⟩
  · have h' : 200 < p.n ∨ 32768 < p.len := by omega
    go_enter Tryd.func8, Tryd.ntmps8
    go_wp2_with (first | (refine wpList_load_mid rfl 38 _ rfl W.heap.size 0 rfl p.cells _ (PAt.range (p := p) (heap_alloc_new _ _)) Tryd.underlying38 rfl (by rw [infoPlay, Pl.length]) ?_) | (go_at_call 16; refine (small_no p _ h' hc hm).mono ?_; rintro e w2 ⟨rfl, hB2⟩))
    go_returns
    exact ⟨rfl, ((Below.refl _ W).alloc (Nat.le_refl _) _).trans (hB2.mono (by simp))⟩

/-- What the law holds behind the copy. -/
structure Bc (W : World) (X d f E g N : Nat) (p : Pl) (c cf : Ct) (w : World) : Prop where
  m : Bm W X d p c w
  f : CAt w f cf
  e : w.heap[E]? = some (.cells (bytes c.ex).toArray 35 (0, 0))
  g : Row w g (shown c N)
section
variable {W w w' : World} {X d f E g N : Nat} {p : Pl} {c cf : Ct}
theorem Bc.below (h : Bc W X d f E g N p c cf w) (hb : Below w.heap.size w w') : Bc W X d f E g N p c cf w' :=
  ⟨h.m.below hb, h.f.below hb, (hb.block E (Array.getElem?_eq_some_iff.1 h.e).1).trans h.e, h.g.below hb⟩
theorem Bc.draws (h : Bc W X d f E g N p c cf w) (q : Nat) : Bc W X d f E g N p c cf (w.drewN q) := ⟨h.m.draws q, h.f, h.e, h.g⟩
theorem Bc.turn {cf' : Ct} (h : Bc W X d f E g N p c cf w) (ht : Turn f w w') (hf : CAt w' f cf') (h1 : X ≠ f) (h2 : d ≠ f) (h3 : E ≠ f) (h4 : g ≠ f) (hW : W.heap.size ≤ f) : Bc W X d f E g N p c cf' w' :=
  ⟨h.m.other ht h1 h2 hW, hf, (ht.block E (Array.getElem?_eq_some_iff.1 h.e).1 h3).trans h.e, (ht.block g h.g.lt h4).trans h.g⟩
theorem Bc.range (h : Bc W X d f E g N p c cf w) : w.rangeAt E 0 (bytes c.ex) := fun j u hj => by rw [cell_of_row _ _ _ _ _ _ h.e, Nat.zero_add]; simpa using hj
/-- Show of either cartridge, Extra, Same, awake, all over the bundle. -/
theorem show_f (h : Bc W X d f E g N p c cf w) (hn : cf.win = (N : Int)) (h4 : N ≤ 4) : Calls Tryd.prog 27 #[.pointer (some ⟨f, 0, none⟩)] w fun e w' => ∃ g2, e = .returned (.slice (some ⟨g2, 0, none⟩) N N) ∧ Row w' g2 (shown cf N) ∧ Bc W X d f E g N p c cf w' :=
  (Show f N cf _ h.f hn h4).mono fun _ _ ⟨g2, he, _, hR, hB⟩ => ⟨g2, he, hR, h.below hB⟩
theorem show_d (h : Bc W X d f E g N p c cf w) (hn : c.win = (N : Int)) (h4 : N ≤ 4) : Calls Tryd.prog 27 #[.pointer (some ⟨d, 0, none⟩)] w fun e w' => ∃ g2, e = .returned (.slice (some ⟨g2, 0, none⟩) N N) ∧ Row w' g2 (shown c N) ∧ Bc W X d f E g N p c cf w' :=
  (Show d N c _ h.m.c hn h4).mono fun _ _ ⟨g2, he, _, hR, hB⟩ => ⟨g2, he, hR, h.below hB⟩
theorem extra_f (h : Bc W X d f E g N p c cf w) (h8 : cf.ex.length = 128) : Calls Tryd.prog 28 #[.pointer (some ⟨f, 0, none⟩)] w fun e w' => e = .returned (.agg (bytes cf.ex).toArray) ∧ Bc W X d f E g N p c cf w' :=
  (Extra f cf _ h.f h8).mono fun _ _ ⟨he, hB⟩ => ⟨he, h.below hB⟩
theorem extra_d (h : Bc W X d f E g N p c cf w) (h8 : c.ex.length = 128) : Calls Tryd.prog 28 #[.pointer (some ⟨d, 0, none⟩)] w fun e w' => e = .returned (.agg (bytes c.ex).toArray) ∧ Bc W X d f E g N p c cf w' :=
  (Extra d c _ h.m.c h8).mono fun _ _ ⟨he, hB⟩ => ⟨he, h.below hB⟩
theorem same_k {g2 : Nat} (h : Bc W X d f E g N p c cf w) (hR : Row w g2 (shown c N)) (h4 : N ≤ 4) : Calls Tryd.prog 12 #[.slice (some ⟨g2, 0, none⟩) N N, .slice (some ⟨g, 0, none⟩) N N] w fun e w' => e = .returned (.bool true) ∧ Bc W X d f E g N p c cf w' :=
  (Same (shown c N) N N _ _ N N g2 g 0 0 w (hR.seen (Nat.le_of_eq (shown_length c h4)) (by omega)) (h.g.seen (Nat.le_of_eq (shown_length c h4)) (by omega)) (shown_length c h4).symm (shown_length c h4).symm).mono fun _ _ ⟨he, q, hq⟩ => ⟨he, by rw [hq]; exact h.draws q⟩
theorem awake_c (h : Bc W X d f E g N p c cf w) (ht : Tab W) : Calls Tryd.prog 20 #[] w fun e w' => e = .returned (.bool true) ∧ Bc W X d f E g N p c cf w' :=
  (awake5 _ (ht.below h.m.old ht.lt)).mono fun _ _ ⟨he, hB⟩ => ⟨he, h.below hB⟩
end

set_option maxRecDepth 100000 in
set_option maxHeartbeats 4000000 in
theorem copies_good (p : Pl) (A : List Acc) (b off : Nat) (ao : Option Addr) (n cap : Nat) (M : List Acc) (mb moff : Nat) (W : World) (ht : Tab W) (h1 : p.n ≤ 200) (h2 : p.len ≤ 32768) (hsd : p.seed < 256) (hA : ∀ x ∈ A, x.ok) (hS : SeenX W p.ao p.cap b off 3 (A.map Acc.row)) (hn : p.n = A.length)
    (h3 : n ≤ 100) (hM : ∀ x ∈ M, x.ok) (hSM : SeenX W ao cap mb moff 3 (M.map Acc.row)) (hnM : n = M.length) :
    Calls Tryd.prog 8 #[.agg p.cells.toArray, .slice ao n cap] W fun e w' => e = .returned (.bool true) ∧ Below W.heap.size W w' := by
  have h0 := ht.lt
  have HT : Hid (Tab W) := ht
  have hcap := hS.max
  have hle := hS.le
  rw [List.length_map, ← hn] at hle
  have hcapM := hSM.max
  have hleM := hSM.le
  rw [List.length_map, ← hnM] at hleM
  have HS : Hid (SeenX W p.ao p.cap b off 3 (A.map Acc.row) ∧ SeenX W ao cap mb moff 3 (M.map Acc.row)) := ⟨hS, hSM⟩
  have HA : Hid ((∀ x ∈ A, x.ok) ∧ ∀ x ∈ M, x.ok) := ⟨hA, hM⟩
  have HN : Hid (p.n = A.length ∧ n = M.length) := ⟨hn, hnM⟩
  have hsd64 : IntKind.i64.wrap (p.seed : Int) = p.seed := by rw [IntKind.wrap_i64]; omega
  have h3' : (n : Int) ≤ 100 := by omega
  clear ht hS hA hn hM hSM hnM
  go_enter Tryd.func8, Tryd.ntmps8
  go_wp2_with (first | (refine wpList_load_mid rfl 38 _ rfl W.heap.size 0 rfl p.cells _ (PAt.range (p := p) (heap_alloc_new _ _)) Tryd.underlying38 rfl (by rw [infoPlay, Pl.length]) ?_) | (go_at_call 16; fail))
  generalize hw1 : W.alloc _ = w1
  have HP1 : Hid (PAt w1 W.heap.size p) := (by rw [← hw1]; exact heap_alloc_new _ _ : PAt w1 W.heap.size p)
  have HB1 : Hid (Below W.heap.size W w1) := (by rw [← hw1]; exact (Below.refl _ _).alloc (Nat.le_refl _) _ : Below W.heap.size W w1)
  clear hw1
  obtain ⟨X, hX⟩ : ∃ X, X = W.heap.size := ⟨_, rfl⟩
  rw [← hX] at HP1 ⊢
  have hX1 : W.heap.size ≤ X := by omega
  clear hX
  refine (small_yes p _ h1 h2 hle hcap).mono ?_
  rintro e w2 ⟨rfl, hB2⟩
  have HP2 : Hid (PAt w2 X p) := HP1.out.below hB2 HP1.out.lt
  have HB2 : Hid (Below W.heap.size W w2) := HB1.out.trans (hB2.mono HB1.out.size)
  have hX2 : X < w2.heap.size := HP2.out.lt
  clear hB2 HP1 HB1
  have x0 : w2.cell? ⟨X, 0, none⟩ = some (.string p.tag) := HP2.out.cell 0
  have x1 : w2.cell? ⟨X, 1, none⟩ = some (.int .i64 p.len) := HP2.out.cell 1
  have x2 : w2.cell? ⟨X, 2, none⟩ = some (.int .u8 (p.seed : Int)) := HP2.out.cell 2
  have xr : w2.rangeAt X 3 (bytes p.r.l) := HP2.out.ram
  have hu := Tryd.underlying35
  have hlen : (bytes p.r.l).length = 128 := by rw [bytes_length, p.r.h]
  have hinf : (Tryd.prog.info? 35).map (·.size) = some (bytes p.r.l).length := by rw [info128, hlen]
  have hone := one_bytes p.r.l
  go_wp2
  go_region_held3 (fun w' => w'.cell? ⟨X, 0, none⟩ = some (.string p.tag) ∧ w'.cell? ⟨X, 1, none⟩ = some (.int .i64 p.len) ∧ w'.cell? ⟨X, 2, none⟩ = some (.int .u8 (p.seed : Int)) ∧ w'.rangeAt X 3 (bytes p.r.l)) (first | exact ⟨by assumption, by assumption, by assumption, by assumption⟩ | go_keep_ranges) (first
    | (go_at_call 17; refine (Image p.len p.seed _ h2 hsd).mono ?_; rintro e w3 ⟨L, lo, lc, lb, rfl, hL, hby, hL3', hlb, hB3'⟩; have hB3 : Below w2.heap.size w2 w3 := (by first | exact hB3' | exact (below_drewN (Below.refl _ w2) _).trans hB3'); have HP3 : Hid (PAt w3 X p) := HP2.out.below hB3 hX2; have HB3 : Hid (Below W.heap.size W w3) := HB2.out.trans (hB3.mono HB2.out.size); have HL3 : Hid (SeenB w3 lo lc lb 0 L) := hL3'; have t0 : w3.cell? ⟨X, 0, none⟩ = some (.string p.tag) := HP3.out.cell 0; have t1 : w3.cell? ⟨X, 1, none⟩ = some (.int .i64 p.len) := HP3.out.cell 1; have t2 : w3.cell? ⟨X, 2, none⟩ = some (.int .u8 (p.seed : Int)) := HP3.out.cell 2; have tr : w3.rangeAt X 3 (bytes p.r.l) := HP3.out.ram; clear hB3' hB3 hL3' hL hby hlb)
    | (go_at_call 18; refine (New_any p.tag L p.r lo lc lb 0 _ (HT.out.below (by first | exact HB3.out | exact below_drewN HB3.out _) h0) (by first | exact HL3.out | exact HL3.out.draws _)).mono ?_; rintro e w4 ⟨v4, code, rfl, hN4, hB4'⟩; have hB4 : Below w3.heap.size w3 w4 := (by first | exact hB4' | exact (below_drewN (Below.refl _ w3) _).trans hB4'); have HN4 : Hid (NewP w3.heap.size p.tag L p.r v4 code w4) := hN4; have HP4 : Hid (PAt w4 X p) := HP3.out.below hB4 HP3.out.lt; have HB4 : Hid (Below W.heap.size W w4) := HB3.out.trans (hB4.mono HB3.out.size); have q0 : w4.cell? ⟨X, 0, none⟩ = some (.string p.tag) := HP4.out.cell 0; have q1 : w4.cell? ⟨X, 1, none⟩ = some (.int .i64 p.len) := HP4.out.cell 1; have q2 : w4.cell? ⟨X, 2, none⟩ = some (.int .u8 (p.seed : Int)) := HP4.out.cell 2; have qr : w4.rangeAt X 3 (bytes p.r.l) := HP4.out.ram; clear hB4' hB4 hN4))
  clear x0 x1 x2 xr t0 t1 t2 tr q0 q1 q2 qr hu hlen hinf hone HP2 HB2 HL3
  have hX3 : X < w3.heap.size := HP3.out.lt
  clear HP3
  rcases HN4.out with ⟨m, N, d, hf, hft, hs, rfl, rfl, hd, hC4⟩ | ⟨rfl, hc⟩
  · have HG : Hid (Good (made p.tag m N L p.r.l)) := made_good p.r hf hft hs
    have hN4' : N ≤ 4 := hs.le4
    have hXd : X ≠ d := by omega
    have hWd : W.heap.size ≤ d := Nat.le_trans HB3.out.size hd
    have HK : Hid (Bm W X d p (goes (made p.tag m N L p.r.l) A 0) w4) := ⟨HP4.out, hC4, HB4.out⟩
    clear hf hft hs hC4 hd HN4 HB3 HP4 HB4
    go_wp2
    go_loopw [7] (fun v wr => ∃ k : Nat, k ≤ p.n ∧ v = .int .i64 (k : Int) ∧ Bm W X d p (goes (made p.tag m N L p.r.l) A k) wr) (fun v _ => p.n - (intOf v).toNat)
    case atStart => exact ⟨0, by omega, rfl, HK.out⟩
    case round =>
      obtain ⟨k, hk, rfl, hK⟩ := hrel
      have HR : Hid (Bm W X d p (goes (made p.tag m N L p.r.l) A k) wr) := hK
      have x131 := hK.p.slice
      have HGk : Hid (Good (goes (made p.tag m N L p.r.l) A k) ∧ Kin (made p.tag m N L p.r.l) (goes (made p.tag m N L p.r.l) A k)) := goes_good HG.out A k
      clear hK HK
      by_cases hkn : k < p.n
      · obtain ⟨x, hx⟩ : ∃ x, A[k]? = some x := ⟨_, List.getElem?_eq_getElem (by rw [← HN.out.1]; exact hkn)⟩
        obtain ⟨hxa, hxx⟩ := HA.out.1 x (List.mem_of_getElem? hx)
        have hrow : (A.map Acc.row)[k]? = some x.row := by rw [List.getElem?_map, hx]; rfl
        have hne : A.map Acc.row ≠ [] := fun e => by rw [e] at hrow; cases hrow
        have hSr := HS.out.1.below HR.out.old (Nat.le_refl _)
        have hao := hSr.at_ hne
        have hb0 : b < W.heap.size := HS.out.1.lt hne
        have hbd : b ≠ d := by omega
        have hbw : b < wr.heap.size := Nat.lt_of_lt_of_le hb0 HR.out.old.size
        have hXw : X < wr.heap.size := HR.out.p.lt
        rw [hao] at x131
        have c0 : wr.cell? ⟨b, off + k * 3, none⟩ = some (.int .u16 (x.a : Int)) := hSr.cell k _ hrow 0 _ rfl
        have c1 : wr.cell? ⟨b, off + k * 3 + 1, none⟩ = some (.int .u8 (x.x : Int)) := hSr.cell k _ hrow 1 _ rfl
        have c2 : wr.cell? ⟨b, off + k * 3 + 2, none⟩ = some (.bool x.w) := hSr.cell k _ hrow 2 _ rfl
        have HST : Hid (goes (made p.tag m N L p.r.l) A (k + 1) = watch (goes (made p.tag m N L p.r.l) A k) x.a x.x x.w) := goes_succ hx
        have k0 : (0 : Int) ≤ (k : Int) := by omega
        have k1 : (k : Int) < (p.n : Int) := by omega
        clear hSr hrow hne hx hao
        go_wp2
        go_region_held3 (fun w' => w'.cell? ⟨X, 131, none⟩ = some (.slice (some ⟨b, off, none⟩) p.n p.cap) ∧ w'.cell? ⟨b, off + k * 3, none⟩ = some (.int .u16 (x.a : Int)) ∧ w'.cell? ⟨b, off + k * 3 + 1, none⟩ = some (.int .u8 (x.x : Int)) ∧ w'.cell? ⟨b, off + k * 3 + 2, none⟩ = some (.bool x.w)) (first | exact ⟨by assumption, by assumption, by assumption, by assumption⟩ | go_keep) (first
          | (go_at_call 25; refine (Watch d x.a x.x x.w _ _ (by first | exact HR.out.c | exact HR.out.c.draws _) HGk.out.1.plain HGk.out.1.b1 (by have := HGk.out.1.b2; omega) hxa hxx).mono ?_; rintro e w7 ⟨rfl, hC7, hT7'⟩; have hT7 : Turn d wr w7 := (by first | exact hT7' | exact hT7'.draws); have t0 := (hT7.cell (o := 131) hXw hXd).trans x131; have t1 := (hT7.cell (o := off + k * 3) hbw hbd).trans c0; have t2 := (hT7.cell (o := off + k * 3 + 1) hbw hbd).trans c1; have t3 := (hT7.cell (o := off + k * 3 + 2) hbw hbd).trans c2; clear hT7'))
        all_goals go_wp2
        all_goals go_roundw
        case rel => exact ⟨k + 1, by omega, by go_num, by rw [HST.out]; exact HR.out.turn hT7 hC7 hXd hWd⟩
        case measure => simp [intOf]; omega
      · have hkl : (p.n : Int) ≤ (k : Int) := by omega
        obtain ⟨c, hcd⟩ : ∃ c, c = goes (made p.tag m N L p.r.l) A k := ⟨_, rfl⟩
        rw [← hcd] at HR HGk
        have hwin : c.win = (N : Int) := HGk.out.2.win
        have h8 : c.ex.length = 128 := HGk.out.1.plain.ex
        have HGc : Hid (Good c) := HGk.out.1
        clear hcd hkn HGk
        have hz := zero128
        have hzl : (bytes zer).length = 128 := (by rw [bytes_length]; rfl)
        have hxl : (bytes c.ex).length = 128 := by rw [bytes_length, h8]
        have hst := fun w : World => store_new (P := Tryd.prog) w 35 (bytes zer).toArray (bytes c.ex) (by rw [hxl]; simp [hzl]) (one_bytes _)
        go_wp2_with (go_at_call 33; fail)
        refine (Copy d c _ HR.out.c h8).mono ?_
        rintro e w5 ⟨f, rfl, hf, hF5, hB5⟩
        have H5 : Hid (Bm W X d p c w5) := HR.out.below hB5
        have HF5 : Hid (CAt w5 f c) := hF5
        have hdf : d < f := by have := HR.out.c.lt; omega
        have hXf : X ≠ f := by have := HR.out.p.lt; omega
        clear hB5 hF5 HR hf x131
        go_wp2_with (go_at_call 27; fail)
        refine (Show d N c _ H5.out.c hwin hN4').mono ?_
        rintro e w6 ⟨g, rfl, hg, hR6, hB6⟩
        have H6 : Hid (Bm W X d p c w6) := H5.out.below hB6
        have HF6 : Hid (CAt w6 f c) := HF5.out.below hB6
        have HR6 : Hid (Row w6 g (shown c N)) := hR6
        have hgf : g ≠ f := by have := HF5.out.lt; omega
        clear hB6 H5 HF5 hR6 hg
        go_wp2_with (go_at_call 28; fail)
        refine (Extra d c _ H6.out.c h8).mono ?_
        rintro e w7 ⟨rfl, hB7⟩
        have H7 : Hid (Bm W X d p c w7) := H6.out.below hB7
        have HF7 : Hid (CAt w7 f c) := HF6.out.below hB7
        have HR7 : Hid (Row w7 g (shown c N)) := HR6.out.below hB7
        have hf7 := HF7.out.lt
        clear hB7 H6 HF6 HR6
        go_wp2
        generalize hw8 : w7.alloc _ = w8
        have hB8 : Below w7.heap.size w7 w8 := by rw [← hw8]; exact (Below.refl _ _).alloc (Nat.le_refl _) _
        have hE8 : w8.heap[w7.heap.size]? = some (.cells (bytes c.ex).toArray 35 (0, 0)) := by rw [← hw8]; exact heap_alloc_new _ _
        have HK8 : Hid (Bc W X d f w7.heap.size g N p c (goes c M 0) w8) := ⟨H7.out.below hB8, HF7.out.below hB8, hE8, HR7.out.below hB8⟩
        have hEf : w7.heap.size ≠ f := by omega
        clear hw8 hB8 hE8 H7 HF7 HR7 hf7
        generalize w7.heap.size = E at *
        have hrg := HK8.out.range
        have heq := ram_equal c.ex h8
        have hu := Tryd.underlying35
        have hinf : (Tryd.prog.info? 35).map (·.size) = some (bytes c.ex).length := by rw [info128, hxl]
        have hone := one_bytes c.ex
        clear hst hz
        go_region_held3 (fun w' => w'.rangeAt E 0 (bytes c.ex)) (first | exact HK.out.range | assumption | go_keep_ranges) (first
          | (go_at_call 27; refine (show_f (by first | exact HK8.out | exact HK8.out.draws _) hwin hN4').mono ?_; rintro e w9 ⟨g2, rfl, hR9, hK9⟩; have HK9 : Hid (Bc W X d f E g N p c (goes c M 0) w9) := hK9; have HR9 : Hid (Row w9 g2 (shown c N)) := hR9; have r9 := hK9.range; clear hK9 hR9)
          | (go_at_call 12; refine (same_k (by first | exact HK9.out | exact HK9.out.draws _) (by exact HR9.out) hN4').mono ?_; rintro e wa ⟨rfl, hKa⟩; have HKa : Hid (Bc W X d f E g N p c (goes c M 0) wa) := hKa; have ra := hKa.range; clear hKa)
          | (go_at_call 28; refine (extra_f (by first | exact HKa.out | exact HKa.out.draws _) h8).mono ?_; rintro e wb ⟨rfl, hKb⟩; have HKb : Hid (Bc W X d f E g N p c (goes c M 0) wb) := hKb; have rb := hKb.range; clear hKb))
        clear hrg r9 ra rb HK8 HK9 HKa HR9
        have HKc : Hid (Bc W X d f E g N p c (goes c M 0) wb) := HKb.out
        clear HKb
        have hWf : W.heap.size ≤ f := by omega
        have hdf' : d ≠ f := by omega
        go_wp2
        go_loopw [11] (fun v wr => ∃ k : Nat, k ≤ n ∧ v = .int .i64 (k : Int) ∧ Bc W X d f E g N p c (goes c M k) wr) (fun v _ => n - (intOf v).toNat)
        case atStart => exact ⟨0, by omega, rfl, HKc.out⟩
        case round =>
          obtain ⟨j, hj, rfl, hK⟩ := hrel
          have HR : Hid (Bc W X d f E g N p c (goes c M j) wr) := hK
          have HGj : Hid (Good (goes c M j) ∧ Kin c (goes c M j)) := goes_good HGc.out M j
          clear hK HKc
          by_cases hjn : j < n
          · obtain ⟨x, hx⟩ : ∃ x, M[j]? = some x := ⟨_, List.getElem?_eq_getElem (by rw [← HN.out.2]; exact hjn)⟩
            obtain ⟨hxa, hxx⟩ := HA.out.2 x (List.mem_of_getElem? hx)
            have hrow : (M.map Acc.row)[j]? = some x.row := by rw [List.getElem?_map, hx]; rfl
            have hne : M.map Acc.row ≠ [] := fun e => by rw [e] at hrow; cases hrow
            have hSr := HS.out.2.below HR.out.m.old (Nat.le_refl _)
            have hao := hSr.at_ hne
            have hb0 : mb < W.heap.size := HS.out.2.lt hne
            have hbd : mb ≠ f := by omega
            have hbw : mb < wr.heap.size := Nat.lt_of_lt_of_le hb0 HR.out.m.old.size
            have c0 : wr.cell? ⟨mb, moff + j * 3, none⟩ = some (.int .u16 (x.a : Int)) := hSr.cell j _ hrow 0 _ rfl
            have c1 : wr.cell? ⟨mb, moff + j * 3 + 1, none⟩ = some (.int .u8 (x.x : Int)) := hSr.cell j _ hrow 1 _ rfl
            have c2 : wr.cell? ⟨mb, moff + j * 3 + 2, none⟩ = some (.bool x.w) := hSr.cell j _ hrow 2 _ rfl
            have HST : Hid (goes c M (j + 1) = watch (goes c M j) x.a x.x x.w) := goes_succ hx
            have k0 : (0 : Int) ≤ (j : Int) := by omega
            have k1 : (j : Int) < (n : Int) := by omega
            clear hSr hrow hne hx
            subst hao
            go_wp2
            go_region_held3 (fun w' => w'.cell? ⟨mb, moff + j * 3, none⟩ = some (.int .u16 (x.a : Int)) ∧ w'.cell? ⟨mb, moff + j * 3 + 1, none⟩ = some (.int .u8 (x.x : Int)) ∧ w'.cell? ⟨mb, moff + j * 3 + 2, none⟩ = some (.bool x.w)) (first | exact ⟨by assumption, by assumption, by assumption⟩ | go_keep) (first
              | (go_at_call 25; refine (Watch f x.a x.x x.w _ _ (by first | exact HR.out.f | exact HR.out.f.draws _) HGj.out.1.plain HGj.out.1.b1 (by have := HGj.out.1.b2; omega) hxa hxx).mono ?_; rintro e wc ⟨rfl, hCc, hTc'⟩; have hTc : Turn f wr wc := (by first | exact hTc' | exact hTc'.draws); have t1 := (hTc.cell (o := moff + j * 3) hbw hbd).trans c0; have t2 := (hTc.cell (o := moff + j * 3 + 1) hbw hbd).trans c1; have t3 := (hTc.cell (o := moff + j * 3 + 2) hbw hbd).trans c2; clear hTc'))
            all_goals go_wp2
            all_goals go_roundw
            case rel => exact ⟨j + 1, by omega, by go_num, by rw [HST.out]; exact HR.out.turn hTc hCc hXf hdf' hEf hgf hWf⟩
            case measure => simp [intOf]; omega
          · have hjl : (n : Int) ≤ (j : Int) := by omega
            have hrg := HR.out.range
            go_wp2
            go_region_held3 (fun w' => w'.rangeAt E 0 (bytes c.ex)) (first | exact HK.out.range | assumption | go_keep_ranges) (first
              | (go_at_call 27; refine (show_d (by first | exact HR.out | exact HR.out.draws _) hwin hN4').mono ?_; rintro e w9 ⟨g2, rfl, hR9, hK9⟩; have HK9 : Hid (Bc W X d f E g N p c (goes c M j) w9) := hK9; have HR9 : Hid (Row w9 g2 (shown c N)) := hR9; have r9 := hK9.range; clear hK9 hR9)
              | (go_at_call 12; refine (same_k (by first | exact HK9.out | exact HK9.out.draws _) (by exact HR9.out) hN4').mono ?_; rintro e wa ⟨rfl, hKa⟩; have HKa : Hid (Bc W X d f E g N p c (goes c M j) wa) := hKa; have ra := hKa.range; clear hKa)
              | (go_at_call 28; refine (extra_d (by first | exact HKa.out | exact HKa.out.draws _) h8).mono ?_; rintro e wb ⟨rfl, hKb⟩; have HKb : Hid (Bc W X d f E g N p c (goes c M j) wb) := hKb; have rb := hKb.range; clear hKb)
              | (go_at_call 20; refine (awake_c (by first | exact HKb.out | exact HKb.out.draws _) HT.out).mono ?_; rintro e wc ⟨rfl, hKc⟩; have HKc : Hid (Bc W X d f E g N p c (goes c M j) wc) := hKc; have rc := hKc.range; clear hKc))
            all_goals go_wp2
            all_goals go_returns
            all_goals exact ⟨rfl, HKc.out.m.old⟩
  · clear HN4
    go_wp2_with (go_at_call 20; refine (awake5 _ (HT.out.below HB4.out h0)).mono ?_; rintro e w5 ⟨rfl, hB5⟩)
    go_returns
    exact ⟨rfl, HB4.out.trans (hB5.mono HB4.out.size)⟩

theorem cartCopies_walk (p : Pl) (A : List Acc) (b off : Nat) {R : List (List Value)} {ao : Option Addr} {n cap mb moff : Nat} (W : World) (ht : Tab W) (hsd : p.seed < 256) (hA : ∀ x ∈ A, x.ok) (hS : SeenX W p.ao p.cap b off 3 (A.map Acc.row)) (hn : p.n = A.length)
    (hSM : SeenX W ao cap mb moff 3 R) (hnM : n = R.length) (hR : ∀ r ∈ R, ∃ x : Acc, r = x.row ∧ x.ok) :
    Calls Tryd.prog 8 #[.agg p.cells.toArray, .slice ao n cap] W fun e w' => e = .returned (.bool true) ∧ Below W.heap.size W w' := by
  obtain ⟨M, rfl, hM⟩ := map_of hR
  rw [List.length_map] at hnM
  have hle := hS.le
  rw [List.length_map, ← hn] at hle
  have hleM := hSM.le
  rw [List.length_map, ← hnM] at hleM
  by_cases h : (p.n ≤ 200 ∧ p.len ≤ 32768) ∧ n ≤ 100
  · exact copies_good p A b off ao n cap M mb moff W ht h.1.1 h.1.2 hsd hA hS hn h.2 hM hSM hnM
  · exact copies_big p ao n cap W (by omega) hle hS.max hleM hSM.max

end Go.Proofs.YtcohalkofahphaaDoor.Ca
