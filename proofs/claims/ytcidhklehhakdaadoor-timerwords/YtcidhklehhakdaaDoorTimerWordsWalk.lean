/- TimerWords, walked: whatever comes in, true comes out. -/
import Derived.Test.YtcidhklehhakdaaDoorAwake6
import Derived.Test.YtcidhklehhakdaaDoorArrEq
import Derived.Test.YtcidhklehhakdaaDoorSeenX
namespace Go.Proofs.YtcidhklehhakdaaDoor.timerWords
open Go.RowKit Tm

/-- An act. -/
structure Act where
  kind : Int
  cyc : Nat
  v : Nat
  n : Int
  w0 : Int
  w1 : Int
  w2 : Int
  w3 : Int
  w4 : Int
def Act.row (a : Act) : List Go.Value := [.int .i64 a.kind, .int .u16 (a.cyc : Int), .int .u8 (a.v : Int), .int .i64 a.n, .int .i64 a.w0, .int .i64 a.w1, .int .i64 a.w2, .int .i64 a.w3, .int .i64 a.w4]
def Act.ok (a : Act) : Prop := -9223372036854775808 ≤ a.kind ∧ a.kind ≤ 9223372036854775807 ∧ a.cyc ≤ 65535 ∧ a.v ≤ 255

/-- Behind an act. -/
def step (s : St) (a : Act) : St :=
  if a.kind % 4 = 0 then ticks (a.cyc % 3000) s else if a.kind % 4 = 1 then rd s else if a.kind % 4 = 2 then wr a.v a.n else s
theorem step_ok {s : St} {a : Act} (h : s.ok) (ha : a.ok) : (step s a).ok := by
  unfold step
  split
  · exact ticks_ok h _
  · split
    · exact rd_ok h
    · split
      · exact wr_ok ha.2.2.2 _
      · exact h
def steps (A : List Act) : Nat → St
  | 0 => wr 255 3
  | k + 1 => match A[k]? with
    | some a => step (steps A k) a
    | none => steps A k
theorem steps_ok {A : List Act} (h : ∀ a ∈ A, a.ok) : ∀ k, (steps A k).ok
  | 0 => wr_ok (by omega) _
  | k + 1 => by
    unfold steps
    split
    · rename_i a ha
      exact step_ok (steps_ok h k) (h a (List.mem_of_getElem? ha))
    · exact steps_ok h k
theorem steps_succ {A : List Act} {k : Nat} {a : Act} (h : A[k]? = some a) : steps A (k + 1) = step (steps A k) a := by
  show (match A[k]? with | some a => step (steps A k) a | none => steps A k) = _
  rw [h]

theorem tab_draws {w : World} (h : Tab w) (q : Nat) : Tab (w.drewN q) := ⟨h.1, h.2.1, h.2.2.1, h.2.2.2⟩
theorem turn_draws {b q : Nat} {w w' : World} (h : Turn b (w.drewN q) w') : Turn b w w' := ⟨h.os, h.tape, h.output, h.size, h.block⟩

theorem words_self (s : St) (w : World) : (Op.equalIn 10000 32 (.agg (words s)) (.agg (words s))).run Tryd.prog w = .ok true w :=
  equal_self (P := Tryd.prog) (t := 32) (e := 3) Tryd.underlying32 (by kernel_rfl) (by kernel_rfl) Tryd.underlying3 _ (fun j hj => by
    match j, hj with
    | 0, _ => exact ⟨_, _, rfl⟩
    | 1, _ => exact ⟨_, _, rfl⟩
    | 2, _ => exact ⟨_, _, rfl⟩
    | 3, _ => exact ⟨_, _, rfl⟩
    | 4, _ => exact ⟨_, _, rfl⟩) w

/-- What the last row holds: the three timers, the words that were told, nothing old turned. -/
structure Bun (W : World) (b c d g : Nat) (s x y : St) (w : World) : Prop where
  b : TAt w b 0 x
  c : TAt w c 0 y
  d : TAt w d 0 s
  g : w.heap[g]? = some (.cells #[.int .i64 (s.v : Int), .int .i64 (s.p : Int), .int .i64 (s.l : Int), .int .i64 (one s.fast), .int .i64 (one s.flag)] 32 (0, 0))
  old : Below W.heap.size W w
section
variable {W w w' : World} {b c d g : Nat} {s x y : St}
theorem Bun.draws (h : Bun W b c d g s x y w) (q : Nat) : Bun W b c d g s x y (w.drewN q) := ⟨h.b.draws q, h.c.draws q, h.d.draws q, h.g, below_drewN h.old q⟩
theorem Bun.below (h : Bun W b c d g s x y w) (hb : Below w.heap.size w w') : Bun W b c d g s x y w' :=
  ⟨h.b.below hb, h.c.below hb, h.d.below hb, (hb.block g (Array.getElem?_eq_some_iff.1 h.g).1).trans h.g, h.old.trans (hb.mono h.old.size)⟩
theorem Bun.cells (h : Bun W b c d g s x y w) : w.cell? ⟨g, 0, none⟩ = some (.int .i64 (s.v : Int)) ∧ w.cell? ⟨g, 1, none⟩ = some (.int .i64 (s.p : Int)) ∧ w.cell? ⟨g, 2, none⟩ = some (.int .i64 (s.l : Int)) ∧ w.cell? ⟨g, 3, none⟩ = some (.int .i64 (one s.fast)) ∧ w.cell? ⟨g, 4, none⟩ = some (.int .i64 (one s.flag)) :=
  ⟨cell_of_row _ _ _ _ _ _ h.g, cell_of_row _ _ _ _ _ _ h.g, cell_of_row _ _ _ _ _ _ h.g, cell_of_row _ _ _ _ _ _ h.g, cell_of_row _ _ _ _ _ _ h.g⟩
theorem words_b (h : Bun W b c d g s x y w) (hx : x.v ≤ 255) : Calls Tryd.prog 15 #[.pointer (some ⟨b, 0, none⟩)] w fun e w' => e = .returned (.agg (words x)) ∧ Bun W b c d g s x y w' :=
  (Words b 0 x _ hx h.b).mono fun _ _ ⟨he, hb⟩ => ⟨he, h.below hb⟩
theorem words_c (h : Bun W b c d g s x y w) (hy : y.v ≤ 255) : Calls Tryd.prog 15 #[.pointer (some ⟨c, 0, none⟩)] w fun e w' => e = .returned (.agg (words y)) ∧ Bun W b c d g s x y w' :=
  (Words c 0 y _ hy h.c).mono fun _ _ ⟨he, hb⟩ => ⟨he, h.below hb⟩
theorem words_d (h : Bun W b c d g s x y w) (hs : s.v ≤ 255) : Calls Tryd.prog 15 #[.pointer (some ⟨d, 0, none⟩)] w fun e w' => e = .returned (.agg (words s)) ∧ Bun W b c d g s x y w' :=
  (Words d 0 s _ hs h.d).mono fun _ _ ⟨he, hb⟩ => ⟨he, h.below hb⟩
theorem Bun.turn_b {x' : St} (h : Bun W b c d g s x y w) (ht : Turn b w w') (hb : TAt w' b 0 x') (h1 : W.heap.size ≤ b) (h2 : b < c) (h3 : c < d) (h4 : d < g) : Bun W b c d g s x' y w' :=
  ⟨hb, h.c.turn ht (by omega), h.d.turn ht (by omega), (ht.block g (Array.getElem?_eq_some_iff.1 h.g).1 (by omega)).trans h.g, h.old.trans (ht.below h1 h.old.size)⟩
theorem Bun.turn_c {y' : St} (h : Bun W b c d g s x y w) (ht : Turn c w w') (hc : TAt w' c 0 y') (h1 : W.heap.size ≤ b) (h2 : b < c) (h3 : c < d) (h4 : d < g) : Bun W b c d g s x y' w' :=
  ⟨h.b.turn ht (by omega), hc, h.d.turn ht (by omega), (ht.block g (Array.getElem?_eq_some_iff.1 h.g).1 (by omega)).trans h.g, h.old.trans (ht.below (by omega) h.old.size)⟩
theorem read_b (h : Bun W b c d g s x y w) (h1 : W.heap.size ≤ b) (h2 : b < c) (h3 : c < d) (h4 : d < g) : Calls Tryd.prog 13 #[.pointer (some ⟨b, 0, none⟩)] w fun e w' => e = .returned (.int .u8 (x.v : Int)) ∧ Bun W b c d g s (rd x) y w' :=
  (Tm.Read b 0 x _ h.b).mono fun _ _ ⟨he, ha, ht⟩ => ⟨he, h.turn_b ht ha h1 h2 h3 h4⟩
theorem read_c (h : Bun W b c d g s x y w) (h1 : W.heap.size ≤ b) (h2 : b < c) (h3 : c < d) (h4 : d < g) : Calls Tryd.prog 13 #[.pointer (some ⟨c, 0, none⟩)] w fun e w' => e = .returned (.int .u8 (y.v : Int)) ∧ Bun W b c d g s x (rd y) w' :=
  (Tm.Read c 0 y _ h.c).mono fun _ _ ⟨he, ha, ht⟩ => ⟨he, h.turn_c ht ha h1 h2 h3 h4⟩
theorem awake_k (h : Bun W b c d g s x y w) (ht : Tab W) : Calls Tryd.prog 11 #[] w fun e w' => e = .returned (.bool true) ∧ Bun W b c d g s x y w' :=
  (awake6 _ (ht.below h.old ht.lt)).mono fun _ _ ⟨he, hb⟩ => ⟨he, h.below hb⟩
end

theorem kind4 {k r : Int} (h : k.tmod 4 = r) : -3 ≤ r ∧ r ≤ 3 ∧ (r + 4) % 4 = k % 4 := by
  subst h
  rcases Int.le_total 0 k with h | h
  · have := Int.tmod_eq_emod_of_nonneg (b := 4) h; omega
  · have : k.tmod 4 = -((-k).tmod 4) := by rw [Int.neg_tmod]; omega
    have e := Int.tmod_eq_emod_of_nonneg (a := -k) (b := 4) (by omega)
    omega

set_option maxRecDepth 100000 in
set_option maxHeartbeats 4000000 in
theorem good (A : List Act) (ao : Option Addr) (cap b0 off0 cyc : Nat) (W : World) (ht : Tab W) (hA : ∀ a ∈ A, a.ok) (hl : A.length ≤ 20) (hc : cyc ≤ 65535) (hS : SeenX W ao cap b0 off0 9 (A.map Act.row)) :
    Calls Tryd.prog 4 #[.slice ao A.length cap, .int .u16 (cyc : Int)] W fun e w' => e = .returned (.bool true) ∧ Below W.heap.size W w' := by
  have h0 := ht.lt
  have HT : Hid (Tab W) := ht
  have HA : Hid (∀ a ∈ A, a.ok) := hA
  have HS : Hid (SeenX W ao cap b0 off0 9 (A.map Act.row)) := hS
  have hcap := hS.max
  have hle := hS.le
  rw [List.length_map] at hle
  have hc64 : IntKind.i64.wrap (cyc : Int) = cyc := by rw [IntKind.wrap_i64]; omega
  clear ht hA hS
  generalize hn : A.length = n at *
  have HN : Hid (A.length = n) := hn
  clear hn
  go_enter Tryd.func4, Tryd.ntmps4
  go_wp2_with (go_at_call 6; fail)
  refine (New W HT.out).mono ?_
  rintro e w1 ⟨b, rfl, hb, hA1, hB1⟩
  have HB1 : Hid (Below W.heap.size W w1) := hB1
  have HA1 : Hid (TAt w1 b 0 (wr 255 3)) := hA1
  clear hA1 hB1
  go_wp2_with (go_at_call 6; fail)
  refine (New w1 (HT.out.below HB1.out h0)).mono ?_
  rintro e w2 ⟨c, rfl, hbc, hA2, hB2⟩
  have HB2 : Hid (Below W.heap.size W w2) := HB1.out.trans (hB2.mono HB1.out.size)
  have HA2 : Hid (TAt w2 c 0 (wr 255 3)) := hA2
  have HA3 : Hid (TAt w2 b 0 (steps A 0)) := HA1.out.below hB2
  have hbc' : b < c := by have := HA1.out.lt; omega
  clear hA2 hB2 HB1 HA1 hbc
  go_wp2
  go_loopw [7] (fun v wr => ∃ k : Nat, k ≤ n ∧ v = .int .i64 (k : Int) ∧ TAt wr b 0 (steps A k) ∧ TAt wr c 0 (Tm.wr 255 3) ∧ Below W.heap.size W wr) (fun v _ => n - (intOf v).toNat)
  case atStart => exact ⟨0, by omega, rfl, HA3.out, HA2.out, HB2.out⟩
  case round =>
    obtain ⟨k, hk, rfl, hR1, hR2, hR3⟩ := hrel
    have HR1 : Hid (TAt wr b 0 (steps A k)) := hR1
    have HR2 : Hid (TAt wr c 0 (Tm.wr 255 3)) := hR2
    have HR3 : Hid (Below W.heap.size W wr) := hR3
    have HTr : Hid (Tab wr) := HT.out.below hR3 h0
    clear hR1 hR2 hR3 HA2 HA3 HB2
    by_cases hkn : k < n
    · obtain ⟨a, ha⟩ : ∃ a, A[k]? = some a := ⟨_, List.getElem?_eq_getElem (by rw [HN.out]; exact hkn)⟩
      obtain ⟨r0, r1, r2, r3⟩ := HA.out a (List.mem_of_getElem? ha)
      have hrow : (A.map Act.row)[k]? = some a.row := by rw [List.getElem?_map, ha]; rfl
      have hSr := HS.out.below HR3.out (Nat.le_refl _)
      have hao := hSr.at_ (fun e => by rw [e] at hrow; cases hrow)
      have hb0 : b0 < W.heap.size := HS.out.lt (fun e => by rw [e] at hrow; cases hrow)
      have hb1 : b0 < wr.heap.size := Nat.lt_of_lt_of_le hb0 HR3.out.size
      have hb2 : b0 ≠ b := by omega
      subst hao
      have c0 : wr.cell? ⟨b0, off0 + k * 9, none⟩ = some (.int .i64 a.kind) := hSr.cell k _ hrow 0 _ rfl
      have c1 : wr.cell? ⟨b0, off0 + k * 9 + 1, none⟩ = some (.int .u16 (a.cyc : Int)) := hSr.cell k _ hrow 1 _ rfl
      have c2 : wr.cell? ⟨b0, off0 + k * 9 + 2, none⟩ = some (.int .u8 (a.v : Int)) := hSr.cell k _ hrow 2 _ rfl
      have c3 : wr.cell? ⟨b0, off0 + k * 9 + 3, none⟩ = some (.int .i64 a.n) := hSr.cell k _ hrow 3 _ rfl
      have HST : Hid (steps A (k + 1) = step (steps A k) a) := steps_succ ha
      have HOK : Hid (steps A k).ok := steps_ok HA.out k
      obtain ⟨q, hq⟩ : ∃ q, a.kind.tmod 4 = q := ⟨_, rfl⟩
      obtain ⟨q1, q2, q3⟩ := kind4 hq
      have HQ : Hid ((q + 4) % 4 = a.kind % 4) := q3
      obtain ⟨x, hx⟩ : ∃ x, x = a.cyc % 3000 := ⟨_, rfl⟩
      have HX : Hid (x = a.cyc % 3000) := hx
      have hx1 : (a.cyc : Int) % 3000 = (x : Int) := by omega
      have hx2 : x ≤ 3000 := by omega
      have hy64 : IntKind.i64.wrap (a.cyc : Int) = a.cyc := by rw [IntKind.wrap_i64]; omega
      have k0 : (0 : Int) ≤ (k : Int) := by omega
      have k1 : (k : Int) < (n : Int) := by omega
      clear hSr hrow ha q3 hx
      have h4 : (q + 4) % 4 = 0 ∨ (q + 4) % 4 = 1 ∨ (q + 4) % 4 = 2 ∨ (q + 4) % 4 = 3 := by omega
      rcases h4 with hm | hm | hm | hm
      · have HM : Hid (step (steps A k) a = ticks x (steps A k)) := (by unfold step; rw [if_pos (by rw [← HQ.out]; exact hm), HX.out] : step (steps A k) a = ticks x (steps A k))
        go_wp2_with (go_at_call 8; refine (ticked b 0 x _ _ (by omega) HOK.out HR1.out).mono ?_; rintro e w6 ⟨rfl, hA6, hT6⟩)
        go_roundw
        case rel => exact ⟨k + 1, by omega, by go_num, by rw [HST.out, HM.out]; exact hA6, HR2.out.turn hT6 (by omega), HR3.out.trans (hT6.below hb HR3.out.size)⟩
        case measure => simp [intOf]; omega
      · have HM : Hid (step (steps A k) a = rd (steps A k)) := (by unfold step; rw [if_neg (by rw [← HQ.out, hm]; decide), if_pos (by rw [← HQ.out]; exact hm)] : step (steps A k) a = rd (steps A k))
        go_wp2_with (go_at_call 13; refine (Tm.Read b 0 _ _ HR1.out).mono ?_; rintro e w6 ⟨rfl, hA6, hT6⟩)
        go_roundw
        case rel => exact ⟨k + 1, by omega, by go_num, by rw [HST.out, HM.out]; exact hA6, HR2.out.turn hT6 (by omega), HR3.out.trans (hT6.below hb HR3.out.size)⟩
        case measure => simp [intOf]; omega
      · have HM : Hid (step (steps A k) a = Tm.wr a.v a.n) := (by unfold step; rw [if_neg (by rw [← HQ.out, hm]; decide), if_neg (by rw [← HQ.out, hm]; decide), if_pos (by rw [← HQ.out]; exact hm)] : step (steps A k) a = Tm.wr a.v a.n)
        go_wp2
        go_region_held3 (fun w' => w'.cell? ⟨b0, off0 + k * 9 + 2, none⟩ = some (.int .u8 (a.v : Int)) ∧ w'.cell? ⟨b0, off0 + k * 9 + 3, none⟩ = some (.int .i64 a.n)) (first | go_keep) (first
          | (go_at_call 7; refine (Write b 0 _ a.v a.n _ (by first | exact HTr.out | exact tab_draws HTr.out _) (by first | exact HR1.out | exact HR1.out.draws _)).mono ?_; rintro e w6 ⟨rfl, hA6, hT6'⟩; have hT6 : Turn b wr w6 := (by first | exact hT6' | exact turn_draws hT6'); clear hT6'; have d2 := (hT6.cell (o := off0 + k * 9 + 2) hb1 hb2).trans c2; have d3 := (hT6.cell (o := off0 + k * 9 + 3) hb1 hb2).trans c3))
        all_goals go_wp2
        all_goals go_roundw
        case rel => exact ⟨k + 1, by omega, by go_num, by rw [HST.out, HM.out]; exact hA6, HR2.out.turn hT6 (by omega), HR3.out.trans (hT6.below hb HR3.out.size)⟩
        case measure => simp [intOf]; omega
      · have HM : Hid (step (steps A k) a = steps A k) := (by unfold step; rw [if_neg (by rw [← HQ.out, hm]; decide), if_neg (by rw [← HQ.out, hm]; decide), if_neg (by rw [← HQ.out, hm]; decide)] : step (steps A k) a = steps A k)
        go_wp2
        go_roundw
        case rel => exact ⟨k + 1, by omega, by go_num, by rw [HST.out, HM.out]; exact HR1.out, HR2.out, HR3.out⟩
        case measure => simp [intOf]; omega
    · have hkn' : k = n := by omega
      subst hkn'
      have HOK : Hid (steps A k).ok := steps_ok HA.out k
      generalize steps A k = s at *
      obtain ⟨x, hx⟩ : ∃ x, x = cyc % 3000 := ⟨_, rfl⟩
      have hx1 : (cyc : Int) % 3000 = (x : Int) := by omega
      have hx2 : x ≤ 3000 := by omega
      have heq := fun s w => words_self s w
      clear hx
      go_wp2_with (go_at_call 15; fail)
      refine (Words b 0 s _ HOK.out.1 HR1.out).mono ?_
      rintro e w3 ⟨rfl, hB3⟩
      have HB3 : Hid (Below W.heap.size W w3) := HR3.out.trans (hB3.mono HR3.out.size)
      have H3b : Hid (TAt w3 b 0 s) := HR1.out.below hB3
      have H3c : Hid (TAt w3 c 0 (Tm.wr 255 3)) := HR2.out.below hB3
      clear hB3 HR1 HR2 HR3
      go_wp2_with (go_at_call 14; fail)
      refine (Tm.Set c 0 _ s _ (HT.out.below HB3.out h0) HOK.out H3c.out).mono ?_
      rintro e w4 ⟨rfl, hA4, hT4⟩
      have HB4 : Hid (Below W.heap.size W w4) := HB3.out.trans (hT4.below (by omega) HB3.out.size)
      have H4b : Hid (TAt w4 b 0 s) := H3b.out.turn hT4 (by omega)
      have H4c : Hid (TAt w4 c 0 s) := hA4
      clear hA4 hT4 HB3 H3b H3c
      go_wp2_with (go_at_call 16; fail)
      refine (Tm.Copy b 0 s _ H4b.out).mono ?_
      rintro e w5 ⟨d, rfl, hd, hA5, hB5⟩
      have hcd : c < d := by have := H4c.out.lt; omega
      have HB5 : Hid (Below W.heap.size W w5) := HB4.out.trans (hB5.mono HB4.out.size)
      have H5b : Hid (TAt w5 b 0 s) := H4b.out.below hB5
      have H5c : Hid (TAt w5 c 0 s) := H4c.out.below hB5
      have H5d : Hid (TAt w5 d 0 s) := hA5
      clear hA5 hB5 HB4 H4b H4c hd
      go_wp2_with (go_at_call 8; fail)
      refine (ticked b 0 x _ _ (by omega) HOK.out H5b.out).mono ?_
      rintro e w6 ⟨rfl, hA6, hT6⟩
      have HB6 : Hid (Below W.heap.size W w6) := HB5.out.trans (hT6.below hb HB5.out.size)
      have H6b : Hid (TAt w6 b 0 (ticks x s)) := hA6
      have H6c : Hid (TAt w6 c 0 s) := H5c.out.turn hT6 (by omega)
      have H6d : Hid (TAt w6 d 0 s) := H5d.out.turn hT6 (by omega)
      clear hA6 hT6 HB5 H5b H5c H5d
      go_wp2_with (go_at_call 8; fail)
      refine (ticked c 0 x _ _ (by omega) HOK.out H6c.out).mono ?_
      rintro e w7 ⟨rfl, hA7, hT7⟩
      have HB7 : Hid (Below W.heap.size W w7) := HB6.out.trans (hT7.below (by omega) HB6.out.size)
      have H7b : Hid (TAt w7 b 0 (ticks x s)) := H6b.out.turn hT7 (by omega)
      have H7c : Hid (TAt w7 c 0 (ticks x s)) := hA7
      have H7d : Hid (TAt w7 d 0 s) := H6d.out.turn hT7 (by omega)
      have HO7 : Hid (ticks x s).ok := ticks_ok HOK.out x
      clear hA7 hT7 HB6 H6b H6c H6d
      generalize ticks x s = s' at *
      go_wp2_with (go_at_call 15; fail)
      refine (Words d 0 s _ HOK.out.1 H7d.out).mono ?_
      rintro e w8 ⟨rfl, hB8⟩
      have HB8 : Hid (Below W.heap.size W w8) := HB7.out.trans (hB8.mono HB7.out.size)
      have H8b : Hid (TAt w8 b 0 s') := H7b.out.below hB8
      have H8c : Hid (TAt w8 c 0 s') := H7c.out.below hB8
      have H8d : Hid (TAt w8 d 0 s) := H7d.out.below hB8
      clear hB8 HB7 H7b H7c H7d
      unfold words
      go_wp2
      generalize hw : w8.alloc _ = v8
      have hB : Below w8.heap.size w8 v8 := by rw [← hw]; exact (Below.refl _ _).alloc (Nat.le_refl _) _
      have hG : v8.heap[w8.heap.size]? = some (.cells #[.int .i64 (s.v : Int), .int .i64 (s.p : Int), .int .i64 (s.l : Int), .int .i64 (one s.fast), .int .i64 (one s.flag)] 32 (0, 0)) := by rw [← hw]; exact heap_alloc_new _ _
      have hdg : d < w8.heap.size := H8d.out.lt
      have HK : Hid (Bun W b c d w8.heap.size s s' s' v8) := ⟨H8b.out.below hB, H8c.out.below hB, H8d.out.below hB, hG, HB8.out.trans (hB.mono HB8.out.size)⟩
      clear hw hB hG H8b H8c H8d HB8
      generalize w8.heap.size = g at *
      have heq' := fun w => words_self s w
      have heq'' := fun w => words_self s' w
      unfold words at heq' heq''
      obtain ⟨x0, x1, x2, x3, x4⟩ := HK.out.cells
      clear heq
      go_region_held3 (fun w' => w'.cell? ⟨g, 0, none⟩ = some (.int .i64 (s.v : Int)) ∧ w'.cell? ⟨g, 1, none⟩ = some (.int .i64 (s.p : Int)) ∧ w'.cell? ⟨g, 2, none⟩ = some (.int .i64 (s.l : Int)) ∧ w'.cell? ⟨g, 3, none⟩ = some (.int .i64 (one s.fast)) ∧ w'.cell? ⟨g, 4, none⟩ = some (.int .i64 (one s.flag))) (first | exact HK.out.cells | exact ⟨by assumption, by assumption, by assumption, by assumption, by assumption⟩ | go_keep) (first
        | (go_at_call 15; first
            | (refine (words_b (by first | exact HK.out | exact HK.out.draws _) HO7.out.1).mono ?_; rintro e w9 ⟨rfl, hK⟩; clear HK; have HK : Hid (Bun W b c d g s s' s' w9) := hK; clear hK; unfold words)
            | (refine (words_c (by first | exact HK.out | exact HK.out.draws _) HO7.out.1).mono ?_; rintro e w9 ⟨rfl, hK⟩; clear HK; have HK : Hid (Bun W b c d g s s' s' w9) := hK; clear hK; unfold words)
            | (refine (words_d (by first | exact HK.out | exact HK.out.draws _) HOK.out.1).mono ?_; rintro e w9 ⟨rfl, hK⟩; clear HK; have HK : Hid (Bun W b c d g s (rd s') (rd s') w9) := hK; clear hK; unfold words))
        | (go_at_call 13; first
            | (refine (read_b (by first | exact HK.out | exact HK.out.draws _) (by exact hb) (by exact hbc') (by exact hcd) (by exact hdg)).mono ?_; rintro e w9 ⟨rfl, hK⟩; clear HK; have HK : Hid (Bun W b c d g s (rd s') s' w9) := hK; clear hK)
            | (refine (read_c (by first | exact HK.out | exact HK.out.draws _) (by exact hb) (by exact hbc') (by exact hcd) (by exact hdg)).mono ?_; rintro e w9 ⟨rfl, hK⟩; clear HK; have HK : Hid (Bun W b c d g s (rd s') (rd s') w9) := hK; clear hK))
        | (go_at_call 11; refine (awake_k (by first | exact HK.out | exact HK.out.draws _) HT.out).mono ?_; rintro e w9 ⟨rfl, hK⟩; clear HK; have HK : Hid (Bun W b c d g s (rd s') (rd s') w9) := hK; clear hK))
      all_goals go_wp2
      all_goals go_returns
      all_goals exact ⟨rfl, HK.out.old⟩

set_option maxRecDepth 100000 in
set_option maxHeartbeats 1000000 in
theorem big (n : Nat) (ao : Option Addr) (cap : Nat) (c : Int) (W : World) (hn : 20 < n) (_ : n ≤ cap) (_ : cap ≤ 9223372036854775807) :
    Calls Tryd.prog 4 #[.slice ao n cap, .int .u16 c] W fun e w' => e = .returned (.bool true) ∧ Below W.heap.size W w' := by
  go_enter Tryd.func4, Tryd.ntmps4
  go_wp2
  go_returns
  exact ⟨rfl, Below.refl _ _⟩

theorem walk {L : List (List Go.Value)} {ao : Option Addr} {n cap b off : Nat} {W : World} (a1 : Int) (w1 : (Lit.int .u16 a1).wf = true) (ht : Tab W) (hS : SeenX W ao cap b off 9 L) (hn : n = L.length) (hL : ∀ r ∈ L, ∃ a : Act, r = a.row ∧ a.ok) :
    Calls Tryd.prog 4 #[.slice ao n cap, .int .u16 a1] W fun e w' => e = .returned (.bool true) ∧ Below W.heap.size W w' := by
  obtain ⟨A, rfl, hA⟩ := map_of hL
  rw [List.length_map] at hn
  subst hn
  have hw := bounds_u16 w1
  obtain ⟨c, rfl⟩ := Int.eq_ofNat_of_zero_le hw.1
  by_cases h : A.length ≤ 20
  · exact good A ao cap b off c W ht hA h (by omega) hS
  · have := hS.le
    rw [List.length_map] at this
    exact big _ _ _ _ _ (by omega) this hS.max

end Go.Proofs.YtcidhklehhakdaaDoor.timerWords
