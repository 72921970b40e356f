/- CartHolds, walked. -/
import Derived.Test.YtcohalkofahphaaDoorPlayC
set_option linter.unusedSimpArgs false
set_option linter.unusedVariables false
namespace Go.Proofs.YtcohalkofahphaaDoor.Ca
open Go.RowKit Img

set_option maxRecDepth 100000 in
set_option maxHeartbeats 1000000 in
/-- Same, of two rows of one length that differ. -/
theorem Same_no (xs ys : List Int) (n : Nat) (ao ao' : Option Addr) (cap cap' b b' off off' : Nat) (w : World) (h : Seen (fun x => .int .i64 x) w ao cap b off xs) (h' : Seen (fun x => .int .i64 x) w ao' cap' b' off' ys) (hn : n = xs.length) (hm : n = ys.length) (hd : xs ≠ ys) :
    Calls Tryd.prog 12 #[.slice ao n cap, .slice ao' n cap'] w fun e w' => e = .returned (.bool false) ∧ ∃ q, w' = w.drewN q := by
  have H1 : Hid (Seen (fun x => .int .i64 x) w ao cap b off xs) := h
  have H2 : Hid (Seen (fun x => .int .i64 x) w ao' cap' b' off' ys) := h'
  have HN : Hid (n = xs.length ∧ n = ys.length ∧ xs ≠ ys) := ⟨hn, hm, hd⟩
  have hmax := h.max
  have hle := h.le
  rw [← hn] at hle
  clear h h' hm hn hd
  go_enter Tryd.func12, Tryd.ntmps12
  go_wp2
  go_loopw [5] (fun v wr => ∃ k q : Nat, k ≤ n ∧ v = .int .i64 (k : Int) ∧ wr = w.drewN q ∧ ∀ i, i < k → xs[i]? = ys[i]?) (fun v _ => n - (intOf v).toNat)
  case atStart => exact ⟨0, 0, by omega, rfl, rfl, fun i hi => absurd hi (Nat.not_lt_zero _)⟩
  case round =>
    obtain ⟨k, q, hk, rfl, rfl, hp⟩ := hrel
    have HP : Hid (∀ i, i < k → xs[i]? = ys[i]?) := hp
    clear hp
    by_cases hl : k < n
    · obtain ⟨x, hx⟩ : ∃ x, xs[k]? = some x := ⟨_, List.getElem?_eq_getElem (by rw [← HN.out.1]; exact hl)⟩
      obtain ⟨y, hy⟩ : ∃ y, ys[k]? = some y := ⟨_, List.getElem?_eq_getElem (by rw [← HN.out.2.1]; exact hl)⟩
      have e1 := H1.out.at_ (fun e => by rw [e] at hx; cases hx)
      have e2 := H2.out.at_ (fun e => by rw [e] at hy; cases hy)
      subst e1
      subst e2
      have c1 : w.cell? ⟨b, off + k, none⟩ = some (.int .i64 x) := H1.out.cell k x hx
      have c2 : w.cell? ⟨b', off' + k, none⟩ = some (.int .i64 y) := H2.out.cell k y hy
      have k0 : (0 : Int) ≤ (k : Int) := by omega
      have k1 : (k : Int) < (n : Int) := by omega
      by_cases hxy : x = y
      · subst hxy
        have HS : Hid (xs[k]? = ys[k]?) := hx.trans hy.symm
        clear hx hy
        go_wp2
        go_quiet (fail)
        go_wp2
        go_roundw
        case rel => exact ⟨k + 1, _, by omega, by go_num, rfl, fun i hi => by
          by_cases h : i = k
          · subst h; exact HS.out
          · exact HP.out i (by omega)⟩
        case measure => simp [intOf]; omega
      · have hb : (x != y) = true := by simp [hxy]
        clear hx hy
        go_wp2
        go_quiet (fail)
        go_wp2
        go_returns
        exact ⟨rfl, _, World.drewN_drewN _ _ _⟩
    · have hkn : k = n := by omega
      subst hkn
      exfalso
      refine HN.out.2.2 (List.ext_getElem? fun i => ?_)
      by_cases hi : i < k
      · exact HP.out i hi
      · rw [List.getElem?_eq_none (by have := HN.out.1; omega), List.getElem?_eq_none (by have := HN.out.2.1; omega)]

/-! ### What turns a window -/
theorem shown_at {c d : Ct} (h : ∀ k, k < 4 → c.at k = d.at k) (n : Nat) : shown c n = shown d n := by
  unfold shown
  have h0 : c.s0 = d.s0 := h 0 (by omega)
  have h1 : c.s1 = d.s1 := h 1 (by omega)
  have h2 : c.s2 = d.s2 := h 2 (by omega)
  have h3 : c.s3 = d.s3 := h 3 (by omega)
  rw [h0, h1, h2, h3]
theorem rows_at {c : Ct} {o : Int} (h : ∀ k, k < 3 → hits c k o = false) : ∀ k, k ≤ 3 → rows c o k = c
  | 0, _ => rfl
  | k + 1, hk => by
    unfold rows
    rw [h k (by omega)]
    exact rows_at h k (by omega)
theorem own_at {c : Ct} {o x : Int} (h : ∀ k, k < 3 → hits c k o = false) (n : Nat) : shown (own c o x) n = shown c n := by
  unfold own
  rw [rows_at h 3 (Nat.le_refl _)]
  split <;> rfl

/-- Where a window may turn, by the tag. -/
theorem turns {c : Ct} (hot : ∀ k, c.hot k = match k with | 0 => ((hotT c.tag.toList).1, (hotT c.tag.toList).2.1) | 1 => ((hotT c.tag.toList).2.2.1, (hotT c.tag.toList).2.2.2.1) | _ => ((hotT c.tag.toList).2.2.2.2.1, (hotT c.tag.toList).2.2.2.2.2))
    (a x : Nat) (wr : Bool) (n : Nat) (hd : shown (watch c a x wr) n ≠ shown c n) :
    ((c.tag.toList = [70, 56] ∨ c.tag.toList = [70, 56, 83, 67] ∨ c.tag.toList = [70, 54] ∨ c.tag.toList = [70, 54, 83, 67] ∨ c.tag.toList = [70, 52] ∨ c.tag.toList = [70, 52, 83, 67]) ∧ 8180 ≤ a % 8192 ∧ a % 8192 ≤ 8187) ∨
    (c.tag.toList = [69, 48] ∧ 8160 ≤ a % 8192 ∧ a % 8192 ≤ 8183) ∨ (c.tag.toList = [51, 70] ∧ wr = true ∧ a % 8192 ≤ 63) ∨ (c.tag.toList = [70, 69] ∧ c.stack = true) := by
  unfold watch watch13 at hd
  split at hd
  · rename_i h3
    split at hd
    · rename_i hw
      simp only [Bool.and_eq_true, decide_eq_true_eq] at hw
      exact .inr (.inr (.inl ⟨h3, hw.1, by omega⟩))
    · exact absurd rfl hd
  · split at hd
    · rename_i h3 hE
      refine .inr (.inr (.inr ⟨hE, ?_⟩))
      cases hst : c.stack with
      | true => rfl
      | false =>
        exfalso
        apply hd
        unfold pile
        rw [hst]
        rfl
    · rename_i h3 hE
      split at hd
      · rename_i h4
        have hh : ∃ k, k < 3 ∧ hits c k (((a : Int) % 8192) - 4096) = true := by
          by_cases he : ∃ k, k < 3 ∧ hits c k (((a : Int) % 8192) - 4096) = true
          · exact he
          · exfalso
            apply hd
            exact own_at (fun k hk => by
              cases hb : hits c k (((a : Int) % 8192) - 4096) with
              | false => rfl
              | true => exact absurd ⟨k, hk, hb⟩ he) n
        obtain ⟨k, hk, hb⟩ := hh
        simp only [hits, Bool.and_eq_true, decide_eq_true_eq, hot k] at hb
        obtain ⟨b1, b2⟩ := hb
        by_cases t1 : c.tag.toList = [70, 56] ∨ c.tag.toList = [70, 56, 83, 67]
        · have e : hotT c.tag.toList = (4088, 2, 0, 0, 0, 0) := if_pos t1
          rw [e] at b1 b2
          refine .inl ⟨by rcases t1 with t | t <;> simp [t], ?_⟩
          match k, hk with
          | 0, _ => simp only at b1 b2; omega
          | 1, _ => simp only at b1 b2; omega
          | 2, _ => simp only at b1 b2; omega
        by_cases t2 : c.tag.toList = [70, 54] ∨ c.tag.toList = [70, 54, 83, 67]
        · have e : hotT c.tag.toList = (4086, 4, 0, 0, 0, 0) := (if_neg t1).trans (if_pos t2)
          rw [e] at b1 b2
          refine .inl ⟨by rcases t2 with t | t <;> simp [t], ?_⟩
          match k, hk with
          | 0, _ => simp only at b1 b2; omega
          | 1, _ => simp only at b1 b2; omega
          | 2, _ => simp only at b1 b2; omega
        by_cases t3 : c.tag.toList = [70, 52] ∨ c.tag.toList = [70, 52, 83, 67]
        · have e : hotT c.tag.toList = (4084, 8, 0, 0, 0, 0) := (if_neg t1).trans ((if_neg t2).trans (if_pos t3))
          rw [e] at b1 b2
          refine .inl ⟨by rcases t3 with t | t <;> simp [t], ?_⟩
          match k, hk with
          | 0, _ => simp only at b1 b2; omega
          | 1, _ => simp only at b1 b2; omega
          | 2, _ => simp only at b1 b2; omega
        by_cases t4 : c.tag.toList = [69, 48]
        · have e : hotT c.tag.toList = (4064, 8, 4072, 8, 4080, 8) := (if_neg t1).trans ((if_neg t2).trans ((if_neg t3).trans (if_pos t4)))
          rw [e] at b1 b2
          refine .inr (.inl ⟨t4, ?_⟩)
          match k, hk with
          | 0, _ => simp only at b1 b2; omega
          | 1, _ => simp only at b1 b2; omega
          | 2, _ => simp only at b1 b2; omega
        · have e : hotT c.tag.toList = (0, 0, 0, 0, 0, 0) := (if_neg t1).trans ((if_neg t2).trans ((if_neg t3).trans (if_neg t4)))
          rw [e] at b1 b2
          exfalso
          match k, hk with
          | 0, _ => simp only at b1 b2; omega
          | 1, _ => simp only at b1 b2; omega
          | 2, _ => simp only at b1 b2; omega
      · exact absurd rfl hd

/-- The last access's address. -/
def lastA (A : List Acc) : Nat → Nat
  | 0 => 0
  | k + 1 => match A[k]? with
    | some x => x.a
    | none => lastA A k
/-- Of FE the mark is set just behind an access to the stack's place. -/
theorem armed {c : Ct} (h : c.tag.toList = [70, 69]) (hs : c.stack = false) (A : List Acc) : ∀ k, k ≤ A.length → ((goes c A k).tag = c.tag ∧ ((goes c A k).stack = true → lastA A k % 8192 = 510))
  | 0, _ => ⟨rfl, fun e => by rw [show goes c A 0 = c from rfl, hs] at e; cases e⟩
  | k + 1, hk => by
    obtain ⟨ih, _⟩ := armed h hs A k (by omega)
    obtain ⟨x, hx⟩ : ∃ x, A[k]? = some x := ⟨_, List.getElem?_eq_getElem (by omega)⟩
    rw [goes_succ hx]
    have e : watch (goes c A k) x.a x.x x.w = pile (goes c A k) ((x.a : Int) % 8192) x.x := by
      unfold watch watch13
      rw [ih, if_neg (by rw [h]; decide), if_pos h]
    rw [e]
    constructor
    · unfold pile
      split
      · exact ((put_kin _ _ _).trans (arm_kin _ _)).tag.trans ih
      · exact (arm_kin _ _).tag.trans ih
    · intro hst
      have : lastA A (k + 1) = x.a := by
        show (match A[k]? with | some x => x.a | none => lastA A k) = _
        rw [hx]
      rw [this]
      have hst' : decide ((x.a : Int) % 8192 = 510) = true := hst
      have := of_decide_eq_true hst'
      omega

theorem lastA_lt {A : List Acc} (h : ∀ x ∈ A, x.ok) : ∀ k, lastA A k < 65536
  | 0 => (by decide : 0 < 65536)
  | k + 1 => by
    unfold lastA
    split
    · rename_i x hx
      exact (h x (List.mem_of_getElem? hx)).1
    · exact lastA_lt h k

/-- Where the law's access may turn a window: the tag, and where. -/
def Spot (tag : List UInt8) (a : Nat) (wr : Bool) (la : Nat) : Prop :=
  ((tag = [70, 56] ∨ tag = [70, 56, 83, 67] ∨ tag = [70, 54] ∨ tag = [70, 54, 83, 67] ∨ tag = [70, 52] ∨ tag = [70, 52, 83, 67]) ∧ 8180 ≤ a ∧ a ≤ 8187) ∨
    (tag = [69, 48] ∧ 8160 ≤ a ∧ a ≤ 8183) ∨ (tag = [51, 70] ∧ wr = true ∧ a ≤ 63) ∨ (tag = [70, 69] ∧ la = 510)
theorem turned {tag : ByteArray} {m : Mp} {N : Nat} {L ex : List Int} {A : List Acc} {k : Nat} (hk : k ≤ A.length) (kin : Kin (made tag m N L ex) (goes (made tag m N L ex) A k)) (a x : Nat) (wr : Bool) (n : Nat)
    (hd : shown (watch (goes (made tag m N L ex) A k) a x wr) n ≠ shown (goes (made tag m N L ex) A k) n) : Spot tag.toList (a % 8192) wr (lastA A k % 8192) := by
  have ht : (goes (made tag m N L ex) A k).tag = tag := kin.tag
  have h := turns (c := goes (made tag m N L ex) A k) (fun j => by
    rw [kin.hot j, ht]
    match j with
    | 0 => rfl
    | 1 => rfl
    | j + 2 => rfl) a x wr n hd
  rw [ht] at h
  rcases h with h | h | h | ⟨h, hs⟩
  · exact .inl h
  · exact .inr (.inl h)
  · exact .inr (.inr (.inl h))
  · exact .inr (.inr (.inr ⟨h, (armed (c := made tag m N L ex) h rfl A k hk).2 hs⟩))

/-- What the law holds: the play, the cartridge, the access, nothing old turned. -/
structure Bh (W : World) (X Y d : Nat) (p : Pl) (z : Acc) (c : Ct) (w : World) : Prop where
  m : Bm W X d p c w
  y : w.heap[Y]? = some (.cells #[.int .u16 (z.a : Int), .int .u8 (z.x : Int), .bool z.w] 51 (0, 0))
section
variable {W w w' : World} {X Y d : Nat} {p : Pl} {z : Acc} {c : Ct}
theorem Bh.below (h : Bh W X Y d p z c w) (hb : Below w.heap.size w w') : Bh W X Y d p z c w' := ⟨h.m.below hb, (hb.block Y (Array.getElem?_eq_some_iff.1 h.y).1).trans h.y⟩
theorem Bh.draws (h : Bh W X Y d p z c w) (q : Nat) : Bh W X Y d p z c (w.drewN q) := ⟨h.m.draws q, h.y⟩
theorem Bh.turn {c' : Ct} (h : Bh W X Y d p z c w) (ht : Turn d w w') (hc : CAt w' d c') (hX : X ≠ d) (hY : Y ≠ d) (hW : W.heap.size ≤ d) : Bh W X Y d p z c' w' :=
  ⟨h.m.turn ht hc hX hW, (ht.block Y (Array.getElem?_eq_some_iff.1 h.y).1 hY).trans h.y⟩
theorem Bh.y0 (h : Bh W X Y d p z c w) : w.cell? ⟨Y, 0, none⟩ = some (.int .u16 (z.a : Int)) := by rw [Joins.cell_of_block h.y 0]; rfl
theorem Bh.y1 (h : Bh W X Y d p z c w) : w.cell? ⟨Y, 1, none⟩ = some (.int .u8 (z.x : Int)) := by rw [Joins.cell_of_block h.y 1]; rfl
theorem Bh.y2 (h : Bh W X Y d p z c w) : w.cell? ⟨Y, 2, none⟩ = some (.bool z.w) := by rw [Joins.cell_of_block h.y 2]; rfl
theorem Bh.tag (h : Bh W X Y d p z c w) : w.cell? ⟨X, 0, none⟩ = some (.string p.tag) := h.m.p.cell 0
theorem show_h {N g : Nat} {xs : List Int} (h : Bh W X Y d p z c w) (hR : Row w g xs) (hn : c.win = (N : Int)) (h4 : N ≤ 4) : Calls Tryd.prog 27 #[.pointer (some ⟨d, 0, none⟩)] w fun e w' => ∃ g2, e = .returned (.slice (some ⟨g2, 0, none⟩) N N) ∧ Row w' g2 (shown c N) ∧ Row w' g xs ∧ Bh W X Y d p z c w' :=
  (Show d N c _ h.m.c hn h4).mono fun _ _ ⟨g2, he, _, hR', hB⟩ => ⟨g2, he, hR', hR.below hB, h.below hB⟩
theorem same_h {N g g2 : Nat} {xs : List Int} (h : Bh W X Y d p z c w) (hR : Row w g xs) (hR2 : Row w g2 xs) (hl : xs.length = N) (h4 : N ≤ 4) : Calls Tryd.prog 12 #[.slice (some ⟨g, 0, none⟩) N N, .slice (some ⟨g2, 0, none⟩) N N] w fun e w' => e = .returned (.bool true) ∧ Bh W X Y d p z c w' :=
  (Same xs N N _ _ N N g g2 0 0 w (hR.seen (Nat.le_of_eq hl) (by omega)) (hR2.seen (Nat.le_of_eq hl) (by omega)) hl.symm hl.symm).mono fun _ _ ⟨he, q, hq⟩ => ⟨he, by rw [hq]; exact h.draws q⟩
theorem diff_h {N g g2 : Nat} {xs ys : List Int} (h : Bh W X Y d p z c w) (hR : Row w g xs) (hR2 : Row w g2 ys) (hl : xs.length = N) (hl2 : ys.length = N) (h4 : N ≤ 4) (hd : ys ≠ xs) : Calls Tryd.prog 12 #[.slice (some ⟨g, 0, none⟩) N N, .slice (some ⟨g2, 0, none⟩) N N] w fun e w' => e = .returned (.bool false) ∧ Bh W X Y d p z c w' :=
  (Same_no xs ys N _ _ N N g g2 0 0 w (hR.seen (Nat.le_of_eq hl) (by omega)) (hR2.seen (Nat.le_of_eq hl2) (by omega)) hl.symm hl2.symm (fun e => hd e.symm)).mono fun _ _ ⟨he, q, hq⟩ => ⟨he, by rw [hq]; exact h.draws q⟩
theorem awake_h (h : Bh W X Y d p z c w) (ht : Tab W) : Calls Tryd.prog 20 #[] w fun e w' => e = .returned (.bool true) ∧ Bh W X Y d p z c w' :=
  (awake5 _ (ht.below h.m.old ht.lt)).mono fun _ _ ⟨he, hB⟩ => ⟨he, h.below hB⟩
end

set_option maxRecDepth 100000 in
set_option maxHeartbeats 2000000 in
theorem holds_big (p : Pl) (z : Acc) (W : World) (h : 200 < p.n ∨ 32768 < p.len) (hc : p.n ≤ p.cap) (hm : p.cap ≤ 9223372036854775807) :
    Calls Tryd.prog 7 #[.agg p.cells.toArray, .agg #[.int .u16 (z.a : Int), .int .u8 (z.x : Int), .bool z.w]] W fun e w' => e = .returned (.bool true) ∧ Below W.heap.size W w' := by
  have hX0 : PAt ((W.alloc (.cells p.cells.toArray 38)).alloc (.cells #[.int .u16 (z.a : Int), .int .u8 (z.x : Int), .bool z.w] 51)) W.heap.size p := PAt.below (heap_alloc_new W (.cells p.cells.toArray 38)) ((Below.refl (W.heap.size + 1) _).alloc (by simp) _) (by omega)
  have hrg : Hid (((W.alloc (.cells p.cells.toArray 38)).alloc (.cells #[.int .u16 (z.a : Int), .int .u8 (z.x : Int), .bool z.w] 51)).rangeAt W.heap.size 0 p.cells) := hX0.range
  clear hX0
  go_enter Tryd.func7, Tryd.ntmps7
  go_wp2_with (first | (refine wpList_load_mid rfl 38 _ rfl W.heap.size 0 rfl p.cells _ hrg.out Tryd.underlying38 rfl (by rw [infoPlay, Pl.length]) ?_) | (go_at_call 16; refine (small_no p _ h hc hm).mono ?_; rintro e w2 ⟨rfl, hB2⟩))
  go_returns
  exact ⟨rfl, (((Below.refl _ W).alloc (Nat.le_refl _) _).alloc (by simp) _).trans (hB2.mono (by simp; omega))⟩

set_option maxRecDepth 100000 in
set_option maxHeartbeats 4000000 in
theorem holds_good (p : Pl) (z : Acc) (A : List Acc) (b off : Nat) (W : World) (ht : Tab W) (h1 : p.n ≤ 200) (h2 : p.len ≤ 32768) (hsd : p.seed < 256) (hA : ∀ x ∈ A, x.ok) (hS : SeenX W p.ao p.cap b off 3 (A.map Acc.row)) (hn : p.n = A.length) (hza : z.a < 65536) (hzx : z.x < 256) :
    Calls Tryd.prog 7 #[.agg p.cells.toArray, .agg #[.int .u16 (z.a : Int), .int .u8 (z.x : Int), .bool z.w]] W fun e w' => e = .returned (.bool true) ∧ Below W.heap.size W w' := by
  have h0 := ht.lt
  have HT : Hid (Tab W) := ht
  have hcap := hS.max
  have hle := hS.le
  rw [List.length_map, ← hn] at hle
  have HS : Hid (SeenX W p.ao p.cap b off 3 (A.map Acc.row)) := hS
  have HA : Hid (∀ x ∈ A, x.ok) := hA
  have HN : Hid (p.n = A.length) := hn
  have hsd64 : IntKind.i64.wrap (p.seed : Int) = p.seed := by rw [IntKind.wrap_i64]; omega
  have HX0 : Hid (PAt ((W.alloc (.cells p.cells.toArray 38)).alloc (.cells #[.int .u16 (z.a : Int), .int .u8 (z.x : Int), .bool z.w] 51)) W.heap.size p) := PAt.below (heap_alloc_new W (.cells p.cells.toArray 38)) ((Below.refl (W.heap.size + 1) _).alloc (by simp) _) (by omega)
  clear ht hS hA hn
  go_enter Tryd.func7, Tryd.ntmps7
  go_wp2_with (first | (refine wpList_load_mid rfl 38 _ rfl W.heap.size 0 rfl p.cells _ HX0.out.range Tryd.underlying38 rfl (by rw [infoPlay, Pl.length]) ?_) | (go_at_call 16; fail))
  generalize hw1 : World.alloc (World.alloc _ _) _ = w1
  have HP1 : Hid (PAt w1 W.heap.size p) := (by rw [← hw1]; exact HX0.out : PAt w1 W.heap.size p)
  have HY1 : Hid (w1.heap[W.heap.size + 1]? = some (.cells #[.int .u16 (z.a : Int), .int .u8 (z.x : Int), .bool z.w] 51 (0, 0))) := (by
    rw [← hw1]
    have := heap_alloc_new (W.alloc (.cells p.cells.toArray 38)) (.cells #[.int .u16 (z.a : Int), .int .u8 (z.x : Int), .bool z.w] 51)
    simpa using this : w1.heap[W.heap.size + 1]? = _)
  have HB1 : Hid (Below W.heap.size W w1) := (by rw [← hw1]; exact ((Below.refl _ W).alloc (Nat.le_refl _) _).alloc (by simp) _ : Below W.heap.size W w1)
  clear hw1 HX0
  obtain ⟨X, hX⟩ : ∃ X, X = W.heap.size := ⟨_, rfl⟩
  obtain ⟨Y, hY⟩ : ∃ Y, Y = W.heap.size + 1 := ⟨_, rfl⟩
  rw [← hY] at HY1 ⊢
  rw [← hX] at HP1 ⊢
  have hX1 : W.heap.size ≤ X := by omega
  have hY1 : W.heap.size ≤ Y := by omega
  clear hX hY
  refine (small_yes p _ h1 h2 hle hcap).mono ?_
  rintro e w2 ⟨rfl, hB2⟩
  have HP2 : Hid (PAt w2 X p) := HP1.out.below hB2 HP1.out.lt
  have HY2 : Hid (w2.heap[Y]? = some (.cells #[.int .u16 (z.a : Int), .int .u8 (z.x : Int), .bool z.w] 51 (0, 0))) := (hB2.block Y (Array.getElem?_eq_some_iff.1 HY1.out).1).trans HY1.out
  have HB2 : Hid (Below W.heap.size W w2) := HB1.out.trans (hB2.mono HB1.out.size)
  have hX2 : X < w2.heap.size := HP2.out.lt
  have hY2 : Y < w2.heap.size := (Array.getElem?_eq_some_iff.1 HY2.out).1
  clear hB2 HP1 HB1 HY1
  have x0 : w2.cell? ⟨X, 0, none⟩ = some (.string p.tag) := HP2.out.cell 0
  have x1 : w2.cell? ⟨X, 1, none⟩ = some (.int .i64 p.len) := HP2.out.cell 1
  have x2 : w2.cell? ⟨X, 2, none⟩ = some (.int .u8 (p.seed : Int)) := HP2.out.cell 2
  have xr : w2.rangeAt X 3 (bytes p.r.l) := HP2.out.ram
  have hu := Tryd.underlying35
  have hlen : (bytes p.r.l).length = 128 := by rw [bytes_length, p.r.h]
  have hinf : (Tryd.prog.info? 35).map (·.size) = some (bytes p.r.l).length := by rw [info128, hlen]
  have hone := one_bytes p.r.l
  go_wp2
  go_region_held3 (fun w' => w'.cell? ⟨X, 0, none⟩ = some (.string p.tag) ∧ w'.cell? ⟨X, 1, none⟩ = some (.int .i64 p.len) ∧ w'.cell? ⟨X, 2, none⟩ = some (.int .u8 (p.seed : Int)) ∧ w'.rangeAt X 3 (bytes p.r.l)) (first | exact ⟨by assumption, by assumption, by assumption, by assumption⟩ | go_keep_ranges) (first
    | (go_at_call 17; refine (Image p.len p.seed _ h2 hsd).mono ?_; rintro e w3 ⟨L, lo, lc, lb, rfl, hL, hby, hL3', hlb, hB3'⟩; have hB3 : Below w2.heap.size w2 w3 := (by first | exact hB3' | exact (below_drewN (Below.refl _ w2) _).trans hB3'); have HP3 : Hid (PAt w3 X p) := HP2.out.below hB3 hX2; have HY3 : Hid (w3.heap[Y]? = some (.cells #[.int .u16 (z.a : Int), .int .u8 (z.x : Int), .bool z.w] 51 (0, 0))) := (hB3.block Y hY2).trans HY2.out; have HB3 : Hid (Below W.heap.size W w3) := HB2.out.trans (hB3.mono HB2.out.size); have HL3 : Hid (SeenB w3 lo lc lb 0 L) := hL3'; have t0 : w3.cell? ⟨X, 0, none⟩ = some (.string p.tag) := HP3.out.cell 0; have t1 : w3.cell? ⟨X, 1, none⟩ = some (.int .i64 p.len) := HP3.out.cell 1; have t2 : w3.cell? ⟨X, 2, none⟩ = some (.int .u8 (p.seed : Int)) := HP3.out.cell 2; have tr : w3.rangeAt X 3 (bytes p.r.l) := HP3.out.ram; clear hB3' hB3 hL3' hL hby hlb)
    | (go_at_call 18; refine (New_any p.tag L p.r lo lc lb 0 _ (HT.out.below (by first | exact HB3.out | exact below_drewN HB3.out _) h0) (by first | exact HL3.out | exact HL3.out.draws _)).mono ?_; rintro e w4 ⟨v4, code, rfl, hN4, hB4'⟩; have hB4 : Below w3.heap.size w3 w4 := (by first | exact hB4' | exact (below_drewN (Below.refl _ w3) _).trans hB4'); have HN4 : Hid (NewP w3.heap.size p.tag L p.r v4 code w4) := hN4; have HP4 : Hid (PAt w4 X p) := HP3.out.below hB4 HP3.out.lt; have HY4 : Hid (w4.heap[Y]? = some (.cells #[.int .u16 (z.a : Int), .int .u8 (z.x : Int), .bool z.w] 51 (0, 0))) := (hB4.block Y (Array.getElem?_eq_some_iff.1 HY3.out).1).trans HY3.out; have HB4 : Hid (Below W.heap.size W w4) := HB3.out.trans (hB4.mono HB3.out.size); have q0 : w4.cell? ⟨X, 0, none⟩ = some (.string p.tag) := HP4.out.cell 0; have q1 : w4.cell? ⟨X, 1, none⟩ = some (.int .i64 p.len) := HP4.out.cell 1; have q2 : w4.cell? ⟨X, 2, none⟩ = some (.int .u8 (p.seed : Int)) := HP4.out.cell 2; have qr : w4.rangeAt X 3 (bytes p.r.l) := HP4.out.ram; clear hB4' hB4 hN4))
  have hX3 : X < w3.heap.size := HP3.out.lt
  have hY3 : Y < w3.heap.size := (Array.getElem?_eq_some_iff.1 HY3.out).1
  clear x0 x1 x2 xr t0 t1 t2 tr q0 q1 q2 qr hu hlen hinf hone HP2 HB2 HL3 HP3 HY3 HY2
  rcases HN4.out with ⟨m, N, d, hf, hft, hs, rfl, rfl, hd, hC4⟩ | ⟨rfl, hc⟩
  · have HG : Hid (Good (made p.tag m N L p.r.l)) := made_good p.r hf hft hs
    have hN4' : N ≤ 4 := hs.le4
    have hXd : X ≠ d := by omega
    have hYd : Y ≠ d := by omega
    have hWd : W.heap.size ≤ d := Nat.le_trans HB3.out.size hd
    have HK : Hid (Bh W X Y d p z (goes (made p.tag m N L p.r.l) A 0) w4) := ⟨⟨HP4.out, hC4, HB4.out⟩, HY4.out⟩
    clear hf hft hs hC4 hd HN4 HB3 HP4 HB4 HY4
    go_wp2
    go_loopw [7, 8] (fun l v wr => ∃ k : Nat, k ≤ p.n ∧ v = .int .i64 (k : Int) ∧ l = .int .u16 ((lastA A k : Nat) : Int) ∧ Bh W X Y d p z (goes (made p.tag m N L p.r.l) A k) wr) (fun _ v _ => p.n - (intOf v).toNat)
    case atStart => exact ⟨0, by omega, rfl, rfl, HK.out⟩
    case round =>
      obtain ⟨k, hk, rfl, rfl, hK⟩ := hrel
      have HR : Hid (Bh W X Y d p z (goes (made p.tag m N L p.r.l) A k) wr) := hK
      have x131 := hK.m.p.slice
      have HGk : Hid (Good (goes (made p.tag m N L p.r.l) A k) ∧ Kin (made p.tag m N L p.r.l) (goes (made p.tag m N L p.r.l) A k)) := goes_good HG.out A k
      clear hK HK
      by_cases hkn : k < p.n
      · obtain ⟨x, hx⟩ : ∃ x, A[k]? = some x := ⟨_, List.getElem?_eq_getElem (by rw [← HN.out]; exact hkn)⟩
        obtain ⟨hxa, hxx⟩ := HA.out x (List.mem_of_getElem? hx)
        have hrow : (A.map Acc.row)[k]? = some x.row := by rw [List.getElem?_map, hx]; rfl
        have hne : A.map Acc.row ≠ [] := fun e => by rw [e] at hrow; cases hrow
        have hSr := HS.out.below HR.out.m.old (Nat.le_refl _)
        have hao := hSr.at_ hne
        have hb0 : b < W.heap.size := HS.out.lt hne
        have hbd : b ≠ d := by omega
        have hbw : b < wr.heap.size := Nat.lt_of_lt_of_le hb0 HR.out.m.old.size
        have hXw : X < wr.heap.size := HR.out.m.p.lt
        rw [hao] at x131
        have c0 : wr.cell? ⟨b, off + k * 3, none⟩ = some (.int .u16 (x.a : Int)) := hSr.cell k _ hrow 0 _ rfl
        have c1 : wr.cell? ⟨b, off + k * 3 + 1, none⟩ = some (.int .u8 (x.x : Int)) := hSr.cell k _ hrow 1 _ rfl
        have c2 : wr.cell? ⟨b, off + k * 3 + 2, none⟩ = some (.bool x.w) := hSr.cell k _ hrow 2 _ rfl
        have HST : Hid (goes (made p.tag m N L p.r.l) A (k + 1) = watch (goes (made p.tag m N L p.r.l) A k) x.a x.x x.w) := goes_succ hx
        have HLA : Hid (lastA A (k + 1) = x.a) := (by show (match A[k]? with | some x => x.a | none => lastA A k) = _; rw [hx] : lastA A (k + 1) = x.a)
        have k0 : (0 : Int) ≤ (k : Int) := by omega
        have k1 : (k : Int) < (p.n : Int) := by omega
        clear hSr hrow hne hx hao
        go_wp2
        go_region_held3 (fun w' => w'.cell? ⟨X, 131, none⟩ = some (.slice (some ⟨b, off, none⟩) p.n p.cap) ∧ w'.cell? ⟨b, off + k * 3, none⟩ = some (.int .u16 (x.a : Int)) ∧ w'.cell? ⟨b, off + k * 3 + 1, none⟩ = some (.int .u8 (x.x : Int)) ∧ w'.cell? ⟨b, off + k * 3 + 2, none⟩ = some (.bool x.w)) (first | exact ⟨by assumption, by assumption, by assumption, by assumption⟩ | go_keep) (first
          | (go_at_call 25; refine (Watch d x.a x.x x.w _ _ (by first | exact HR.out.m.c | exact HR.out.m.c.draws _) HGk.out.1.plain HGk.out.1.b1 (by have := HGk.out.1.b2; omega) hxa hxx).mono ?_; rintro e w7 ⟨rfl, hC7, hT7'⟩; have hT7 : Turn d wr w7 := (by first | exact hT7' | exact hT7'.draws); have t0 := (hT7.cell (o := 131) hXw hXd).trans x131; have t1 := (hT7.cell (o := off + k * 3) hbw hbd).trans c0; have t2 := (hT7.cell (o := off + k * 3 + 1) hbw hbd).trans c1; have t3 := (hT7.cell (o := off + k * 3 + 2) hbw hbd).trans c2; clear hT7'))
        all_goals go_wp2
        all_goals go_roundw
        case rel => exact ⟨k + 1, by omega, by go_num, by rw [HLA.out], by rw [HST.out]; exact HR.out.turn hT7 hC7 hXd hYd hWd⟩
        case measure => simp [intOf]; omega
      · have hkl : (p.n : Int) ≤ (k : Int) := by omega
        have hkn' : k = A.length := by have := HN.out; omega
        obtain ⟨c, hcd⟩ : ∃ c, c = goes (made p.tag m N L p.r.l) A k := ⟨_, rfl⟩
        obtain ⟨la, hlad⟩ : ∃ la, la = lastA A k := ⟨_, rfl⟩
        have hla : la < 65536 := by rw [hlad]; exact lastA_lt HA.out k
        have HTU : Hid (shown (watch c z.a z.x z.w) N ≠ shown c N → Spot p.tag.toList (z.a % 8192) z.w (la % 8192)) := (by rw [hcd, hlad]; exact fun hd => turned (by omega) HGk.out.2 _ _ _ _ hd : shown (watch c z.a z.x z.w) N ≠ shown c N → Spot p.tag.toList (z.a % 8192) z.w (la % 8192))
        rw [← hcd] at HR HGk
        rw [← hlad]
        have hwin : c.win = (N : Int) := HGk.out.2.win
        have HGc : Hid (Good c) := HGk.out.1
        have hwin' : (watch c z.a z.x z.w).win = (N : Int) := ((watch_good HGk.out.1 z.a z.x z.w).2.win).trans hwin
        clear hcd hlad hkn HGk HA HG
        go_wp2_with (go_at_call 27; fail)
        refine (Show d N c _ HR.out.m.c hwin hN4').mono ?_
        rintro e w5 ⟨g, rfl, hg, hR5, hB5⟩
        have H5 : Hid (Bh W X Y d p z c w5) := HR.out.below hB5
        have HR5 : Hid (Row w5 g (shown c N)) := hR5
        have hgd : g ≠ d := by have := HR.out.m.c.lt; omega
        have hg5 := hR5.lt
        have y0 := H5.out.y0
        have y1 := H5.out.y1
        have y2 := H5.out.y2
        have hY5 : Y < w5.heap.size := (Array.getElem?_eq_some_iff.1 H5.out.y).1
        clear hB5 hR5 HR hg x131
        go_wp2_with (go_at_call 25; fail)
        refine (Watch d z.a z.x z.w _ _ H5.out.m.c HGc.out.plain HGc.out.b1 (by have := HGc.out.b2; omega) hza hzx).mono ?_
        rintro e w6 ⟨rfl, hC6, hT6⟩
        have H6 : Hid (Bh W X Y d p z (watch c z.a z.x z.w) w6) := H5.out.turn hT6 hC6 hXd hYd hWd
        have HR6 : Hid (Row w6 g (shown c N)) := (hT6.block g hg5 hgd).trans HR5.out
        clear y0 y1 y2 hT6 hC6 H5 HR5 HGc hwin hg5 hgd hY5
        obtain ⟨c', hc'⟩ : ∃ c', c' = watch c z.a z.x z.w := ⟨_, rfl⟩
        rw [← hc'] at H6 HTU hwin'
        clear hc'
        have y0 := H6.out.y0
        have y2 := H6.out.y2
        have x0 := H6.out.tag
        have hl1 : (shown c N).length = N := shown_length c hN4'
        have hl2 : (shown c' N).length = N := shown_length c' hN4'
        by_cases hs : shown c' N = shown c N
        · have HS' : Hid (shown c' N = shown c N) := hs
          clear HTU hs
          go_wp2_with (first
            | (go_at_call 27; refine (show_h (by first | exact H6.out | exact H6.out.draws _) (by exact HR6.out) hwin' hN4').mono ?_; rintro e w7 ⟨g2, rfl, hR7, hR7', hK7⟩; have H7 : Hid (Bh W X Y d p z c' w7) := hK7; have HR7 : Hid (Row w7 g2 (shown c N)) := (by rw [← HS'.out]; exact hR7 : Row w7 g2 (shown c N)); have HR7' : Hid (Row w7 g (shown c N)) := hR7'; have r7 := hK7.y0; clear hK7 hR7 hR7')
            | (go_at_call 12; refine (same_h (by first | exact H7.out | exact H7.out.draws _) (by exact HR7'.out) (by exact HR7.out) hl1 hN4').mono ?_; rintro e w8 ⟨rfl, hK8⟩; have H8 : Hid (Bh W X Y d p z c' w8) := hK8; have r8 := hK8.y0; clear hK8))
          go_wp2_with (go_at_call 20; refine (awake_h H8.out HT.out).mono ?_; rintro e w9 ⟨rfl, hK9⟩)
          go_returns
          exact ⟨rfl, hK9.m.old⟩
        · have HD : Hid (shown c' N ≠ shown c N) := hs
          have HW : Hid (Spot p.tag.toList (z.a % 8192) z.w (la % 8192)) := HTU.out hs
          clear HTU hs
          go_wp2_with (first
            | (go_at_call 27; refine (show_h (by first | exact H6.out | exact H6.out.draws _) (by exact HR6.out) hwin' hN4').mono ?_; rintro e w7 ⟨g2, rfl, hR7, hR7', hK7⟩; have H7 : Hid (Bh W X Y d p z c' w7) := hK7; have HR7 : Hid (Row w7 g2 (shown c' N)) := hR7; have HR7' : Hid (Row w7 g (shown c N)) := hR7'; have r7 := hK7.y0; clear hK7 hR7 hR7')
            | (go_at_call 12; fail))
          refine (diff_h (by first | exact H7.out | exact H7.out.draws _) (by exact HR7'.out) (by exact HR7.out) hl1 hl2 hN4' HD.out).mono ?_
          rintro e w8 ⟨rfl, hK8⟩
          have H8 : Hid (Bh W X Y d p z c' w8) := hK8
          clear hK8
          have e0 := H8.out.y0
          have e2 := H8.out.y2
          have ex := H8.out.tag
          clear y0 y2 x0 r7
          have hm := mask13 z.a hza
          have hm2 := mask13 la hla
          obtain ⟨zm, hzm⟩ : ∃ zm, zm = z.a % 8192 := ⟨_, rfl⟩
          obtain ⟨lm, hlm⟩ : ∃ lm, lm = la % 8192 := ⟨_, rfl⟩
          rw [← hzm] at hm HW
          rw [← hlm] at hm2 HW
          have hzl : zm < 8192 := by omega
          clear hzm hlm HD H7 HR7 HR7' H6 HR6
          rcases HW.out with ⟨ht, i0, i1⟩ | ⟨ht, i0, i1⟩ | ⟨ht, hw, i1⟩ | ⟨ht, rfl⟩
          · have j0 : (8180 : Int) ≤ (zm : Int) := by omega
            have j1 : (zm : Int) ≤ (8187 : Int) := by omega
            clear HW
            rcases ht with ht | ht | ht | ht | ht | ht
            all_goals
              go_wp2_with (go_at_call 20; refine (awake_h H8.out HT.out).mono ?_; rintro e w9 ⟨rfl, hK9⟩)
              go_returns
              exact ⟨rfl, hK9.m.old⟩
          · have j0 : (8160 : Int) ≤ (zm : Int) := by omega
            have j1 : (zm : Int) ≤ (8183 : Int) := by omega
            clear HW
            go_wp2_with (go_at_call 20; refine (awake_h H8.out HT.out).mono ?_; rintro e w9 ⟨rfl, hK9⟩)
            go_returns
            exact ⟨rfl, hK9.m.old⟩
          · have j1 : (zm : Int) ≤ (63 : Int) := by omega
            rw [hw] at e2
            clear HW hw
            go_wp2_with (go_at_call 20; refine (awake_h H8.out HT.out).mono ?_; rintro e w9 ⟨rfl, hK9⟩)
            go_returns
            exact ⟨rfl, hK9.m.old⟩
          · clear HW
            go_wp2_with (go_at_call 20; refine (awake_h H8.out HT.out).mono ?_; rintro e w9 ⟨rfl, hK9⟩)
            go_returns
            exact ⟨rfl, hK9.m.old⟩
  · clear HN4
    go_wp2_with (go_at_call 20; refine (awake5 _ (HT.out.below HB4.out h0)).mono ?_; rintro e w5 ⟨rfl, hB5⟩)
    go_returns
    exact ⟨rfl, HB4.out.trans (hB5.mono HB4.out.size)⟩

theorem cartHolds_walk (p : Pl) (z : Acc) (A : List Acc) (b off : Nat) (W : World) (ht : Tab W) (hsd : p.seed < 256) (hA : ∀ x ∈ A, x.ok) (hS : SeenX W p.ao p.cap b off 3 (A.map Acc.row)) (hn : p.n = A.length) (hz : z.ok) :
    Calls Tryd.prog 7 #[.agg p.cells.toArray, .agg #[.int .u16 (z.a : Int), .int .u8 (z.x : Int), .bool z.w]] W fun e w' => e = .returned (.bool true) ∧ Below W.heap.size W w' := by
  have hle := hS.le
  rw [List.length_map, ← hn] at hle
  by_cases h : p.n ≤ 200 ∧ p.len ≤ 32768
  · exact holds_good p z A b off W ht h.1 h.2 hsd hA hS hn hz.1 hz.2
  · exact holds_big p z W (by omega) hle hS.max

end Go.Proofs.YtcohalkofahphaaDoor.Ca
