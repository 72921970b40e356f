/- MicroJams, walked: whatever comes in, true comes out. -/
import Derived.Test.YtelmohajdmcnmaaDoorMiFY
import Derived.Test.YtelmohajdmcnmaaDoorOpenM
import Derived.Test.YtelmohajdmcnmaaDoorMiH
import Derived.Deep.RegionHeld3
namespace Go.Proofs.YtelmohajdmcnmaaDoor.Mi
open Go.RowKit Alu Ex
set_option linter.unusedVariables false

theorem clean_ok (r : Rg) (h : r.ok) : (r.fl (clF r.p)).ok := ⟨h.a, h.x, h.y, h.s, clF_lt _ h.p, h.pc⟩
theorem of_ok (q : Rg) (h : q.ok) : (Cp.of q).ft.ok := ⟨h, (by show (7 : Nat) ≤ 33; omega), h.pc, (by show (0 : Nat) < 256; omega), (by show (0 : Nat) < 256; omega), (by show (0 : Nat) ≤ 12; omega), (by show (0 : Int) ≤ 0; omega), (by show (0 : Int) ≤ 12; omega), (by show (0 : Nat) < 256; omega), (by show (0 : Nat) < 256; omega), zok⟩
theorem nx_ok (q : Rg) (h : q.ok) : q.nx.ok := ⟨h.a, h.x, h.y, h.s, h.p, Nat.mod_lt _ (by decide)⟩
/-- The processor behind its first cycle. -/
def jc (q : Rg) (o : Nat) : Cp := ((Cp.of q).ft.sr q.nx).sd o
theorem b1_jam {c : Cp} (h : c.kd = 12) : c.b1 = c.jm := by unfold Cp.b1; rw [if_pos h]
theorem b1_else {c : Cp} (h : ¬ c.kd = 12) : (c.b1.st == 12) = false := by
  unfold Cp.b1
  rw [if_neg h]
  by_cases hl : Co.lenF c.md = 1 ∧ c.kd ≠ 11
  · rw [if_pos hl]; rfl
  · rw [if_neg hl]; rfl
theorem jc_kd (q : Rg) (o : Nat) : (jc q o).kd = Co.kindN o := by simp only [jc, Cp.sd]
theorem jc_clk (q : Rg) (o : Nat) : (Cp.of q).ft.clk o = (jc q o).b1 := by simp only [jc, Cp.clk, Cp.ft, Cp.rd, Cp.bg, Cp.of, Cp.sr]
theorem jam_clk (q : Rg) (o : Nat) (hk : Co.kindN o = 12) : (Cp.of q).ft.clk o = (jc q o).jm := by rw [jc_clk, b1_jam (by rw [jc_kd]; exact hk)]
theorem else_clk (q : Rg) (o : Nat) (hk : ¬ Co.kindN o = 12) : (((Cp.of q).ft.clk o).st == 12) = false := by rw [jc_clk]; exact b1_else (by rw [jc_kd]; exact hk)
theorem jm_pins (c : Cp) : c.jm.pins = #[.int .u16 8191, .bool false, .int .u8 0] := by simp [Cp.pins, Cp.jm, Cp.rd]
theorem sixOf {w : World} {b : Nat} {v0 v1 v2 v3 v4 v5 : Go.Value} (h : Row w b [v0, v1, v2, v3, v4, v5]) : w.cell? ⟨b, 0, none⟩ = some v0 ∧ w.cell? ⟨b, 1, none⟩ = some v1 ∧ w.cell? ⟨b, 2, none⟩ = some v2 ∧ w.cell? ⟨b, 3, none⟩ = some v3 ∧ w.cell? ⟨b, 4, none⟩ = some v4 ∧ w.cell? ⟨b, 5, none⟩ = some v5 := ⟨h.at_ 0 _ rfl, h.at_ 1 _ rfl, h.at_ 2 _ rfl, h.at_ 3 _ rfl, h.at_ 4 _ rfl, h.at_ 5 _ rfl⟩
theorem jm_ok (q : Rg) (o : Nat) (h : q.ok) (ho : o < 256) : (jc q o).jm.ok := (((of_ok q h).sr (nx_ok q h)).sd ho).jm

set_option maxRecDepth 100000 in
set_option maxHeartbeats 4000000 in
theorem microJams_walk (r : Rg) (hr : r.ok) (a1 : Int) (w1 : (Lit.int .u8 a1).wf = true) {ao : Option Addr} {n cap B off : Nat} {L : List Int} (W : World) (ht : Co.Tab W) (hs : Byt W ao B off L) (hn : n = L.length) (hc : n ≤ cap) :
    Calls Tryd.prog 5 #[.agg #[.int .u8 (r.a : Int), .int .u8 (r.x : Int), .int .u8 (r.y : Int), .int .u8 (r.s : Int), .int .u8 (r.p : Int), .int .u16 (r.pc : Int)], .int .u8 a1, .slice ao n cap] W fun e w' => e = .returned (.bool true) ∧ Below W.heap.size W w' := by
  obtain ⟨x0, x1⟩ := bounds_u8 w1
  obtain ⟨o, rfl⟩ := Int.eq_ofNat_of_zero_le x0
  clear w1
  have ho : o < 256 := by omega
  have HT : Hid (Co.Tab W) := ht
  have HS : Hid (Byt W ao B off L) := hs
  have HN : Hid (n = L.length) := hn
  have HR : Hid r.ok := hr
  have HC : Hid (n ≤ cap) := hc
  have hlt := ht.lt
  clear ht hs hn hr hc
  have AT : Hid (∀ w, Calls Tryd.prog 20 #[.agg #[.int .u8 (r.a : Int), .int .u8 (r.x : Int), .int .u8 (r.y : Int), .int .u8 (r.s : Int), .int .u8 (r.p : Int), .int .u16 (r.pc : Int)], .bool false] w fun e w' => ∃ b, e = .returned (.pointer (some ⟨b, 0, none⟩)) ∧ w.heap.size ≤ b ∧ Row w' b (Cp.of (r.fl (clF r.p))).ft.cells ∧ Below w.heap.size w w') := fun w => At r false w HR.out
  have hq := clean_ok r HR.out
  generalize r.fl (clF r.p) = q at AT hq
  have HQ : Hid q.ok := hq
  clear hq
  by_cases h100 : 100 < n
  · have h100' : (100 : Int) < (n : Int) := by omega
    go_enter Tryd.func5, Tryd.ntmps5
    go_wp2
    go_ret
    exact ⟨rfl, (Below.refl _ W).alloc (Nat.le_refl _) _⟩
  have h100' : ¬ (100 : Int) < (n : Int) := by omega
  have OF : Hid (∀ w, Co.Tab w → Calls Tryd.prog 22 #[.int .u8 (o : Int)] w fun e w' => e = .returned (.agg #[.string (Co.nameB o), .int .u8 (Co.modeN o), .int .u8 (Co.kindN o), .bool (Co.knownB o)]) ∧ Below w.heap.size w w') := fun w ht => Co.Of o w ho ht
  have fK : ∀ (a b c d : Go.Value) (w : World), (Instr.field 47 (.agg #[a, b, c, d]) 2).run Tryd.prog w = .ok c w := fun a b c d w => by kernel_rfl
  generalize Co.nameB o = nm at OF
  generalize Co.modeN o = md at OF
  generalize Co.knownB o = kn at OF
  go_enter Tryd.func5, Tryd.ntmps5
  go_wp2_with (go_at_call 20; fail)
  refine (AT.out _).mono ?_
  rintro e w0 ⟨bb, rfl, hb, hR, hB⟩
  have hbW : W.heap.size ≤ bb := Nat.le_trans (by simp) hb
  have HB0 : Hid (Below W.heap.size W w0) := ((Below.refl _ W).alloc (Nat.le_refl _) _).trans (hB.mono (by simp))
  have HR0 : Hid (Row w0 bb (Cp.of q).ft.cells) := hR
  have HT0 : Hid (Co.Tab w0) := HT.out.next HB0.out
  have hb3 : 3 < bb := by omega
  clear hR hB hb AT
  go_wp2_with (go_at_call 21; fail)
  refine (Clock bb o (Cp.of q).ft _ HR0.out (of_ok q HQ.out) ho HT0.out hb3).mono ?_
  rintro e w1 ⟨rfl, hR1, t1⟩
  have HT1 : Hid (Co.Tab w1) := tabTurn4 HT0.out t1 hb3
  have HB1 : Hid (Below W.heap.size W w1) := HB0.out.trans (t1.below hbW HB0.out.size)
  clear t1 HR0 HB0 HT0
  by_cases hk : Co.kindN o = 12
  · rw [jam_clk q o hk] at hR1
    rw [hk] at OF
    have hok : Hid ((jc q o).jm.ok) := jm_ok q o HQ.out ho
    have RGS : Hid (∀ w, Row w bb (jc q o).jm.cells → Calls Tryd.prog 19 #[.pointer (some ⟨bb, 0, none⟩)] w fun e w' => e = .returned (.agg #[.int .u8 (q.a : Int), .int .u8 (q.x : Int), .int .u8 (q.y : Int), .int .u8 (q.s : Int), .int .u8 (q.p : Int), .int .u16 (((q.pc + 1) % 65536 : Nat) : Int)]) ∧ Below w.heap.size w w') := fun w h => Regs bb (jc q o).jm w h
    have PJ : Hid (∀ w, Row w bb (jc q o).jm.cells → Calls Tryd.prog 18 #[.pointer (some ⟨bb, 0, none⟩)] w fun e w' => e = .returned (.agg #[.int .u16 8191, .bool false, .int .u8 0]) ∧ Below w.heap.size w w') := fun w h => by have := Pins bb (jc q o).jm w h hok.out.ad; rwa [jm_pins] at this
    have CJ : Hid (∀ (w : World) (v : Nat), v < 256 → Row w bb (jc q o).jm.cells → Co.Tab w → Calls Tryd.prog 21 #[.pointer (some ⟨bb, 0, none⟩), .int .u8 (v : Int)] w fun e w' => e = .returned (.tuple #[]) ∧ Row w' bb (jc q o).jm.cells ∧ Turn bb w w') := fun w v hv h ht => Clock bb v (jc q o).jm w h hok.out hv ht hb3
    have JJ : Hid (∀ w, Row w bb (jc q o).jm.cells → Calls Tryd.prog 23 #[.pointer (some ⟨bb, 0, none⟩)] w fun e w' => e = .returned (.bool true) ∧ w' = w) := fun w h => Jammed bb (jc q o).jm w h
    have FJ : Hid (∀ w, Row w bb (jc q o).jm.cells → Calls Tryd.prog 13 #[.pointer (some ⟨bb, 0, none⟩)] w fun e w' => e = .returned (.bool false) ∧ w' = w) := fun w h => Fresh bb (jc q o).jm w h
    have hpos : Hid (0 < (jc q o).jm.cells.length) := Cp.pos _
    have hap : q.a < 256 := HQ.out.a
    generalize (jc q o).jm.cells = CC at hR1 RGS PJ CJ JJ FJ hpos
    generalize (q.pc + 1) % 65536 = P at RGS
    have HR1 : Hid (Row w1 bb CC) := hR1
    clear hR1
    go_wp2_with (go_at_call 19; fail)
    refine (RGS.out _ HR1.out).mono ?_
    rintro e p1 ⟨rfl, hP⟩
    have hz1 : W.heap.size ≤ p1.heap.size := Nat.le_trans HB1.out.size hP.size
    have hbl : bb < p1.heap.size := Nat.lt_of_lt_of_le (HR1.out.lt hpos.out) hP.size
    have HX : Hid (∀ X : Obj, Row (p1.alloc X) bb CC) := fun X => (HR1.out.below hpos.out hP).alloc hpos.out X
    have HXT : Hid (∀ X : Obj, Co.Tab (p1.alloc X)) := fun X => (HT1.out.next hP).next ((Below.refl _ _).alloc (Nat.le_refl _) X)
    have HXB : Hid (∀ X : Obj, Below W.heap.size W (p1.alloc X)) := fun X => (HB1.out.trans (hP.mono HB1.out.size)).alloc hz1 X
    clear hP HR1 HT1 HB1
    go_wp2_with (go_at_call 22; fail)
    refine (OF.out _ (HXT.out _)).mono ?_
    rintro e w2 ⟨rfl, hB2⟩
    have HR2 : Hid (Row w2 bb CC) := (HX.out _).below hpos.out hB2
    have HT2 : Hid (Co.Tab w2) := (HXT.out _).next hB2
    have HB2 : Hid (Below W.heap.size W w2) := (HXB.out _).trans (hB2.mono (HXB.out _).size)
    have HG2 : Hid (Row w2 p1.heap.size [.int .u8 (q.a : Int), .int .u8 (q.x : Int), .int .u8 (q.y : Int), .int .u8 (q.s : Int), .int .u8 (q.p : Int), .int .u16 (P : Int)]) := (Row.new p1 _ _).below (by simp) hB2
    have hne : ¬ p1.heap.size = bb := by omega
    clear hB2 HX HXT HXB hbl
    generalize p1.heap.size = g at HG2 hne hz1 ⊢
    go_wp2
    go_loopw [9] (fun v wr => ∃ k : Nat, k ≤ n ∧ v = .int .i64 (k : Int) ∧ Row wr bb CC ∧ Co.Tab wr ∧ Below W.heap.size W wr ∧ Row wr g [.int .u8 (q.a : Int), .int .u8 (q.x : Int), .int .u8 (q.y : Int), .int .u8 (q.s : Int), .int .u8 (q.p : Int), .int .u16 (P : Int)]) (fun v _ => n - (intOf v).toNat)
    case atStart => exact ⟨0, Nat.zero_le _, rfl, HR2.out, HT2.out, HB2.out, HG2.out⟩
    case round =>
      obtain ⟨k, hkn, rfl, hr1, hr2, hr3, hr4⟩ := hrel
      have HRr : Hid (Row wr bb CC) := hr1
      have HTr : Hid (Co.Tab wr) := hr2
      have HBr : Hid (Below W.heap.size W wr) := hr3
      have HGr : Hid (Row wr g [.int .u8 (q.a : Int), .int .u8 (q.x : Int), .int .u8 (q.y : Int), .int .u8 (q.s : Int), .int .u8 (q.p : Int), .int .u16 (P : Int)]) := hr4
      clear hr1 hr2 hr3 hr4 HR2 HT2 HB2 HG2
      by_cases hlt2 : k < n
      · obtain ⟨x, hx⟩ : ∃ x, L[k]? = some x := ⟨_, List.getElem?_eq_getElem (by rw [← HN.out]; exact hlt2)⟩
        have hne0 : L ≠ [] := fun e => by rw [e] at hx; simp at hx
        obtain ⟨x0, x1⟩ := HS.out.wf x (List.mem_of_getElem? hx)
        obtain ⟨v, rfl⟩ := Int.eq_ofNat_of_zero_le x0
        have HBy : Hid (ao = some ⟨B, off, none⟩) := HS.out.at_ hne0
        have hBl : Hid (B < W.heap.size) := HS.out.lt hne0
        have HCE : Hid (W.cell? ⟨B, off + k, none⟩ = some (.int .u8 (v : Int))) := HS.out.cell k _ hx
        have hao := HBy.out
        clear hx hne0
        subst hao
        have hln : (k : Int) < (n : Int) := by omega
        go_wp2_with (go_at_call 18; fail)
        refine (PJ.out _ HRr.out).mono ?_
        rintro e w3 ⟨rfl, hB3⟩
        have HR3 : Hid (Row w3 bb CC) := HRr.out.below hpos.out hB3
        have HT3 : Hid (Co.Tab w3) := HTr.out.next hB3
        have HB3 : Hid (Below W.heap.size W w3) := HBr.out.trans (hB3.mono HBr.out.size)
        have HG3 : Hid (Row w3 g [.int .u8 (q.a : Int), .int .u8 (q.x : Int), .int .u8 (q.y : Int), .int .u8 (q.s : Int), .int .u8 (q.p : Int), .int .u16 (P : Int)]) := HGr.out.below (by simp) hB3
        have hcell : w3.cell? ⟨B, off + k, none⟩ = some (.int .u8 (v : Int)) := (HB3.out.cell (p := ⟨B, off + k, none⟩) hBl.out).trans HCE.out
        clear hB3 HRr HTr HBr HGr
        go_wp2_with (go_at_call 21; fail)
        refine (CJ.out _ v (by omega) HR3.out HT3.out).mono ?_
        rintro e w4 ⟨rfl, hR4, t4⟩
        have HR4 : Hid (Row w4 bb CC) := hR4
        have HT4 : Hid (Co.Tab w4) := tabTurn4 HT3.out t4 hb3
        have HB4 : Hid (Below W.heap.size W w4) := HB3.out.trans (t4.below hbW HB3.out.size)
        have HG4 : Hid (Row w4 g [.int .u8 (q.a : Int), .int .u8 (q.x : Int), .int .u8 (q.y : Int), .int .u8 (q.s : Int), .int .u8 (q.p : Int), .int .u16 (P : Int)]) := HG3.out.turn (by simp) t4 hne
        clear hR4 t4 hcell HR3 HT3 HB3 HG3
        go_wp2
        go_roundw
        case rel => exact ⟨k + 1, by omega, by go_num, HR4.out, HT4.out, HB4.out, HG4.out⟩
        case measure => simp [intOf]; omega
      · have hkn2 : k = n := by omega
        subst hkn2
        have hln : ¬ (k : Int) < (k : Int) := by omega
        have x0 := HGr.out.at_ 0 _ rfl
        have x1 := HGr.out.at_ 1 _ rfl
        have x2 := HGr.out.at_ 2 _ rfl
        have x3 := HGr.out.at_ 3 _ rfl
        have x4 := HGr.out.at_ 4 _ rfl
        have x5 := HGr.out.at_ 5 _ rfl
        go_wp2
        go_region_held3 (fun w' => w'.cell? ⟨g, 0, none⟩ = some (.int .u8 (q.a : Int)) ∧ w'.cell? ⟨g, 1, none⟩ = some (.int .u8 (q.x : Int)) ∧ w'.cell? ⟨g, 2, none⟩ = some (.int .u8 (q.y : Int)) ∧ w'.cell? ⟨g, 3, none⟩ = some (.int .u8 (q.s : Int)) ∧ w'.cell? ⟨g, 4, none⟩ = some (.int .u8 (q.p : Int)) ∧ w'.cell? ⟨g, 5, none⟩ = some (.int .u16 (P : Int))) (first | with_reducible exact sixOf HGr.out | with_reducible exact sixOf HGr.out.drew | with_reducible exact sixOf HRg.out | with_reducible exact sixOf HAg.out) (first
          | (go_at_call 23; refine (JJ.out _ HRr.out.drew).mono ?_; rintro e w' ⟨rfl, rfl⟩)
          | (go_at_call 13; refine (FJ.out _ HRr.out.drew).mono ?_; rintro e w' ⟨rfl, rfl⟩)
          | (go_at_call 19; refine (RGS.out _ HRr.out.drew).mono ?_; rintro e w5 ⟨rfl, hB5⟩; have HRg : Hid (Row w5 g [.int .u8 (q.a : Int), .int .u8 (q.x : Int), .int .u8 (q.y : Int), .int .u8 (q.s : Int), .int .u8 (q.p : Int), .int .u16 (P : Int)]) := HGr.out.drew.below (by simp) hB5; have HT5 : Hid (Co.Tab w5) := HTr.out.next ((below_drewN (Below.refl _ wr) 1).trans hB5); have HB5 : Hid (Below W.heap.size W w5) := HBr.out.trans (((below_drewN (Below.refl _ wr) 1).trans hB5).mono HBr.out.size); clear hB5)
          | (go_at_call 17; refine (awake12 _ HT5.out).mono ?_; rintro e w6 ⟨rfl, hB6⟩; have HAg : Hid (Row w6 g [.int .u8 (q.a : Int), .int .u8 (q.x : Int), .int .u8 (q.y : Int), .int .u8 (q.s : Int), .int .u8 (q.p : Int), .int .u16 (P : Int)]) := HRg.out.below (by simp) hB6; have HB6 : Hid (Below W.heap.size W w6) := HB5.out.trans (hB6.mono HB5.out.size); clear hB6))
        all_goals go_wp2
        all_goals go_ret
        all_goals exact ⟨rfl, HB6.out⟩
  · have hkb : (Co.kindN o == (12 : Int)) = false := by simpa using hk
    have hst := else_clk q o hk
    have JJ : Hid (∀ w, Row w bb ((Cp.of q).ft.clk o).cells → Calls Tryd.prog 23 #[.pointer (some ⟨bb, 0, none⟩)] w fun e w' => e = .returned (.bool false) ∧ w' = w) := fun w h => by
      have := Jammed bb _ w h
      rwa [hst] at this
    have RGS : Hid (∀ w, Row w bb ((Cp.of q).ft.clk o).cells → ∃ z : Rg, Calls Tryd.prog 19 #[.pointer (some ⟨bb, 0, none⟩)] w fun e w' => e = .returned (.agg #[.int .u8 (z.a : Int), .int .u8 (z.x : Int), .int .u8 (z.y : Int), .int .u8 (z.s : Int), .int .u8 (z.p : Int), .int .u16 (z.pc : Int)]) ∧ Below w.heap.size w w') := fun w h => ⟨_, Regs bb _ w h⟩
    have hpos : Hid (0 < ((Cp.of q).ft.clk o).cells.length) := Cp.pos _
    generalize ((Cp.of q).ft.clk o).cells = CC at hR1 JJ RGS hpos
    generalize Co.kindN o = kd at OF hk hkb
    have HR1 : Hid (Row w1 bb CC) := hR1
    clear hR1 hst
    obtain ⟨z, hz⟩ := RGS.out _ HR1.out
    go_wp2_with (go_at_call 19; fail)
    refine hz.mono ?_
    rintro e p1 ⟨rfl, hP⟩
    clear hz
    have hz1 : W.heap.size ≤ p1.heap.size := Nat.le_trans HB1.out.size hP.size
    have HX : Hid (∀ X : Obj, Row (p1.alloc X) bb CC) := fun X => (HR1.out.below hpos.out hP).alloc hpos.out X
    have HXT : Hid (∀ X : Obj, Co.Tab (p1.alloc X)) := fun X => (HT1.out.next hP).next ((Below.refl _ _).alloc (Nat.le_refl _) X)
    have HXB : Hid (∀ X : Obj, Below W.heap.size W (p1.alloc X)) := fun X => (HB1.out.trans (hP.mono HB1.out.size)).alloc hz1 X
    clear hP HR1 HT1 HB1
    go_wp2_with (go_at_call 22; fail)
    refine (OF.out _ (HXT.out _)).mono ?_
    rintro e w2 ⟨rfl, hB2⟩
    have HR2 : Hid (Row w2 bb CC) := (HX.out _).below hpos.out hB2
    have HT2 : Hid (Co.Tab w2) := (HXT.out _).next hB2
    have HB2 : Hid (Below W.heap.size W w2) := (HXB.out _).trans (hB2.mono (HXB.out _).size)
    clear hB2 HX HXT HXB
    go_wp2_with (first
      | (go_at_call 23; refine (JJ.out _ HR2.out).mono ?_; rintro e w' ⟨rfl, rfl⟩)
      | (go_at_call 17; refine (awake12 _ HT2.out).mono ?_; rintro e w6 ⟨rfl, hB6⟩; have HB6 : Hid (Below _ _ w6) := HB2.out.trans (hB6.mono HB2.out.size); clear hB6))
    go_ret
    exact ⟨rfl, HB6.out⟩

end Go.Proofs.YtelmohajdmcnmaaDoor.Mi
