/- PotPlays: walked. (Written by wip/gen/gen_potplays2.py.) -/
import Derived.Test.YtdnfclhljahghaaPotPlaysArms
import Derived.Deep.RegionHeld
import Derived.Deep.DeepCutAuto
set_option linter.unusedVariables false
namespace Go.Proofs.Ytdnfclhljahghaa.potPlays
open Go.RowKit Po

set_option maxRecDepth 100000 in
set_option maxHeartbeats 200000000 in
theorem arm4 (A : List Po.Act) (n cap b0 off0 : Nat) (W : World) (HN : Hid (A.length = n)) (HA : Hid (∀ a ∈ A, a.ok)) (hl : n ≤ 60) (HS : Hid (SeenX W (some ⟨b0, off0, none⟩) cap b0 off0 16 (A.map Po.Act.row))) (hcap : cap ≤ 9223372036854775807) (hle : n ≤ cap) : (start A n cap b0 off0 W HN HA hl HS hcap hle).g4 := by
  intro DUM Q1 h60 w1 b w2 K3 a3 w3 g wr u2 u6 u7 u8 u9 u10 u16 u17 u18 u19 u20 u21 u22 u23 u24 u25 u26 u27 u28 u29 u30 u31 u32 u33 u34 u35 u36 u37 u38 u39 u40 u41 u42 u43 u44 u45 u46 u47 u48 u49 u50 u51 u52 u53 u54 u55 u56 u57 u58 u59 u60 u61 u62 u63 u64 u65 u66 u67 u68 u69 u70 u71 u72 u73 u74 u75 u76 u77 u78 u79 u80 u81 u82 u83 u84 u85 u86 u87 u88 u89 u90 u91 u92 u93 u94 u95 u96 u97 u98 u99 u100 u101 u102 u103 u104 u105 u106 u107 u108 u109 u110 u111 u112 u113 u114 u115 u116 u117 u118 u119 u120 u121 u122 u123 u124 u125 u126 u127 u128 u129 k p hk HF hkn a HK q hq q1 q2 k0 k1 z hz HZ5 hzt e5 Q2 K2 a2 K1 a1 K0 a0 wa h HLa ck hc
  obtain rfl : z = 4 := hc
  clear HZ5 q1 q2
  cases hw : wiB a.x0 a.x1 a.x2 a.x3 a.x4 a.x5 a.x6 a.x7 a.x8 a.x9 a.x10
  · have HW : Hid (wiB a.x0 a.x1 a.x2 a.x3 a.x4 a.x5 a.x6 a.x7 a.x8 a.x9 a.x10 = false) := hw
    clear hw
    have cx0 := HLa.out.act.at_ 5 _ rfl
    have cx1 := HLa.out.act.at_ 6 _ rfl
    have cx2 := HLa.out.act.at_ 7 _ rfl
    have cx3 := HLa.out.act.at_ 8 _ rfl
    have cx4 := HLa.out.act.at_ 9 _ rfl
    have cx5 := HLa.out.act.at_ 10 _ rfl
    have cx6 := HLa.out.act.at_ 11 _ rfl
    have cx7 := HLa.out.act.at_ 12 _ rfl
    have cx8 := HLa.out.act.at_ 13 _ rfl
    have cx9 := HLa.out.act.at_ 14 _ rfl
    have cx10 := HLa.out.act.at_ 15 _ rfl
    go_wp2_with (go_at_call 36; fail)
    refine (Set_no b p a.x0 a.x1 a.x2 a.x3 a.x4 a.x5 a.x6 a.x7 a.x8 a.x9 a.x10 _ HW.out).mono ?_
    rintro e w4 ⟨rfl, hB⟩
    have H4 : Hid (La W b g h a p p w4) := HLa.out.below hB
    clear hB HLa ck cx0 cx1 cx2 cx3 cx4 cx5 cx6 cx7 cx8 cx9 cx10
    have cx0 := H4.out.act.at_ 5 _ rfl
    have cx1 := H4.out.act.at_ 6 _ rfl
    have cx2 := H4.out.act.at_ 7 _ rfl
    have cx3 := H4.out.act.at_ 8 _ rfl
    have cx4 := H4.out.act.at_ 9 _ rfl
    have cx5 := H4.out.act.at_ 10 _ rfl
    have cx6 := H4.out.act.at_ 11 _ rfl
    have cx7 := H4.out.act.at_ 12 _ rfl
    have cx8 := H4.out.act.at_ 13 _ rfl
    have cx9 := H4.out.act.at_ 14 _ rfl
    have cx10 := H4.out.act.at_ 15 _ rfl
    go_wp2_with (go_at_call 37; fail)
    refine (RRight_no a.x0 a.x1 a.x2 a.x3 a.x4 a.x5 a.x6 a.x7 a.x8 a.x9 a.x10 _ HW.out).mono ?_
    rintro e w5 ⟨rfl, hB⟩
    have HZ : Hid (La W b g h a p p w5) := H4.out.below hB
    have HFF : Hid p.fit := HF.out
    clear hB H4 cx0 cx1 cx2 cx3 cx4 cx5 cx6 cx7 cx8 cx9 cx10
    have C1 := fun m => RHigh p m
    have C2 := RWords p
    unfold Pt.rv at C1 C2
    have eqw := words_self p
    unfold Pt.w at eqw C2
    have CW := fun w h => Words b p w h
    unfold Pt.w at CW
    go_wp2_with (fail)
    go_loopw [10] (fun v wr => ∃ m : Int, -1 ≤ m ∧ m ≤ 7 ∧ v = .int .i64 m ∧ La W b g h a p p wr) (fun v _ => (7 - intOf v).toNat)
    case atStart => exact ⟨-1, by omega, by omega, rfl, HZ.out⟩
    case round =>
      obtain ⟨m, hm1, hm2, rfl, hR⟩ := hrel
      have HL : Hid (La W b g h a p p wr) := hR
      clear hR HZ
      have em : IntKind.i64.wrap (m + 1) = m + 1 := IntWalk.i64_in _ (by omega)
      have y0 := HL.out.l.row.at_ 0 _ rfl
      have y1 := HL.out.l.row.at_ 1 _ rfl
      have y2 := HL.out.l.row.at_ 2 _ rfl
      have y3 := HL.out.l.row.at_ 3 _ rfl
      have y4 := HL.out.l.row.at_ 4 _ rfl
      have y5 := HL.out.l.row.at_ 5 _ rfl
      have y6 := HL.out.l.row.at_ 6 _ rfl
      have y7 := HL.out.l.row.at_ 7 _ rfl
      have y8 := HL.out.l.row.at_ 8 _ rfl
      have y9 := HL.out.l.row.at_ 9 _ rfl
      have y10 := HL.out.l.row.at_ 10 _ rfl
      by_cases hm : m < 7
      · obtain ⟨r, hr⟩ : ∃ r, p.high m = r := ⟨_, rfl⟩
        have HR : Hid (p.high m = r) := hr
        clear hr
        go_wp2_with (fail)
        go_region_held (fun w' => w'.cell? ⟨g, 0, none⟩ = some (.int .i64 (p.v0 : Int)) ∧ w'.cell? ⟨g, 1, none⟩ = some (.int .i64 (p.v1 : Int)) ∧ w'.cell? ⟨g, 2, none⟩ = some (.int .i64 (p.v2 : Int)) ∧ w'.cell? ⟨g, 3, none⟩ = some (.int .i64 (p.v3 : Int)) ∧ w'.cell? ⟨g, 4, none⟩ = some (.int .i64 (p.c : Int)) ∧ w'.cell? ⟨g, 5, none⟩ = some (.bool p.d) ∧ w'.cell? ⟨g, 6, none⟩ = some (.bool p.h0) ∧ w'.cell? ⟨g, 7, none⟩ = some (.bool p.h1) ∧ w'.cell? ⟨g, 8, none⟩ = some (.bool p.l) ∧ w'.cell? ⟨g, 9, none⟩ = some (.bool p.t0) ∧ w'.cell? ⟨g, 10, none⟩ = some (.bool p.t1)) (first | exact ⟨by assumption, by assumption, by assumption, by assumption, by assumption, by assumption, by assumption, by assumption, by assumption, by assumption, by assumption⟩ | go_keep) (first
          | (go_at_call 39; refine (High b p m _ (by first | exact HL.out.l.po.p | exact HL.out.l.po.p.drew)).mono ?_; rintro e wy ⟨rfl, hB⟩; rw [HR.out]; have HL := HL.out.hid (w' := wy) ⟨hB.os, hB.tape, hB.output, hB.size, hB.block⟩; clear hB; have y0 := HL.out.l.row.at_ 0 _ rfl; have y1 := HL.out.l.row.at_ 1 _ rfl; have y2 := HL.out.l.row.at_ 2 _ rfl; have y3 := HL.out.l.row.at_ 3 _ rfl; have y4 := HL.out.l.row.at_ 4 _ rfl; have y5 := HL.out.l.row.at_ 5 _ rfl; have y6 := HL.out.l.row.at_ 6 _ rfl; have y7 := HL.out.l.row.at_ 7 _ rfl; have y8 := HL.out.l.row.at_ 8 _ rfl; have y9 := HL.out.l.row.at_ 9 _ rfl; have y10 := HL.out.l.row.at_ 10 _ rfl)
          | (go_at_call 40; refine (C1 m _).mono ?_; rintro e wy ⟨rfl, hB⟩; rw [HR.out]; have HL := HL.out.hid (w' := wy) ⟨hB.os, hB.tape, hB.output, hB.size, hB.block⟩; clear hB; have y0 := HL.out.l.row.at_ 0 _ rfl; have y1 := HL.out.l.row.at_ 1 _ rfl; have y2 := HL.out.l.row.at_ 2 _ rfl; have y3 := HL.out.l.row.at_ 3 _ rfl; have y4 := HL.out.l.row.at_ 4 _ rfl; have y5 := HL.out.l.row.at_ 5 _ rfl; have y6 := HL.out.l.row.at_ 6 _ rfl; have y7 := HL.out.l.row.at_ 7 _ rfl; have y8 := HL.out.l.row.at_ 8 _ rfl; have y9 := HL.out.l.row.at_ 9 _ rfl; have y10 := HL.out.l.row.at_ 10 _ rfl))
        all_goals
          go_wp2_with (fail)
          go_roundw
          case rel => first | exact ⟨m + 1, by omega, by omega, rfl, HL.out⟩ | ((repeat apply Exists.intro); refine ⟨?_, rfl⟩; exact ⟨m + 1, by omega, by omega, rfl, HL.out⟩)
          case measure => simp [intOf]; omega
      · have hm7 : m = 7 := by omega
        subst hm7
        obtain ⟨r, hr⟩ : ∃ r, p.high a.n = r := ⟨_, rfl⟩
        have HR : Hid (p.high a.n = r) := hr
        clear hr
        have yn := HL.out.act.at_ 1 _ rfl
        go_wp2_with (fail)
        go_region_held (fun w' => w'.cell? ⟨g, 0, none⟩ = some (.int .i64 (p.v0 : Int)) ∧ w'.cell? ⟨g, 1, none⟩ = some (.int .i64 (p.v1 : Int)) ∧ w'.cell? ⟨g, 2, none⟩ = some (.int .i64 (p.v2 : Int)) ∧ w'.cell? ⟨g, 3, none⟩ = some (.int .i64 (p.v3 : Int)) ∧ w'.cell? ⟨g, 4, none⟩ = some (.int .i64 (p.c : Int)) ∧ w'.cell? ⟨g, 5, none⟩ = some (.bool p.d) ∧ w'.cell? ⟨g, 6, none⟩ = some (.bool p.h0) ∧ w'.cell? ⟨g, 7, none⟩ = some (.bool p.h1) ∧ w'.cell? ⟨g, 8, none⟩ = some (.bool p.l) ∧ w'.cell? ⟨g, 9, none⟩ = some (.bool p.t0) ∧ w'.cell? ⟨g, 10, none⟩ = some (.bool p.t1) ∧ w'.cell? ⟨h, 1, none⟩ = some (.int .i64 a.n)) (first | exact ⟨by assumption, by assumption, by assumption, by assumption, by assumption, by assumption, by assumption, by assumption, by assumption, by assumption, by assumption, by assumption⟩ | go_keep) (first
          | (go_at_call 41; refine (CW _ (by first | exact HL.out.l.po.p | exact HL.out.l.po.p.drew)).mono ?_; rintro e wy ⟨rfl, hB⟩; have HL := HL.out.hid (w' := wy) ⟨hB.os, hB.tape, hB.output, hB.size, hB.block⟩; clear hB; have y0 := HL.out.l.row.at_ 0 _ rfl; have y1 := HL.out.l.row.at_ 1 _ rfl; have y2 := HL.out.l.row.at_ 2 _ rfl; have y3 := HL.out.l.row.at_ 3 _ rfl; have y4 := HL.out.l.row.at_ 4 _ rfl; have y5 := HL.out.l.row.at_ 5 _ rfl; have y6 := HL.out.l.row.at_ 6 _ rfl; have y7 := HL.out.l.row.at_ 7 _ rfl; have y8 := HL.out.l.row.at_ 8 _ rfl; have y9 := HL.out.l.row.at_ 9 _ rfl; have y10 := HL.out.l.row.at_ 10 _ rfl; have yn := HL.out.act.at_ 1 _ rfl)
          | (go_at_call 42; refine (C2 _).mono ?_; rintro e wy ⟨rfl, hB⟩; have HL := HL.out.hid (w' := wy) ⟨hB.os, hB.tape, hB.output, hB.size, hB.block⟩; clear hB; have y0 := HL.out.l.row.at_ 0 _ rfl; have y1 := HL.out.l.row.at_ 1 _ rfl; have y2 := HL.out.l.row.at_ 2 _ rfl; have y3 := HL.out.l.row.at_ 3 _ rfl; have y4 := HL.out.l.row.at_ 4 _ rfl; have y5 := HL.out.l.row.at_ 5 _ rfl; have y6 := HL.out.l.row.at_ 6 _ rfl; have y7 := HL.out.l.row.at_ 7 _ rfl; have y8 := HL.out.l.row.at_ 8 _ rfl; have y9 := HL.out.l.row.at_ 9 _ rfl; have y10 := HL.out.l.row.at_ 10 _ rfl; have yn := HL.out.act.at_ 1 _ rfl)
          | (go_at_call 39; refine (High b p a.n _ (by first | exact HL.out.l.po.p | exact HL.out.l.po.p.drew)).mono ?_; rintro e wy ⟨rfl, hB⟩; rw [HR.out]; have HL := HL.out.hid (w' := wy) ⟨hB.os, hB.tape, hB.output, hB.size, hB.block⟩; clear hB; have y0 := HL.out.l.row.at_ 0 _ rfl; have y1 := HL.out.l.row.at_ 1 _ rfl; have y2 := HL.out.l.row.at_ 2 _ rfl; have y3 := HL.out.l.row.at_ 3 _ rfl; have y4 := HL.out.l.row.at_ 4 _ rfl; have y5 := HL.out.l.row.at_ 5 _ rfl; have y6 := HL.out.l.row.at_ 6 _ rfl; have y7 := HL.out.l.row.at_ 7 _ rfl; have y8 := HL.out.l.row.at_ 8 _ rfl; have y9 := HL.out.l.row.at_ 9 _ rfl; have y10 := HL.out.l.row.at_ 10 _ rfl; have yn := HL.out.act.at_ 1 _ rfl)
          | (go_at_call 40; refine (C1 a.n _).mono ?_; rintro e wy ⟨rfl, hB⟩; rw [HR.out]; have HL := HL.out.hid (w' := wy) ⟨hB.os, hB.tape, hB.output, hB.size, hB.block⟩; clear hB; have y0 := HL.out.l.row.at_ 0 _ rfl; have y1 := HL.out.l.row.at_ 1 _ rfl; have y2 := HL.out.l.row.at_ 2 _ rfl; have y3 := HL.out.l.row.at_ 3 _ rfl; have y4 := HL.out.l.row.at_ 4 _ rfl; have y5 := HL.out.l.row.at_ 5 _ rfl; have y6 := HL.out.l.row.at_ 6 _ rfl; have y7 := HL.out.l.row.at_ 7 _ rfl; have y8 := HL.out.l.row.at_ 8 _ rfl; have y9 := HL.out.l.row.at_ 9 _ rfl; have y10 := HL.out.l.row.at_ 10 _ rfl; have yn := HL.out.act.at_ 1 _ rfl))
        all_goals
          go_wp2_with (fail)
          go_roundw
          case rel => first | exact ⟨k + 1, p, by omega, by go_num, HFF.out, HL.out.l⟩ | ((repeat apply Exists.intro); refine ⟨?_, rfl⟩; exact ⟨k + 1, p, by omega, by go_num, HFF.out, HL.out.l⟩)
          case measure => simp [intOf]; omega
  · have HQQ : Hid (∃ q0 : Pt, q0.ok ∧ ((a.x0 = (q0.v0 : Int) ∧ a.x1 = (q0.v1 : Int) ∧ a.x2 = (q0.v2 : Int) ∧ a.x3 = (q0.v3 : Int) ∧ a.x4 = (q0.c : Int)) ∧ (a.x5 = oi q0.d ∧ a.x6 = oi q0.h0 ∧ a.x7 = oi q0.h1 ∧ a.x8 = oi q0.l ∧ a.x9 = oi q0.t0 ∧ a.x10 = oi q0.t1))) := ⟨_, ofP_ok hw, ofP_w hw⟩
    clear hw
    obtain ⟨q0, hq0, heq⟩ := HQQ.out
    have HQ0 : Hid q0.ok := hq0
    have HE : Hid ((a.x0 = (q0.v0 : Int) ∧ a.x1 = (q0.v1 : Int) ∧ a.x2 = (q0.v2 : Int) ∧ a.x3 = (q0.v3 : Int) ∧ a.x4 = (q0.c : Int)) ∧ (a.x5 = oi q0.d ∧ a.x6 = oi q0.h0 ∧ a.x7 = oi q0.h1 ∧ a.x8 = oi q0.l ∧ a.x9 = oi q0.t0 ∧ a.x10 = oi q0.t1)) := heq
    clear HQQ hq0 heq
    have cx0 := HLa.out.act.at_ 5 _ rfl
    have cx1 := HLa.out.act.at_ 6 _ rfl
    have cx2 := HLa.out.act.at_ 7 _ rfl
    have cx3 := HLa.out.act.at_ 8 _ rfl
    have cx4 := HLa.out.act.at_ 9 _ rfl
    have cx5 := HLa.out.act.at_ 10 _ rfl
    have cx6 := HLa.out.act.at_ 11 _ rfl
    have cx7 := HLa.out.act.at_ 12 _ rfl
    have cx8 := HLa.out.act.at_ 13 _ rfl
    have cx9 := HLa.out.act.at_ 14 _ rfl
    have cx10 := HLa.out.act.at_ 15 _ rfl
    rw [HE.out.1.1] at cx0
    rw [HE.out.1.2.1] at cx1
    rw [HE.out.1.2.2.1] at cx2
    rw [HE.out.1.2.2.2.1] at cx3
    rw [HE.out.1.2.2.2.2] at cx4
    rw [HE.out.2.1] at cx5
    rw [HE.out.2.2.1] at cx6
    rw [HE.out.2.2.2.1] at cx7
    rw [HE.out.2.2.2.2.1] at cx8
    rw [HE.out.2.2.2.2.2.1] at cx9
    rw [HE.out.2.2.2.2.2.2] at cx10
    go_wp2_with (go_at_call 36; fail)
    refine (Set_p b p q0 _ HQ0.out HLa.out.l.po.p).mono ?_
    rintro e w4 (⟨hcan, rfl, h4, t4⟩ | ⟨hcan, rfl, hB⟩)
    · have H4 : Hid (La W b g h a q0 p w4) := HLa.out.turn h4 t4
      have HCA : Hid (q0.can = true) := hcan
      have HFF : Hid q0.fit := Pt.fit.can HQ0.out hcan
      clear hcan h4 t4 HLa ck cx0 cx1 cx2 cx3 cx4 cx5 cx6 cx7 cx8 cx9 cx10
      have cx0 := H4.out.act.at_ 5 _ rfl
      have cx1 := H4.out.act.at_ 6 _ rfl
      have cx2 := H4.out.act.at_ 7 _ rfl
      have cx3 := H4.out.act.at_ 8 _ rfl
      have cx4 := H4.out.act.at_ 9 _ rfl
      have cx5 := H4.out.act.at_ 10 _ rfl
      have cx6 := H4.out.act.at_ 11 _ rfl
      have cx7 := H4.out.act.at_ 12 _ rfl
      have cx8 := H4.out.act.at_ 13 _ rfl
      have cx9 := H4.out.act.at_ 14 _ rfl
      have cx10 := H4.out.act.at_ 15 _ rfl
      rw [HE.out.1.1] at cx0
      rw [HE.out.1.2.1] at cx1
      rw [HE.out.1.2.2.1] at cx2
      rw [HE.out.1.2.2.2.1] at cx3
      rw [HE.out.1.2.2.2.2] at cx4
      rw [HE.out.2.1] at cx5
      rw [HE.out.2.2.1] at cx6
      rw [HE.out.2.2.2.1] at cx7
      rw [HE.out.2.2.2.2.1] at cx8
      rw [HE.out.2.2.2.2.2.1] at cx9
      rw [HE.out.2.2.2.2.2.2] at cx10
      go_wp2_with (go_at_call 37; fail)
      refine (RRight_p q0 HQ0.out _).mono ?_
      rintro e w5 ⟨rfl, hB⟩
      rw [HCA.out]
      have H5 : Hid (La W b g h a q0 p w5) := H4.out.below hB
      clear hB H4 cx0 cx1 cx2 cx3 cx4 cx5 cx6 cx7 cx8 cx9 cx10
      have cx0 := H5.out.act.at_ 5 _ rfl
      have cx1 := H5.out.act.at_ 6 _ rfl
      have cx2 := H5.out.act.at_ 7 _ rfl
      have cx3 := H5.out.act.at_ 8 _ rfl
      have cx4 := H5.out.act.at_ 9 _ rfl
      have cx5 := H5.out.act.at_ 10 _ rfl
      have cx6 := H5.out.act.at_ 11 _ rfl
      have cx7 := H5.out.act.at_ 12 _ rfl
      have cx8 := H5.out.act.at_ 13 _ rfl
      have cx9 := H5.out.act.at_ 14 _ rfl
      have cx10 := H5.out.act.at_ 15 _ rfl
      rw [HE.out.1.1] at cx0
      rw [HE.out.1.2.1] at cx1
      rw [HE.out.1.2.2.1] at cx2
      rw [HE.out.1.2.2.2.1] at cx3
      rw [HE.out.1.2.2.2.2] at cx4
      rw [HE.out.2.1] at cx5
      rw [HE.out.2.2.1] at cx6
      rw [HE.out.2.2.2.1] at cx7
      rw [HE.out.2.2.2.2.1] at cx8
      rw [HE.out.2.2.2.2.2.1] at cx9
      rw [HE.out.2.2.2.2.2.2] at cx10
      go_wp2_with (go_at_call 38; fail)
      refine (ROf q0 _).mono ?_
      rintro e wq ⟨rfl, hB⟩
      unfold Pt.rv
      have HQ : Hid (La W b g h a q0 p wq) := H5.out.below hB
      clear hB H5 cx0 cx1 cx2 cx3 cx4 cx5 cx6 cx7 cx8 cx9 cx10
      have y0 := HQ.out.l.row.at_ 0 _ rfl
      have f0 := HQ.out.l.row.fz 0
      have y1 := HQ.out.l.row.at_ 1 _ rfl
      have f1 := HQ.out.l.row.fz 1
      have y2 := HQ.out.l.row.at_ 2 _ rfl
      have f2 := HQ.out.l.row.fz 2
      have y3 := HQ.out.l.row.at_ 3 _ rfl
      have f3 := HQ.out.l.row.fz 3
      have y4 := HQ.out.l.row.at_ 4 _ rfl
      have f4 := HQ.out.l.row.fz 4
      have y5 := HQ.out.l.row.at_ 5 _ rfl
      have f5 := HQ.out.l.row.fz 5
      have y6 := HQ.out.l.row.at_ 6 _ rfl
      have f6 := HQ.out.l.row.fz 6
      have y7 := HQ.out.l.row.at_ 7 _ rfl
      have f7 := HQ.out.l.row.fz 7
      have y8 := HQ.out.l.row.at_ 8 _ rfl
      have f8 := HQ.out.l.row.fz 8
      have y9 := HQ.out.l.row.at_ 9 _ rfl
      have f9 := HQ.out.l.row.fz 9
      have y10 := HQ.out.l.row.at_ 10 _ rfl
      have f10 := HQ.out.l.row.fz 10
      go_wp2_with (fail)
      generalize hwz : World.setCell _ _ _ = wz
      have HZ : Hid (La W b g h a q0 q0 wz) := HQ.out.put wz hwz.symm
      clear hwz HQ y0 f0 y1 f1 y2 f2 y3 f3 y4 f4 y5 f5 y6 f6 y7 f7 y8 f8 y9 f9 y10 f10
      have C1 := fun m => RHigh q0 m
      have C2 := RWords q0
      unfold Pt.rv at C1 C2
      have eqw := words_self q0
      unfold Pt.w at eqw C2
      have CW := fun w h => Words b q0 w h
      unfold Pt.w at CW
      go_wp2_with (fail)
      go_loopw [10] (fun v wr => ∃ m : Int, -1 ≤ m ∧ m ≤ 7 ∧ v = .int .i64 m ∧ La W b g h a q0 q0 wr) (fun v _ => (7 - intOf v).toNat)
      case atStart => exact ⟨-1, by omega, by omega, rfl, HZ.out⟩
      case round =>
        obtain ⟨m, hm1, hm2, rfl, hR⟩ := hrel
        have HL : Hid (La W b g h a q0 q0 wr) := hR
        clear hR HZ
        have em : IntKind.i64.wrap (m + 1) = m + 1 := IntWalk.i64_in _ (by omega)
        have y0 := HL.out.l.row.at_ 0 _ rfl
        have y1 := HL.out.l.row.at_ 1 _ rfl
        have y2 := HL.out.l.row.at_ 2 _ rfl
        have y3 := HL.out.l.row.at_ 3 _ rfl
        have y4 := HL.out.l.row.at_ 4 _ rfl
        have y5 := HL.out.l.row.at_ 5 _ rfl
        have y6 := HL.out.l.row.at_ 6 _ rfl
        have y7 := HL.out.l.row.at_ 7 _ rfl
        have y8 := HL.out.l.row.at_ 8 _ rfl
        have y9 := HL.out.l.row.at_ 9 _ rfl
        have y10 := HL.out.l.row.at_ 10 _ rfl
        by_cases hm : m < 7
        · obtain ⟨r, hr⟩ : ∃ r, q0.high m = r := ⟨_, rfl⟩
          have HR : Hid (q0.high m = r) := hr
          clear hr
          go_wp2_with (fail)
          go_region_held (fun w' => w'.cell? ⟨g, 0, none⟩ = some (.int .i64 (q0.v0 : Int)) ∧ w'.cell? ⟨g, 1, none⟩ = some (.int .i64 (q0.v1 : Int)) ∧ w'.cell? ⟨g, 2, none⟩ = some (.int .i64 (q0.v2 : Int)) ∧ w'.cell? ⟨g, 3, none⟩ = some (.int .i64 (q0.v3 : Int)) ∧ w'.cell? ⟨g, 4, none⟩ = some (.int .i64 (q0.c : Int)) ∧ w'.cell? ⟨g, 5, none⟩ = some (.bool q0.d) ∧ w'.cell? ⟨g, 6, none⟩ = some (.bool q0.h0) ∧ w'.cell? ⟨g, 7, none⟩ = some (.bool q0.h1) ∧ w'.cell? ⟨g, 8, none⟩ = some (.bool q0.l) ∧ w'.cell? ⟨g, 9, none⟩ = some (.bool q0.t0) ∧ w'.cell? ⟨g, 10, none⟩ = some (.bool q0.t1)) (first | exact ⟨by assumption, by assumption, by assumption, by assumption, by assumption, by assumption, by assumption, by assumption, by assumption, by assumption, by assumption⟩ | go_keep) (first
            | (go_at_call 39; refine (High b q0 m _ (by first | exact HL.out.l.po.p | exact HL.out.l.po.p.drew)).mono ?_; rintro e wy ⟨rfl, hB⟩; rw [HR.out]; have HL := HL.out.hid (w' := wy) ⟨hB.os, hB.tape, hB.output, hB.size, hB.block⟩; clear hB; have y0 := HL.out.l.row.at_ 0 _ rfl; have y1 := HL.out.l.row.at_ 1 _ rfl; have y2 := HL.out.l.row.at_ 2 _ rfl; have y3 := HL.out.l.row.at_ 3 _ rfl; have y4 := HL.out.l.row.at_ 4 _ rfl; have y5 := HL.out.l.row.at_ 5 _ rfl; have y6 := HL.out.l.row.at_ 6 _ rfl; have y7 := HL.out.l.row.at_ 7 _ rfl; have y8 := HL.out.l.row.at_ 8 _ rfl; have y9 := HL.out.l.row.at_ 9 _ rfl; have y10 := HL.out.l.row.at_ 10 _ rfl)
            | (go_at_call 40; refine (C1 m _).mono ?_; rintro e wy ⟨rfl, hB⟩; rw [HR.out]; have HL := HL.out.hid (w' := wy) ⟨hB.os, hB.tape, hB.output, hB.size, hB.block⟩; clear hB; have y0 := HL.out.l.row.at_ 0 _ rfl; have y1 := HL.out.l.row.at_ 1 _ rfl; have y2 := HL.out.l.row.at_ 2 _ rfl; have y3 := HL.out.l.row.at_ 3 _ rfl; have y4 := HL.out.l.row.at_ 4 _ rfl; have y5 := HL.out.l.row.at_ 5 _ rfl; have y6 := HL.out.l.row.at_ 6 _ rfl; have y7 := HL.out.l.row.at_ 7 _ rfl; have y8 := HL.out.l.row.at_ 8 _ rfl; have y9 := HL.out.l.row.at_ 9 _ rfl; have y10 := HL.out.l.row.at_ 10 _ rfl))
          all_goals
            go_wp2_with (fail)
            go_roundw
            case rel => first | exact ⟨m + 1, by omega, by omega, rfl, HL.out⟩ | ((repeat apply Exists.intro); refine ⟨?_, rfl⟩; exact ⟨m + 1, by omega, by omega, rfl, HL.out⟩)
            case measure => simp [intOf]; omega
        · have hm7 : m = 7 := by omega
          subst hm7
          obtain ⟨r, hr⟩ : ∃ r, q0.high a.n = r := ⟨_, rfl⟩
          have HR : Hid (q0.high a.n = r) := hr
          clear hr
          have yn := HL.out.act.at_ 1 _ rfl
          go_wp2_with (fail)
          go_region_held (fun w' => w'.cell? ⟨g, 0, none⟩ = some (.int .i64 (q0.v0 : Int)) ∧ w'.cell? ⟨g, 1, none⟩ = some (.int .i64 (q0.v1 : Int)) ∧ w'.cell? ⟨g, 2, none⟩ = some (.int .i64 (q0.v2 : Int)) ∧ w'.cell? ⟨g, 3, none⟩ = some (.int .i64 (q0.v3 : Int)) ∧ w'.cell? ⟨g, 4, none⟩ = some (.int .i64 (q0.c : Int)) ∧ w'.cell? ⟨g, 5, none⟩ = some (.bool q0.d) ∧ w'.cell? ⟨g, 6, none⟩ = some (.bool q0.h0) ∧ w'.cell? ⟨g, 7, none⟩ = some (.bool q0.h1) ∧ w'.cell? ⟨g, 8, none⟩ = some (.bool q0.l) ∧ w'.cell? ⟨g, 9, none⟩ = some (.bool q0.t0) ∧ w'.cell? ⟨g, 10, none⟩ = some (.bool q0.t1) ∧ w'.cell? ⟨h, 1, none⟩ = some (.int .i64 a.n)) (first | exact ⟨by assumption, by assumption, by assumption, by assumption, by assumption, by assumption, by assumption, by assumption, by assumption, by assumption, by assumption, by assumption⟩ | go_keep) (first
            | (go_at_call 41; refine (CW _ (by first | exact HL.out.l.po.p | exact HL.out.l.po.p.drew)).mono ?_; rintro e wy ⟨rfl, hB⟩; have HL := HL.out.hid (w' := wy) ⟨hB.os, hB.tape, hB.output, hB.size, hB.block⟩; clear hB; have y0 := HL.out.l.row.at_ 0 _ rfl; have y1 := HL.out.l.row.at_ 1 _ rfl; have y2 := HL.out.l.row.at_ 2 _ rfl; have y3 := HL.out.l.row.at_ 3 _ rfl; have y4 := HL.out.l.row.at_ 4 _ rfl; have y5 := HL.out.l.row.at_ 5 _ rfl; have y6 := HL.out.l.row.at_ 6 _ rfl; have y7 := HL.out.l.row.at_ 7 _ rfl; have y8 := HL.out.l.row.at_ 8 _ rfl; have y9 := HL.out.l.row.at_ 9 _ rfl; have y10 := HL.out.l.row.at_ 10 _ rfl; have yn := HL.out.act.at_ 1 _ rfl)
            | (go_at_call 42; refine (C2 _).mono ?_; rintro e wy ⟨rfl, hB⟩; have HL := HL.out.hid (w' := wy) ⟨hB.os, hB.tape, hB.output, hB.size, hB.block⟩; clear hB; have y0 := HL.out.l.row.at_ 0 _ rfl; have y1 := HL.out.l.row.at_ 1 _ rfl; have y2 := HL.out.l.row.at_ 2 _ rfl; have y3 := HL.out.l.row.at_ 3 _ rfl; have y4 := HL.out.l.row.at_ 4 _ rfl; have y5 := HL.out.l.row.at_ 5 _ rfl; have y6 := HL.out.l.row.at_ 6 _ rfl; have y7 := HL.out.l.row.at_ 7 _ rfl; have y8 := HL.out.l.row.at_ 8 _ rfl; have y9 := HL.out.l.row.at_ 9 _ rfl; have y10 := HL.out.l.row.at_ 10 _ rfl; have yn := HL.out.act.at_ 1 _ rfl)
            | (go_at_call 39; refine (High b q0 a.n _ (by first | exact HL.out.l.po.p | exact HL.out.l.po.p.drew)).mono ?_; rintro e wy ⟨rfl, hB⟩; rw [HR.out]; have HL := HL.out.hid (w' := wy) ⟨hB.os, hB.tape, hB.output, hB.size, hB.block⟩; clear hB; have y0 := HL.out.l.row.at_ 0 _ rfl; have y1 := HL.out.l.row.at_ 1 _ rfl; have y2 := HL.out.l.row.at_ 2 _ rfl; have y3 := HL.out.l.row.at_ 3 _ rfl; have y4 := HL.out.l.row.at_ 4 _ rfl; have y5 := HL.out.l.row.at_ 5 _ rfl; have y6 := HL.out.l.row.at_ 6 _ rfl; have y7 := HL.out.l.row.at_ 7 _ rfl; have y8 := HL.out.l.row.at_ 8 _ rfl; have y9 := HL.out.l.row.at_ 9 _ rfl; have y10 := HL.out.l.row.at_ 10 _ rfl; have yn := HL.out.act.at_ 1 _ rfl)
            | (go_at_call 40; refine (C1 a.n _).mono ?_; rintro e wy ⟨rfl, hB⟩; rw [HR.out]; have HL := HL.out.hid (w' := wy) ⟨hB.os, hB.tape, hB.output, hB.size, hB.block⟩; clear hB; have y0 := HL.out.l.row.at_ 0 _ rfl; have y1 := HL.out.l.row.at_ 1 _ rfl; have y2 := HL.out.l.row.at_ 2 _ rfl; have y3 := HL.out.l.row.at_ 3 _ rfl; have y4 := HL.out.l.row.at_ 4 _ rfl; have y5 := HL.out.l.row.at_ 5 _ rfl; have y6 := HL.out.l.row.at_ 6 _ rfl; have y7 := HL.out.l.row.at_ 7 _ rfl; have y8 := HL.out.l.row.at_ 8 _ rfl; have y9 := HL.out.l.row.at_ 9 _ rfl; have y10 := HL.out.l.row.at_ 10 _ rfl; have yn := HL.out.act.at_ 1 _ rfl))
          all_goals
            go_wp2_with (fail)
            go_roundw
            case rel => first | exact ⟨k + 1, q0, by omega, by go_num, HFF.out, HL.out.l⟩ | ((repeat apply Exists.intro); refine ⟨?_, rfl⟩; exact ⟨k + 1, q0, by omega, by go_num, HFF.out, HL.out.l⟩)
            case measure => simp [intOf]; omega
    · have H4 : Hid (La W b g h a p p w4) := HLa.out.below hB
      have HCA : Hid (q0.can = false) := hcan
      have HFF : Hid p.fit := HF.out
      clear hcan hB HLa ck cx0 cx1 cx2 cx3 cx4 cx5 cx6 cx7 cx8 cx9 cx10
      have cx0 := H4.out.act.at_ 5 _ rfl
      have cx1 := H4.out.act.at_ 6 _ rfl
      have cx2 := H4.out.act.at_ 7 _ rfl
      have cx3 := H4.out.act.at_ 8 _ rfl
      have cx4 := H4.out.act.at_ 9 _ rfl
      have cx5 := H4.out.act.at_ 10 _ rfl
      have cx6 := H4.out.act.at_ 11 _ rfl
      have cx7 := H4.out.act.at_ 12 _ rfl
      have cx8 := H4.out.act.at_ 13 _ rfl
      have cx9 := H4.out.act.at_ 14 _ rfl
      have cx10 := H4.out.act.at_ 15 _ rfl
      rw [HE.out.1.1] at cx0
      rw [HE.out.1.2.1] at cx1
      rw [HE.out.1.2.2.1] at cx2
      rw [HE.out.1.2.2.2.1] at cx3
      rw [HE.out.1.2.2.2.2] at cx4
      rw [HE.out.2.1] at cx5
      rw [HE.out.2.2.1] at cx6
      rw [HE.out.2.2.2.1] at cx7
      rw [HE.out.2.2.2.2.1] at cx8
      rw [HE.out.2.2.2.2.2.1] at cx9
      rw [HE.out.2.2.2.2.2.2] at cx10
      go_wp2_with (go_at_call 37; fail)
      refine (RRight_p q0 HQ0.out _).mono ?_
      rintro e w5 ⟨rfl, hB⟩
      rw [HCA.out]
      have HZ : Hid (La W b g h a p p w5) := H4.out.below hB
      clear hB H4 cx0 cx1 cx2 cx3 cx4 cx5 cx6 cx7 cx8 cx9 cx10
      have C1 := fun m => RHigh p m
      have C2 := RWords p
      unfold Pt.rv at C1 C2
      have eqw := words_self p
      unfold Pt.w at eqw C2
      have CW := fun w h => Words b p w h
      unfold Pt.w at CW
      go_wp2_with (fail)
      go_loopw [10] (fun v wr => ∃ m : Int, -1 ≤ m ∧ m ≤ 7 ∧ v = .int .i64 m ∧ La W b g h a p p wr) (fun v _ => (7 - intOf v).toNat)
      case atStart => exact ⟨-1, by omega, by omega, rfl, HZ.out⟩
      case round =>
        obtain ⟨m, hm1, hm2, rfl, hR⟩ := hrel
        have HL : Hid (La W b g h a p p wr) := hR
        clear hR HZ
        have em : IntKind.i64.wrap (m + 1) = m + 1 := IntWalk.i64_in _ (by omega)
        have y0 := HL.out.l.row.at_ 0 _ rfl
        have y1 := HL.out.l.row.at_ 1 _ rfl
        have y2 := HL.out.l.row.at_ 2 _ rfl
        have y3 := HL.out.l.row.at_ 3 _ rfl
        have y4 := HL.out.l.row.at_ 4 _ rfl
        have y5 := HL.out.l.row.at_ 5 _ rfl
        have y6 := HL.out.l.row.at_ 6 _ rfl
        have y7 := HL.out.l.row.at_ 7 _ rfl
        have y8 := HL.out.l.row.at_ 8 _ rfl
        have y9 := HL.out.l.row.at_ 9 _ rfl
        have y10 := HL.out.l.row.at_ 10 _ rfl
        by_cases hm : m < 7
        · obtain ⟨r, hr⟩ : ∃ r, p.high m = r := ⟨_, rfl⟩
          have HR : Hid (p.high m = r) := hr
          clear hr
          go_wp2_with (fail)
          go_region_held (fun w' => w'.cell? ⟨g, 0, none⟩ = some (.int .i64 (p.v0 : Int)) ∧ w'.cell? ⟨g, 1, none⟩ = some (.int .i64 (p.v1 : Int)) ∧ w'.cell? ⟨g, 2, none⟩ = some (.int .i64 (p.v2 : Int)) ∧ w'.cell? ⟨g, 3, none⟩ = some (.int .i64 (p.v3 : Int)) ∧ w'.cell? ⟨g, 4, none⟩ = some (.int .i64 (p.c : Int)) ∧ w'.cell? ⟨g, 5, none⟩ = some (.bool p.d) ∧ w'.cell? ⟨g, 6, none⟩ = some (.bool p.h0) ∧ w'.cell? ⟨g, 7, none⟩ = some (.bool p.h1) ∧ w'.cell? ⟨g, 8, none⟩ = some (.bool p.l) ∧ w'.cell? ⟨g, 9, none⟩ = some (.bool p.t0) ∧ w'.cell? ⟨g, 10, none⟩ = some (.bool p.t1)) (first | exact ⟨by assumption, by assumption, by assumption, by assumption, by assumption, by assumption, by assumption, by assumption, by assumption, by assumption, by assumption⟩ | go_keep) (first
            | (go_at_call 39; refine (High b p m _ (by first | exact HL.out.l.po.p | exact HL.out.l.po.p.drew)).mono ?_; rintro e wy ⟨rfl, hB⟩; rw [HR.out]; have HL := HL.out.hid (w' := wy) ⟨hB.os, hB.tape, hB.output, hB.size, hB.block⟩; clear hB; have y0 := HL.out.l.row.at_ 0 _ rfl; have y1 := HL.out.l.row.at_ 1 _ rfl; have y2 := HL.out.l.row.at_ 2 _ rfl; have y3 := HL.out.l.row.at_ 3 _ rfl; have y4 := HL.out.l.row.at_ 4 _ rfl; have y5 := HL.out.l.row.at_ 5 _ rfl; have y6 := HL.out.l.row.at_ 6 _ rfl; have y7 := HL.out.l.row.at_ 7 _ rfl; have y8 := HL.out.l.row.at_ 8 _ rfl; have y9 := HL.out.l.row.at_ 9 _ rfl; have y10 := HL.out.l.row.at_ 10 _ rfl)
            | (go_at_call 40; refine (C1 m _).mono ?_; rintro e wy ⟨rfl, hB⟩; rw [HR.out]; have HL := HL.out.hid (w' := wy) ⟨hB.os, hB.tape, hB.output, hB.size, hB.block⟩; clear hB; have y0 := HL.out.l.row.at_ 0 _ rfl; have y1 := HL.out.l.row.at_ 1 _ rfl; have y2 := HL.out.l.row.at_ 2 _ rfl; have y3 := HL.out.l.row.at_ 3 _ rfl; have y4 := HL.out.l.row.at_ 4 _ rfl; have y5 := HL.out.l.row.at_ 5 _ rfl; have y6 := HL.out.l.row.at_ 6 _ rfl; have y7 := HL.out.l.row.at_ 7 _ rfl; have y8 := HL.out.l.row.at_ 8 _ rfl; have y9 := HL.out.l.row.at_ 9 _ rfl; have y10 := HL.out.l.row.at_ 10 _ rfl))
          all_goals
            go_wp2_with (fail)
            go_roundw
            case rel => first | exact ⟨m + 1, by omega, by omega, rfl, HL.out⟩ | ((repeat apply Exists.intro); refine ⟨?_, rfl⟩; exact ⟨m + 1, by omega, by omega, rfl, HL.out⟩)
            case measure => simp [intOf]; omega
        · have hm7 : m = 7 := by omega
          subst hm7
          obtain ⟨r, hr⟩ : ∃ r, p.high a.n = r := ⟨_, rfl⟩
          have HR : Hid (p.high a.n = r) := hr
          clear hr
          have yn := HL.out.act.at_ 1 _ rfl
          go_wp2_with (fail)
          go_region_held (fun w' => w'.cell? ⟨g, 0, none⟩ = some (.int .i64 (p.v0 : Int)) ∧ w'.cell? ⟨g, 1, none⟩ = some (.int .i64 (p.v1 : Int)) ∧ w'.cell? ⟨g, 2, none⟩ = some (.int .i64 (p.v2 : Int)) ∧ w'.cell? ⟨g, 3, none⟩ = some (.int .i64 (p.v3 : Int)) ∧ w'.cell? ⟨g, 4, none⟩ = some (.int .i64 (p.c : Int)) ∧ w'.cell? ⟨g, 5, none⟩ = some (.bool p.d) ∧ w'.cell? ⟨g, 6, none⟩ = some (.bool p.h0) ∧ w'.cell? ⟨g, 7, none⟩ = some (.bool p.h1) ∧ w'.cell? ⟨g, 8, none⟩ = some (.bool p.l) ∧ w'.cell? ⟨g, 9, none⟩ = some (.bool p.t0) ∧ w'.cell? ⟨g, 10, none⟩ = some (.bool p.t1) ∧ w'.cell? ⟨h, 1, none⟩ = some (.int .i64 a.n)) (first | exact ⟨by assumption, by assumption, by assumption, by assumption, by assumption, by assumption, by assumption, by assumption, by assumption, by assumption, by assumption, by assumption⟩ | go_keep) (first
            | (go_at_call 41; refine (CW _ (by first | exact HL.out.l.po.p | exact HL.out.l.po.p.drew)).mono ?_; rintro e wy ⟨rfl, hB⟩; have HL := HL.out.hid (w' := wy) ⟨hB.os, hB.tape, hB.output, hB.size, hB.block⟩; clear hB; have y0 := HL.out.l.row.at_ 0 _ rfl; have y1 := HL.out.l.row.at_ 1 _ rfl; have y2 := HL.out.l.row.at_ 2 _ rfl; have y3 := HL.out.l.row.at_ 3 _ rfl; have y4 := HL.out.l.row.at_ 4 _ rfl; have y5 := HL.out.l.row.at_ 5 _ rfl; have y6 := HL.out.l.row.at_ 6 _ rfl; have y7 := HL.out.l.row.at_ 7 _ rfl; have y8 := HL.out.l.row.at_ 8 _ rfl; have y9 := HL.out.l.row.at_ 9 _ rfl; have y10 := HL.out.l.row.at_ 10 _ rfl; have yn := HL.out.act.at_ 1 _ rfl)
            | (go_at_call 42; refine (C2 _).mono ?_; rintro e wy ⟨rfl, hB⟩; have HL := HL.out.hid (w' := wy) ⟨hB.os, hB.tape, hB.output, hB.size, hB.block⟩; clear hB; have y0 := HL.out.l.row.at_ 0 _ rfl; have y1 := HL.out.l.row.at_ 1 _ rfl; have y2 := HL.out.l.row.at_ 2 _ rfl; have y3 := HL.out.l.row.at_ 3 _ rfl; have y4 := HL.out.l.row.at_ 4 _ rfl; have y5 := HL.out.l.row.at_ 5 _ rfl; have y6 := HL.out.l.row.at_ 6 _ rfl; have y7 := HL.out.l.row.at_ 7 _ rfl; have y8 := HL.out.l.row.at_ 8 _ rfl; have y9 := HL.out.l.row.at_ 9 _ rfl; have y10 := HL.out.l.row.at_ 10 _ rfl; have yn := HL.out.act.at_ 1 _ rfl)
            | (go_at_call 39; refine (High b p a.n _ (by first | exact HL.out.l.po.p | exact HL.out.l.po.p.drew)).mono ?_; rintro e wy ⟨rfl, hB⟩; rw [HR.out]; have HL := HL.out.hid (w' := wy) ⟨hB.os, hB.tape, hB.output, hB.size, hB.block⟩; clear hB; have y0 := HL.out.l.row.at_ 0 _ rfl; have y1 := HL.out.l.row.at_ 1 _ rfl; have y2 := HL.out.l.row.at_ 2 _ rfl; have y3 := HL.out.l.row.at_ 3 _ rfl; have y4 := HL.out.l.row.at_ 4 _ rfl; have y5 := HL.out.l.row.at_ 5 _ rfl; have y6 := HL.out.l.row.at_ 6 _ rfl; have y7 := HL.out.l.row.at_ 7 _ rfl; have y8 := HL.out.l.row.at_ 8 _ rfl; have y9 := HL.out.l.row.at_ 9 _ rfl; have y10 := HL.out.l.row.at_ 10 _ rfl; have yn := HL.out.act.at_ 1 _ rfl)
            | (go_at_call 40; refine (C1 a.n _).mono ?_; rintro e wy ⟨rfl, hB⟩; rw [HR.out]; have HL := HL.out.hid (w' := wy) ⟨hB.os, hB.tape, hB.output, hB.size, hB.block⟩; clear hB; have y0 := HL.out.l.row.at_ 0 _ rfl; have y1 := HL.out.l.row.at_ 1 _ rfl; have y2 := HL.out.l.row.at_ 2 _ rfl; have y3 := HL.out.l.row.at_ 3 _ rfl; have y4 := HL.out.l.row.at_ 4 _ rfl; have y5 := HL.out.l.row.at_ 5 _ rfl; have y6 := HL.out.l.row.at_ 6 _ rfl; have y7 := HL.out.l.row.at_ 7 _ rfl; have y8 := HL.out.l.row.at_ 8 _ rfl; have y9 := HL.out.l.row.at_ 9 _ rfl; have y10 := HL.out.l.row.at_ 10 _ rfl; have yn := HL.out.act.at_ 1 _ rfl))
          all_goals
            go_wp2_with (fail)
            go_roundw
            case rel => first | exact ⟨k + 1, p, by omega, by go_num, HFF.out, HL.out.l⟩ | ((repeat apply Exists.intro); refine ⟨?_, rfl⟩; exact ⟨k + 1, p, by omega, by go_num, HFF.out, HL.out.l⟩)
            case measure => simp [intOf]; omega

end Go.Proofs.Ytdnfclhljahghaa.potPlays
