/- PotPlays: walked. (Written by wip/gen/gen_potplays2.py.) -/
import Derived.Test.YtdnfclhljahghaaPotPlaysArms
import Derived.Deep.RegionHeld
import Derived.Deep.DeepCutAuto
set_option linter.unusedVariables false
namespace Go.Proofs.Ytdnfclhljahghaa.potPlays
open Go.RowKit Po

set_option maxRecDepth 100000 in
set_option maxHeartbeats 200000000 in
theorem arm0 (A : List Po.Act) (n cap b0 off0 : Nat) (W : World) (HN : Hid (A.length = n)) (HA : Hid (∀ a ∈ A, a.ok)) (hl : n ≤ 60) (HS : Hid (SeenX W (some ⟨b0, off0, none⟩) cap b0 off0 16 (A.map Po.Act.row))) (hcap : cap ≤ 9223372036854775807) (hle : n ≤ cap) : (start A n cap b0 off0 W HN HA hl HS hcap hle).g0 := by
  intro DUM Q1 h60 w1 b w2 K3 a3 w3 g wr u2 u6 u7 u8 u9 u10 u16 u17 u18 u19 u20 u21 u22 u23 u24 u25 u26 u27 u28 u29 u30 u31 u32 u33 u34 u35 u36 u37 u38 u39 u40 u41 u42 u43 u44 u45 u46 u47 u48 u49 u50 u51 u52 u53 u54 u55 u56 u57 u58 u59 u60 u61 u62 u63 u64 u65 u66 u67 u68 u69 u70 u71 u72 u73 u74 u75 u76 u77 u78 u79 u80 u81 u82 u83 u84 u85 u86 u87 u88 u89 u90 u91 u92 u93 u94 u95 u96 u97 u98 u99 u100 u101 u102 u103 u104 u105 u106 u107 u108 u109 u110 u111 u112 u113 u114 u115 u116 u117 u118 u119 u120 u121 u122 u123 u124 u125 u126 u127 u128 u129 k p hk HF hkn a HK q hq q1 q2 k0 k1 z hz HZ5 hzt e5 Q2 K2 a2 K1 a1 K0 a0 wa h HLa ck hc
  obtain rfl : z = 0 := hc
  clear HZ5 q1 q2
  have cn := HLa.out.act.at_ 1 _ rfl
  have cv := HLa.out.act.at_ 2 _ rfl
  have hv2 := HK.out.v
  have ev : IntKind.i64.wrap (a.v : Int) = a.v := IntWalk.i64_in _ (by omega)
  obtain ⟨p1, hp1⟩ : ∃ p1, p.in_ a.n a.v = p1 := ⟨_, rfl⟩
  have HP1 : Hid (p.in_ a.n a.v = p1) := hp1
  have HFF : Hid p1.fit := (show p1.fit by rw [← hp1]; exact HF.out.in_ _ _)
  clear hp1
  go_wp2_with (go_at_call 28; fail)
  refine (In b p a.n a.v _ HK.out.v HLa.out.l.po.p).mono ?_
  rintro e w4 ⟨rfl, h4, t4⟩
  rw [HP1.out] at h4
  have H4 : Hid (La W b g h a p1 p w4) := HLa.out.turn h4 t4
  clear h4 t4 HLa ck cn cv
  have cn := H4.out.act.at_ 1 _ rfl
  have cv := H4.out.act.at_ 2 _ rfl
  have y0 := H4.out.l.row.at_ 0 _ rfl
  have y1 := H4.out.l.row.at_ 1 _ rfl
  have y2 := H4.out.l.row.at_ 2 _ rfl
  have y3 := H4.out.l.row.at_ 3 _ rfl
  have y4 := H4.out.l.row.at_ 4 _ rfl
  have y5 := H4.out.l.row.at_ 5 _ rfl
  have y6 := H4.out.l.row.at_ 6 _ rfl
  have y7 := H4.out.l.row.at_ 7 _ rfl
  have y8 := H4.out.l.row.at_ 8 _ rfl
  have y9 := H4.out.l.row.at_ 9 _ rfl
  have y10 := H4.out.l.row.at_ 10 _ rfl
  have CC := fun w => RIn p a.n a.v HK.out.v HF.out w
  unfold Pt.rv at CC
  rw [HP1.out] at CC
  go_wp2_with (go_at_call 29; fail)
  refine (CC _).mono ?_
  rintro e wq ⟨rfl, hB⟩
  have HQ : Hid (La W b g h a p1 p wq) := H4.out.below hB
  clear hB H4 CC cn cv y0 y1 y2 y3 y4 y5 y6 y7 y8 y9 y10
  have y0 := HQ.out.l.row.at_ 0 _ rfl
  have f0 := HQ.out.l.row.fz 0
  have y1 := HQ.out.l.row.at_ 1 _ rfl
  have f1 := HQ.out.l.row.fz 1
  have y2 := HQ.out.l.row.at_ 2 _ rfl
  have f2 := HQ.out.l.row.fz 2
  have y3 := HQ.out.l.row.at_ 3 _ rfl
  have f3 := HQ.out.l.row.fz 3
  have y4 := HQ.out.l.row.at_ 4 _ rfl
  have f4 := HQ.out.l.row.fz 4
  have y5 := HQ.out.l.row.at_ 5 _ rfl
  have f5 := HQ.out.l.row.fz 5
  have y6 := HQ.out.l.row.at_ 6 _ rfl
  have f6 := HQ.out.l.row.fz 6
  have y7 := HQ.out.l.row.at_ 7 _ rfl
  have f7 := HQ.out.l.row.fz 7
  have y8 := HQ.out.l.row.at_ 8 _ rfl
  have f8 := HQ.out.l.row.fz 8
  have y9 := HQ.out.l.row.at_ 9 _ rfl
  have f9 := HQ.out.l.row.fz 9
  have y10 := HQ.out.l.row.at_ 10 _ rfl
  have f10 := HQ.out.l.row.fz 10
  go_wp2_with (fail)
  generalize hwz : World.setCell _ _ _ = wz
  have HZ : Hid (La W b g h a p1 p1 wz) := HQ.out.put wz hwz.symm
  clear hwz HQ y0 f0 y1 f1 y2 f2 y3 f3 y4 f4 y5 f5 y6 f6 y7 f7 y8 f8 y9 f9 y10 f10
  have C1 := fun m => RHigh p1 m
  have C2 := RWords p1
  unfold Pt.rv at C1 C2
  have eqw := words_self p1
  unfold Pt.w at eqw C2
  have CW := fun w h => Words b p1 w h
  unfold Pt.w at CW
  go_wp2_with (fail)
  go_loopw [10] (fun v wr => ∃ m : Int, -1 ≤ m ∧ m ≤ 7 ∧ v = .int .i64 m ∧ La W b g h a p1 p1 wr) (fun v _ => (7 - intOf v).toNat)
  case atStart => exact ⟨-1, by omega, by omega, rfl, HZ.out⟩
  case round =>
    obtain ⟨m, hm1, hm2, rfl, hR⟩ := hrel
    have HL : Hid (La W b g h a p1 p1 wr) := hR
    clear hR HZ
    have em : IntKind.i64.wrap (m + 1) = m + 1 := IntWalk.i64_in _ (by omega)
    have y0 := HL.out.l.row.at_ 0 _ rfl
    have y1 := HL.out.l.row.at_ 1 _ rfl
    have y2 := HL.out.l.row.at_ 2 _ rfl
    have y3 := HL.out.l.row.at_ 3 _ rfl
    have y4 := HL.out.l.row.at_ 4 _ rfl
    have y5 := HL.out.l.row.at_ 5 _ rfl
    have y6 := HL.out.l.row.at_ 6 _ rfl
    have y7 := HL.out.l.row.at_ 7 _ rfl
    have y8 := HL.out.l.row.at_ 8 _ rfl
    have y9 := HL.out.l.row.at_ 9 _ rfl
    have y10 := HL.out.l.row.at_ 10 _ rfl
    by_cases hm : m < 7
    · obtain ⟨r, hr⟩ : ∃ r, p1.high m = r := ⟨_, rfl⟩
      have HR : Hid (p1.high m = r) := hr
      clear hr
      go_wp2_with (fail)
      go_region_held (fun w' => w'.cell? ⟨g, 0, none⟩ = some (.int .i64 (p1.v0 : Int)) ∧ w'.cell? ⟨g, 1, none⟩ = some (.int .i64 (p1.v1 : Int)) ∧ w'.cell? ⟨g, 2, none⟩ = some (.int .i64 (p1.v2 : Int)) ∧ w'.cell? ⟨g, 3, none⟩ = some (.int .i64 (p1.v3 : Int)) ∧ w'.cell? ⟨g, 4, none⟩ = some (.int .i64 (p1.c : Int)) ∧ w'.cell? ⟨g, 5, none⟩ = some (.bool p1.d) ∧ w'.cell? ⟨g, 6, none⟩ = some (.bool p1.h0) ∧ w'.cell? ⟨g, 7, none⟩ = some (.bool p1.h1) ∧ w'.cell? ⟨g, 8, none⟩ = some (.bool p1.l) ∧ w'.cell? ⟨g, 9, none⟩ = some (.bool p1.t0) ∧ w'.cell? ⟨g, 10, none⟩ = some (.bool p1.t1)) (first | exact ⟨by assumption, by assumption, by assumption, by assumption, by assumption, by assumption, by assumption, by assumption, by assumption, by assumption, by assumption⟩ | go_keep) (first
        | (go_at_call 39; refine (High b p1 m _ (by first | exact HL.out.l.po.p | exact HL.out.l.po.p.drew)).mono ?_; rintro e wy ⟨rfl, hB⟩; rw [HR.out]; have HL := HL.out.hid (w' := wy) ⟨hB.os, hB.tape, hB.output, hB.size, hB.block⟩; clear hB; have y0 := HL.out.l.row.at_ 0 _ rfl; have y1 := HL.out.l.row.at_ 1 _ rfl; have y2 := HL.out.l.row.at_ 2 _ rfl; have y3 := HL.out.l.row.at_ 3 _ rfl; have y4 := HL.out.l.row.at_ 4 _ rfl; have y5 := HL.out.l.row.at_ 5 _ rfl; have y6 := HL.out.l.row.at_ 6 _ rfl; have y7 := HL.out.l.row.at_ 7 _ rfl; have y8 := HL.out.l.row.at_ 8 _ rfl; have y9 := HL.out.l.row.at_ 9 _ rfl; have y10 := HL.out.l.row.at_ 10 _ rfl)
        | (go_at_call 40; refine (C1 m _).mono ?_; rintro e wy ⟨rfl, hB⟩; rw [HR.out]; have HL := HL.out.hid (w' := wy) ⟨hB.os, hB.tape, hB.output, hB.size, hB.block⟩; clear hB; have y0 := HL.out.l.row.at_ 0 _ rfl; have y1 := HL.out.l.row.at_ 1 _ rfl; have y2 := HL.out.l.row.at_ 2 _ rfl; have y3 := HL.out.l.row.at_ 3 _ rfl; have y4 := HL.out.l.row.at_ 4 _ rfl; have y5 := HL.out.l.row.at_ 5 _ rfl; have y6 := HL.out.l.row.at_ 6 _ rfl; have y7 := HL.out.l.row.at_ 7 _ rfl; have y8 := HL.out.l.row.at_ 8 _ rfl; have y9 := HL.out.l.row.at_ 9 _ rfl; have y10 := HL.out.l.row.at_ 10 _ rfl))
      all_goals
        go_wp2_with (fail)
        go_roundw
        case rel => first | exact ⟨m + 1, by omega, by omega, rfl, HL.out⟩ | ((repeat apply Exists.intro); refine ⟨?_, rfl⟩; exact ⟨m + 1, by omega, by omega, rfl, HL.out⟩)
        case measure => simp [intOf]; omega
    · have hm7 : m = 7 := by omega
      subst hm7
      obtain ⟨r, hr⟩ : ∃ r, p1.high a.n = r := ⟨_, rfl⟩
      have HR : Hid (p1.high a.n = r) := hr
      clear hr
      have yn := HL.out.act.at_ 1 _ rfl
      go_wp2_with (fail)
      go_region_held (fun w' => w'.cell? ⟨g, 0, none⟩ = some (.int .i64 (p1.v0 : Int)) ∧ w'.cell? ⟨g, 1, none⟩ = some (.int .i64 (p1.v1 : Int)) ∧ w'.cell? ⟨g, 2, none⟩ = some (.int .i64 (p1.v2 : Int)) ∧ w'.cell? ⟨g, 3, none⟩ = some (.int .i64 (p1.v3 : Int)) ∧ w'.cell? ⟨g, 4, none⟩ = some (.int .i64 (p1.c : Int)) ∧ w'.cell? ⟨g, 5, none⟩ = some (.bool p1.d) ∧ w'.cell? ⟨g, 6, none⟩ = some (.bool p1.h0) ∧ w'.cell? ⟨g, 7, none⟩ = some (.bool p1.h1) ∧ w'.cell? ⟨g, 8, none⟩ = some (.bool p1.l) ∧ w'.cell? ⟨g, 9, none⟩ = some (.bool p1.t0) ∧ w'.cell? ⟨g, 10, none⟩ = some (.bool p1.t1) ∧ w'.cell? ⟨h, 1, none⟩ = some (.int .i64 a.n)) (first | exact ⟨by assumption, by assumption, by assumption, by assumption, by assumption, by assumption, by assumption, by assumption, by assumption, by assumption, by assumption, by assumption⟩ | go_keep) (first
        | (go_at_call 41; refine (CW _ (by first | exact HL.out.l.po.p | exact HL.out.l.po.p.drew)).mono ?_; rintro e wy ⟨rfl, hB⟩; have HL := HL.out.hid (w' := wy) ⟨hB.os, hB.tape, hB.output, hB.size, hB.block⟩; clear hB; have y0 := HL.out.l.row.at_ 0 _ rfl; have y1 := HL.out.l.row.at_ 1 _ rfl; have y2 := HL.out.l.row.at_ 2 _ rfl; have y3 := HL.out.l.row.at_ 3 _ rfl; have y4 := HL.out.l.row.at_ 4 _ rfl; have y5 := HL.out.l.row.at_ 5 _ rfl; have y6 := HL.out.l.row.at_ 6 _ rfl; have y7 := HL.out.l.row.at_ 7 _ rfl; have y8 := HL.out.l.row.at_ 8 _ rfl; have y9 := HL.out.l.row.at_ 9 _ rfl; have y10 := HL.out.l.row.at_ 10 _ rfl; have yn := HL.out.act.at_ 1 _ rfl)
        | (go_at_call 42; refine (C2 _).mono ?_; rintro e wy ⟨rfl, hB⟩; have HL := HL.out.hid (w' := wy) ⟨hB.os, hB.tape, hB.output, hB.size, hB.block⟩; clear hB; have y0 := HL.out.l.row.at_ 0 _ rfl; have y1 := HL.out.l.row.at_ 1 _ rfl; have y2 := HL.out.l.row.at_ 2 _ rfl; have y3 := HL.out.l.row.at_ 3 _ rfl; have y4 := HL.out.l.row.at_ 4 _ rfl; have y5 := HL.out.l.row.at_ 5 _ rfl; have y6 := HL.out.l.row.at_ 6 _ rfl; have y7 := HL.out.l.row.at_ 7 _ rfl; have y8 := HL.out.l.row.at_ 8 _ rfl; have y9 := HL.out.l.row.at_ 9 _ rfl; have y10 := HL.out.l.row.at_ 10 _ rfl; have yn := HL.out.act.at_ 1 _ rfl)
        | (go_at_call 39; refine (High b p1 a.n _ (by first | exact HL.out.l.po.p | exact HL.out.l.po.p.drew)).mono ?_; rintro e wy ⟨rfl, hB⟩; rw [HR.out]; have HL := HL.out.hid (w' := wy) ⟨hB.os, hB.tape, hB.output, hB.size, hB.block⟩; clear hB; have y0 := HL.out.l.row.at_ 0 _ rfl; have y1 := HL.out.l.row.at_ 1 _ rfl; have y2 := HL.out.l.row.at_ 2 _ rfl; have y3 := HL.out.l.row.at_ 3 _ rfl; have y4 := HL.out.l.row.at_ 4 _ rfl; have y5 := HL.out.l.row.at_ 5 _ rfl; have y6 := HL.out.l.row.at_ 6 _ rfl; have y7 := HL.out.l.row.at_ 7 _ rfl; have y8 := HL.out.l.row.at_ 8 _ rfl; have y9 := HL.out.l.row.at_ 9 _ rfl; have y10 := HL.out.l.row.at_ 10 _ rfl; have yn := HL.out.act.at_ 1 _ rfl)
        | (go_at_call 40; refine (C1 a.n _).mono ?_; rintro e wy ⟨rfl, hB⟩; rw [HR.out]; have HL := HL.out.hid (w' := wy) ⟨hB.os, hB.tape, hB.output, hB.size, hB.block⟩; clear hB; have y0 := HL.out.l.row.at_ 0 _ rfl; have y1 := HL.out.l.row.at_ 1 _ rfl; have y2 := HL.out.l.row.at_ 2 _ rfl; have y3 := HL.out.l.row.at_ 3 _ rfl; have y4 := HL.out.l.row.at_ 4 _ rfl; have y5 := HL.out.l.row.at_ 5 _ rfl; have y6 := HL.out.l.row.at_ 6 _ rfl; have y7 := HL.out.l.row.at_ 7 _ rfl; have y8 := HL.out.l.row.at_ 8 _ rfl; have y9 := HL.out.l.row.at_ 9 _ rfl; have y10 := HL.out.l.row.at_ 10 _ rfl; have yn := HL.out.act.at_ 1 _ rfl))
      all_goals
        go_wp2_with (fail)
        go_roundw
        case rel => first | exact ⟨k + 1, p1, by omega, by go_num, HFF.out, HL.out.l⟩ | ((repeat apply Exists.intro); refine ⟨?_, rfl⟩; exact ⟨k + 1, p1, by omega, by go_num, HFF.out, HL.out.l⟩)
        case measure => simp [intOf]; omega

end Go.Proofs.Ytdnfclhljahghaa.potPlays
