/- Joined: R79, R7A, R70. -/
import Derived.Test.YtanlcmdnhhdhaaaGreatDoorJ40
import Derived.Test.YtanlcmdnhhdhaaaGreatDoorJ05
import Derived.Test.YtanlcmdnhhdhaaaGreatDoorJ39
import Derived.Test.YtanlcmdnhhdhaaaGreatDoorJ31
/- demesnelaw13.step, over any two that tell the same: the switch. (Laid by gen_r78.py.) -/
namespace Go.Proofs.YtanlcmdnhhdhaaaGreatDoor
open Go.RowKit
set_option maxRecDepth 10000

set_option maxHeartbeats 16000000 in
theorem gswitch {w wc : World} {bt br b5 b9 p3 : Nat} {f3 s : Int} {R Q Y : Bool} {kd fm sf : Int} {pg : Nat} {r q x raw : Bool} {m : Nat} {K0 : World → Prop} {K1 : Int → Int → World → Prop} {J0 : World → Prop} {J1 J2 J3 : LV → Bool → Int → World → Prop} {JE : World → Prop} {u64 u23 u24 u25 u26 u27 u28 u29 u30 u31 u32 u33 u34 u35 u36 u37 u38 u39 u40 u41 u42 u43 u44 u45 u46 u47 u48 u49 u50 u51 u52 u53 u54 u55 u56 u57 u58 u59 u60 u61 u62 u63 u65 u66 u67 u68 u69 u72 u73 u74 u75 u76 u77 u78 u79 u80 u81 u82 u83 u84 u85 u86 u88 u89 u90 u91 u92 u93 u94 u95 u96 u97 u98 u99 u100 u102 u103 u104 u105 u106 u107 u108 u109 u110 u111 u112 u113 u114 u115 u116 u117 u118 u119 u121 u122 u123 u124 u125 u126 u127 u128 u129 u130 u131 u133 u134 u135 u136 u137 u138 u139 u141 u142 u143 u144 u145 u146 u147 u149 u150 u151 u152 u153 u154 u155 u156 u157 u158 u159 u160 u161 u162 u163 u164 u165 u166 u167 u168 u169 u170 u171 u172 u173 u174 u175 u176 u177 u178 u179 u180 u181 u182 u183 u184 u185 u186 u187 u188 u189 u190 u191 u192 u193 u194 u195 u196 u197 u198 u199 u200 u201 u202 u203 u204 u205 u206 : Value} (hs : SWC bt br b9 p3 f3 s R Q Y m fm w K0 K1 J0 J1 J2 J3 JE) (kw : Kp w wc) (ox : OPX wc b5 kd fm sf (pg : Int) r q x raw) (px : PX wc b9 R Q Y) {t : Int} (k1 : kd.tmod 11 = t) (k2 : -11 < t) (k3 : t < 11) (k4 : (t + 11).tmod 11 = (m : Int)) (k5 : m < 11) :
    Code.wp Tryz.prog (sB (sB (sB (sB (sB (sB (sB (sB (bodyC Tryz.f9)))))))))
      (bodyPost Tryz.prog Tryz.f9 fun e w' => e = .returned (.bool true) ∧ JE w')
      { tmps := #[Value.pointer (some { block := bt, off := 0 }), Value.pointer (some { block := br, off := 0 }), Value.agg #[Value.int IntKind.i64 kd, Value.int IntKind.i64 fm, Value.int IntKind.i64 sf, Value.int IntKind.u64 ↑pg, Value.bool r, Value.bool q, Value.bool x, Value.bool raw], undef, undef, Value.pointer (some { block := b5, off := 0 }), Value.bool false, Value.int IntKind.u64 ↑p3, Value.int IntKind.i64 f3, Value.pointer (some { block := b9, off := 0 }), Value.int IntKind.i64 s, undef, undef, undef, undef, undef, undef, undef, undef, undef, undef, undef, undef, u23, u24, u25, u26, u27, u28, u29, u30, u31, u32, u33, u34, u35, u36, u37, u38, u39, u40, u41, u42, u43, u44, u45, u46, u47, u48, u49, u50, u51, u52, u53, u54, u55, u56, u57, u58, u59, u60, u61, u62, u63, u64, u65, u66, u67, u68, u69, undef, undef, u72, u73, u74, u75, u76, u77, u78, u79, u80, u81, u82, u83, u84, u85, u86, undef, u88, u89, u90, u91, u92, u93, u94, u95, u96, u97, u98, u99, u100, undef, u102, u103, u104, u105, u106, u107, u108, u109, u110, u111, u112, u113, u114, u115, u116, u117, u118, u119, undef, u121, u122, u123, u124, u125, u126, u127, u128, u129, u130, u131, undef, u133, u134, u135, u136, u137, u138, u139, undef, u141, u142, u143, u144, u145, u146, u147, undef, u149, u150, u151, u152, u153, u154, u155, u156, u157, u158, u159, u160, u161, u162, u163, u164, u165, u166, u167, u168, u169, u170, u171, u172, u173, u174, u175, u176, u177, u178, u179, u180, u181, u182, u183, u184, u185, u186, u187, u188, u189, u190, u191, u192, u193, u194, u195, u196, u197, u198, u199, u200, u201, u202, u203, u204, u205, u206], defers := [] } wc := by
  have HS : Hid (SWC bt br b9 p3 f3 s R Q Y m fm w K0 K1 J0 J1 J2 J3 JE) := hs
  have S0 := hs.start _ kw px
  have c0 := ox.cells.1
  have cf := ox.cells.2.1
  clear hs kw ox px
  conv => arg 2; whnf
  go_upto_block 0 with fail
  go_cut [11, 12, 13, 14] (fun v11 v12 v13 v14 wx => ∃ xx aa : Int, v11 = .int .i64 xx ∧ v12 = .int .i64 xx ∧ v13 = .int .i64 aa ∧ v14 = .int .i64 aa ∧ Hid (J0 wx))
  case first =>
    rcases (by omega : m < 3 ∨ m = 3 ∨ m = 4 ∨ m = 5 ∨ m = 6 ∨ m = 7 ∨ m = 8 ∨ m = 9 ∨ m = 10) with hm | rfl | rfl | rfl | rfl | rfl | rfl | rfl | rfl
    · rcases (by omega : m = 0 ∨ m = 1 ∨ m = 2) with rfl | rfl | rfl
      · have cA := HS.out.map (by omega) _ (HS.out.kp _ _ S0 (Kp.refl wc).drew)
        have cD : Aside (∀ v xx, K1 xx 0 v → Calls Tryz.prog 30 #[.pointer (some ⟨br, 0, none⟩), .int .u64 (p3 : Int), .int .i64 f3, .agg #[.bool R, .bool Q, .bool Y], .int .i64 s] v fun e w' => e = .returned (.int .i64 xx) ∧ J0 w' ∧ PX w' b9 R Q Y) := HS.out.rmap (by omega)
        have P0 := HS.out.px _ S0
        clear cf
        go_wp2_with fail
        go_region_held3 (fun v => v.cell? ⟨b9, 0, none⟩ = some (.bool R) ∧ v.cell? ⟨b9, 1, none⟩ = some (.bool Q) ∧ v.cell? ⟨b9, 2, none⟩ = some (.bool Y))
          (first | exact ⟨P0.c0, P0.c1, P0.c2⟩ | exact ⟨P5.c0, P5.c1, P5.c2⟩ | exact ⟨P4.c0, P4.c1, P4.c2⟩)
          (first | (go_at_call 21; with_reducible refine cA.mono ?_; rintro e w4 ⟨xx, rfl, S4, P4⟩) | (go_at_call 30; with_reducible refine (cD.out _ _ S4).mono ?_; rintro e w5 ⟨rfl, S5, P5⟩))
        have HR : Hid (J0 w5) := S5
        clear cA cD S0 S4 S5 P0 P4 P5
        go_wp2_with fail
        go_meet
        case rel => exact ⟨xx, 0, rfl, rfl, rfl, rfl, HR⟩
      · have cA := HS.out.map (by omega) _ (HS.out.kp _ _ S0 (Kp.refl wc).drew)
        have cD : Aside (∀ v xx, K1 xx 0 v → Calls Tryz.prog 30 #[.pointer (some ⟨br, 0, none⟩), .int .u64 (p3 : Int), .int .i64 f3, .agg #[.bool R, .bool Q, .bool Y], .int .i64 s] v fun e w' => e = .returned (.int .i64 xx) ∧ J0 w' ∧ PX w' b9 R Q Y) := HS.out.rmap (by omega)
        have P0 := HS.out.px _ S0
        clear cf
        go_wp2_with fail
        go_region_held3 (fun v => v.cell? ⟨b9, 0, none⟩ = some (.bool R) ∧ v.cell? ⟨b9, 1, none⟩ = some (.bool Q) ∧ v.cell? ⟨b9, 2, none⟩ = some (.bool Y))
          (first | exact ⟨P0.c0, P0.c1, P0.c2⟩ | exact ⟨P5.c0, P5.c1, P5.c2⟩ | exact ⟨P4.c0, P4.c1, P4.c2⟩)
          (first | (go_at_call 21; with_reducible refine cA.mono ?_; rintro e w4 ⟨xx, rfl, S4, P4⟩) | (go_at_call 30; with_reducible refine (cD.out _ _ S4).mono ?_; rintro e w5 ⟨rfl, S5, P5⟩))
        have HR : Hid (J0 w5) := S5
        clear cA cD S0 S4 S5 P0 P4 P5
        go_wp2_with fail
        go_meet
        case rel => exact ⟨xx, 0, rfl, rfl, rfl, rfl, HR⟩
      · have cA := HS.out.map (by omega) _ (HS.out.kp _ _ S0 (Kp.refl wc).drew)
        have cD : Aside (∀ v xx, K1 xx 0 v → Calls Tryz.prog 30 #[.pointer (some ⟨br, 0, none⟩), .int .u64 (p3 : Int), .int .i64 f3, .agg #[.bool R, .bool Q, .bool Y], .int .i64 s] v fun e w' => e = .returned (.int .i64 xx) ∧ J0 w' ∧ PX w' b9 R Q Y) := HS.out.rmap (by omega)
        have P0 := HS.out.px _ S0
        clear cf
        go_wp2_with fail
        go_region_held3 (fun v => v.cell? ⟨b9, 0, none⟩ = some (.bool R) ∧ v.cell? ⟨b9, 1, none⟩ = some (.bool Q) ∧ v.cell? ⟨b9, 2, none⟩ = some (.bool Y))
          (first | exact ⟨P0.c0, P0.c1, P0.c2⟩ | exact ⟨P5.c0, P5.c1, P5.c2⟩ | exact ⟨P4.c0, P4.c1, P4.c2⟩)
          (first | (go_at_call 21; with_reducible refine cA.mono ?_; rintro e w4 ⟨xx, rfl, S4, P4⟩) | (go_at_call 30; with_reducible refine (cD.out _ _ S4).mono ?_; rintro e w5 ⟨rfl, S5, P5⟩))
        have HR : Hid (J0 w5) := S5
        clear cA cD S0 S4 S5 P0 P4 P5
        go_wp2_with fail
        go_meet
        case rel => exact ⟨xx, 0, rfl, rfl, rfl, rfl, HR⟩
    · have cA := HS.out.mapb rfl _ (HS.out.kp _ _ S0 (Kp.refl wc).drew)
      have cD : Aside (∀ v xx, K1 xx 0 v → Calls Tryz.prog 32 #[.pointer (some ⟨br, 0, none⟩), .int .u64 (p3 : Int), .int .i64 f3, .agg #[.bool R, .bool Q, .bool Y], .int .i64 s] v fun e w' => e = .returned (.int .i64 xx) ∧ J0 w' ∧ PX w' b9 R Q Y) := HS.out.rmapb rfl
      have P0 := HS.out.px _ S0
      clear cf
      go_wp2_with fail
      go_region_held3 (fun v => v.cell? ⟨b9, 0, none⟩ = some (.bool R) ∧ v.cell? ⟨b9, 1, none⟩ = some (.bool Q) ∧ v.cell? ⟨b9, 2, none⟩ = some (.bool Y))
        (first | exact ⟨P0.c0, P0.c1, P0.c2⟩ | exact ⟨P5.c0, P5.c1, P5.c2⟩ | exact ⟨P4.c0, P4.c1, P4.c2⟩)
        (first | (go_at_call 31; with_reducible refine cA.mono ?_; rintro e w4 ⟨xx, rfl, S4, P4⟩) | (go_at_call 32; with_reducible refine (cD.out _ _ S4).mono ?_; rintro e w5 ⟨rfl, S5, P5⟩))
      have HR : Hid (J0 w5) := S5
      clear cA cD S0 S4 S5 P0 P4 P5
      go_wp2_with fail
      go_meet
      case rel => exact ⟨xx, 0, rfl, rfl, rfl, rfl, HR⟩
    · have cA := HS.out.unmap (.inl rfl) _ S0
      clear S0 cf
      go_wp2_with fail
      with_reducible refine cA.mono ?_
      rintro e w4 ⟨fx, xx, rfl, S4⟩
      have cD := HS.out.runmap (.inl rfl) _ _ _ S4
      clear cA S4
      go_wp2_with fail
      with_reducible refine cD.mono ?_
      rintro e w5 ⟨rfl, S5⟩
      have HR : Hid (J0 w5) := S5
      clear cD S5
      go_wp2_with fail
      go_meet
      case rel => exact ⟨xx, fx, rfl, rfl, rfl, rfl, HR⟩
    · have cA := HS.out.unmap (.inr rfl) _ S0
      clear S0 cf
      go_wp2_with fail
      with_reducible refine cA.mono ?_
      rintro e w4 ⟨fx, xx, rfl, S4⟩
      have cD := HS.out.runmap (.inr rfl) _ _ _ S4
      clear cA S4
      go_wp2_with fail
      with_reducible refine cD.mono ?_
      rintro e w5 ⟨rfl, S5⟩
      have HR : Hid (J0 w5) := S5
      clear cD S5
      go_wp2_with fail
      go_meet
      case rel => exact ⟨xx, fx, rfl, rfl, rfl, rfl, HR⟩
    · have cA := HS.out.prot rfl _ (HS.out.kp _ _ S0 (Kp.refl wc).drew)
      have cD : Aside (∀ v xx, K1 xx 0 v → Calls Tryz.prog 35 #[.pointer (some ⟨br, 0, none⟩), .int .u64 (p3 : Int), .agg #[.bool R, .bool Q, .bool Y], .int .i64 s] v fun e w' => e = .returned (.int .i64 xx) ∧ J0 w' ∧ PX w' b9 R Q Y) := HS.out.rprot rfl
      have P0 := HS.out.px _ S0
      clear cf
      go_wp2_with fail
      go_region_held3 (fun v => v.cell? ⟨b9, 0, none⟩ = some (.bool R) ∧ v.cell? ⟨b9, 1, none⟩ = some (.bool Q) ∧ v.cell? ⟨b9, 2, none⟩ = some (.bool Y))
        (first | exact ⟨P0.c0, P0.c1, P0.c2⟩ | exact ⟨P5.c0, P5.c1, P5.c2⟩ | exact ⟨P4.c0, P4.c1, P4.c2⟩)
        (first | (go_at_call 34; with_reducible refine cA.mono ?_; rintro e w4 ⟨xx, rfl, S4, P4⟩) | (go_at_call 35; with_reducible refine (cD.out _ _ S4).mono ?_; rintro e w5 ⟨rfl, S5, P5⟩))
      have HR : Hid (J0 w5) := S5
      clear cA cD S0 S4 S5 P0 P4 P5
      go_wp2_with fail
      go_meet
      case rel => exact ⟨xx, 0, rfl, rfl, rfl, rfl, HR⟩
    · have cA := HS.out.split rfl _ S0
      clear S0 cf
      go_wp2_with fail
      with_reducible refine cA.mono ?_
      rintro e w4 ⟨xx, rfl, S4⟩
      have cD := HS.out.rsplit rfl _ _ S4
      clear cA S4
      go_wp2_with fail
      with_reducible refine cD.mono ?_
      rintro e w5 ⟨rfl, S5⟩
      have HR : Hid (J0 w5) := S5
      clear cD S5
      go_wp2_with fail
      go_meet
      case rel => exact ⟨xx, 0, rfl, rfl, rfl, rfl, HR⟩
    · have cA := HS.out.join rfl _ S0
      clear S0 cf
      go_wp2_with fail
      with_reducible refine cA.mono ?_
      rintro e w4 ⟨xx, rfl, S4⟩
      have cD := HS.out.rjoin rfl _ _ S4
      clear cA S4
      go_wp2_with fail
      with_reducible refine cD.mono ?_
      rintro e w5 ⟨rfl, S5⟩
      have HR : Hid (J0 w5) := S5
      clear cD S5
      go_wp2_with fail
      go_meet
      case rel => exact ⟨xx, 0, rfl, rfl, rfl, rfl, HR⟩
    · have HR : Hid (J0 wc) := HS.out.idle (.inl rfl) _ S0
      clear S0 cf
      go_wp2_with fail
      go_meet
      case rel => exact ⟨0, 0, rfl, rfl, rfl, rfl, HR⟩
    · obtain ⟨zz, hzz⟩ : ∃ zz, bits .and .i64 fm 15 = zz := ⟨_, rfl⟩
      by_cases ez : zz = 0
      · subst ez
        have cA := HS.out.free rfl hzz _ S0
        have cD := HS.out.rfree rfl hzz
        have cD : Aside (∀ v xx, K1 xx 0 v → Calls Tryz.prog 40 #[.pointer (some ⟨br, 0, none⟩)] v fun e w' => e = .returned (.int .i64 xx) ∧ J0 w') := cD
        clear S0
        go_wp2_with fail
        with_reducible refine cA.mono ?_
        rintro e w4 ⟨xx, rfl, S4⟩
        have cD4 := cD.out _ _ S4
        clear cA S4 cD
        go_wp2_with fail
        with_reducible refine cD4.mono ?_
        rintro e w5 ⟨rfl, S5⟩
        have HR : Hid (J0 w5) := S5
        clear cD4 S5
        go_wp2_with fail
        go_meet
        case rel => exact ⟨xx, 0, rfl, rfl, rfl, rfl, HR⟩
      · have ez2 : (zz == 0) = false := beq_false_of_ne ez
        have HR : Hid (J0 wc) := HS.out.idle (.inr ⟨rfl, by rw [hzz]; exact ez⟩) _ S0
        clear S0
        go_wp2_with fail
        go_meet
        case rel => exact ⟨0, 0, rfl, rfl, rfl, rfl, HR⟩
  case rest =>
    obtain ⟨xx, aa, rfl, rfl, rfl, rfl, HR⟩ := hcut
    rename_i hK
    exact hK _ _ (gtail HS.out HR.out)

end Go.Proofs.YtanlcmdnhhdhaaaGreatDoor

/- demesnelaw13.step, over any two that tell the same. (Laid by gen_r78.py.) -/
namespace Go.Proofs.YtanlcmdnhhdhaaaGreatDoor
open Go.RowKit
set_option maxRecDepth 10000

set_option maxHeartbeats 16000000 in
theorem gstep {w : World} {bt br : Nat} {JE : World → Prop} (kd fm sf : Int) (pg : Nat) (r q x raw : Bool) (hpg : pg < 18446744073709551616) (m : Nat) (t : Int) (k1 : kd.tmod 11 = t) (k2 : -11 < t) (k3 : t < 11) (k4 : (t + 11).tmod 11 = (m : Int)) (k5 : m < 11)
    (H : ∀ (b9 p3 : Nat) (f3 s : Int) (R Q Y : Bool), p3 < 18446744073709551616 → w.heap.size ≤ b9 → ∃ K0 K1 J0 J1 J2 J3, SWC bt br b9 p3 f3 s R Q Y m fm w K0 K1 J0 J1 J2 J3 JE) :
    Calls Tryz.prog 9 #[.pointer (some ⟨bt, 0, none⟩), .pointer (some ⟨br, 0, none⟩), .agg #[.int .i64 kd, .int .i64 fm, .int .i64 sf, .int .u64 (pg : Int), .bool r, .bool q, .bool x, .bool raw]] w fun e w' => e = .returned (.bool true) ∧ JE w' := by
  have HH : Hid (∀ (b9 p3 : Nat) (f3 s : Int) (R Q Y : Bool), p3 < 18446744073709551616 → w.heap.size ≤ b9 → ∃ K0 K1 J0 J1 J2 J3, SWC bt br b9 p3 f3 s R Q Y m fm w K0 K1 J0 J1 J2 J3 JE) := H
  have HP : Hid (pg < 18446744073709551616) := hpg
  obtain ⟨p1, hp1, lp1⟩ : ∃ p1, p1 = pgT pg ∧ p1 < 18446744073709551616 := ⟨_, rfl, by have := pgT_lt pg; omega⟩
  have HQ : Hid (p1 < 18446744073709551616) := lp1
  obtain ⟨fa, ea, fa0, fa1⟩ : ∃ fa : Int, bits .and .i64 fm 1023 = fa ∧ 0 ≤ fa ∧ fa < 1024 := ⟨_, mask10 _, Int.emod_nonneg _ (by decide), Int.emod_lt_of_pos _ (by decide)⟩
  obtain ⟨w1, hw1⟩ : ∃ w1, w1 = w.alloc (.cells #[.int .i64 kd, .int .i64 fm, .int .i64 sf, .int .u64 (pg : Int), .bool r, .bool q, .bool x, .bool raw] 41) := ⟨_, rfl⟩
  obtain ⟨b5, hb5⟩ : ∃ b5, b5 = w.heap.size := ⟨_, rfl⟩
  have HF : Hid (Kp w w1 ∧ OPX w1 b5 kd fm sf (pg : Int) r q x raw) := ⟨by rw [hw1]; exact (Kp.refl w).alloc _, by rw [hw1, hb5]; exact heap_alloc_new w _⟩
  have kP : Aside (∀ P : KeptBy w1, Calls Tryz.prog 13 #[.int .u64 (pg : Int)] P.v fun e w' => e = .returned (.int .u64 (p1 : Int)) ∧ Kp P.v w') := fun P => by rw [hp1]; exact page_tab pg P.v
  clear H hpg hp1 lp1
  go_enter Tryz.func9, Tryz.ntmps9
  go_wp2_with fail
  rw [← hw1, ← hb5]
  have HB : Hid (w.heap.size ≤ b5) := (by omega : w.heap.size ≤ b5)
  clear hw1 hb5
  have kb : Nonempty (KeptBy w1) := KeptBy.some
  have g3 : ∀ P : KeptBy w1, P.v.cell? ⟨b5, 3, none⟩ = some (.int .u64 (pg : Int)) := fun P => (HF.out.2.kp P.k).cells.2.2.2.1
  have g1 : ∀ P : KeptBy w1, P.v.cell? ⟨b5, 1, none⟩ = some (.int .i64 fm) := fun P => (HF.out.2.kp P.k).cells.2.1
  refine wp_region_kept mixed (by kernel_rfl) ?_
  repeat (go_big_quiet_step (first | exact rfl | (go_at_call 13; with_reducible refine Calls.kept_of (kP.out _))))
  refine wpQuiet_nil ?_
  intro _ hw'
  obtain ⟨⟨wq, kq⟩, hw''⟩ := hw'
  subst hw''
  have HG := HF.out.2.kp kq
  have HF2 : Hid (Kp w _ ∧ OPX _ b5 kd fm sf (pg : Int) r q x raw) := ⟨HF.out.1.trans kq, HG⟩
  have g7 := HG.cells.2.2.2.2.2.2.2
  clear kb g3 g1 kP HF kq HG
  generalize fa + 100 = f1 at *
  go_upto_if 31 with fail
  go_cut [7, 8] (fun v7 v8 wx => ∃ (p2 : Nat) (f2 : Int), v7 = .int .u64 (p2 : Int) ∧ v8 = .int .i64 f2 ∧ Hid (p2 < 18446744073709551616 ∧ Kp w wx ∧ OPX wx b5 kd fm sf (pg : Int) r q x raw))
  case first =>
    cases raw
    · go_wp2_with fail
      go_meet
      case rel => exact ⟨p1, f1, rfl, rfl, HQ.out, HF2.out⟩
    · have q3 := HF2.out.2.cells.2.2.2.1
      have q1 := HF2.out.2.cells.2.1
      go_wp2_with fail
      go_quiet (fail)
      go_wp2_with fail
      go_meet
      case rel => exact ⟨pg, fm, rfl, rfl, HP.out, HF2.out.1.drewN _, HF2.out.2.kp ((Kp.refl _).drewN _)⟩
  case rest =>
    obtain ⟨p2, f2, rfl, rfl, H2⟩ := hcut
    have c := H2.out.2.2.cells
    have c4 := c.2.2.2.2.1
    have c5 := c.2.2.2.2.2.1
    have c6 := c.2.2.2.2.2.2.1
    have c2 := c.2.2.1
    clear c HF2 HQ ea fa0 fa1 g7
    have kA : Kp wc (wc.alloc (.cells #[.bool r, .bool q, .bool x] 39)) := (Kp.refl wc).alloc _
    have d2 := (H2.out.2.2.kp kA).cells.2.2.1
    have H3 : Hid (Kp w (wc.alloc (.cells #[.bool r, .bool q, .bool x] 39)) ∧ OPX (wc.alloc (.cells #[.bool r, .bool q, .bool x] 39)) b5 kd fm sf (pg : Int) r q x raw ∧ PX (wc.alloc (.cells #[.bool r, .bool q, .bool x] 39)) wc.heap.size r q x ∧ w.heap.size ≤ wc.heap.size ∧ b5 < wc.heap.size) := ⟨H2.out.2.1.trans kA, H2.out.2.2.kp kA, PX.made wc r q x, H2.out.2.1.size, H2.out.2.2.lt⟩
    have H2p : Hid (p2 < 18446744073709551616) := H2.out.1
    obtain ⟨z, hz⟩ : ∃ z, bits .and .i64 sf 16 = z := ⟨_, rfl⟩
    clear kA H2
    go_upto_if 41 with fail
    generalize wc.alloc (.cells #[.bool r, .bool q, .bool x] 39) = w3 at *
    generalize wc.heap.size = b9 at *
    clear d2 c2 c4 c5 c6
    go_cut [] (fun wx => ∃ R Q Y : Bool, Hid (Kp w wx ∧ OPX wx b5 kd fm sf (pg : Int) r q x raw ∧ PX wx b9 R Q Y))
    case first =>
      by_cases ez : z = 0
      · subst ez
        have e0 := H3.out.2.2.1.c0
        have e1 := H3.out.2.2.1.c1
        have e2 := H3.out.2.2.1.c2
        go_wp2_with fail
        with_reducible refine (right_any r q x _).mono ?_
        rintro e w4 ⟨rfl, k4⟩
        have P4 := H3.out.2.2.1.kp k4
        have e0 := P4.c0
        have e1 := P4.c1
        have e2 := P4.c2
        have f0 := P4.fz 0
        have f1 := P4.fz 1
        have f2 := P4.fz 2
        have H4 : Hid (Kp w (putP w4 b9 r (q && r) x) ∧ OPX (putP w4 b9 r (q && r) x) b5 kd fm sf (pg : Int) r q x raw ∧ PX (putP w4 b9 r (q && r) x) b9 r (q && r) x) := by
          exact ⟨(H3.out.1.trans k4).putP H3.out.2.2.2.1, (H3.out.2.1.kp k4).putP (by have := H3.out.2.2.2.2; omega) _ _ _, P4.put _ _ _⟩
        clear P4 k4
        go_wp2_with fail
        go_meet
        case rel => exact ⟨r, (q && r), x, H4⟩
      · have ez2 : (z == 0) = false := beq_false_of_ne ez
        go_wp2_with fail
        go_meet
        case rel => exact ⟨r, q, x, H3.out.1, H3.out.2.1, H3.out.2.2.1⟩
    case rest =>
      obtain ⟨R, Q, Y, H4⟩ := hcut
      have HB9 : Hid (w.heap.size ≤ b9) := H3.out.2.2.2.1
      clear H3 hz
      have c2 := H4.out.2.1.cells.2.2.1
      have c7 := H4.out.2.1.cells.2.2.2.2.2.2.2
      go_upto_if 48 with fail
      go_cut [10] (fun v10 wx => ∃ s : Int, v10 = .int .i64 s ∧ Hid (Kp w wx ∧ OPX wx b5 kd fm sf (pg : Int) r q x raw ∧ PX wx b9 R Q Y))
      case first =>
        obtain ⟨z1, hz1⟩ : ∃ z, bits .and .i64 sf 1 = z := ⟨_, rfl⟩
        cases raw
        · go_wp2_with fail
          go_meet
          case rel => exact ⟨z1, rfl, H4⟩
        · go_wp2_with fail
          go_meet
          case rel => exact ⟨sf, rfl, H4⟩
      case rest =>
        obtain ⟨s, rfl, H5⟩ := hcut
        clear H4 c2 c7
        have c0 := H5.out.2.1.cells.1
        have c7 := H5.out.2.1.cells.2.2.2.2.2.2.2
        rename_i hK
        refine hK _ _ ?_
        clear hK
        go_step
        go_cut [7, 8] (fun v7 v8 wx => ∃ (p3 : Nat) (f3 : Int), v7 = .int .u64 (p3 : Int) ∧ v8 = .int .i64 f3 ∧ Hid (p3 < 18446744073709551616 ∧ Kp w wx ∧ OPX wx b5 kd fm sf (pg : Int) r q x raw ∧ PX wx b9 R Q Y))
        case first =>
          by_cases h3 : m = 3
          · subst h3
            cases raw
            · obtain ⟨p3, ep3, lp3⟩ : ∃ p3 : Nat, bits .andNot .u64 (p2 : Int) 511 = (p3 : Int) ∧ p3 < 18446744073709551616 := ⟨_, andn_511 p2 H2p.out, by have := H2p.out; omega⟩
              obtain ⟨f3, ef3⟩ : ∃ f3, bits .andNot .i64 f2 511 = f3 := ⟨_, rfl⟩
              go_wp2_with fail
              go_meet
              case rel => exact ⟨p3, f3, rfl, rfl, lp3, H5.out⟩
            · go_wp2_with fail
              go_meet
              case rel => exact ⟨p2, f2, rfl, rfl, H2p.out, H5.out⟩
          · have e3 : ((m : Int) == 3) = false := by rw [beq_eq_false_iff_ne]; omega
            go_wp2_with fail
            go_meet
            case rel => exact ⟨p2, f2, rfl, rfl, H2p.out, H5.out⟩
        case rest =>
          obtain ⟨p3, f3, rfl, rfl, H6⟩ := hcut
          clear H5 c0 c7 H2p
          rename_i hK
          obtain ⟨K0, K1, J0, J1, J2, J3, hs⟩ := HH.out b9 p3 f3 s R Q Y H6.out.1 HB9.out
          exact hK _ _ (gswitch hs H6.out.2.1 H6.out.2.2.1 H6.out.2.2.2 k1 k2 k3 k4 k5)

end Go.Proofs.YtanlcmdnhhdhaaaGreatDoor

/- TablePlays: the document's list beside the entries, by reckoning: members, what a page hits. -/
namespace Go.Proofs.YtanlcmdnhhdhaaaGreatDoor
open Go.RowKit
set_option maxRecDepth 10000

/-- Two rising lists of the same members. -/
theorem list_uniq {α : Type} (f : α → Nat) : ∀ A B : List α, A.Pairwise (fun x y => f x < f y) → B.Pairwise (fun x y => f x < f y) → (∀ x, x ∈ A ↔ x ∈ B) → A = B
  | [], [], _, _, _ => rfl
  | [], b :: _, _, _, h => absurd ((h b).2 List.mem_cons_self) List.not_mem_nil
  | a :: _, [], _, _, h => absurd ((h a).1 List.mem_cons_self) List.not_mem_nil
  | a :: A, b :: B, pa, pb, h => by
    rw [List.pairwise_cons] at pa pb
    have e : a = b := by
      rcases List.mem_cons.1 ((h a).1 List.mem_cons_self) with c | c
      · exact c
      · rcases List.mem_cons.1 ((h b).2 List.mem_cons_self) with d | d
        · exact d.symm
        · have := pa.1 b d; have := pb.1 a c; omega
    subst e
    have : A = B := list_uniq f A B pa.2 pb.2 fun x => by
      have hx := h x
      simp only [List.mem_cons] at hx
      constructor
      · intro hm
        rcases hx.1 (.inr hm) with c | c
        · have := pa.1 x hm; rw [c] at this; omega
        · exact c
      · intro hm
        rcases hx.2 (.inr hm) with c | c
        · have := pb.1 x hm; rw [c] at this; omega
        · exact c
    rw [this]
/-- A leaf of the entries. -/
def Lf (E : Nat → Nat → DV) (v : LV) : Prop := ∃ m e, m ≤ 3 ∧ (lfD E m e).k ≠ 0 ∧ v = tellN (pgE m e) m (lfD E m e)
/-- The list is that of the entries' leaves. -/
structure RL (E : Nat → Nat → DV) (L : List LV) : Prop where
  up : L.Pairwise (fun x y => x.g < y.g)
  mem : ∀ v, v ∈ L ↔ Lf E v
section
variable {M : Nat → Nat → Nat} {C : Nat → Nat} {pool root page : Nat} {Z : Nat → Bool} {E E' : Nat → Nat → DV} {L : List LV} {d : DV} {u v : LV}
theorem RL.eq (h : TG M C pool Z root E) (r : RL E L) : L = lvsA E := list_uniq LV.g L (lvsA E) r.up h.lvs_sorted fun x => by rw [r.mem, h.lvs_mem]; exact Iff.rfl
theorem TG.lfk (h : TG M C pool Z root E) {m e : Nat} (hm : m ≤ 3) (hk : (lfD E m e).k ≠ 0) : lfD E m e = E m e ∧ (E m e).k ≠ 1 ∧ ((m = 2 ∧ (lfD E m e).k = 2) ∨ (m = 3 ∧ (lfD E m e).k = 3)) := by
  have c : ¬ (E m e).k = 1 := fun c => hk (by unfold lfD; rw [if_pos c]; rfl)
  have el : lfD E m e = E m e := by unfold lfD; rw [if_neg c]
  rw [el] at hk ⊢
  have pr := (h.ok m e hm).parts
  refine ⟨rfl, c, ?_⟩
  rcases (by omega : (E m e).k = 2 ∨ (E m e).k = 3) with q | q
  · exact .inl ⟨h.blk m e hm q, q⟩
  · exact .inr ⟨pr.2.2.2.2.2.2.2.2.2.1 q, q⟩
theorem Lf.three {p : Nat} (hk : (lfD E 3 p).k ≠ 0) : Lf E (tellN p 3 (lfD E 3 p)) := ⟨3, p, by omega, hk, by rw [show pgE 3 p = p from Nat.mul_one p]⟩
theorem Lf.two {j : Nat} (hk : (lfD E 2 j).k ≠ 0) : Lf E (tellN (j * 512) 2 (lfD E 2 j)) := ⟨2, j, by omega, hk, rfl⟩
theorem Lf.of (h : TG M C pool Z root E) (hv : Lf E v) : (v.l = 3 ∧ (lfD E 3 v.g).k = 3 ∧ v = tellN v.g 3 (lfD E 3 v.g)) ∨ (v.l = 2 ∧ v.g % 512 = 0 ∧ (lfD E 2 (v.g / 512)).k = 2 ∧ v = tellN v.g 2 (lfD E 2 (v.g / 512))) := by
  obtain ⟨m, e, hm, hk, rfl⟩ := hv
  rcases (h.lfk hm hk).2.2 with ⟨rfl, q⟩ | ⟨rfl, q⟩
  · have e1 : pgE 2 e = e * 512 := rfl
    have e2 : (tellN (pgE 2 e) 2 (lfD E 2 e)).g = e * 512 := e1
    refine .inr ⟨rfl, by rw [e2]; omega, ?_, ?_⟩
    · rw [e2, show e * 512 / 512 = e by omega]; exact q
    · rw [e2, show e * 512 / 512 = e by omega, e1]
  · have e1 : pgE 3 e = e := Nat.mul_one e
    have e2 : (tellN (pgE 3 e) 3 (lfD E 3 e)).g = e := e1
    refine .inl ⟨rfl, ?_, ?_⟩
    · rw [e2]; exact q
    · rw [e2, e1]
theorem Lf.kinds (h : TG M C pool Z root E) (hv : Lf E v) : v.l = 2 ∨ v.l = 3 := (hv.of h).elim (fun c => .inr c.1) (fun c => .inl c.1)
theorem TG.nob (h : TG M C pool Z root E) {p : Nat} (h3 : (lfD E 3 p).k ≠ 0) : (lfD E 2 (p / 512)).k = 0 := by
  rw [h.lf3] at h3
  have := h.above (m := 2) (e := p) (by omega) h3
  unfold lfD
  rw [if_pos this]
  rfl
/-- Leaves do not lie over one another. -/
theorem Lf.apart (h : TG M C pool Z root E) (hu : Lf E u) (hv : Lf E v) (h2 : u.l = 2) (he : v.g / 512 = u.g / 512) : v = u := by
  rcases hu.of h with ⟨a, _⟩ | ⟨a1, a2, a3, a4⟩
  · omega
  · rcases hv.of h with ⟨b1, b2, b3⟩ | ⟨b1, b2, b3, b4⟩
    · have := h.nob (p := v.g) (by omega)
      rw [he] at this
      omega
    · have eg : v.g = u.g := by omega
      rw [eg] at b4
      rw [b4]
      exact a4.symm
theorem Lf.lt (h : TG M C pool Z root E) (hv : Lf E v) : v.g < 268435456 := by
  have key : ∀ e, (E 3 e).k ≠ 0 → e < 268435456 := fun e he => by
    have a := h.above (m := 2) (e := e) (by omega) he
    have b := h.above (m := 1) (e := e / 512) (by omega) (show (E 2 (e / 512)).k ≠ 0 by omega)
    have c := h.above (m := 0) (e := e / 512 / 512) (by omega) (show (E 1 (e / 512 / 512)).k ≠ 0 by omega)
    have := h.two (e / 512 / 512 / 512) (by omega)
    omega
  rcases hv.of h with ⟨a, b, _⟩ | ⟨a, b, c, _⟩
  · rw [h.lf3] at b
    exact key _ (by omega)
  · have hk : (E 2 (v.g / 512)).k ≠ 0 := by
      have := (h.lfk (m := 2) (e := v.g / 512) (by omega) (by omega)).1
      rw [this] at c
      omega
    have b := h.above (m := 1) (e := v.g / 512) (by omega) hk
    have c := h.above (m := 0) (e := v.g / 512 / 512) (by omega) (show (E 1 (v.g / 512 / 512)).k ≠ 0 by omega)
    have := h.two (v.g / 512 / 512 / 512) (by omega)
    omega
theorem hit_leaf (h : TG M C pool Z root E) (hv : Lf E v) (hh : hitL page v = true) : (enG E page).k ≠ 0 ∧ v.l = lvG E page ∧ v = tellN v.g v.l (enG E page) ∧ v.g = (if v.l = 2 then page / 512 * 512 else page) := by
  unfold hitL at hh
  simp only [Bool.or_eq_true, Bool.and_eq_true, beq_iff_eq] at hh
  have pg := h.pg (page := page)
  rcases hv.of h with ⟨a, b, c⟩ | ⟨a, b, c, d⟩
  · have eg : v.g = page := by omega
    rw [eg] at b c
    have e1 : pgD E page = lfD E 3 page := by unfold pgD; rw [if_pos (by omega)]
    have e2 : pgL E page = 3 := by unfold pgL; rw [if_pos (by omega)]
    rw [e1, e2] at pg
    have k0 : (enG E page).k ≠ 0 := pg.1.2 (by omega)
    have q := pg.2 k0
    refine ⟨k0, by rw [q.2]; exact a, ?_, by rw [if_neg (by omega)]; exact eg⟩
    rw [q.1, a, eg]
    exact c
  · have eg : v.g / 512 = page / 512 := by omega
    rw [eg] at c d
    have n3 : ¬ (lfD E 3 page).k ≠ 0 := fun n => by have := h.nob n; omega
    have e1 : pgD E page = lfD E 2 (page / 512) := by unfold pgD; rw [if_neg n3]
    have e2 : pgL E page = 2 := by unfold pgL; rw [if_neg n3]
    rw [e1, e2] at pg
    have k0 : (enG E page).k ≠ 0 := pg.1.2 (by omega)
    have q := pg.2 k0
    refine ⟨k0, by rw [q.2]; exact a, ?_, by rw [if_pos a]; omega⟩
    rw [q.1, a]
    exact d
theorem leaf_hit (h : TG M C pool Z root E) (hk : (enG E page).k ≠ 0) : ∃ v, Lf E v ∧ hitL page v = true := by
  have k := h.pg.1.1 hk
  unfold pgD at k
  by_cases c : (lfD E 3 page).k ≠ 0
  · exact ⟨_, Lf.three c, by unfold hitL tellN; simp⟩
  · rw [if_neg c] at k
    exact ⟨_, Lf.two k, by unfold hitL tellN; simp⟩
theorem RL.hit (r : RL E L) (h : TG M C pool Z root E) (hk : (enG E page).k ≠ 0) : ∃ k b, L.findIdx? (hitL page) = some k ∧ L[k]? = some b ∧ Lf E b ∧ hitL page b = true ∧ b.l = lvG E page ∧ b = tellN b.g b.l (enG E page) ∧ b.g = (if b.l = 2 then page / 512 * 512 else page) := by
  cases e : L.findIdx? (hitL page) with
  | none =>
    rw [List.findIdx?_eq_none_iff] at e
    obtain ⟨v, hv, hh⟩ := leaf_hit h hk
    have := e v ((r.mem v).2 hv)
    rw [this] at hh
    cases hh
  | some k =>
    obtain ⟨hl, hp, _⟩ := List.findIdx?_eq_some_iff_getElem.1 e
    have hb := (r.mem _).1 (List.getElem_mem hl)
    have q := hit_leaf h hb hp
    exact ⟨k, L[k], rfl, List.getElem?_eq_getElem hl, hb, hp, q.2⟩
theorem RL.miss (r : RL E L) (h : TG M C pool Z root E) (hk : (enG E page).k = 0) : L.findIdx? (hitL page) = none := by
  rw [List.findIdx?_eq_none_iff]
  intro v hv
  cases e : hitL page v
  · rfl
  · exact absurd hk (hit_leaf h ((r.mem v).1 hv) e).1
theorem RL.atI (r : RL E L) (h : TG M C pool Z root E) (page : Nat) : 0 ≤ atI L page ↔ (enG E page).k ≠ 0 := by
  unfold Go.Proofs.YtanlcmdnhhdhaaaGreatDoor.atI
  by_cases hk : (enG E page).k = 0
  · rw [r.miss h hk]
    exact ⟨fun c => absurd c (by decide), fun c => absurd hk c⟩
  · obtain ⟨k, b, e, _⟩ := r.hit h hk
    rw [e]
    exact ⟨fun _ => hk, fun _ => Int.natCast_nonneg _⟩
theorem TG.far (h : TG M C pool Z root E) (hp : 268435456 ≤ page) : (enG E page).k = 0 := by
  refine Decidable.byContradiction fun hk => ?_
  obtain ⟨v, hv, hh⟩ := leaf_hit h hk
  have l := hv.lt h
  have q := (hit_leaf h hv hh).2.2.2
  split at q
  · omega
  · omega
theorem isP_en (h : TG M C pool Z root E) (page : Nat) : isP E page = decide ((enG E page).k ≠ 0) := by
  unfold isP
  by_cases c : page < 268435456
  · rw [decide_eq_true c, Bool.true_and]
  · rw [decide_eq_false c, Bool.false_and]
    exact (decide_eq_false (fun k => k (h.far (by omega)))).symm
/-- Get: both tell the same. -/
theorem both_is (r : RL E L) (h : TG M C pool Z root E) (page : Nat) : isP E page = isL false L page := by
  rw [isP_en h]
  unfold isL
  rw [Bool.not_false, Bool.true_and]
  exact decide_eq_decide.2 (r.atI h page).symm
theorem get_at {k : Nat} {b : LV} (e : L.findIdx? (hitL page) = some k) (hb : L[k]? = some b) : (Go.Proofs.YtanlcmdnhhdhaaaGreatDoor.atI L page).toNat = k ∧ L.getD (Go.Proofs.YtanlcmdnhhdhaaaGreatDoor.atI L page).toNat lvZ = b ∧ lL L (Go.Proofs.YtanlcmdnhhdhaaaGreatDoor.atI L page).toNat = b.l := by
  have e1 : (Go.Proofs.YtanlcmdnhhdhaaaGreatDoor.atI L page).toNat = k := by unfold Go.Proofs.YtanlcmdnhhdhaaaGreatDoor.atI; rw [e]; exact Int.toNat_natCast k
  have e2 : L.getD k lvZ = b := by rw [List.getD_eq_getElem?_getD, hb]; rfl
  refine ⟨e1, by rw [e1]; exact e2, by rw [e1]; exact (gL_at hb).2⟩
theorem both_get (r : RL E L) (h : TG M C pool Z root E) (page : Nat) : getP E page = getL false L page := by
  unfold getP getL getN
  by_cases hk : (enG E page).k = 0
  · have : ¬ 0 ≤ Go.Proofs.YtanlcmdnhhdhaaaGreatDoor.atI L page := fun c => (r.atI h page).1 c hk
    rw [if_pos (c := false = true ∨ ¬ 0 ≤ Go.Proofs.YtanlcmdnhhdhaaaGreatDoor.atI L page) (Or.inr this), if_neg (c := (enG E page).k ≠ 0) (fun c => c hk)]
    split <;> rfl
  · have hp : page < 268435456 := Nat.lt_of_not_le fun c => hk (h.far c)
    have ha : 0 ≤ Go.Proofs.YtanlcmdnhhdhaaaGreatDoor.atI L page := (r.atI h page).2 hk
    rw [if_pos hp, if_pos hk, if_neg (by simp; exact ha)]
    obtain ⟨k, b, e1, e2, hb, hh, q1, q2, q3⟩ := r.hit h hk
    rw [(get_at e1 e2).2.1]
    have kd := hb.kinds h
    dsimp only
    have x : b.x = (enG E page).a / 4096 + (if b.l = 2 then b.g % 512 else 0) := by rw [q2]; rfl
    have hr : b.r = (enG E page).r := by rw [q2]; rfl
    have hq : b.q = (enG E page).q := by rw [q2]; rfl
    have he : b.e = (enG E page).x := by rw [q2]; rfl
    have hf : b.f = (enG E page).f := by rw [q2]; rfl
    unfold tellN
    rw [x, hr, hq, he, hf, ← q1]
    rcases kd with kd | kd
    · rw [if_pos kd] at q3
      rw [if_pos kd, if_pos kd, show (enG E page).a / 4096 + page % 512 = (enG E page).a / 4096 + b.g % 512 + (page - b.g) by omega]
    · rw [if_neg (by omega)] at q3
      rw [if_neg (by omega), if_neg (by omega), show page - b.g = 0 by omega]
end

end Go.Proofs.YtanlcmdnhhdhaaaGreatDoor
