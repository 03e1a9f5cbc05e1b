/- demesnelaw13.step: the switch. (Laid by gen_r69.py.) -/
import Derived.Test.YtanlcmdnhhdhaaaGreatDoorJ38
namespace Go.Proofs.YtanlcmdnhhdhaaaGreatDoor
open Go.RowKit
set_option maxRecDepth 10000

set_option maxHeartbeats 16000000 in
theorem step_switch {W w wc : World} {X : Nat → Prop} {v : Value} {bt p pm pool o : Nat} {M : Nat → Nat → Nat} {C : Nat → Nat} {Z : Nat → Bool} {root br bf : Nat} {E : Nat → Nat → DV} {L : List LV} {fr : Int} (hh : (BJ W X w bt p pm pool o M C Z root E br bf v L fr false ∧ L.length ≤ 800000 ∧ (-100000000 ≤ fr ∧ fr ≤ 100000000) ∧ o < 100000000000000000 ∧ ∀ i, X i → i < w.heap.size)) {p3 : Nat} {f3 s : Int} {b5 b9 : Nat} {kd fm sf : Int} {pg : Nat} {r q x raw R Q Y : Bool} (lp : p3 < 18446744073709551616) (kw : Kp w wc) (hb : w.heap.size ≤ b9) (ox : OPX wc b5 kd fm sf (pg : Int) r q x raw) (px : PX wc b9 R Q Y) {m : Nat} {t : Int} (k1 : kd.tmod 11 = t) (k2 : -11 < t) (k3 : t < 11) (k4 : (t + 11).tmod 11 = (m : Int)) (k5 : m < 11) (k6 : m ≠ 10) {y64 y23 y24 y25 y26 y27 y28 y29 y30 y31 y32 y33 y34 y35 y36 y37 y38 y39 y40 y41 y42 y43 y44 y45 y46 y47 y48 y49 y50 y51 y52 y53 y54 y55 y56 y57 y58 y59 y60 y61 y62 y63 y65 y66 y67 y68 y69 y72 y73 y74 y75 y76 y77 y78 y79 y80 y81 y82 y83 y84 y85 y86 y88 y89 y90 y91 y92 y93 y94 y95 y96 y97 y98 y99 y100 y102 y103 y104 y105 y106 y107 y108 y109 y110 y111 y112 y113 y114 y115 y116 y117 y118 y119 y121 y122 y123 y124 y125 y126 y127 y128 y129 y130 y131 y133 y134 y135 y136 y137 y138 y139 y141 y142 y143 y144 y145 y146 y147 y149 y150 y151 y152 y153 y154 y155 y156 y157 y158 y159 y160 y161 y162 y163 y164 y165 y166 y167 y168 y169 y170 y171 y172 y173 y174 y175 y176 y177 y178 y179 y180 y181 y182 y183 y184 y185 y186 y187 y188 y189 y190 y191 y192 y193 y194 y195 y196 y197 y198 y199 y200 y201 y202 y203 y204 y205 y206 : Value} :
    Code.wp Tryz.prog (sB (sB (sB (sB (sB (sB (sB (sB (bodyC Tryz.f9)))))))))
      (bodyPost Tryz.prog Tryz.f9 fun e w' => ∃ z, e = .returned (.bool z) ∧ SZ W w X v bt p pm pool (o + 1000) M C Z root br bf E L fr z w')
      { tmps := #[Value.pointer (some { block := bt, off := 0 }), Value.pointer (some { block := br, off := 0 }), Value.agg #[Value.int IntKind.i64 kd, Value.int IntKind.i64 fm, Value.int IntKind.i64 sf, Value.int IntKind.u64 ↑pg, Value.bool r, Value.bool q, Value.bool x, Value.bool raw], undef, undef, Value.pointer (some { block := b5, off := 0 }), Value.bool false, Value.int IntKind.u64 ↑p3, Value.int IntKind.i64 f3, Value.pointer (some { block := b9, off := 0 }), Value.int IntKind.i64 s, undef, undef, undef, undef, undef, undef, undef, undef, undef, undef, undef, undef, y23, y24, y25, y26, y27, y28, y29, y30, y31, y32, y33, y34, y35, y36, y37, y38, y39, y40, y41, y42, y43, y44, y45, y46, y47, y48, y49, y50, y51, y52, y53, y54, y55, y56, y57, y58, y59, y60, y61, y62, y63, y64, y65, y66, y67, y68, y69, undef, undef, y72, y73, y74, y75, y76, y77, y78, y79, y80, y81, y82, y83, y84, y85, y86, undef, y88, y89, y90, y91, y92, y93, y94, y95, y96, y97, y98, y99, y100, undef, y102, y103, y104, y105, y106, y107, y108, y109, y110, y111, y112, y113, y114, y115, y116, y117, y118, y119, undef, y121, y122, y123, y124, y125, y126, y127, y128, y129, y130, y131, undef, y133, y134, y135, y136, y137, y138, y139, undef, y141, y142, y143, y144, y145, y146, y147, undef, y149, y150, y151, y152, y153, y154, y155, y156, y157, y158, y159, y160, y161, y162, y163, y164, y165, y166, y167, y168, y169, y170, y171, y172, y173, y174, y175, y176, y177, y178, y179, y180, y181, y182, y183, y184, y185, y186, y187, y188, y189, y190, y191, y192, y193, y194, y195, y196, y197, y198, y199, y200, y201, y202, y203, y204, y205, y206], defers := [] } wc := by
  have HH : Hid (BJ W X w bt p pm pool o M C Z root E br bf v L fr false ∧ L.length ≤ 800000 ∧ (-100000000 ≤ fr ∧ fr ≤ 100000000) ∧ o < 100000000000000000 ∧ ∀ i, X i → i < w.heap.size) := hh
  have H5 : Hid (Kp w wc ∧ OPX wc b5 kd fm sf (pg : Int) r q x raw ∧ PX wc b9 R Q Y) := ⟨kw, ox, px⟩
  have HPp : Hid (p3 < 18446744073709551616) := lp
  have HB9 : Hid (w.heap.size ≤ b9) := hb
  have c0 := ox.cells.1
  clear hh lp kw hb ox px
  conv => arg 2; whnf
  go_upto_block 0 with fail
  go_cut [11, 12, 13, 14] (fun v11 v12 v13 v14 wx => ∃ xx yy aa bb : Int, v11 = .int .i64 xx ∧ v12 = .int .i64 yy ∧ v13 = .int .i64 aa ∧ v14 = .int .i64 bb ∧ Hid (SQ W w X v bt p pm pool (o + 600) M C Z root br bf E L fr xx yy aa bb wx))
  case first =>
    have S0 : SB9 W w X v bt p pm pool o M C Z root br bf L fr b9 R Q Y wc C E := HH.out.1.sb HH.out.2.2.2.2 H5.out.1 HB9.out H5.out.2.2
    clear H5
    rcases (by omega : m = 0 ∨ m = 1 ∨ m = 2 ∨ m = 3 ∨ m = 4 ∨ m = 5 ∨ m = 6 ∨ m = 7 ∨ m = 8 ∨ m = 9) with rfl | rfl | rfl | rfl | rfl | rfl | rfl | rfl | rfl | rfl
    · have cA := sb_map (S0.kp (Kp.refl wc).drew) p3 f3 s (by have := HH.out.2.2.2.1; omega)
      have cD : Aside (∀ v' C' E', SB9 W w X v bt p pm pool (o + 600) M C Z root br bf L fr b9 R Q Y v' C' E' → Calls Tryz.prog 30 #[.pointer (some ⟨br, 0, none⟩), .int .u64 (p3 : Int), .int .i64 f3, .agg #[.bool R, .bool Q, .bool Y], .int .i64 s] v' fun e w' => ∃ yy, e = .returned (.int .i64 yy) ∧ ∃ L' fr', SWk W w X v bt p pm pool (o + 600) M C Z root br bf L fr w' C' E' L' fr' ∧ DMap false L fr p3 f3 R Q Y s yy L' fr' ∧ PX w' b9 R Q Y) := fun v' C' E' h => sb_dmap h p3 HPp.out f3 s (by have := HH.out.2.1; omega) (by have := HH.out.2.2.1; omega)
      go_wp2_with fail
      go_region_held3 (fun v => v.cell? ⟨b9, 0, none⟩ = some (.bool R) ∧ v.cell? ⟨b9, 1, none⟩ = some (.bool Q) ∧ v.cell? ⟨b9, 2, none⟩ = some (.bool Y))
        (first | exact ⟨S0.px.c0, S0.px.c1, S0.px.c2⟩ | exact ⟨px5.c0, px5.c1, px5.c2⟩ | exact ⟨S4.px.c0, S4.px.c1, S4.px.c2⟩)
        (first | (go_at_call 21; with_reducible refine cA.mono ?_; rintro e w4 ⟨xx, rfl, C', E', S4, hx, hp⟩) | (go_at_call 30; with_reducible refine (cD.out _ _ _ S4).mono ?_; rintro e w5 ⟨yy, rfl, L', fr', S5, hd, px5⟩))
      have HR : Hid (SQ W w X v bt p pm pool (o + 600) M C Z root br bf E L fr xx yy 0 0 w5) := ⟨C', E', L', fr', S5, p3, f3, R, Q, Y, s, HPp.out, .inl ⟨hx, hp, hd, rfl, rfl⟩⟩
      clear cA cD S0 S4 S5 hx hp hd px5
      go_wp2_with fail
      go_meet
      case rel => exact ⟨xx, yy, 0, 0, rfl, rfl, rfl, rfl, HR⟩
    · have cA := sb_map (S0.kp (Kp.refl wc).drew) p3 f3 s (by have := HH.out.2.2.2.1; omega)
      have cD : Aside (∀ v' C' E', SB9 W w X v bt p pm pool (o + 600) M C Z root br bf L fr b9 R Q Y v' C' E' → Calls Tryz.prog 30 #[.pointer (some ⟨br, 0, none⟩), .int .u64 (p3 : Int), .int .i64 f3, .agg #[.bool R, .bool Q, .bool Y], .int .i64 s] v' fun e w' => ∃ yy, e = .returned (.int .i64 yy) ∧ ∃ L' fr', SWk W w X v bt p pm pool (o + 600) M C Z root br bf L fr w' C' E' L' fr' ∧ DMap false L fr p3 f3 R Q Y s yy L' fr' ∧ PX w' b9 R Q Y) := fun v' C' E' h => sb_dmap h p3 HPp.out f3 s (by have := HH.out.2.1; omega) (by have := HH.out.2.2.1; omega)
      go_wp2_with fail
      go_region_held3 (fun v => v.cell? ⟨b9, 0, none⟩ = some (.bool R) ∧ v.cell? ⟨b9, 1, none⟩ = some (.bool Q) ∧ v.cell? ⟨b9, 2, none⟩ = some (.bool Y))
        (first | exact ⟨S0.px.c0, S0.px.c1, S0.px.c2⟩ | exact ⟨px5.c0, px5.c1, px5.c2⟩ | exact ⟨S4.px.c0, S4.px.c1, S4.px.c2⟩)
        (first | (go_at_call 21; with_reducible refine cA.mono ?_; rintro e w4 ⟨xx, rfl, C', E', S4, hx, hp⟩) | (go_at_call 30; with_reducible refine (cD.out _ _ _ S4).mono ?_; rintro e w5 ⟨yy, rfl, L', fr', S5, hd, px5⟩))
      have HR : Hid (SQ W w X v bt p pm pool (o + 600) M C Z root br bf E L fr xx yy 0 0 w5) := ⟨C', E', L', fr', S5, p3, f3, R, Q, Y, s, HPp.out, .inl ⟨hx, hp, hd, rfl, rfl⟩⟩
      clear cA cD S0 S4 S5 hx hp hd px5
      go_wp2_with fail
      go_meet
      case rel => exact ⟨xx, yy, 0, 0, rfl, rfl, rfl, rfl, HR⟩
    · have cA := sb_map (S0.kp (Kp.refl wc).drew) p3 f3 s (by have := HH.out.2.2.2.1; omega)
      have cD : Aside (∀ v' C' E', SB9 W w X v bt p pm pool (o + 600) M C Z root br bf L fr b9 R Q Y v' C' E' → Calls Tryz.prog 30 #[.pointer (some ⟨br, 0, none⟩), .int .u64 (p3 : Int), .int .i64 f3, .agg #[.bool R, .bool Q, .bool Y], .int .i64 s] v' fun e w' => ∃ yy, e = .returned (.int .i64 yy) ∧ ∃ L' fr', SWk W w X v bt p pm pool (o + 600) M C Z root br bf L fr w' C' E' L' fr' ∧ DMap false L fr p3 f3 R Q Y s yy L' fr' ∧ PX w' b9 R Q Y) := fun v' C' E' h => sb_dmap h p3 HPp.out f3 s (by have := HH.out.2.1; omega) (by have := HH.out.2.2.1; omega)
      go_wp2_with fail
      go_region_held3 (fun v => v.cell? ⟨b9, 0, none⟩ = some (.bool R) ∧ v.cell? ⟨b9, 1, none⟩ = some (.bool Q) ∧ v.cell? ⟨b9, 2, none⟩ = some (.bool Y))
        (first | exact ⟨S0.px.c0, S0.px.c1, S0.px.c2⟩ | exact ⟨px5.c0, px5.c1, px5.c2⟩ | exact ⟨S4.px.c0, S4.px.c1, S4.px.c2⟩)
        (first | (go_at_call 21; with_reducible refine cA.mono ?_; rintro e w4 ⟨xx, rfl, C', E', S4, hx, hp⟩) | (go_at_call 30; with_reducible refine (cD.out _ _ _ S4).mono ?_; rintro e w5 ⟨yy, rfl, L', fr', S5, hd, px5⟩))
      have HR : Hid (SQ W w X v bt p pm pool (o + 600) M C Z root br bf E L fr xx yy 0 0 w5) := ⟨C', E', L', fr', S5, p3, f3, R, Q, Y, s, HPp.out, .inl ⟨hx, hp, hd, rfl, rfl⟩⟩
      clear cA cD S0 S4 S5 hx hp hd px5
      go_wp2_with fail
      go_meet
      case rel => exact ⟨xx, yy, 0, 0, rfl, rfl, rfl, rfl, HR⟩
    · have cA := sb_mapb (S0.kp (Kp.refl wc).drew) p3 f3 s (by have := HH.out.2.2.2.1; omega)
      have cD : Aside (∀ v' C' E', SB9 W w X v bt p pm pool (o + 600) M C Z root br bf L fr b9 R Q Y v' C' E' → Calls Tryz.prog 32 #[.pointer (some ⟨br, 0, none⟩), .int .u64 (p3 : Int), .int .i64 f3, .agg #[.bool R, .bool Q, .bool Y], .int .i64 s] v' fun e w' => ∃ yy, e = .returned (.int .i64 yy) ∧ ∃ L' fr', SWk W w X v bt p pm pool (o + 600) M C Z root br bf L fr w' C' E' L' fr' ∧ DMpb false L fr p3 f3 R Q Y s yy L' fr' ∧ PX w' b9 R Q Y) := fun v' C' E' h => sb_dmapb h p3 f3 s (by have := HH.out.2.1; omega) (by have := HH.out.2.2.1; omega)
      go_wp2_with fail
      go_region_held3 (fun v => v.cell? ⟨b9, 0, none⟩ = some (.bool R) ∧ v.cell? ⟨b9, 1, none⟩ = some (.bool Q) ∧ v.cell? ⟨b9, 2, none⟩ = some (.bool Y))
        (first | exact ⟨S0.px.c0, S0.px.c1, S0.px.c2⟩ | exact ⟨px5.c0, px5.c1, px5.c2⟩ | exact ⟨S4.px.c0, S4.px.c1, S4.px.c2⟩)
        (first | (go_at_call 31; with_reducible refine cA.mono ?_; rintro e w4 ⟨xx, rfl, C', E', S4, hx, hp⟩) | (go_at_call 32; with_reducible refine (cD.out _ _ _ S4).mono ?_; rintro e w5 ⟨yy, rfl, L', fr', S5, hd, px5⟩))
      have HR : Hid (SQ W w X v bt p pm pool (o + 600) M C Z root br bf E L fr xx yy 0 0 w5) := ⟨C', E', L', fr', S5, p3, f3, R, Q, Y, s, HPp.out, .inr (.inl ⟨hx, hp, hd, rfl, rfl⟩)⟩
      clear cA cD S0 S4 S5 hx hp hd px5
      go_wp2_with fail
      go_meet
      case rel => exact ⟨xx, yy, 0, 0, rfl, rfl, rfl, rfl, HR⟩
    · have cA := sb_unmap S0 p3 (by have := HH.out.2.2.2.1; omega)
      have cD : Aside (∀ v' C' E', SB9 W w X v bt p pm pool (o + 600) M C Z root br bf L fr b9 R Q Y v' C' E' → Calls Tryz.prog 33 #[.pointer (some ⟨br, 0, none⟩), .int .u64 (p3 : Int)] v' fun e w' => ∃ (fy : Nat) (yy : Int), e = .returned (.tuple #[.int .i64 (fy : Int), .int .i64 yy]) ∧ ∃ L' fr', SWk W w X v bt p pm pool (o + 600) M C Z root br bf L fr w' C' E' L' fr' ∧ DUnm false L fr p3 fy yy L' fr' ∧ PX w' b9 R Q Y) := fun v' C' E' h => sb_dunmap h p3 HPp.out (by have := HH.out.2.1; omega) (by have := HH.out.2.2.1; omega)
      clear S0
      go_wp2_with fail
      with_reducible refine cA.mono ?_
      rintro e w4 ⟨fx, xx, rfl, C', E', S4, hx, hp⟩
      have cD4 := cD.out _ _ _ S4
      have HX : Hid (Sam xx (unR pool C E p3) ∧ PUnm pool C Z root E p3 fx xx C' E') := ⟨hx, hp⟩
      clear cA cD S4 hx hp
      go_wp2_with fail
      with_reducible refine cD4.mono ?_
      rintro e w5 ⟨fy, yy, rfl, L', fr', S5, hd, _⟩
      have HR : Hid (SQ W w X v bt p pm pool (o + 600) M C Z root br bf E L fr xx yy fx fy w5) := ⟨C', E', L', fr', S5, p3, f3, R, Q, Y, s, HPp.out, .inr (.inr (.inl ⟨fx, fy, rfl, rfl, HX.out.1, HX.out.2, hd⟩))⟩
      clear cD4 S5 hd HX
      go_wp2_with fail
      go_meet
      case rel => exact ⟨xx, yy, (fx : Int), (fy : Int), rfl, rfl, rfl, rfl, HR⟩
    · have cA := sb_unmap S0 p3 (by have := HH.out.2.2.2.1; omega)
      have cD : Aside (∀ v' C' E', SB9 W w X v bt p pm pool (o + 600) M C Z root br bf L fr b9 R Q Y v' C' E' → Calls Tryz.prog 33 #[.pointer (some ⟨br, 0, none⟩), .int .u64 (p3 : Int)] v' fun e w' => ∃ (fy : Nat) (yy : Int), e = .returned (.tuple #[.int .i64 (fy : Int), .int .i64 yy]) ∧ ∃ L' fr', SWk W w X v bt p pm pool (o + 600) M C Z root br bf L fr w' C' E' L' fr' ∧ DUnm false L fr p3 fy yy L' fr' ∧ PX w' b9 R Q Y) := fun v' C' E' h => sb_dunmap h p3 HPp.out (by have := HH.out.2.1; omega) (by have := HH.out.2.2.1; omega)
      clear S0
      go_wp2_with fail
      with_reducible refine cA.mono ?_
      rintro e w4 ⟨fx, xx, rfl, C', E', S4, hx, hp⟩
      have cD4 := cD.out _ _ _ S4
      have HX : Hid (Sam xx (unR pool C E p3) ∧ PUnm pool C Z root E p3 fx xx C' E') := ⟨hx, hp⟩
      clear cA cD S4 hx hp
      go_wp2_with fail
      with_reducible refine cD4.mono ?_
      rintro e w5 ⟨fy, yy, rfl, L', fr', S5, hd, _⟩
      have HR : Hid (SQ W w X v bt p pm pool (o + 600) M C Z root br bf E L fr xx yy fx fy w5) := ⟨C', E', L', fr', S5, p3, f3, R, Q, Y, s, HPp.out, .inr (.inr (.inl ⟨fx, fy, rfl, rfl, HX.out.1, HX.out.2, hd⟩))⟩
      clear cD4 S5 hd HX
      go_wp2_with fail
      go_meet
      case rel => exact ⟨xx, yy, (fx : Int), (fy : Int), rfl, rfl, rfl, rfl, HR⟩
    · have cA := sb_prot (S0.kp (Kp.refl wc).drew) p3 s (by have := HH.out.2.2.2.1; omega)
      have cD : Aside (∀ v' C' E', SB9 W w X v bt p pm pool (o + 600) M C Z root br bf L fr b9 R Q Y v' C' E' → Calls Tryz.prog 35 #[.pointer (some ⟨br, 0, none⟩), .int .u64 (p3 : Int), .agg #[.bool R, .bool Q, .bool Y], .int .i64 s] v' fun e w' => ∃ yy, e = .returned (.int .i64 yy) ∧ ∃ L' fr', SWk W w X v bt p pm pool (o + 600) M C Z root br bf L fr w' C' E' L' fr' ∧ DPro false L fr p3 R Q Y s yy L' fr' ∧ PX w' b9 R Q Y) := fun v' C' E' h => sb_dprot h p3 HPp.out s (by have := HH.out.2.1; omega) (by have := HH.out.2.2.1; omega)
      go_wp2_with fail
      go_region_held3 (fun v => v.cell? ⟨b9, 0, none⟩ = some (.bool R) ∧ v.cell? ⟨b9, 1, none⟩ = some (.bool Q) ∧ v.cell? ⟨b9, 2, none⟩ = some (.bool Y))
        (first | exact ⟨S0.px.c0, S0.px.c1, S0.px.c2⟩ | exact ⟨px5.c0, px5.c1, px5.c2⟩ | exact ⟨S4.px.c0, S4.px.c1, S4.px.c2⟩)
        (first | (go_at_call 34; with_reducible refine cA.mono ?_; rintro e w4 ⟨xx, rfl, C', E', S4, hx, hp⟩) | (go_at_call 35; with_reducible refine (cD.out _ _ _ S4).mono ?_; rintro e w5 ⟨yy, rfl, L', fr', S5, hd, px5⟩))
      have HR : Hid (SQ W w X v bt p pm pool (o + 600) M C Z root br bf E L fr xx yy 0 0 w5) := ⟨C', E', L', fr', S5, p3, f3, R, Q, Y, s, HPp.out, .inr (.inr (.inr (.inl ⟨hx, hp, hd, rfl, rfl⟩)))⟩
      clear cA cD S0 S4 S5 hx hp hd px5
      go_wp2_with fail
      go_meet
      case rel => exact ⟨xx, yy, 0, 0, rfl, rfl, rfl, rfl, HR⟩
    · have cA := sb_split S0 p3 (by have := HH.out.2.2.2.1; omega)
      have cD : Aside (∀ v' C' E', SB9 W w X v bt p pm pool (o + 600) M C Z root br bf L fr b9 R Q Y v' C' E' → Calls Tryz.prog 37 #[.pointer (some ⟨br, 0, none⟩), .int .u64 (p3 : Int)] v' fun e w' => ∃ yy, e = .returned (.int .i64 yy) ∧ ∃ L' fr', SWk W w X v bt p pm pool (o + 600) M C Z root br bf L fr w' C' E' L' fr' ∧ DSpl false L fr p3 yy L' fr' ∧ PX w' b9 R Q Y) := fun v' C' E' h => sb_dsplit h p3 HPp.out (by have := HH.out.2.1; omega) (by have := HH.out.2.2.1; omega)
      clear S0
      go_wp2_with fail
      with_reducible refine cA.mono ?_
      rintro e w4 ⟨xx, rfl, C', E', S4, hx, hp⟩
      have cD4 := cD.out _ _ _ S4
      have HX : Hid (Sam xx (spP pool C E p3) ∧ PSpl pool C E p3 xx C' E') := ⟨hx, hp⟩
      clear cA cD S4 hx hp
      go_wp2_with fail
      with_reducible refine cD4.mono ?_
      rintro e w5 ⟨yy, rfl, L', fr', S5, hd, _⟩
      have HR : Hid (SQ W w X v bt p pm pool (o + 600) M C Z root br bf E L fr xx yy 0 0 w5) := ⟨C', E', L', fr', S5, p3, f3, R, Q, Y, s, HPp.out, .inr (.inr (.inr (.inr (.inl ⟨HX.out.1, HX.out.2, hd, rfl, rfl⟩))))⟩
      clear cD4 S5 hd HX
      go_wp2_with fail
      go_meet
      case rel => exact ⟨xx, yy, 0, 0, rfl, rfl, rfl, rfl, HR⟩
    · have cA := sb_join S0 p3 (by have := HH.out.2.2.2.1; omega)
      have cD : Aside (∀ v' C' E', SB9 W w X v bt p pm pool (o + 600) M C Z root br bf L fr b9 R Q Y v' C' E' → Calls Tryz.prog 39 #[.pointer (some ⟨br, 0, none⟩), .int .u64 (p3 : Int)] v' fun e w' => ∃ yy, e = .returned (.int .i64 yy) ∧ ∃ L' fr', SWk W w X v bt p pm pool (o + 600) M C Z root br bf L fr w' C' E' L' fr' ∧ DJoi false L fr p3 yy L' fr' ∧ PX w' b9 R Q Y) := fun v' C' E' h => sb_djoin h p3 HPp.out (by have := HH.out.2.1; omega) (by have := HH.out.2.2.1; omega)
      clear S0
      go_wp2_with fail
      with_reducible refine cA.mono ?_
      rintro e w4 ⟨xx, rfl, C', E', S4, hp⟩
      have cD4 := cD.out _ _ _ S4
      have HX : Hid (PJoi pool C E p3 xx C' E') := hp
      clear cA cD S4 hp
      go_wp2_with fail
      with_reducible refine cD4.mono ?_
      rintro e w5 ⟨yy, rfl, L', fr', S5, hd, _⟩
      have HR : Hid (SQ W w X v bt p pm pool (o + 600) M C Z root br bf E L fr xx yy 0 0 w5) := ⟨C', E', L', fr', S5, p3, f3, R, Q, Y, s, HPp.out, .inr (.inr (.inr (.inr (.inr (.inl ⟨HX.out, hd, rfl, rfl⟩)))))⟩
      clear cD4 S5 hd HX
      go_wp2_with fail
      go_meet
      case rel => exact ⟨xx, yy, 0, 0, rfl, rfl, rfl, rfl, HR⟩
    · have HR : Hid (SQ W w X v bt p pm pool (o + 600) M C Z root br bf E L fr 0 0 0 0 wc) := S0.idle (by omega) p3 HPp.out
      clear S0
      go_wp2_with fail
      go_meet
      case rel => exact ⟨0, 0, 0, 0, rfl, rfl, rfl, rfl, HR⟩
  case rest =>
    obtain ⟨xx, yy, aa, bb, rfl, rfl, rfl, rfl, HR⟩ := hcut
    clear H5
    rename_i hK
    exact hK _ _ (step_tail HH.out HPp.out HR.out)

end Go.Proofs.YtanlcmdnhhdhaaaGreatDoor
