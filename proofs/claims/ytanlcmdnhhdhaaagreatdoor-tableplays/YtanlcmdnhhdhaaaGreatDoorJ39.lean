/- Joined: R78, R79. -/
import Derived.Test.YtanlcmdnhhdhaaaGreatDoorJ38
import Derived.Test.YtanlcmdnhhdhaaaGreatDoorJ04
/- demesnelaw13.step, over any two that tell the same: what it calls. (Laid by gen_r78.py.) -/
namespace Go.Proofs.YtanlcmdnhhdhaaaGreatDoor
open Go.RowKit
set_option maxRecDepth 10000

/-- What step calls: the two tell the same at each. K0: ahead of the switch, K1: between its two calls, J0: behind it, J1, J2, J3: between the questions, JE: at the end. -/
structure SWC (bt br b9 p3 : Nat) (f3 s : Int) (R Q Y : Bool) (m : Nat) (fm : Int) (w : World) (K0 : World → Prop) (K1 : Int → Int → World → Prop) (J0 : World → Prop) (J1 J2 J3 : LV → Bool → Int → World → Prop) (JE : World → Prop) : Prop where
  start : ∀ v, Kp w v → PX v b9 R Q Y → K0 v
  px : ∀ v, K0 v → PX v b9 R Q Y
  kp : ∀ v v', K0 v → Kp v v' → K0 v'
  map : m < 3 → ∀ v, K0 v → Calls Tryz.prog 21 #[.pointer (some ⟨bt, 0, none⟩), .int .u64 (p3 : Int), .int .i64 f3, .agg #[.bool R, .bool Q, .bool Y], .int .i64 s] v fun e w' => ∃ xx, e = .returned (.int .i64 xx) ∧ K1 xx 0 w' ∧ PX w' b9 R Q Y
  rmap : m < 3 → ∀ v xx, K1 xx 0 v → Calls Tryz.prog 30 #[.pointer (some ⟨br, 0, none⟩), .int .u64 (p3 : Int), .int .i64 f3, .agg #[.bool R, .bool Q, .bool Y], .int .i64 s] v fun e w' => e = .returned (.int .i64 xx) ∧ J0 w' ∧ PX w' b9 R Q Y
  mapb : m = 3 → ∀ v, K0 v → Calls Tryz.prog 31 #[.pointer (some ⟨bt, 0, none⟩), .int .u64 (p3 : Int), .int .i64 f3, .agg #[.bool R, .bool Q, .bool Y], .int .i64 s] v fun e w' => ∃ xx, e = .returned (.int .i64 xx) ∧ K1 xx 0 w' ∧ PX w' b9 R Q Y
  rmapb : m = 3 → ∀ v xx, K1 xx 0 v → Calls Tryz.prog 32 #[.pointer (some ⟨br, 0, none⟩), .int .u64 (p3 : Int), .int .i64 f3, .agg #[.bool R, .bool Q, .bool Y], .int .i64 s] v fun e w' => e = .returned (.int .i64 xx) ∧ J0 w' ∧ PX w' b9 R Q Y
  prot : m = 6 → ∀ v, K0 v → Calls Tryz.prog 34 #[.pointer (some ⟨bt, 0, none⟩), .int .u64 (p3 : Int), .agg #[.bool R, .bool Q, .bool Y], .int .i64 s] v fun e w' => ∃ xx, e = .returned (.int .i64 xx) ∧ K1 xx 0 w' ∧ PX w' b9 R Q Y
  rprot : m = 6 → ∀ v xx, K1 xx 0 v → Calls Tryz.prog 35 #[.pointer (some ⟨br, 0, none⟩), .int .u64 (p3 : Int), .agg #[.bool R, .bool Q, .bool Y], .int .i64 s] v fun e w' => e = .returned (.int .i64 xx) ∧ J0 w' ∧ PX w' b9 R Q Y
  split : m = 7 → ∀ v, K0 v → Calls Tryz.prog 36 #[.pointer (some ⟨bt, 0, none⟩), .int .u64 (p3 : Int)] v fun e w' => ∃ xx, e = .returned (.int .i64 xx) ∧ K1 xx 0 w'
  rsplit : m = 7 → ∀ v xx, K1 xx 0 v → Calls Tryz.prog 37 #[.pointer (some ⟨br, 0, none⟩), .int .u64 (p3 : Int)] v fun e w' => e = .returned (.int .i64 xx) ∧ J0 w'
  join : m = 8 → ∀ v, K0 v → Calls Tryz.prog 38 #[.pointer (some ⟨bt, 0, none⟩), .int .u64 (p3 : Int)] v fun e w' => ∃ xx, e = .returned (.int .i64 xx) ∧ K1 xx 0 w'
  rjoin : m = 8 → ∀ v xx, K1 xx 0 v → Calls Tryz.prog 39 #[.pointer (some ⟨br, 0, none⟩), .int .u64 (p3 : Int)] v fun e w' => e = .returned (.int .i64 xx) ∧ J0 w'
  free : m = 10 → bits .and .i64 fm 15 = 0 → ∀ v, K0 v → Calls Tryz.prog 25 #[.pointer (some ⟨bt, 0, none⟩)] v fun e w' => ∃ xx, e = .returned (.int .i64 xx) ∧ K1 xx 0 w'
  rfree : m = 10 → bits .and .i64 fm 15 = 0 → ∀ v xx, K1 xx 0 v → Calls Tryz.prog 40 #[.pointer (some ⟨br, 0, none⟩)] v fun e w' => e = .returned (.int .i64 xx) ∧ J0 w'
  unmap : (m = 4 ∨ m = 5) → ∀ v, K0 v → Calls Tryz.prog 23 #[.pointer (some ⟨bt, 0, none⟩), .int .u64 (p3 : Int)] v fun e w' => ∃ fx xx, e = .returned (.tuple #[.int .i64 fx, .int .i64 xx]) ∧ K1 xx fx w'
  runmap : (m = 4 ∨ m = 5) → ∀ v xx fx, K1 xx fx v → Calls Tryz.prog 33 #[.pointer (some ⟨br, 0, none⟩), .int .u64 (p3 : Int)] v fun e w' => e = .returned (.tuple #[.int .i64 fx, .int .i64 xx]) ∧ J0 w'
  idle : (m = 9 ∨ (m = 10 ∧ bits .and .i64 fm 15 ≠ 0)) → ∀ v, K0 v → J0 v
  get : ∀ v, J0 v → ∃ u z n, Calls Tryz.prog 18 #[.pointer (some ⟨bt, 0, none⟩), .int .u64 (p3 : Int)] v fun e w' => e = .returned (.tuple #[lvV u, .bool z]) ∧ J1 u z n w'
  k1 : ∀ u z n v v', J1 u z n v → Kp v v' → J1 u z n v'
  rget : ∀ u z n v, J1 u z n v → Calls Tryz.prog 41 #[.pointer (some ⟨br, 0, none⟩), .int .u64 (p3 : Int)] v fun e w' => e = .returned (.tuple #[lvV u, .bool z]) ∧ J2 u z n w' ∧ Kp v w'
  k2 : ∀ u z n v v', J2 u z n v → Kp v v' → J2 u z n v'
  need : ∀ u z n v, J2 u z n v → Calls Tryz.prog 42 #[.pointer (some ⟨bt, 0, none⟩), .int .u64 (p3 : Int)] v fun e w' => e = .returned (.int .i64 n) ∧ J3 u z n w'
  rneed : ∀ u z n v, J3 u z n v → Calls Tryz.prog 43 #[.pointer (some ⟨br, 0, none⟩), .int .u64 (p3 : Int)] v fun e w' => e = .returned (.int .i64 n) ∧ JE w'
set_option maxHeartbeats 16000000 in
theorem gtail {w wc : World} {bt br b5 b9 p3 : Nat} {f3 s : Int} {R Q Y : Bool} {kd fm sf : Int} {pg : Nat} {r q x raw : Bool} {m : Nat} {K0 : World → Prop} {K1 : Int → Int → World → Prop} {J0 : World → Prop} {J1 J2 J3 : LV → Bool → Int → World → Prop} {JE : World → Prop} {xx aa : Int} {u64 u15 u16 u17 u18 u23 u24 u25 u26 u27 u28 u29 u30 u31 u32 u33 u34 u35 u36 u37 u38 u39 u40 u41 u42 u43 u44 u45 u46 u47 u48 u49 u50 u51 u52 u53 u54 u55 u56 u57 u58 u59 u60 u61 u62 u63 u65 u66 u67 u68 u69 u71 u72 u73 u74 u75 u76 u77 u78 u79 u80 u81 u82 u83 u84 u85 u86 u87 u88 u89 u90 u91 u92 u93 u94 u95 u96 u97 u98 u99 u100 u101 u102 u103 u104 u105 u106 u107 u108 u109 u110 u111 u112 u113 u114 u115 u116 u117 u118 u119 u120 u121 u122 u123 u124 u125 u126 u127 u128 u129 u130 u131 u132 u133 u134 u135 u136 u137 u138 u139 u140 u141 u142 u143 u144 u145 u146 u147 u148 u149 u150 u151 u152 u153 u154 u155 u156 u157 u158 u159 u160 u161 u162 u163 u164 u165 u166 u167 u168 u169 u170 u171 u172 u173 u174 u175 u176 u177 u178 u179 u180 u181 u182 u183 u184 u185 u186 u187 u188 u189 u190 u191 u192 u193 u194 u195 u196 u197 u198 u199 u200 u201 u202 u203 u204 u205 u206 : Value} (hs : SWC bt br b9 p3 f3 s R Q Y m fm w K0 K1 J0 J1 J2 J3 JE) (h0 : J0 wc) :
    Code.wp Tryz.prog (sB (sB (sB (sB (sB (sB (sB (sB (sB (sB (bodyC Tryz.f9)))))))))))
      (bodyPost Tryz.prog Tryz.f9 fun e w' => e = .returned (.bool true) ∧ JE w')
      { tmps := #[Value.pointer (some { block := bt, off := 0 }), Value.pointer (some { block := br, off := 0 }), Value.agg #[Value.int IntKind.i64 kd, Value.int IntKind.i64 fm, Value.int IntKind.i64 sf, Value.int IntKind.u64 ↑pg, Value.bool r, Value.bool q, Value.bool x, Value.bool raw], undef, undef, Value.pointer (some { block := b5, off := 0 }), Value.bool false, Value.int IntKind.u64 ↑p3, Value.int IntKind.i64 f3, Value.pointer (some { block := b9, off := 0 }), Value.int IntKind.i64 s, Value.int IntKind.i64 xx, Value.int IntKind.i64 xx, Value.int IntKind.i64 aa, Value.int IntKind.i64 aa, u15, u16, u17, u18, undef, undef, undef, undef, u23, u24, u25, u26, u27, u28, u29, u30, u31, u32, u33, u34, u35, u36, u37, u38, u39, u40, u41, u42, u43, u44, u45, u46, u47, u48, u49, u50, u51, u52, u53, u54, u55, u56, u57, u58, u59, u60, u61, u62, u63, u64, u65, u66, u67, u68, u69, Value.int IntKind.i64 ↑m, u71, u72, u73, u74, u75, u76, u77, u78, u79, u80, u81, u82, u83, u84, u85, u86, u87, u88, u89, u90, u91, u92, u93, u94, u95, u96, u97, u98, u99, u100, u101, u102, u103, u104, u105, u106, u107, u108, u109, u110, u111, u112, u113, u114, u115, u116, u117, u118, u119, u120, u121, u122, u123, u124, u125, u126, u127, u128, u129, u130, u131, u132, u133, u134, u135, u136, u137, u138, u139, u140, u141, u142, u143, u144, u145, u146, u147, u148, u149, u150, u151, u152, u153, u154, u155, u156, u157, u158, u159, u160, u161, u162, u163, u164, u165, u166, u167, u168, u169, u170, u171, u172, u173, u174, u175, u176, u177, u178, u179, u180, u181, u182, u183, u184, u185, u186, u187, u188, u189, u190, u191, u192, u193, u194, u195, u196, u197, u198, u199, u200, u201, u202, u203, u204, u205, u206], defers := [] } wc := by
  have HS : Hid (SWC bt br b9 p3 f3 s R Q Y m fm w K0 K1 J0 J1 J2 J3 JE) := hs
  obtain ⟨u, z1, n1, cA⟩ := hs.get _ h0
  unfold lvV at cA
  clear hs h0
  conv => arg 2; whnf
  go_wp2_with fail
  with_reducible refine cA.mono ?_
  rintro e w6 ⟨rfl, S6⟩
  have S7 := HS.out.k1 _ _ _ _ _ S6 ((Kp.refl w6).alloc (.cells #[.int .u64 (u.g : Int), .int .i64 (u.x : Int), .bool u.r, .bool u.q, .bool u.e, .int .i64 u.f, .int .i64 (u.l : Int)] 58))
  have R7 := heap_alloc_new w6 (.cells #[.int .u64 (u.g : Int), .int .i64 (u.x : Int), .bool u.r, .bool u.q, .bool u.e, .int .i64 u.f, .int .i64 (u.l : Int)] 58)
  have cB := HS.out.rget _ _ _ _ S7
  unfold lvV at cB
  clear S6 cA S7
  go_wp2_with fail
  generalize w6.alloc (.cells #[.int .u64 (u.g : Int), .int .i64 (u.x : Int), .bool u.r, .bool u.q, .bool u.e, .int .i64 u.f, .int .i64 (u.l : Int)] 58) = w7 at *
  generalize w6.heap.size = b19 at *
  with_reducible refine cB.mono ?_
  rintro e w8 ⟨rfl, S8, k8⟩
  have R8 : w8.heap[b19]? = some (.cells #[.int .u64 (u.g : Int), .int .i64 (u.x : Int), .bool u.r, .bool u.q, .bool u.e, .int .i64 u.f, .int .i64 (u.l : Int)] 58 (0, 0)) := (k8.block b19 (Array.getElem?_eq_some_iff.1 R7).1).trans R7
  have kA := (Kp.refl w8).alloc (.cells #[.int .u64 (u.g : Int), .int .i64 (u.x : Int), .bool u.r, .bool u.q, .bool u.e, .int .i64 u.f, .int .i64 (u.l : Int)] 93)
  have S9 := HS.out.k2 _ _ _ _ _ S8 kA
  have R9 := (kA.block b19 (Array.getElem?_eq_some_iff.1 R8).1).trans R8
  have q0 : (w8.alloc (.cells #[.int .u64 (u.g : Int), .int .i64 (u.x : Int), .bool u.r, .bool u.q, .bool u.e, .int .i64 u.f, .int .i64 (u.l : Int)] 93)).cell? ⟨b19, 0, none⟩ = some (.int .u64 (u.g : Int)) := by rw [cell_of_row _ _ 0 _ _ _ R9]; rfl
  have q1 : (w8.alloc (.cells #[.int .u64 (u.g : Int), .int .i64 (u.x : Int), .bool u.r, .bool u.q, .bool u.e, .int .i64 u.f, .int .i64 (u.l : Int)] 93)).cell? ⟨b19, 1, none⟩ = some (.int .i64 (u.x : Int)) := by rw [cell_of_row _ _ 1 _ _ _ R9]; rfl
  have q2 : (w8.alloc (.cells #[.int .u64 (u.g : Int), .int .i64 (u.x : Int), .bool u.r, .bool u.q, .bool u.e, .int .i64 u.f, .int .i64 (u.l : Int)] 93)).cell? ⟨b19, 2, none⟩ = some (.bool u.r) := by rw [cell_of_row _ _ 2 _ _ _ R9]; rfl
  have q3 : (w8.alloc (.cells #[.int .u64 (u.g : Int), .int .i64 (u.x : Int), .bool u.r, .bool u.q, .bool u.e, .int .i64 u.f, .int .i64 (u.l : Int)] 93)).cell? ⟨b19, 3, none⟩ = some (.bool u.q) := by rw [cell_of_row _ _ 3 _ _ _ R9]; rfl
  have q4 : (w8.alloc (.cells #[.int .u64 (u.g : Int), .int .i64 (u.x : Int), .bool u.r, .bool u.q, .bool u.e, .int .i64 u.f, .int .i64 (u.l : Int)] 93)).cell? ⟨b19, 4, none⟩ = some (.bool u.e) := by rw [cell_of_row _ _ 4 _ _ _ R9]; rfl
  have q5 : (w8.alloc (.cells #[.int .u64 (u.g : Int), .int .i64 (u.x : Int), .bool u.r, .bool u.q, .bool u.e, .int .i64 u.f, .int .i64 (u.l : Int)] 93)).cell? ⟨b19, 5, none⟩ = some (.int .i64 u.f) := by rw [cell_of_row _ _ 5 _ _ _ R9]; rfl
  have q6 : (w8.alloc (.cells #[.int .u64 (u.g : Int), .int .i64 (u.x : Int), .bool u.r, .bool u.q, .bool u.e, .int .i64 u.f, .int .i64 (u.l : Int)] 93)).cell? ⟨b19, 6, none⟩ = some (.int .i64 (u.l : Int)) := by rw [cell_of_row _ _ 6 _ _ _ R9]; rfl
  have hq : ∀ w : World, (Op.equalIn 10000 58 (.agg #[.int .u64 (u.g : Int), .int .i64 (u.x : Int), .bool u.r, .bool u.q, .bool u.e, .int .i64 u.f, .int .i64 (u.l : Int)]) (.agg #[.int .u64 (u.g : Int), .int .i64 (u.x : Int), .bool u.r, .bool u.q, .bool u.e, .int .i64 u.f, .int .i64 (u.l : Int)])).run Tryz.prog w = .ok true w := fun w => by rw [eq_leaf]; simp [samP]
  have d1 : (xx == xx) = true := beq_iff_eq.2 rfl
  have d2 : (aa == aa) = true := beq_iff_eq.2 rfl
  have d3 : (z1 == z1) = true := beq_iff_eq.2 rfl
  have d4 : (n1 == n1) = true := beq_iff_eq.2 rfl
  have cN := HS.out.need _ _ _ _ S9
  clear cB S8 k8 R7 R8 kA S9 R9
  go_wp2_with fail
  with_reducible refine cN.mono ?_
  rintro e wA ⟨rfl, SA⟩
  have cM := HS.out.rneed _ _ _ _ SA
  clear cN SA
  go_wp2_with fail
  with_reducible refine cM.mono ?_
  rintro e wB ⟨rfl, SB⟩
  have HB : Hid (JE wB) := SB
  clear cM SB
  go_wp2_with fail
  go_ret
  exact ⟨rfl, HB.out⟩

end Go.Proofs.YtanlcmdnhhdhaaaGreatDoor

/- demesnelaw13.step, over any two that tell the same: the switch. (Laid by gen_r78.py.) -/
namespace Go.Proofs.YtanlcmdnhhdhaaaGreatDoor
open Go.RowKit
set_option maxRecDepth 10000

set_option maxHeartbeats 16000000 in
theorem gswitch {w wc : World} {bt br b5 b9 p3 : Nat} {f3 s : Int} {R Q Y : Bool} {kd fm sf : Int} {pg : Nat} {r q x raw : Bool} {m : Nat} {K0 : World → Prop} {K1 : Int → Int → World → Prop} {J0 : World → Prop} {J1 J2 J3 : LV → Bool → Int → World → Prop} {JE : World → Prop} {u64 u23 u24 u25 u26 u27 u28 u29 u30 u31 u32 u33 u34 u35 u36 u37 u38 u39 u40 u41 u42 u43 u44 u45 u46 u47 u48 u49 u50 u51 u52 u53 u54 u55 u56 u57 u58 u59 u60 u61 u62 u63 u65 u66 u67 u68 u69 u72 u73 u74 u75 u76 u77 u78 u79 u80 u81 u82 u83 u84 u85 u86 u88 u89 u90 u91 u92 u93 u94 u95 u96 u97 u98 u99 u100 u102 u103 u104 u105 u106 u107 u108 u109 u110 u111 u112 u113 u114 u115 u116 u117 u118 u119 u121 u122 u123 u124 u125 u126 u127 u128 u129 u130 u131 u133 u134 u135 u136 u137 u138 u139 u141 u142 u143 u144 u145 u146 u147 u149 u150 u151 u152 u153 u154 u155 u156 u157 u158 u159 u160 u161 u162 u163 u164 u165 u166 u167 u168 u169 u170 u171 u172 u173 u174 u175 u176 u177 u178 u179 u180 u181 u182 u183 u184 u185 u186 u187 u188 u189 u190 u191 u192 u193 u194 u195 u196 u197 u198 u199 u200 u201 u202 u203 u204 u205 u206 : Value} (hs : SWC bt br b9 p3 f3 s R Q Y m fm w K0 K1 J0 J1 J2 J3 JE) (kw : Kp w wc) (ox : OPX wc b5 kd fm sf (pg : Int) r q x raw) (px : PX wc b9 R Q Y) {t : Int} (k1 : kd.tmod 11 = t) (k2 : -11 < t) (k3 : t < 11) (k4 : (t + 11).tmod 11 = (m : Int)) (k5 : m < 11) :
    Code.wp Tryz.prog (sB (sB (sB (sB (sB (sB (sB (sB (bodyC Tryz.f9)))))))))
      (bodyPost Tryz.prog Tryz.f9 fun e w' => e = .returned (.bool true) ∧ JE w')
      { tmps := #[Value.pointer (some { block := bt, off := 0 }), Value.pointer (some { block := br, off := 0 }), Value.agg #[Value.int IntKind.i64 kd, Value.int IntKind.i64 fm, Value.int IntKind.i64 sf, Value.int IntKind.u64 ↑pg, Value.bool r, Value.bool q, Value.bool x, Value.bool raw], undef, undef, Value.pointer (some { block := b5, off := 0 }), Value.bool false, Value.int IntKind.u64 ↑p3, Value.int IntKind.i64 f3, Value.pointer (some { block := b9, off := 0 }), Value.int IntKind.i64 s, undef, undef, undef, undef, undef, undef, undef, undef, undef, undef, undef, undef, u23, u24, u25, u26, u27, u28, u29, u30, u31, u32, u33, u34, u35, u36, u37, u38, u39, u40, u41, u42, u43, u44, u45, u46, u47, u48, u49, u50, u51, u52, u53, u54, u55, u56, u57, u58, u59, u60, u61, u62, u63, u64, u65, u66, u67, u68, u69, undef, undef, u72, u73, u74, u75, u76, u77, u78, u79, u80, u81, u82, u83, u84, u85, u86, undef, u88, u89, u90, u91, u92, u93, u94, u95, u96, u97, u98, u99, u100, undef, u102, u103, u104, u105, u106, u107, u108, u109, u110, u111, u112, u113, u114, u115, u116, u117, u118, u119, undef, u121, u122, u123, u124, u125, u126, u127, u128, u129, u130, u131, undef, u133, u134, u135, u136, u137, u138, u139, undef, u141, u142, u143, u144, u145, u146, u147, undef, u149, u150, u151, u152, u153, u154, u155, u156, u157, u158, u159, u160, u161, u162, u163, u164, u165, u166, u167, u168, u169, u170, u171, u172, u173, u174, u175, u176, u177, u178, u179, u180, u181, u182, u183, u184, u185, u186, u187, u188, u189, u190, u191, u192, u193, u194, u195, u196, u197, u198, u199, u200, u201, u202, u203, u204, u205, u206], defers := [] } wc := by
  have HS : Hid (SWC bt br b9 p3 f3 s R Q Y m fm w K0 K1 J0 J1 J2 J3 JE) := hs
  have S0 := hs.start _ kw px
  have c0 := ox.cells.1
  have cf := ox.cells.2.1
  clear hs kw ox px
  conv => arg 2; whnf
  go_upto_block 0 with fail
  go_cut [11, 12, 13, 14] (fun v11 v12 v13 v14 wx => ∃ xx aa : Int, v11 = .int .i64 xx ∧ v12 = .int .i64 xx ∧ v13 = .int .i64 aa ∧ v14 = .int .i64 aa ∧ Hid (J0 wx))
  case first =>
    rcases (by omega : m < 3 ∨ m = 3 ∨ m = 4 ∨ m = 5 ∨ m = 6 ∨ m = 7 ∨ m = 8 ∨ m = 9 ∨ m = 10) with hm | rfl | rfl | rfl | rfl | rfl | rfl | rfl | rfl
    · rcases (by omega : m = 0 ∨ m = 1 ∨ m = 2) with rfl | rfl | rfl
      · have cA := HS.out.map (by omega) _ (HS.out.kp _ _ S0 (Kp.refl wc).drew)
        have cD : Aside (∀ v xx, K1 xx 0 v → Calls Tryz.prog 30 #[.pointer (some ⟨br, 0, none⟩), .int .u64 (p3 : Int), .int .i64 f3, .agg #[.bool R, .bool Q, .bool Y], .int .i64 s] v fun e w' => e = .returned (.int .i64 xx) ∧ J0 w' ∧ PX w' b9 R Q Y) := HS.out.rmap (by omega)
        have P0 := HS.out.px _ S0
        clear cf
        go_wp2_with fail
        go_region_held3 (fun v => v.cell? ⟨b9, 0, none⟩ = some (.bool R) ∧ v.cell? ⟨b9, 1, none⟩ = some (.bool Q) ∧ v.cell? ⟨b9, 2, none⟩ = some (.bool Y))
          (first | exact ⟨P0.c0, P0.c1, P0.c2⟩ | exact ⟨P5.c0, P5.c1, P5.c2⟩ | exact ⟨P4.c0, P4.c1, P4.c2⟩)
          (first | (go_at_call 21; with_reducible refine cA.mono ?_; rintro e w4 ⟨xx, rfl, S4, P4⟩) | (go_at_call 30; with_reducible refine (cD.out _ _ S4).mono ?_; rintro e w5 ⟨rfl, S5, P5⟩))
        have HR : Hid (J0 w5) := S5
        clear cA cD S0 S4 S5 P0 P4 P5
        go_wp2_with fail
        go_meet
        case rel => exact ⟨xx, 0, rfl, rfl, rfl, rfl, HR⟩
      · have cA := HS.out.map (by omega) _ (HS.out.kp _ _ S0 (Kp.refl wc).drew)
        have cD : Aside (∀ v xx, K1 xx 0 v → Calls Tryz.prog 30 #[.pointer (some ⟨br, 0, none⟩), .int .u64 (p3 : Int), .int .i64 f3, .agg #[.bool R, .bool Q, .bool Y], .int .i64 s] v fun e w' => e = .returned (.int .i64 xx) ∧ J0 w' ∧ PX w' b9 R Q Y) := HS.out.rmap (by omega)
        have P0 := HS.out.px _ S0
        clear cf
        go_wp2_with fail
        go_region_held3 (fun v => v.cell? ⟨b9, 0, none⟩ = some (.bool R) ∧ v.cell? ⟨b9, 1, none⟩ = some (.bool Q) ∧ v.cell? ⟨b9, 2, none⟩ = some (.bool Y))
          (first | exact ⟨P0.c0, P0.c1, P0.c2⟩ | exact ⟨P5.c0, P5.c1, P5.c2⟩ | exact ⟨P4.c0, P4.c1, P4.c2⟩)
          (first | (go_at_call 21; with_reducible refine cA.mono ?_; rintro e w4 ⟨xx, rfl, S4, P4⟩) | (go_at_call 30; with_reducible refine (cD.out _ _ S4).mono ?_; rintro e w5 ⟨rfl, S5, P5⟩))
        have HR : Hid (J0 w5) := S5
        clear cA cD S0 S4 S5 P0 P4 P5
        go_wp2_with fail
        go_meet
        case rel => exact ⟨xx, 0, rfl, rfl, rfl, rfl, HR⟩
      · have cA := HS.out.map (by omega) _ (HS.out.kp _ _ S0 (Kp.refl wc).drew)
        have cD : Aside (∀ v xx, K1 xx 0 v → Calls Tryz.prog 30 #[.pointer (some ⟨br, 0, none⟩), .int .u64 (p3 : Int), .int .i64 f3, .agg #[.bool R, .bool Q, .bool Y], .int .i64 s] v fun e w' => e = .returned (.int .i64 xx) ∧ J0 w' ∧ PX w' b9 R Q Y) := HS.out.rmap (by omega)
        have P0 := HS.out.px _ S0
        clear cf
        go_wp2_with fail
        go_region_held3 (fun v => v.cell? ⟨b9, 0, none⟩ = some (.bool R) ∧ v.cell? ⟨b9, 1, none⟩ = some (.bool Q) ∧ v.cell? ⟨b9, 2, none⟩ = some (.bool Y))
          (first | exact ⟨P0.c0, P0.c1, P0.c2⟩ | exact ⟨P5.c0, P5.c1, P5.c2⟩ | exact ⟨P4.c0, P4.c1, P4.c2⟩)
          (first | (go_at_call 21; with_reducible refine cA.mono ?_; rintro e w4 ⟨xx, rfl, S4, P4⟩) | (go_at_call 30; with_reducible refine (cD.out _ _ S4).mono ?_; rintro e w5 ⟨rfl, S5, P5⟩))
        have HR : Hid (J0 w5) := S5
        clear cA cD S0 S4 S5 P0 P4 P5
        go_wp2_with fail
        go_meet
        case rel => exact ⟨xx, 0, rfl, rfl, rfl, rfl, HR⟩
    · have cA := HS.out.mapb rfl _ (HS.out.kp _ _ S0 (Kp.refl wc).drew)
      have cD : Aside (∀ v xx, K1 xx 0 v → Calls Tryz.prog 32 #[.pointer (some ⟨br, 0, none⟩), .int .u64 (p3 : Int), .int .i64 f3, .agg #[.bool R, .bool Q, .bool Y], .int .i64 s] v fun e w' => e = .returned (.int .i64 xx) ∧ J0 w' ∧ PX w' b9 R Q Y) := HS.out.rmapb rfl
      have P0 := HS.out.px _ S0
      clear cf
      go_wp2_with fail
      go_region_held3 (fun v => v.cell? ⟨b9, 0, none⟩ = some (.bool R) ∧ v.cell? ⟨b9, 1, none⟩ = some (.bool Q) ∧ v.cell? ⟨b9, 2, none⟩ = some (.bool Y))
        (first | exact ⟨P0.c0, P0.c1, P0.c2⟩ | exact ⟨P5.c0, P5.c1, P5.c2⟩ | exact ⟨P4.c0, P4.c1, P4.c2⟩)
        (first | (go_at_call 31; with_reducible refine cA.mono ?_; rintro e w4 ⟨xx, rfl, S4, P4⟩) | (go_at_call 32; with_reducible refine (cD.out _ _ S4).mono ?_; rintro e w5 ⟨rfl, S5, P5⟩))
      have HR : Hid (J0 w5) := S5
      clear cA cD S0 S4 S5 P0 P4 P5
      go_wp2_with fail
      go_meet
      case rel => exact ⟨xx, 0, rfl, rfl, rfl, rfl, HR⟩
    · have cA := HS.out.unmap (.inl rfl) _ S0
      clear S0 cf
      go_wp2_with fail
      with_reducible refine cA.mono ?_
      rintro e w4 ⟨fx, xx, rfl, S4⟩
      have cD := HS.out.runmap (.inl rfl) _ _ _ S4
      clear cA S4
      go_wp2_with fail
      with_reducible refine cD.mono ?_
      rintro e w5 ⟨rfl, S5⟩
      have HR : Hid (J0 w5) := S5
      clear cD S5
      go_wp2_with fail
      go_meet
      case rel => exact ⟨xx, fx, rfl, rfl, rfl, rfl, HR⟩
    · have cA := HS.out.unmap (.inr rfl) _ S0
      clear S0 cf
      go_wp2_with fail
      with_reducible refine cA.mono ?_
      rintro e w4 ⟨fx, xx, rfl, S4⟩
      have cD := HS.out.runmap (.inr rfl) _ _ _ S4
      clear cA S4
      go_wp2_with fail
      with_reducible refine cD.mono ?_
      rintro e w5 ⟨rfl, S5⟩
      have HR : Hid (J0 w5) := S5
      clear cD S5
      go_wp2_with fail
      go_meet
      case rel => exact ⟨xx, fx, rfl, rfl, rfl, rfl, HR⟩
    · have cA := HS.out.prot rfl _ (HS.out.kp _ _ S0 (Kp.refl wc).drew)
      have cD : Aside (∀ v xx, K1 xx 0 v → Calls Tryz.prog 35 #[.pointer (some ⟨br, 0, none⟩), .int .u64 (p3 : Int), .agg #[.bool R, .bool Q, .bool Y], .int .i64 s] v fun e w' => e = .returned (.int .i64 xx) ∧ J0 w' ∧ PX w' b9 R Q Y) := HS.out.rprot rfl
      have P0 := HS.out.px _ S0
      clear cf
      go_wp2_with fail
      go_region_held3 (fun v => v.cell? ⟨b9, 0, none⟩ = some (.bool R) ∧ v.cell? ⟨b9, 1, none⟩ = some (.bool Q) ∧ v.cell? ⟨b9, 2, none⟩ = some (.bool Y))
        (first | exact ⟨P0.c0, P0.c1, P0.c2⟩ | exact ⟨P5.c0, P5.c1, P5.c2⟩ | exact ⟨P4.c0, P4.c1, P4.c2⟩)
        (first | (go_at_call 34; with_reducible refine cA.mono ?_; rintro e w4 ⟨xx, rfl, S4, P4⟩) | (go_at_call 35; with_reducible refine (cD.out _ _ S4).mono ?_; rintro e w5 ⟨rfl, S5, P5⟩))
      have HR : Hid (J0 w5) := S5
      clear cA cD S0 S4 S5 P0 P4 P5
      go_wp2_with fail
      go_meet
      case rel => exact ⟨xx, 0, rfl, rfl, rfl, rfl, HR⟩
    · have cA := HS.out.split rfl _ S0
      clear S0 cf
      go_wp2_with fail
      with_reducible refine cA.mono ?_
      rintro e w4 ⟨xx, rfl, S4⟩
      have cD := HS.out.rsplit rfl _ _ S4
      clear cA S4
      go_wp2_with fail
      with_reducible refine cD.mono ?_
      rintro e w5 ⟨rfl, S5⟩
      have HR : Hid (J0 w5) := S5
      clear cD S5
      go_wp2_with fail
      go_meet
      case rel => exact ⟨xx, 0, rfl, rfl, rfl, rfl, HR⟩
    · have cA := HS.out.join rfl _ S0
      clear S0 cf
      go_wp2_with fail
      with_reducible refine cA.mono ?_
      rintro e w4 ⟨xx, rfl, S4⟩
      have cD := HS.out.rjoin rfl _ _ S4
      clear cA S4
      go_wp2_with fail
      with_reducible refine cD.mono ?_
      rintro e w5 ⟨rfl, S5⟩
      have HR : Hid (J0 w5) := S5
      clear cD S5
      go_wp2_with fail
      go_meet
      case rel => exact ⟨xx, 0, rfl, rfl, rfl, rfl, HR⟩
    · have HR : Hid (J0 wc) := HS.out.idle (.inl rfl) _ S0
      clear S0 cf
      go_wp2_with fail
      go_meet
      case rel => exact ⟨0, 0, rfl, rfl, rfl, rfl, HR⟩
    · obtain ⟨zz, hzz⟩ : ∃ zz, bits .and .i64 fm 15 = zz := ⟨_, rfl⟩
      by_cases ez : zz = 0
      · subst ez
        have cA := HS.out.free rfl hzz _ S0
        have cD := HS.out.rfree rfl hzz
        have cD : Aside (∀ v xx, K1 xx 0 v → Calls Tryz.prog 40 #[.pointer (some ⟨br, 0, none⟩)] v fun e w' => e = .returned (.int .i64 xx) ∧ J0 w') := cD
        clear S0
        go_wp2_with fail
        with_reducible refine cA.mono ?_
        rintro e w4 ⟨xx, rfl, S4⟩
        have cD4 := cD.out _ _ S4
        clear cA S4 cD
        go_wp2_with fail
        with_reducible refine cD4.mono ?_
        rintro e w5 ⟨rfl, S5⟩
        have HR : Hid (J0 w5) := S5
        clear cD4 S5
        go_wp2_with fail
        go_meet
        case rel => exact ⟨xx, 0, rfl, rfl, rfl, rfl, HR⟩
      · have ez2 : (zz == 0) = false := beq_false_of_ne ez
        have HR : Hid (J0 wc) := HS.out.idle (.inr ⟨rfl, by rw [hzz]; exact ez⟩) _ S0
        clear S0
        go_wp2_with fail
        go_meet
        case rel => exact ⟨0, 0, rfl, rfl, rfl, rfl, HR⟩
  case rest =>
    obtain ⟨xx, aa, rfl, rfl, rfl, rfl, HR⟩ := hcut
    rename_i hK
    exact hK _ _ (gtail HS.out HR.out)

end Go.Proofs.YtanlcmdnhhdhaaaGreatDoor
