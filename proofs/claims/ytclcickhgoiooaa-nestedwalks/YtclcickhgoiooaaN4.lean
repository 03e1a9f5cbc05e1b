/- NestedSeconds. -/
import Derived.Test.YtclcickhgoiooaaJM
namespace Go.Proofs.Ytclcickhgoiooaa
open Go.RowKit
set_option maxRecDepth 10000
set_option linter.unusedVariables false

/-- The blocks of the document's answer. -/
def rbox2 (w : World) (o : OV) (f : FV) : World := (w.alloc (.cells (encO o).toArray 38)).alloc (.cells (encF f).toArray 35)
theorem rbox2_kp (w : World) (o : OV) (f : FV) : Kp w (rbox2 w o f) := ((Kp.refl w).alloc _).alloc _
theorem rbox2_o (w : World) (o : OV) (f : FV) : RX (rbox2 w o f) w.heap.size 38 (encO o) := (RX.made w _ _).kp ((Kp.refl _).alloc _)
theorem rbox2_f (w : World) (o : OV) (f : FV) : RX (rbox2 w o f) (w.heap.size + 1) 35 (encF f) := by
  have := RX.made (w.alloc (.cells (encO o).toArray 38)) 35 (encF f)
  rw [show (w.alloc (.cells (encO o).toArray 38)).heap.size = w.heap.size + 1 by simp] at this
  exact this

set_option maxHeartbeats 2000000 in
theorem nsame_any (o : OV) (f : FV) (n : Int) (w : World) : Calls Try.prog 9 #[ouV o, faV f, .int .i64 n, ouV o, faV f, .int .i64 n] w fun e w' => e = .returned (.bool true) ∧ Kp w w' := by
  obtain ⟨oF, oI, oa, ob, oc, or', oq, ox⟩ := o
  obtain ⟨fs, fk, fl, fa, ft⟩ := f
  obtain ⟨v, hv⟩ : ∃ v, v = rbox2 (box2 w ⟨oF, oI, oa, ob, oc, or', oq, ox⟩ ⟨fs, fk, fl, fa, ft⟩) ⟨oF, oI, oa, ob, oc, or', oq, ox⟩ ⟨fs, fk, fl, fa, ft⟩ := ⟨_, rfl⟩
  have K : Kp w v := by rw [hv]; exact (box2_kp w _ _).trans (rbox2_kp _ _ _)
  have A := (box2_o w ⟨oF, oI, oa, ob, oc, or', oq, ox⟩ ⟨fs, fk, fl, fa, ft⟩).kp (rbox2_kp _ ⟨oF, oI, oa, ob, oc, or', oq, ox⟩ ⟨fs, fk, fl, fa, ft⟩)
  have B := (box2_f w ⟨oF, oI, oa, ob, oc, or', oq, ox⟩ ⟨fs, fk, fl, fa, ft⟩).kp (rbox2_kp _ ⟨oF, oI, oa, ob, oc, or', oq, ox⟩ ⟨fs, fk, fl, fa, ft⟩)
  have C := rbox2_o (box2 w ⟨oF, oI, oa, ob, oc, or', oq, ox⟩ ⟨fs, fk, fl, fa, ft⟩) ⟨oF, oI, oa, ob, oc, or', oq, ox⟩ ⟨fs, fk, fl, fa, ft⟩
  have D := rbox2_f (box2 w ⟨oF, oI, oa, ob, oc, or', oq, ox⟩ ⟨fs, fk, fl, fa, ft⟩) ⟨oF, oI, oa, ob, oc, or', oq, ox⟩ ⟨fs, fk, fl, fa, ft⟩
  rw [← hv] at A B C D
  rw [box2_size] at C D
  have he : v = (((w.alloc (.cells #[.int .i64 oF, .int .u64 (oI : Int), .bool oa, .bool ob, .bool oc, .bool or', .bool oq, .bool ox] 33)).alloc (.cells #[.int .i64 fs, .int .i64 fk, .int .i64 fl, .int .u64 (fa : Int), .bool ft] 35)).alloc (.cells #[.int .i64 oF, .int .u64 (oI : Int), .bool oa, .bool ob, .bool oc, .bool or', .bool oq, .bool ox] 38)).alloc (.cells #[.int .i64 fs, .int .i64 fk, .int .i64 fl, .int .u64 (fa : Int), .bool ft] 35) := hv
  have a0 := A.cell (j := 0) rfl; have a1 := A.cell (j := 1) rfl; have a2 := A.cell (j := 2) rfl; have a3 := A.cell (j := 3) rfl; have a4 := A.cell (j := 4) rfl; have a5 := A.cell (j := 5) rfl; have a6 := A.cell (j := 6) rfl; have a7 := A.cell (j := 7) rfl
  have b0 := B.cell (j := 0) rfl; have b1 := B.cell (j := 1) rfl; have b2 := B.cell (j := 2) rfl; have b3 := B.cell (j := 3) rfl; have b4 := B.cell (j := 4) rfl
  have c0 := C.cell (j := 0) rfl; have c1 := C.cell (j := 1) rfl; have c2 := C.cell (j := 2) rfl; have c3 := C.cell (j := 3) rfl; have c4 := C.cell (j := 4) rfl; have c5 := C.cell (j := 5) rfl; have c6 := C.cell (j := 6) rfl; have c7 := C.cell (j := 7) rfl
  have d0 := D.cell (j := 0) rfl; have d1 := D.cell (j := 1) rfl; have d2 := D.cell (j := 2) rfl; have d3 := D.cell (j := 3) rfl; have d4 := D.cell (j := 4) rfl
  have q1 : ∀ v : World, (Op.equalIn 10000 33 (.agg #[.int .i64 oF, .int .u64 (oI : Int), .bool oa, .bool ob, .bool oc, .bool or', .bool oq, .bool ox]) (.agg #[.int .i64 oF, .int .u64 (oI : Int), .bool oa, .bool ob, .bool oc, .bool or', .bool oq, .bool ox])).run Try.prog v = .ok true v := fun v => by rw [eq_out]; simp [samP]
  have q2 : ∀ v : World, (Op.equalIn 10000 35 (.agg #[.int .i64 fs, .int .i64 fk, .int .i64 fl, .int .u64 (fa : Int), .bool ft]) (.agg #[.int .i64 fs, .int .i64 fk, .int .i64 fl, .int .u64 (fa : Int), .bool ft])).run Try.prog v = .ok true v := fun v => by rw [eq_fault]; simp
  have HK : Hid (Kp w v) := K
  clear A B C D hv K
  show Calls Try.prog 9 #[.agg #[.int .i64 oF, .int .u64 (oI : Int), .bool oa, .bool ob, .bool oc, .bool or', .bool oq, .bool ox], .agg #[.int .i64 fs, .int .i64 fk, .int .i64 fl, .int .u64 (fa : Int), .bool ft], .int .i64 n, .agg #[.int .i64 oF, .int .u64 (oI : Int), .bool oa, .bool ob, .bool oc, .bool or', .bool oq, .bool ox], .agg #[.int .i64 fs, .int .i64 fk, .int .i64 fl, .int .u64 (fa : Int), .bool ft], .int .i64 n] w fun e w' => e = .returned (.bool true) ∧ Kp w w'
  go_enter Try.func9, Try.ntmps9
  go_upto_region 1 with fail
  rw [← he]
  clear he
  go_wp2
  go_ret
  exact ⟨rfl, HK.out⟩

end Go.Proofs.Ytclcickhgoiooaa
