/- nested: Walk: what is refused at once; off the first stage. -/
import Derived.Test.YtclcickhgoiooaaJH
namespace Go.Proofs.Ytclcickhgoiooaa
open Go.RowKit
set_option maxRecDepth 10000

/-- The view's block and those of the results. -/
def made4 (w : World) (two root : Nat) (on : Bool) : World := ((w.alloc (.cells #[.int .u64 (two : Int), .bool on, .int .u64 (root : Int)] 29)).alloc (.cells #[.int .i64 0, .int .u64 0, .bool false, .bool false, .bool false, .bool false, .bool false, .bool false] 33)).alloc (.cells #[.int .i64 0, .int .i64 0, .int .i64 0, .int .u64 0, .bool false] 35)
structure WB (w : World) (two root : Nat) (on : Bool) (v : World) : Prop where
  sz : w.heap.size + 3 ≤ v.heap.size
  cv : RX v w.heap.size 29 [.int .u64 (two : Int), .bool on, .int .u64 (root : Int)]
  co : RX v (w.heap.size + 1) 33 (encO zO)
  cf : RX v (w.heap.size + 2) 35 (encF zF)
theorem WB.kp {w v v' : World} {two root : Nat} {on : Bool} (h : WB w two root on v) (k : Kp v v') : WB w two root on v' := ⟨Nat.le_trans h.sz k.size, h.cv.kp k, h.co.kp k, h.cf.kp k⟩
theorem WB.fr {w v v' : World} {two root : Nat} {on : Bool} {S : Nat → Prop} (h : WB w two root on v) (k : Fr S v v') (hS : ∀ i, S i → i < w.heap.size) : WB w two root on v' :=
  ⟨Nat.le_trans h.sz k.size, h.cv.fr k (fun c => by have := hS _ c; omega), h.co.fr k (fun c => by have := hS _ c; omega), h.cf.fr k (fun c => by have := hS _ c; omega)⟩
theorem made4_kp (w : World) (two root : Nat) (on : Bool) : Kp w (made4 w two root on) := (((Kp.refl w).alloc _).alloc _).alloc _
theorem made4_wb (w : World) (two root : Nat) (on : Bool) : WB w two root on (made4 w two root on) := by
  have a1 := RX.made w 29 [.int .u64 (two : Int), .bool on, .int .u64 (root : Int)]
  have a2 := RX.made (w.alloc (.cells #[.int .u64 (two : Int), .bool on, .int .u64 (root : Int)] 29)) 33 (encO zO)
  have a3 := RX.made ((w.alloc (.cells #[.int .u64 (two : Int), .bool on, .int .u64 (root : Int)] 29)).alloc (.cells (encO zO).toArray 33)) 35 (encF zF)
  rw [show (w.alloc (.cells #[.int .u64 (two : Int), .bool on, .int .u64 (root : Int)] 29)).heap.size = w.heap.size + 1 by simp] at a2
  rw [show ((w.alloc (.cells #[.int .u64 (two : Int), .bool on, .int .u64 (root : Int)] 29)).alloc (.cells (encO zO).toArray 33)).heap.size = w.heap.size + 2 by simp] at a3
  exact ⟨by simp [made4], a1.kp (((Kp.refl _).alloc _).alloc _), a2.kp ((Kp.refl _).alloc _), a3⟩
/-- The end: both results are stored. -/
theorem WB.fin {w v : World} {two root : Nat} {on : Bool} (h : WB w two root on v) {S : Nat → Prop} {P : World → Prop} (hP : ∀ v v', P v → Fr (fun i => w.heap.size ≤ i) v v' → P v') (p : P v) (f : Fr S w v) (o : OV) (fv : FV) :
    RX (put2 v (w.heap.size + 1) (w.heap.size + 2) o fv) (w.heap.size + 1) 33 (encO o) ∧ RX (put2 v (w.heap.size + 1) (w.heap.size + 2) o fv) (w.heap.size + 2) 35 (encF fv) ∧ P (put2 v (w.heap.size + 1) (w.heap.size + 2) o fv) ∧ Fr S w (put2 v (w.heap.size + 1) (w.heap.size + 2) o fv) := by
  have F := put2_fr v (w.heap.size + 1) (w.heap.size + 2) o fv
  exact ⟨put2_o h.co (by omega), put2_f h.cf (by omega), hP _ _ p (F.mono (fun i _ c => by omega)), f.trans2 F (fun i hi c => by omega)⟩

theorem alloc3 (w : World) (A B C : List Value) (s t r : TypeId) : RX (((w.alloc (.cells A.toArray s)).alloc (.cells B.toArray t)).alloc (.cells C.toArray r)) (w.heap.size + 1) t B ∧ RX (((w.alloc (.cells A.toArray s)).alloc (.cells B.toArray t)).alloc (.cells C.toArray r)) (w.heap.size + 2) r C := by
  have a2 := RX.made (w.alloc (.cells A.toArray s)) t B
  have a3 := RX.made ((w.alloc (.cells A.toArray s)).alloc (.cells B.toArray t)) r C
  rw [show (w.alloc (.cells A.toArray s)).heap.size = w.heap.size + 1 by simp] at a2
  rw [show ((w.alloc (.cells A.toArray s)).alloc (.cells B.toArray t)).heap.size = w.heap.size + 2 by simp] at a3
  exact ⟨a2.kp ((Kp.refl _).alloc _), a3⟩

section
variable (v : Value) (two root : Nat) (on : Bool) (u : Nat) (acc : Int) (w : World)
set_option maxHeartbeats 4000000 in
theorem walk_size (hu : 281474976710656 ≤ u) :
    Calls Try.prog 6 #[v, .agg #[.int .u64 (two : Int), .bool on, .int .u64 (root : Int)], .int .u64 (u : Int), .int .i64 acc] w fun e w' => e = .returned (.tuple #[ouV zO, faV ⟨1, 3, -1, u, acc == 2⟩, .int .i64 ((0 : Nat) : Int)]) ∧ Kp w w' := by
  obtain ⟨st, hst⟩ : ∃ st, (acc == 2) = st := ⟨_, rfl⟩
  obtain ⟨w3, hw3⟩ : ∃ w3, w3 = made4 w two root on := ⟨_, rfl⟩
  have K3 : Kp w w3 := by rw [hw3]; exact made4_kp w two root on
  have W3 : WB w two root on w3 := by rw [hw3]; exact made4_wb w two root on
  unfold made4 at hw3
  rw [hst]
  have d1 : decide ((281474976710656 : Int) ≤ (u : Int)) = true := decide_eq_true (by omega)
  have d2 : decide (281474976710656 ≤ u) = true := decide_eq_true hu
  have HE : Hid (Kp w w3 ∧ WB w two root on w3) := ⟨K3, W3⟩
  clear hu K3 W3
  go_enter Try.func6, Try.ntmps6
  go_wp2_with fail
  change bodyPost _ _ _ _ _ (((w.alloc (.cells [.int .u64 (two : Int), .bool on, .int .u64 (root : Int)].toArray _)).alloc (.cells (encO zO).toArray _)).alloc (.cells (encF ⟨1, 3, -1, u, st⟩).toArray _))
  exact bodyPost_ret (res_of rfl rfl rfl (alloc3 w _ (encO zO) (encF ⟨1, 3, -1, u, st⟩) _ _ _).1 (alloc3 w _ (encO zO) (encF ⟨1, 3, -1, u, st⟩) _ _ _).2) rfl ⟨rfl, (((Kp.refl w).alloc _).alloc _).alloc _⟩
set_option maxHeartbeats 4000000 in
theorem walk_off (S : Nat → Prop) (P : World → Prop) (o : OV) (f : FV) (n : Nat) (hu : u < 281474976710656) (hS : ∀ i, S i → i < w.heap.size) (hP : ∀ v v', P v → Fr (fun i => w.heap.size ≤ i) v v' → P v')
    (ks : ∀ w2, Kp w w2 → Calls Try.prog 28 #[v, .int .u64 (two : Int), .int .u64 (u : Int), .int .i64 acc] w2 fun e w' => e = .returned (.tuple #[ouV o, faV f, .int .i64 (n : Int)]) ∧ P w' ∧ Fr S w2 w') :
    Calls Try.prog 6 #[v, .agg #[.int .u64 (two : Int), .bool false, .int .u64 (root : Int)], .int .u64 (u : Int), .int .i64 acc] w fun e w' => e = .returned (.tuple #[ouV o, faV f, .int .i64 (n : Int)]) ∧ P w' ∧ Fr S w w' := by
  obtain ⟨st, hst⟩ : ∃ st, (acc == 2) = st := ⟨_, rfl⟩
  obtain ⟨w3, hw3⟩ : ∃ w3, w3 = made4 w two root false := ⟨_, rfl⟩
  have K3 : Kp w w3 := by rw [hw3]; exact made4_kp w two root false
  have W3 : WB w two root false w3 := by rw [hw3]; exact made4_wb w two root false
  unfold made4 at hw3
  have d1 : decide ((281474976710656 : Int) ≤ (u : Int)) = false := decide_eq_false (by omega)
  have d2 : decide (281474976710656 ≤ u) = false := decide_eq_false (by omega)
  obtain ⟨of', oi, oa, ob, oc, or', oq, ox⟩ := o
  obtain ⟨fs, fk, fl, fa, ft⟩ := f
  have k3 : Calls Try.prog 28 #[v, .int .u64 (two : Int), .int .u64 (u : Int), .int .i64 acc] w3 fun e w' => e = .returned (.tuple #[.agg #[.int .i64 of', .int .u64 (oi : Int), .bool oa, .bool ob, .bool oc, .bool or', .bool oq, .bool ox], .agg #[.int .i64 fs, .int .i64 fk, .int .i64 fl, .int .u64 (fa : Int), .bool ft], .int .i64 (n : Int)]) ∧ P w' ∧ Fr S w3 w' := ks w3 K3
  have HP : Hid (∀ v v', P v → Fr (fun i => w.heap.size ≤ i) v v' → P v') := hP
  have HE : Hid (Kp w w3 ∧ WB w two root false w3 ∧ ∀ i, S i → i < w.heap.size) := ⟨K3, W3, hS⟩
  clear hu K3 W3 hP hS ks
  go_enter Try.func6, Try.ntmps6
  go_wp2_with fail
  rw [← hw3]
  with_reducible refine k3.mono ?_
  rintro e w4 ⟨rfl, P4, F4⟩
  have W4 := HE.out.2.1.fr F4 HE.out.2.2
  have HF : Hid _ := W4.fin HP.out P4 ((HE.out.1.fr S).trans F4) ⟨of', oi, oa, ob, oc, or', oq, ox⟩ ⟨fs, fk, fl, fa, ft⟩
  have CO := W4.co
  have CF := W4.cf
  have o0 := CO.cell (j := 0) rfl; have o1 := CO.cell (j := 1) rfl; have o2 := CO.cell (j := 2) rfl; have o3 := CO.cell (j := 3) rfl; have o4 := CO.cell (j := 4) rfl; have o5 := CO.cell (j := 5) rfl; have o6 := CO.cell (j := 6) rfl; have o7 := CO.cell (j := 7) rfl; have fo := CO.fz
  have g0 := CF.cell (j := 0) rfl; have g1 := CF.cell (j := 1) rfl; have g2 := CF.cell (j := 2) rfl; have g3 := CF.cell (j := 3) rfl; have g4 := CF.cell (j := 4) rfl; have fg := CF.fz
  clear W4 CO CF P4 F4 k3 HE HP hw3 d1 d2
  go_wp2
  rw [← putR_five, ← putR_eight]
  change bodyPost _ _ _ _ _ (put2 _ _ _ ⟨of', oi, oa, ob, oc, or', oq, ox⟩ ⟨fs, fk, fl, fa, ft⟩)
  exact bodyPost_ret (res_of rfl rfl rfl HF.out.1 HF.out.2.1) rfl ⟨rfl, HF.out.2.2.1, HF.out.2.2.2⟩
set_option maxHeartbeats 4000000 in
theorem walk_root (hu : u < 281474976710656) (hr : root % 4096 ≠ 0 ∨ 1099511627776 ≤ root) :
    Calls Try.prog 6 #[v, .agg #[.int .u64 (two : Int), .bool true, .int .u64 (root : Int)], .int .u64 (u : Int), .int .i64 acc] w fun e w' => e = .returned (.tuple #[ouV zO, faV ⟨1, 4, -1, u, acc == 2⟩, .int .i64 ((0 : Nat) : Int)]) ∧ Kp w w' := by
  obtain ⟨st, hst⟩ : ∃ st, (acc == 2) = st := ⟨_, rfl⟩
  obtain ⟨w3, hw3⟩ : ∃ w3, w3 = made4 w two root true := ⟨_, rfl⟩
  have K3 : Kp w w3 := by rw [hw3]; exact made4_kp w two root true
  have W3 : WB w two root true w3 := by rw [hw3]; exact made4_wb w two root true
  unfold made4 at hw3
  rw [hst]
  have d1 : decide ((281474976710656 : Int) ≤ (u : Int)) = false := decide_eq_false (by omega)
  have d2 : decide (281474976710656 ≤ u) = false := decide_eq_false (by omega)
  have HE : Hid (Kp w w3 ∧ WB w two root true w3) := ⟨K3, W3⟩
  clear hu K3 W3
  by_cases c : root % 4096 = 0
  · have e1 : ((root : Int) % 4096 != 0) = false := by rw [show (root : Int) % 4096 = 0 by omega]; rfl
    have e2 : (root : Int) % 4096 = 0 := by omega
    have d3 : decide ((1099511627776 : Int) ≤ (root : Int)) = true := decide_eq_true (by omega)
    have d4 : decide (1099511627776 ≤ root) = true := decide_eq_true (by omega)
    clear hr c
    go_enter Try.func6, Try.ntmps6
    go_wp2_with fail
    change bodyPost _ _ _ _ _ (((w.alloc (.cells [.int .u64 (two : Int), .bool true, .int .u64 (root : Int)].toArray _)).alloc (.cells (encO zO).toArray _)).alloc (.cells (encF ⟨1, 4, -1, u, st⟩).toArray _))
    exact bodyPost_ret (res_of rfl rfl rfl (alloc3 w _ (encO zO) (encF ⟨1, 4, -1, u, st⟩) _ _ _).1 (alloc3 w _ (encO zO) (encF ⟨1, 4, -1, u, st⟩) _ _ _).2) rfl ⟨rfl, (((Kp.refl w).alloc _).alloc _).alloc _⟩
  · have e1 : ((root : Int) % 4096 != 0) = true := by rw [bne_iff_ne]; omega
    have e2 : ¬ (root : Int) % 4096 = 0 := by omega
    clear hr c
    go_enter Try.func6, Try.ntmps6
    go_wp2_with fail
    change bodyPost _ _ _ _ _ (((w.alloc (.cells [.int .u64 (two : Int), .bool true, .int .u64 (root : Int)].toArray _)).alloc (.cells (encO zO).toArray _)).alloc (.cells (encF ⟨1, 4, -1, u, st⟩).toArray _))
    exact bodyPost_ret (res_of rfl rfl rfl (alloc3 w _ (encO zO) (encF ⟨1, 4, -1, u, st⟩) _ _ _).1 (alloc3 w _ (encO zO) (encF ⟨1, 4, -1, u, st⟩) _ _ _).2) rfl ⟨rfl, (((Kp.refl w).alloc _).alloc _).alloc _⟩
end

end Go.Proofs.Ytclcickhgoiooaa
