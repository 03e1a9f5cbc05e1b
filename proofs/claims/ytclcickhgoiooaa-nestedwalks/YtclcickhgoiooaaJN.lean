/- Joined: N6, N7, N8, N9. -/
import Derived.Test.YtclcickhgoiooaaN4
import Derived.Test.YtclcickhgoiooaaN5
import Derived.Test.YtclcickhgoiooaaNQ
import Derived.Test.YtclcickhgoiooaaNU
import Derived.Test.YtclcickhgoiooaaJQ
import Derived.Test.YtclcickhgoiooaaJM
import Derived.Test.YtclcickhgoiooaaJR
import Derived.Deep.DeepCutAuto
import Derived.Deep.CutBlock
/- demesneref14: Walk: what is refused ahead, and off. -/
namespace Go.Proofs.Ytclcickhgoiooaa
open Go.RowKit
set_option maxRecDepth 10000
set_option linter.unusedVariables false

section
variable (m : Value) (two : Nat) (on : Bool) (root u : Nat) (acc : Int) (w : World)
set_option maxHeartbeats 2000000 in
theorem rwalk_size (hu : 281474976710656 ≤ u) :
    Calls Try.prog 7 #[m, .int .u64 (two : Int), .bool on, .int .u64 (root : Int), .int .u64 (u : Int), .int .i64 acc] w fun e w' => e = .returned (.tuple #[ouV zO, faV ⟨1, 3, -1, u, acc == 2⟩, .int .i64 ((0 : Nat) : Int)]) ∧ Kp w w' := by
  obtain ⟨st, hst⟩ : ∃ st, (acc == 2) = st := ⟨_, rfl⟩
  rw [hst]
  have y1 : (281474976710656 : Int) ≤ (u : Int) := by omega
  have d1 : decide ((281474976710656 : Int) ≤ (u : Int)) = true := decide_eq_true y1
  have d2 : decide (281474976710656 ≤ u) = true := decide_eq_true hu
  obtain ⟨v, hv⟩ : ∃ v, v = rbox2 w zO ⟨1, 3, -1, u, st⟩ := ⟨_, rfl⟩
  have A := rbox2_o w zO ⟨1, 3, -1, u, st⟩
  have B := rbox2_f w zO ⟨1, 3, -1, u, st⟩
  have K := rbox2_kp w zO ⟨1, 3, -1, u, st⟩
  rw [← hv] at A B K
  have HE : Hid (RX v w.heap.size 38 (encO zO) ∧ RX v (w.heap.size + 1) 35 (encF ⟨1, 3, -1, u, st⟩) ∧ Kp w v) := ⟨A, B, K⟩
  have he : v = (w.alloc (.cells #[.int .i64 0, .int .u64 0, .bool false, .bool false, .bool false, .bool false, .bool false, .bool false] 38)).alloc (.cells #[.int .i64 1, .int .i64 3, .int .i64 (-1), .int .u64 (u : Int), .bool st] 35) := hv
  clear A B K hv hu y1
  go_enter Try.func7, Try.ntmps7
  go_wp2
  rw [← he]
  exact bodyPost_ret (res_ro rfl rfl rfl HE.out.1 HE.out.2.1) rfl ⟨rfl, HE.out.2.2⟩

set_option maxHeartbeats 2000000 in
theorem rwalk_root (hu : u < 281474976710656) (hr : root % 4096 ≠ 0 ∨ 1099511627776 ≤ root) :
    Calls Try.prog 7 #[m, .int .u64 (two : Int), .bool true, .int .u64 (root : Int), .int .u64 (u : Int), .int .i64 acc] w fun e w' => e = .returned (.tuple #[ouV zO, faV ⟨1, 4, -1, u, acc == 2⟩, .int .i64 ((0 : Nat) : Int)]) ∧ Kp w w' := by
  obtain ⟨st, hst⟩ : ∃ st, (acc == 2) = st := ⟨_, rfl⟩
  rw [hst]
  have d1 : decide ((281474976710656 : Int) ≤ (u : Int)) = false := decide_eq_false (by omega)
  have d2 : decide (281474976710656 ≤ u) = false := decide_eq_false (by omega)
  obtain ⟨v, hv⟩ : ∃ v, v = rbox2 w zO ⟨1, 4, -1, u, st⟩ := ⟨_, rfl⟩
  have A := rbox2_o w zO ⟨1, 4, -1, u, st⟩
  have B := rbox2_f w zO ⟨1, 4, -1, u, st⟩
  have K := rbox2_kp w zO ⟨1, 4, -1, u, st⟩
  rw [← hv] at A B K
  have HE : Hid (RX v w.heap.size 38 (encO zO) ∧ RX v (w.heap.size + 1) 35 (encF ⟨1, 4, -1, u, st⟩) ∧ Kp w v) := ⟨A, B, K⟩
  have he : v = (w.alloc (.cells #[.int .i64 0, .int .u64 0, .bool false, .bool false, .bool false, .bool false, .bool false, .bool false] 38)).alloc (.cells #[.int .i64 1, .int .i64 4, .int .i64 (-1), .int .u64 (u : Int), .bool st] 35) := hv
  clear A B K hv hu
  obtain ⟨rm, hrm⟩ : ∃ rm, root % 4096 = rm := ⟨_, rfl⟩
  have q1 : (root : Int).tmod 4096 = (rm : Int) := by rw [← hrm]; rfl
  have q2 : (root : Int) % 4096 = (rm : Int) := by omega
  rw [hrm] at hr
  clear hrm
  by_cases c : rm = 0
  · subst c
    have hr2 : 1099511627776 ≤ root := by omega
    have d3 : decide ((1099511627776 : Int) ≤ (root : Int)) = true := decide_eq_true (by omega)
    have d4 : decide (1099511627776 ≤ root) = true := decide_eq_true hr2
    rw [show ((0 : Nat) : Int) = 0 from rfl] at q1 q2
    clear hr hr2
    go_enter Try.func7, Try.ntmps7
    go_wp2
    rw [← he]
    exact bodyPost_ret (res_ro rfl rfl rfl HE.out.1 HE.out.2.1) rfl ⟨rfl, HE.out.2.2⟩
  · have c1 : ¬ (rm : Int) = 0 := by omega
    have c2 : ((rm : Int) == 0) = false := by rw [beq_eq_false_iff_ne]; exact c1
    have c3 : ((rm : Int) != 0) = true := by simp [bne, c2]
    have c4 : (rm == 0) = false := by rw [beq_eq_false_iff_ne]; exact c
    clear hr
    go_enter Try.func7, Try.ntmps7
    go_wp2
    rw [← he]
    exact bodyPost_ret (res_ro rfl rfl rfl HE.out.1 HE.out.2.1) rfl ⟨rfl, HE.out.2.2⟩
end

set_option maxHeartbeats 2000000 in
theorem rwalk_off {w : World} {qm : Nat} {M : Nat → Nat → Nat} (h : DM w qm M) (two root u : Nat) (acc : Int) (ht : two < 18446744073709551616) (hu : u < 281474976710656) :
    Calls Try.prog 7 #[.pointer (some ⟨qm, 0, none⟩), .int .u64 (two : Int), .bool false, .int .u64 (root : Int), .int .u64 (u : Int), .int .i64 acc] w fun e w' => e = .returned (.tuple #[ouV (seO (rdM M) two u acc), faV (seF (rdM M) two u acc), .int .i64 (slN (rdM M) two u : Nat)]) ∧ Kp w w' := by
  obtain ⟨st, hst⟩ : ∃ st, (acc == 2) = st := ⟨_, rfl⟩
  have d1 : decide ((281474976710656 : Int) ≤ (u : Int)) = false := decide_eq_false (by omega)
  have d2 : decide (281474976710656 ≤ u) = false := decide_eq_false (by omega)
  obtain ⟨v, hv⟩ : ∃ v, v = rbox2 w zO zF := ⟨_, rfl⟩
  have A := rbox2_o w zO zF
  have B := rbox2_f w zO zF
  have K := rbox2_kp w zO zF
  rw [← hv] at A B K
  have he : v = (w.alloc (.cells #[.int .i64 0, .int .u64 0, .bool false, .bool false, .bool false, .bool false, .bool false, .bool false] 38)).alloc (.cells #[.int .i64 0, .int .i64 0, .int .i64 0, .int .u64 0, .bool false] 35) := hv
  have k2 := rsecond_any (h.kp K) two u acc ht
  obtain ⟨OO, hO⟩ : ∃ OO, seO (rdM M) two u acc = OO := ⟨_, rfl⟩
  obtain ⟨FF, hF⟩ : ∃ FF, seF (rdM M) two u acc = FF := ⟨_, rfl⟩
  obtain ⟨N, hN⟩ : ∃ N, slN (rdM M) two u = N := ⟨_, rfl⟩
  rw [hO, hF, hN] at k2 ⊢
  obtain ⟨oF, oI, oa, ob, oc, or', oq, ox⟩ := OO
  obtain ⟨fs, fk, fl, fa, ft⟩ := FF
  have k2 : Calls Try.prog 32 #[.pointer (some ⟨qm, 0, none⟩), .int .u64 (two : Int), .int .u64 (u : Int), .int .i64 acc] v fun e w' => e = .returned (.tuple #[.agg #[.int .i64 oF, .int .u64 (oI : Int), .bool oa, .bool ob, .bool oc, .bool or', .bool oq, .bool ox], .agg #[.int .i64 fs, .int .i64 fk, .int .i64 fl, .int .u64 (fa : Int), .bool ft], .int .i64 (N : Int)]) ∧ Kp v w' := k2
  have HE : Hid (RX v w.heap.size 38 (encO zO) ∧ RX v (w.heap.size + 1) 35 (encF zF) ∧ Kp w v) := ⟨A, B, K⟩
  clear A B K hv hu h hO hF hN ht
  go_enter Try.func7, Try.ntmps7
  go_wp2_with fail
  rw [← he]
  clear he
  with_reducible refine k2.mono ?_
  rintro _ w2 ⟨rfl, K2⟩
  have A := HE.out.1.kp K2
  have B := HE.out.2.1.kp K2
  have a0 := A.cell (j := 0) rfl; have a1 := A.cell (j := 1) rfl; have a2 := A.cell (j := 2) rfl; have a3 := A.cell (j := 3) rfl; have a4 := A.cell (j := 4) rfl; have a5 := A.cell (j := 5) rfl; have a6 := A.cell (j := 6) rfl; have a7 := A.cell (j := 7) rfl; have fa' := A.fz
  have b0 := B.cell (j := 0) rfl; have b1 := B.cell (j := 1) rfl; have b2 := B.cell (j := 2) rfl; have b3 := B.cell (j := 3) rfl; have b4 := B.cell (j := 4) rfl; have fb := B.fz
  obtain ⟨R1, R2, R3⟩ := rs_end (o := ⟨oF, oI, oa, ob, oc, or', oq, ox⟩) (f := ⟨fs, fk, fl, fa, ft⟩) A B (HE.out.2.2.trans K2)
  have HR : Hid (RX (put2 w2 w.heap.size (w.heap.size + 1) ⟨oF, oI, oa, ob, oc, or', oq, ox⟩ ⟨fs, fk, fl, fa, ft⟩) w.heap.size 38 (encO ⟨oF, oI, oa, ob, oc, or', oq, ox⟩) ∧ RX (put2 w2 w.heap.size (w.heap.size + 1) ⟨oF, oI, oa, ob, oc, or', oq, ox⟩ ⟨fs, fk, fl, fa, ft⟩) (w.heap.size + 1) 35 (encF ⟨fs, fk, fl, fa, ft⟩) ∧ Kp w (put2 w2 w.heap.size (w.heap.size + 1) ⟨oF, oI, oa, ob, oc, or', oq, ox⟩ ⟨fs, fk, fl, fa, ft⟩)) := ⟨R1, R2, R3⟩
  clear A B HE R1 R2 R3 k2 K2
  go_wp2
  rw [← putR_five, ← putR_eight]
  change bodyPost _ _ _ _ _ (put2 w2 w.heap.size (w.heap.size + 1) ⟨oF, oI, oa, ob, oc, or', oq, ox⟩ ⟨fs, fk, fl, fa, ft⟩)
  exact bodyPost_ret (res_ro rfl rfl rfl HR.out.1 HR.out.2.1) rfl ⟨rfl, HR.out.2.2⟩

end Go.Proofs.Ytclcickhgoiooaa

/- NestedWalks: both Walks; the region in which the document's is asked. -/
namespace Go.Proofs.Ytclcickhgoiooaa
open Go.RowKit
set_option maxRecDepth 10000
set_option linter.unusedVariables false

section
variable {W w : World} {X : Nat → Prop} {p o : Nat} {M : Nat → Nat → Nat}
/-- Both Walks tell the same. -/
theorem both_any (h : WW W X p o M w) (on : Bool) (root u : Nat) (acc : Int) (hr : root < 18446744073709551616) (ho : o < 1000000000000000000) :
    ∃ OO FF N, (Calls Try.prog 6 #[.pointer (some ⟨p, 0, none⟩), .agg #[.int .u64 4096, .bool on, .int .u64 (root : Int)], .int .u64 (u : Int), .int .i64 acc] w fun e w' => e = .returned (.tuple #[ouV OO, faV FF, .int .i64 ((N : Nat) : Int)]) ∧ WW W X p (o + 24) M w' ∧ Fr (OuX W X) w w') ∧
      ∀ v qq, DM v qq M → Calls Try.prog 7 #[.pointer (some ⟨qq, 0, none⟩), .int .u64 4096, .bool on, .int .u64 (root : Int), .int .u64 (u : Int), .int .i64 acc] v fun e w' => e = .returned (.tuple #[ouV OO, faV FF, .int .i64 ((N : Nat) : Int)]) ∧ Kp v w' := by
  by_cases c : 281474976710656 ≤ u
  · exact ⟨zO, ⟨1, 3, -1, u, acc == 2⟩, 0, (walk_size (.pointer (some ⟨p, 0, none⟩)) 4096 root on u acc w c).mono fun e w' ⟨e1, e2⟩ => ⟨e1, (h.kp e2).le (by omega), e2.fr _⟩, fun v qq hq => rwalk_size _ 4096 on root u acc v c⟩
  · have hu : u < 281474976710656 := by omega
    cases on
    · exact ⟨seO (rdM M) 4096 u acc, seF (rdM M) 4096 u acc, slN (rdM M) 4096 u, (woff_any h 4096 root u acc (by decide) hu (by omega)).mono fun e w' ⟨e1, e2, e3⟩ => ⟨e1, e2.le (by omega), e3⟩, fun v qq hq => rwalk_off hq 4096 root u acc (by decide) hu⟩
    · by_cases d : root % 4096 = 0 ∧ root < 1099511627776
      · obtain ⟨oo, ff, n, h1, _⟩ := onC_some (rdM M) 4096 root u acc
        exact ⟨oo, ff, n, won_any h 4096 root u acc (by decide) hu d.1 d.2 ho oo ff n h1, fun v qq hq => rwalk_on hq 4096 root u acc (by decide) hu d.1 d.2 oo ff n h1⟩
      · have hb : root % 4096 ≠ 0 ∨ 1099511627776 ≤ root := by omega
        exact ⟨zO, ⟨1, 4, -1, u, acc == 2⟩, 0, (walk_root (.pointer (some ⟨p, 0, none⟩)) 4096 root u acc w hu hb).mono fun e w' ⟨e1, e2⟩ => ⟨e1, (h.kp e2).le (by omega), e2.fr _⟩, fun v qq hq => rwalk_root _ 4096 root u acc v hu hb⟩
end

end Go.Proofs.Ytclcickhgoiooaa

/- NestedWalks: the region in which the document's Walk is asked. -/
namespace Go.Proofs.Ytclcickhgoiooaa
open Go.RowKit
set_option maxRecDepth 10000
set_option linter.unusedVariables false

def nK (M : Nat → Nat → Nat) (p bv root u : Nat) (on : Bool) (acc : Int) (OO : OV) (FF : FV) (N : Nat) (k : Nat) : RK := match k with
  | 0 => .val 74 (fun v _ => v = .pointer (some ⟨p, 0, none⟩))
  | 1 => .val 75 (fun v w => ∃ q, v = .pointer (some ⟨q, 0, none⟩) ∧ DM w q M)
  | 2 => .val 76 (fun v _ => v = .pointer (some ⟨bv, 0, none⟩))
  | 3 => .val 77 (fun v _ => v = .int .u64 4096)
  | 4 => .val 78 (fun v _ => v = .pointer (some ⟨bv, 1, none⟩))
  | 5 => .val 79 (fun v _ => v = .bool on)
  | 6 => .val 80 (fun v _ => v = .pointer (some ⟨bv, 2, none⟩))
  | 7 => .val 81 (fun v _ => v = .int .u64 (root : Int))
  | 8 => .val 82 (fun v _ => v = .int .u64 (u : Int))
  | 9 => .val 83 (fun v _ => v = .int .i64 acc)
  | 10 => .val 84 (fun v _ => v = .tuple #[ouV OO, faV FF, .int .i64 ((N : Nat) : Int)])
  | 11 => .val 73 (fun v _ => v = .tuple #[ouV OO, faV FF, .int .i64 ((N : Nat) : Int)])
  | 12 => .val 85 (fun v _ => v = ouV OO)
  | 13 => .val 86 (fun v _ => v = faV FF)
  | 14 => .val 87 (fun v _ => v = .int .i64 ((N : Nat) : Int))
  | 15 => .box 20 38 (encO zO)
  | 16 => .box 21 35 (encF zF)
  | 17 => .put 15 38 (encO OO)
  | 18 => .put 16 35 (encF FF)
  | 19 => .val 22 (fun v _ => v = .int .i64 ((N : Nat) : Int))
  | _ => .val 22 (fun v _ => v = .int .i64 ((N : Nat) : Int))
def nE (k : Nat) : Bool := k == 10
def nD (k : Nat) : List Nat := match k with
  | 1 => [0]
  | 3 => [2]
  | 5 => [4]
  | 7 => [6]
  | 10 => [1, 3, 5, 7, 8, 9]
  | 11 => [10]
  | 12 => [11]
  | 13 => [11]
  | 14 => [11]
  | 19 => [14]
  | _ => []
def nS (k : Nat) : Nat := match k with
  | 0 => 74
  | 1 => 75
  | 2 => 76
  | 3 => 77
  | 4 => 78
  | 5 => 79
  | 6 => 80
  | 7 => 81
  | 8 => 82
  | 9 => 83
  | 10 => 84
  | 11 => 73
  | 12 => 85
  | 13 => 86
  | 14 => 87
  | 15 => 20
  | 16 => 21
  | 19 => 22
  | _ => 0
structure NO13 (ops : Array Oper) : Prop where
  sz : ops.size = 20
  o0 : ∃ q, ops[0]? = some q ∧ q.op = .move (.tmp 11) ∧ q.dst = some 74 ∧ q.guard = none
  o1 : ∃ q, ops[1]? = some q ∧ q.op = .call { callee := .value (.func 8), args := #[.tmp 74], argTypes := #[24] } ∧ q.dst = some 75 ∧ q.guard = none
  o2 : ∃ q, ops[2]? = some q ∧ q.op = .fieldAddr 29 (.tmp 14) 0 ∧ q.dst = some 76 ∧ q.guard = none
  o3 : ∃ q, ops[3]? = some q ∧ q.op = .load 23 (.tmp 76) ∧ q.dst = some 77 ∧ q.guard = none
  o4 : ∃ q, ops[4]? = some q ∧ q.op = .fieldAddr 29 (.tmp 14) 1 ∧ q.dst = some 78 ∧ q.guard = none
  o5 : ∃ q, ops[5]? = some q ∧ q.op = .load 4 (.tmp 78) ∧ q.dst = some 79 ∧ q.guard = none
  o6 : ∃ q, ops[6]? = some q ∧ q.op = .fieldAddr 29 (.tmp 14) 2 ∧ q.dst = some 80 ∧ q.guard = none
  o7 : ∃ q, ops[7]? = some q ∧ q.op = .load 23 (.tmp 80) ∧ q.dst = some 81 ∧ q.guard = none
  o8 : ∃ q, ops[8]? = some q ∧ q.op = .move (.tmp 15) ∧ q.dst = some 82 ∧ q.guard = none
  o9 : ∃ q, ops[9]? = some q ∧ q.op = .move (.tmp 16) ∧ q.dst = some 83 ∧ q.guard = none
  o10 : ∃ q, ops[10]? = some q ∧ q.op = .call { callee := .value (.func 7), args := #[.tmp 75, .tmp 77, .tmp 79, .tmp 81, .tmp 82, .tmp 83], argTypes := #[41, 23, 4, 23, 23, 3] } ∧ q.dst = some 84 ∧ q.guard = none
  o11 : ∃ q, ops[11]? = some q ∧ q.op = .move (.tmp 84) ∧ q.dst = some 73 ∧ q.guard = none
  o12 : ∃ q, ops[12]? = some q ∧ q.op = .extract (.tmp 73) 0 ∧ q.dst = some 85 ∧ q.guard = none
  o13 : ∃ q, ops[13]? = some q ∧ q.op = .extract (.tmp 73) 1 ∧ q.dst = some 86 ∧ q.guard = none
  o14 : ∃ q, ops[14]? = some q ∧ q.op = .extract (.tmp 73) 2 ∧ q.dst = some 87 ∧ q.guard = none
  o15 : ∃ q, ops[15]? = some q ∧ q.op = .alloc 38 ∧ q.dst = some 20 ∧ q.guard = none
  o16 : ∃ q, ops[16]? = some q ∧ q.op = .alloc 35 ∧ q.dst = some 21 ∧ q.guard = none
  o17 : ∃ q, ops[17]? = some q ∧ q.op = .store 38 (.tmp 20) (.tmp 85) ∧ q.dst = none ∧ q.guard = none
  o18 : ∃ q, ops[18]? = some q ∧ q.op = .store 35 (.tmp 21) (.tmp 86) ∧ q.dst = none ∧ q.guard = none
  o19 : ∃ q, ops[19]? = some q ∧ q.op = .assign (.tmp 87) ∧ q.dst = some 22 ∧ q.guard = none
  need : ((List.range ops.size).all fun k => (nD k).all fun j => waitsB ops k j) = true
  early : earlyB ops (fun p => p == 17 || p == 18) nE = true
  back : backB ops = true
  st : waitsB ops 17 15 = true ∧ waitsB ops 17 12 = true ∧ waitsB ops 18 16 = true ∧ waitsB ops 18 13 = true

section
variable {M : Nat → Nat → Nat} {p bv root u : Nat} {on : Bool} {acc : Int} {OO : OV} {FF : FV} {N : Nat} {ops : Array Oper}
theorem nK_slot {k d : Nat} (hk : k < 20) (h : isV (nK M p bv root u on acc OO FF N k) d) : d = nS k ∧ nS k ≠ 0 := by
  rcases (by omega : k = 0 ∨ k = 1 ∨ k = 2 ∨ k = 3 ∨ k = 4 ∨ k = 5 ∨ k = 6 ∨ k = 7 ∨ k = 8 ∨ k = 9 ∨ k = 10 ∨ k = 11 ∨ k = 12 ∨ k = 13 ∨ k = 14 ∨ k = 15 ∨ k = 16 ∨ k = 17 ∨ k = 18 ∨ k = 19) with rfl | rfl | rfl | rfl | rfl | rfl | rfl | rfl | rfl | rfl | rfl | rfl | rfl | rfl | rfl | rfl | rfl | rfl | rfl | rfl <;> rcases h with ⟨V, h⟩ | ⟨t, Z, h⟩ <;> cases h <;> exact ⟨rfl, by decide⟩
theorem nS_one : ∀ k, k < 20 → ∀ k', k' < 20 → nS k = nS k' → nS k ≠ 0 → k = k' := by decide
theorem nS_in : ∀ k, k < 20 → nS k ≠ 0 → ((20 ≤ nS k ∧ nS k < 23) ∨ (73 ≤ nS k ∧ nS k < 88)) := by decide
theorem nK_st {k d : Nat} {V : Value → World → Prop} (h1 : k ≠ 1) (h : nK M p bv root u on acc OO FF N k = .val d V) : ∀ v w w', V v w → V v w' := by
  unfold nK at h
  split at h
  all_goals first | (exact absurd rfl h1) | (cases h; intro v w w' hv; exact hv) | (cases h)
theorem nK_put : (fun k => (nK M p bv root u on acc OO FF N k).isPut) = fun k => k == 17 || k == 18 := by
  funext k
  unfold nK
  split
  all_goals first | rfl | skip
  rename_i a0 a1 a2 a3 a4 a5 a6 a7 a8 a9 a10 a11 a12 a13 a14 a15 a16 a17 a18 a19
  have e1 : (k == 17) = false := beq_eq_false_iff_ne.2 a17
  have e2 : (k == 18) = false := beq_eq_false_iff_ne.2 a18
  rw [e1, e2]; rfl
theorem nD_one : ∀ k, k < 20 → k ≠ 10 → 1 ∉ nD k := by decide

set_option maxHeartbeats 4000000 in
theorem n13_G (H : NO13 ops) {a : Act} {w : World} {W : World} {X : Nat → Prop} {o : Nat} (hs : a.tmps.size = 97) (e11 : a.eval (.tmp 11) = .pointer (some ⟨p, 0, none⟩)) (e14 : a.eval (.tmp 14) = .pointer (some ⟨bv, 0, none⟩)) (e15 : a.eval (.tmp 15) = .int .u64 (u : Int)) (e16 : a.eval (.tmp 16) = .int .i64 acc)
    (hW : WW W X p o M w) (hV : RX w bv 29 [.int .u64 4096, .bool on, .int .u64 (root : Int)])
    (kr : ∀ v qq, DM v qq M → Calls Try.prog 7 #[.pointer (some ⟨qq, 0, none⟩), .int .u64 4096, .bool on, .int .u64 (root : Int), .int .u64 (u : Int), .int .i64 acc] v fun e w' => e = .returned (.tuple #[ouV OO, faV FF, .int .i64 ((N : Nat) : Int)]) ∧ Kp v w')
    (hz1 : ∀ w, (Instr.alloc 38 true (.tuple #[])).run Try.prog w = .ok (.pointer (some ⟨w.heap.size, 0, none⟩)) (w.alloc (.cells (encO zO).toArray 38))) (hz2 : ∀ w, (Instr.alloc 35 true (.tuple #[])).run Try.prog w = .ok (.pointer (some ⟨w.heap.size, 0, none⟩)) (w.alloc (.cells (encF zF).toArray 35))) :
    RVG ops (nK M p bv root u on acc OO FF N) nE nD a w 20 3 73 15 := by
  have sl : ∀ k, k < 20 → nS k ≠ 0 → in2 20 3 73 15 (nS k) ∧ nS k < a.tmps.size := fun k hk h0 => by
    have := nS_in k hk h0
    unfold in2
    omega
  have ge : ∀ (U : Nat → Value) (d : Nat), ((20 ≤ d ∧ d < 23) ∨ (73 ≤ d ∧ d < 88)) → (fr2 a 20 3 73 15 U).eval (.tmp d) = U d := fun U d h => fr2_in (by unfold in2; omega) (by rw [hs]; omega)
  have go : ∀ (U : Nat → Value) (d : Nat), d < 20 → (fr2 a 20 3 73 15 U).eval (.tmp d) = a.eval (.tmp d) := fun U d h => fr2_out (by unfold in2; omega)
  refine ⟨fun k d hk h => ?_, fun k k' d hk hk' h h' => ?_, fun k d V hk h => ?_, by rw [nK_put]; exact H.early, H.back, fun k d V hk h => ?_, H.need, fun k d V hk h => ?_, fun k d t Z hk h => ?_, fun k j t Z hk h => ?_, fun k k' j t t' Z Z' hk hk' h h' => ?_⟩
  · rw [H.sz] at hk
    obtain ⟨rfl, h0⟩ := nK_slot hk h
    exact sl k hk h0
  · rw [H.sz] at hk hk'
    obtain ⟨e1, h0⟩ := nK_slot hk h
    obtain ⟨e2, _⟩ := nK_slot hk' h'
    exact nS_one k hk k' hk' (e1.symm.trans e2) h0
  · by_cases c : k = 1
    · subst c
      cases h
      rintro v w w' ⟨q, e, hq⟩ kp
      exact ⟨q, e, hq.kp kp⟩
    · exact fun v w w' hv _ => nK_st c h v w w' hv
  · by_cases c : k = 10
    · subst c; exact .inl rfl
    · refine .inr fun j dj Vj hj hkj => nK_st (fun e => ?_) hkj
      rw [H.sz] at hk
      subst e
      exact nD_one k hk c hj
  · rw [H.sz] at hk
    rcases (by omega : k = 0 ∨ k = 1 ∨ k = 2 ∨ k = 3 ∨ k = 4 ∨ k = 5 ∨ k = 6 ∨ k = 7 ∨ k = 8 ∨ k = 9 ∨ k = 10 ∨ k = 11 ∨ k = 12 ∨ k = 13 ∨ k = 14 ∨ k = 15 ∨ k = 16 ∨ k = 17 ∨ k = 18 ∨ k = 19) with rfl | rfl | rfl | rfl | rfl | rfl | rfl | rfl | rfl | rfl | rfl | rfl | rfl | rfl | rfl | rfl | rfl | rfl | rfl | rfl
    · cases h
      obtain ⟨oo, hq, ho, hd, hg⟩ := H.o0
      refine ⟨oo, hq, hg, fun U v K Q k hdep hK => ?_⟩
      exact ov_move ho hd ((go U 11 (by decide)).trans e11) (hK _ _ (Kp.refl _) rfl)
    · cases h
      obtain ⟨oo, hq, ho, hd, hg⟩ := H.o1
      refine ⟨oo, hq, hg, fun U v K Q k hdep hK => ?_⟩
      have v0 := hdep 0 74 _ (by decide) rfl
      refine ov_call ho hd Try.func8 rfl (by decide) (vs := #[.pointer (some ⟨p, 0, none⟩)]) (by simp only [List.map_toArray, List.map_cons, List.map_nil]; rw [ge U 74 (by decide), v0]) ((read_mem (hW.kp k)).mono fun e w' ⟨h1, h2, h3⟩ => ⟨_, h1, And.intro (show ∃ q, _ from ⟨v.heap.size, rfl, h2⟩) h3⟩) (Φ := fun x w' => (∃ q, x = .pointer (some ⟨q, 0, none⟩) ∧ DM w' q M) ∧ Kp v w') (fun x w' hx => hK x w' hx.2 hx.1)
    · cases h
      obtain ⟨oo, hq, ho, hd, hg⟩ := H.o2
      refine ⟨oo, hq, hg, fun U v K Q k hdep hK => ?_⟩
      refine ov_run ?_ hd (hK (.pointer (some ⟨bv, 0, none⟩)) v (Kp.refl _) rfl)
      have hx := (go U 14 (by decide)).trans e14
      unfold execOp
      generalize (fr2 a 20 3 73 15 U).eval = ρ at hx ⊢
      simp [ho, hx, go_sem]
    · cases h
      obtain ⟨oo, hq, ho, hd, hg⟩ := H.o3
      refine ⟨oo, hq, hg, fun U v K Q k hdep hK => ?_⟩
      have v0 := hdep 2 76 _ (by decide) rfl
      have hc : v.cell? ⟨bv, 0, none⟩ = some (.int .u64 4096) := (hV.kp k).cell rfl
      refine ov_run ?_ hd (hK (.int .u64 4096) v (Kp.refl _) rfl)
      have hx := (ge U 76 (by decide)).trans v0
      unfold execOp
      generalize (fr2 a 20 3 73 15 U).eval = ρ at hx ⊢
      simp [ho, hx, go_sem, hc]
    · cases h
      obtain ⟨oo, hq, ho, hd, hg⟩ := H.o4
      refine ⟨oo, hq, hg, fun U v K Q k hdep hK => ?_⟩
      refine ov_run ?_ hd (hK (.pointer (some ⟨bv, 1, none⟩)) v (Kp.refl _) rfl)
      have hx := (go U 14 (by decide)).trans e14
      unfold execOp
      generalize (fr2 a 20 3 73 15 U).eval = ρ at hx ⊢
      simp [ho, hx, go_sem]
    · cases h
      obtain ⟨oo, hq, ho, hd, hg⟩ := H.o5
      refine ⟨oo, hq, hg, fun U v K Q k hdep hK => ?_⟩
      have v0 := hdep 4 78 _ (by decide) rfl
      have hc : v.cell? ⟨bv, 1, none⟩ = some (.bool on) := (hV.kp k).cell rfl
      refine ov_run ?_ hd (hK (.bool on) v (Kp.refl _) rfl)
      have hx := (ge U 78 (by decide)).trans v0
      unfold execOp
      generalize (fr2 a 20 3 73 15 U).eval = ρ at hx ⊢
      simp [ho, hx, go_sem, hc]
    · cases h
      obtain ⟨oo, hq, ho, hd, hg⟩ := H.o6
      refine ⟨oo, hq, hg, fun U v K Q k hdep hK => ?_⟩
      refine ov_run ?_ hd (hK (.pointer (some ⟨bv, 2, none⟩)) v (Kp.refl _) rfl)
      have hx := (go U 14 (by decide)).trans e14
      unfold execOp
      generalize (fr2 a 20 3 73 15 U).eval = ρ at hx ⊢
      simp [ho, hx, go_sem]
    · cases h
      obtain ⟨oo, hq, ho, hd, hg⟩ := H.o7
      refine ⟨oo, hq, hg, fun U v K Q k hdep hK => ?_⟩
      have v0 := hdep 6 80 _ (by decide) rfl
      have hc : v.cell? ⟨bv, 2, none⟩ = some (.int .u64 (root : Int)) := (hV.kp k).cell rfl
      refine ov_run ?_ hd (hK (.int .u64 (root : Int)) v (Kp.refl _) rfl)
      have hx := (ge U 80 (by decide)).trans v0
      unfold execOp
      generalize (fr2 a 20 3 73 15 U).eval = ρ at hx ⊢
      simp [ho, hx, go_sem, hc]
    · cases h
      obtain ⟨oo, hq, ho, hd, hg⟩ := H.o8
      refine ⟨oo, hq, hg, fun U v K Q k hdep hK => ?_⟩
      exact ov_move ho hd ((go U 15 (by decide)).trans e15) (hK _ _ (Kp.refl _) rfl)
    · cases h
      obtain ⟨oo, hq, ho, hd, hg⟩ := H.o9
      refine ⟨oo, hq, hg, fun U v K Q k hdep hK => ?_⟩
      exact ov_move ho hd ((go U 16 (by decide)).trans e16) (hK _ _ (Kp.refl _) rfl)
    · cases h
      obtain ⟨oo, hq, ho, hd, hg⟩ := H.o10
      refine ⟨oo, hq, hg, fun U v K Q k hdep hK => ?_⟩
      obtain ⟨q, v1, dm⟩ := hdep 1 75 _ (by decide) rfl
      have v3 := hdep 3 77 _ (by decide) rfl
      have v5 := hdep 5 79 _ (by decide) rfl
      have v7 := hdep 7 81 _ (by decide) rfl
      have v8 := hdep 8 82 _ (by decide) rfl
      have v9 := hdep 9 83 _ (by decide) rfl
      refine ov_call ho hd Try.func7 rfl (by decide) (vs := #[.pointer (some ⟨q, 0, none⟩), .int .u64 4096, .bool on, .int .u64 (root : Int), .int .u64 (u : Int), .int .i64 acc]) (by simp only [List.map_toArray, List.map_cons, List.map_nil]; rw [ge U 75 (by decide), ge U 77 (by decide), ge U 79 (by decide), ge U 81 (by decide), ge U 82 (by decide), ge U 83 (by decide), v1, v3, v5, v7, v8, v9]) ((kr v q dm).mono fun e w' ⟨h1, h2⟩ => ⟨_, h1, And.intro rfl h2⟩) (Φ := fun x w' => x = .tuple #[ouV OO, faV FF, .int .i64 ((N : Nat) : Int)] ∧ Kp v w') (fun x w' hx => hK x w' hx.2 hx.1)
    · cases h
      obtain ⟨oo, hq, ho, hd, hg⟩ := H.o11
      refine ⟨oo, hq, hg, fun U v K Q k hdep hK => ?_⟩
      exact ov_move ho hd ((ge U 84 (by decide)).trans (hdep 10 84 _ (by decide) rfl)) (hK _ _ (Kp.refl _) rfl)
    · cases h
      obtain ⟨oo, hq, ho, hd, hg⟩ := H.o12
      refine ⟨oo, hq, hg, fun U v K Q k hdep hK => ?_⟩
      exact ov_extract ho hd ((ge U 73 (by decide)).trans (hdep 11 73 _ (by decide) rfl)) rfl (hK _ _ (Kp.refl _) rfl)
    · cases h
      obtain ⟨oo, hq, ho, hd, hg⟩ := H.o13
      refine ⟨oo, hq, hg, fun U v K Q k hdep hK => ?_⟩
      exact ov_extract ho hd ((ge U 73 (by decide)).trans (hdep 11 73 _ (by decide) rfl)) rfl (hK _ _ (Kp.refl _) rfl)
    · cases h
      obtain ⟨oo, hq, ho, hd, hg⟩ := H.o14
      refine ⟨oo, hq, hg, fun U v K Q k hdep hK => ?_⟩
      exact ov_extract ho hd ((ge U 73 (by decide)).trans (hdep 11 73 _ (by decide) rfl)) rfl (hK _ _ (Kp.refl _) rfl)
    · cases h
    · cases h
    · cases h
    · cases h
    · cases h
      obtain ⟨oo, hq, ho, hd, hg⟩ := H.o19
      refine ⟨oo, hq, hg, fun U v K Q k hdep hK => ?_⟩
      exact ov_assign ho hd ((ge U 87 (by decide)).trans (hdep 14 87 _ (by decide) rfl)) (hK _ _ (Kp.refl _) rfl)
  · rw [H.sz] at hk
    rcases (by omega : k = 0 ∨ k = 1 ∨ k = 2 ∨ k = 3 ∨ k = 4 ∨ k = 5 ∨ k = 6 ∨ k = 7 ∨ k = 8 ∨ k = 9 ∨ k = 10 ∨ k = 11 ∨ k = 12 ∨ k = 13 ∨ k = 14 ∨ k = 15 ∨ k = 16 ∨ k = 17 ∨ k = 18 ∨ k = 19) with rfl | rfl | rfl | rfl | rfl | rfl | rfl | rfl | rfl | rfl | rfl | rfl | rfl | rfl | rfl | rfl | rfl | rfl | rfl | rfl
    · cases h
    · cases h
    · cases h
    · cases h
    · cases h
    · cases h
    · cases h
    · cases h
    · cases h
    · cases h
    · cases h
    · cases h
    · cases h
    · cases h
    · cases h
    · cases h
      obtain ⟨oo, hq, ho, hd, hg⟩ := H.o15
      exact ⟨oo, hq, hg, ho, hd, hz1⟩
    · cases h
      obtain ⟨oo, hq, ho, hd, hg⟩ := H.o16
      exact ⟨oo, hq, hg, ho, hd, hz2⟩
    · cases h
    · cases h
    · cases h
  · rw [H.sz] at hk
    rcases (by omega : k = 0 ∨ k = 1 ∨ k = 2 ∨ k = 3 ∨ k = 4 ∨ k = 5 ∨ k = 6 ∨ k = 7 ∨ k = 8 ∨ k = 9 ∨ k = 10 ∨ k = 11 ∨ k = 12 ∨ k = 13 ∨ k = 14 ∨ k = 15 ∨ k = 16 ∨ k = 17 ∨ k = 18 ∨ k = 19) with rfl | rfl | rfl | rfl | rfl | rfl | rfl | rfl | rfl | rfl | rfl | rfl | rfl | rfl | rfl | rfl | rfl | rfl | rfl | rfl
    · cases h
    · cases h
    · cases h
    · cases h
    · cases h
    · cases h
    · cases h
    · cases h
    · cases h
    · cases h
    · cases h
    · cases h
    · cases h
    · cases h
    · cases h
    · cases h
    · cases h
    · cases h
      obtain ⟨oo, hq, ho, hd, hg⟩ := H.o17
      exact ⟨oo, 20, encO zO, 12, 85, _, hq, hg, ho, hd, by rw [H.sz]; decide, rfl, H.st.1, by rw [H.sz]; decide, rfl, H.st.2.1, fun v w hv => hv, fun v w w' hv => hv, by kernel_rfl, rfl, rfl⟩
    · cases h
      obtain ⟨oo, hq, ho, hd, hg⟩ := H.o18
      exact ⟨oo, 21, encF zF, 13, 86, _, hq, hg, ho, hd, by rw [H.sz]; decide, rfl, H.st.2.2.1, by rw [H.sz]; decide, rfl, H.st.2.2.2, fun v w hv => hv, fun v w w' hv => hv, by kernel_rfl, rfl, rfl⟩
    · cases h
  · rw [H.sz] at hk hk'
    have e : ∀ k, k < 20 → ∀ j t Z, nK M p bv root u on acc OO FF N k = .put j t Z → (k = 17 ∧ j = 15) ∨ (k = 18 ∧ j = 16) := fun k hk j t Z h => by
      rcases (by omega : k = 0 ∨ k = 1 ∨ k = 2 ∨ k = 3 ∨ k = 4 ∨ k = 5 ∨ k = 6 ∨ k = 7 ∨ k = 8 ∨ k = 9 ∨ k = 10 ∨ k = 11 ∨ k = 12 ∨ k = 13 ∨ k = 14 ∨ k = 15 ∨ k = 16 ∨ k = 17 ∨ k = 18 ∨ k = 19) with rfl | rfl | rfl | rfl | rfl | rfl | rfl | rfl | rfl | rfl | rfl | rfl | rfl | rfl | rfl | rfl | rfl | rfl | rfl | rfl <;> cases h <;> simp
    rcases e k hk _ _ _ h with ⟨a1, a2⟩ | ⟨a1, a2⟩ <;> rcases e k' hk' _ _ _ h' with ⟨b1, b2⟩ | ⟨b1, b2⟩ <;> omega
end

end Go.Proofs.Ytclcickhgoiooaa

/- NestedWalks: its walk. -/
namespace Go.Proofs.Ytclcickhgoiooaa
open Go.RowKit
set_option maxRecDepth 10000
set_option linter.unusedVariables false

theorem alloc_rout (w : World) : (Instr.alloc 38 true (.tuple #[])).run Try.prog w = .ok (.pointer (some ⟨w.heap.size, 0, none⟩)) (w.alloc (.cells (encO zO).toArray 38)) := by
  have hz : ∀ w, (zeroValue 38).run Try.prog w = .ok (ouV zO) w := fun w => by kernel_rfl
  unfold Instr.alloc
  rw [Sem.run_bind, hz]
  rfl
theorem alloc_flt (w : World) : (Instr.alloc 35 true (.tuple #[])).run Try.prog w = .ok (.pointer (some ⟨w.heap.size, 0, none⟩)) (w.alloc (.cells (encF zF).toArray 35)) := by
  have hz : ∀ w, (zeroValue 35).run Try.prog w = .ok (faV zF) w := fun w => by kernel_rfl
  unfold Instr.alloc
  rw [Sem.run_bind, hz]
  rfl
theorem vbox_x (wr : World) (A : Obj) (r : Nat) (on : Bool) : RX ((wr.alloc A).alloc (.cells #[.int .u64 4096, .bool on, .int .u64 (r : Int)] 29)) (wr.heap.size + 1) 29 [.int .u64 4096, .bool on, .int .u64 (r : Int)] := by
  have := RX.made (wr.alloc A) 29 [.int .u64 4096, .bool on, .int .u64 (r : Int)]
  rw [show (wr.alloc A).heap.size = wr.heap.size + 1 by simp] at this
  exact this
theorem vbox_w {W wr : World} {p o : Nat} {M : Nat → Nat → Nat} (h : WW W (fun _ => False) p o M wr) (A : Obj) (r : Nat) (on : Bool) : WW W (fun i => i = wr.heap.size + 1) p o M ((wr.alloc A).alloc (.cells #[.int .u64 4096, .bool on, .int .u64 (r : Int)] 29)) :=
  (h.more (((Kp.refl wr).alloc A).alloc _) (wr.heap.size + 1) (by omega) (by simp)).less fun i hi => .inr hi

set_option maxHeartbeats 16000000 in
theorem nwalks_walk (na : Option Addr) (n cap : Nat) (V : Nat → EV) (on : Bool) (root va rm vm v48 k3 k4 k5 : Nat) (acc : Int) (w : World) (H : ES w na n V) (hr : root < 18446744073709551616) (hv : va < 18446744073709551616)
    (y1 : bits .and .u64 (root : Int) 28672 = (rm : Int)) (z1 : rm ≤ 28672) (y2 : (va : Int).tmod 131072 = (vm : Int)) (z2 : vm < 131072) (y3 : (va : Int).tmod 281474976710656 = (v48 : Int)) (z3 : v48 < 18446744073709551616) (y4 : bits .and .i64 acc 3 = (k3 : Int)) (y5 : (k3 : Int).tmod 3 = (k4 : Int)) (y6 : 1 + (k4 : Int) = (k5 : Int)) (z6 : (k5 : Int) ≤ 3) :
    Calls Try.prog 3 #[.slice na n cap, .bool on, .int .u64 (root : Int), .int .u64 (va : Int), .int .i64 acc] w fun e w' => e = .returned (.bool true) ∧ Kp w w' := by
  have kw := world_any na n cap V w H
  have kt := ltold_any
  have HB : Hid (root < 18446744073709551616 ∧ va < 18446744073709551616 ∧ rm < 18446744073709551616 ∧ vm < 18446744073709551616 ∧ v48 < 18446744073709551616) := ⟨hr, hv, by omega, Nat.lt_trans z2 (by decide), z3⟩
  clear H hr hv z1 z2 z3
  go_enter Try.func3, Try.ntmps3
  go_wp2_with fail
  with_reducible refine kw.mono ?_
  rintro e v1 ⟨p, M, rfl, H1, _⟩
  clear kw
  have HW : Hid (WW w (fun _ => False) p 100 M v1) := H1
  clear H1
  go_wp2_with fail
  go_loopg [13] 5 (fun g v13 wr => ∃ i : Nat, v13 = .int .i64 (i : Int) ∧ i ≤ 4 ∧ 4 - i ≤ g ∧ Hid (WW w (fun _ => False) p (100 + 24 * i) M wr))
  case atStart => exact ⟨0, rfl, by omega, by omega, HW⟩
  case round =>
    clear HW
    obtain ⟨i, rfl, hi, hg, HI⟩ := hrel
    by_cases ei : i < 4
    · have zi : (i : Int) < 4 := by omega
      go_upto_region 7 with fail
      go_cut [14] (fun v14 wx => ∃ (bv RT : Nat) (ON : Bool), v14 = .pointer (some ⟨bv, 0, none⟩) ∧ RT < 18446744073709551616 ∧ Hid (WW w (fun i => i = bv) p (100 + 24 * i) M wx ∧ RX wx bv 29 [.int .u64 4096, .bool ON, .int .u64 (RT : Int)]))
      case first =>
        clear kt y2 y3 y4 y5 y6 z6
        cases on
        · rcases (by omega : i = 0 ∨ i = 1 ∨ i = 2 ∨ i = 3) with rfl | rfl | rfl | rfl
          · rw [show ((0 : Nat) : Int) = 0 from rfl]
            go_wp2_with fail
            go_meet
            case rel => exact ⟨_, root, false, rfl, HB.out.1, vbox_w HI.out _ root false, vbox_x wr _ root false⟩
          · rw [show ((1 : Nat) : Int) = 1 from rfl]
            go_wp2_with fail
            go_meet
            case rel => exact ⟨_, rm, false, rfl, HB.out.2.2.1, vbox_w HI.out _ rm false, vbox_x wr _ rm false⟩
          · rw [show ((2 : Nat) : Int) = 2 from rfl]
            go_wp2_with fail
            go_meet
            case rel => exact ⟨_, 0, true, rfl, by decide, vbox_w HI.out _ (0 : Nat) true, vbox_x wr _ (0 : Nat) true⟩
          · rw [show ((3 : Nat) : Int) = 3 from rfl]
            go_wp2_with fail
            go_meet
            case rel => exact ⟨_, 0, true, rfl, by decide, vbox_w HI.out _ (0 : Nat) true, vbox_x wr _ (0 : Nat) true⟩
        · rcases (by omega : i = 0 ∨ i = 1 ∨ i = 2 ∨ i = 3) with rfl | rfl | rfl | rfl
          · rw [show ((0 : Nat) : Int) = 0 from rfl]
            go_wp2_with fail
            go_meet
            case rel => exact ⟨_, root, true, rfl, HB.out.1, vbox_w HI.out _ root true, vbox_x wr _ root true⟩
          · rw [show ((1 : Nat) : Int) = 1 from rfl]
            go_wp2_with fail
            go_meet
            case rel => exact ⟨_, rm, true, rfl, HB.out.2.2.1, vbox_w HI.out _ rm true, vbox_x wr _ rm true⟩
          · rw [show ((2 : Nat) : Int) = 2 from rfl]
            go_wp2_with fail
            go_meet
            case rel => exact ⟨_, 0, true, rfl, by decide, vbox_w HI.out _ (0 : Nat) true, vbox_x wr _ (0 : Nat) true⟩
          · rw [show ((3 : Nat) : Int) = 3 from rfl]
            go_wp2_with fail
            go_meet
            case rel => exact ⟨_, 0, true, rfl, by decide, vbox_w HI.out _ (0 : Nat) true, vbox_x wr _ (0 : Nat) true⟩
      case rest =>
        obtain ⟨bv, RT, ON, rfl, hRT, HV⟩ := hcut
        have HR : Hid (RT < 18446744073709551616) := hRT
        clear HI y1 hRT
        go_upto_region 8 with fail
        go_cut [15] (fun v15 wx => ∃ AD : Nat, v15 = .int .u64 (AD : Int) ∧ AD < 18446744073709551616 ∧ Hid (WW w (fun i => i = bv) p (100 + 24 * i) M wx ∧ RX wx bv 29 [.int .u64 4096, .bool ON, .int .u64 (RT : Int)]))
        case first =>
          clear kt y4 y5 y6 z6
          rcases (by omega : i = 0 ∨ i = 1 ∨ i = 2 ∨ i = 3) with rfl | rfl | rfl | rfl
          · rw [show ((0 : Nat) : Int) = 0 from rfl]
            go_wp2_with fail
            go_meet
            case rel => exact ⟨va, rfl, HB.out.2.1, HV.out.1.kp ((Kp.refl _).alloc _), HV.out.2.kp ((Kp.refl _).alloc _)⟩
          · rw [show ((1 : Nat) : Int) = 1 from rfl]
            go_wp2_with fail
            go_meet
            case rel => exact ⟨va, rfl, HB.out.2.1, HV.out.1.kp ((Kp.refl _).alloc _), HV.out.2.kp ((Kp.refl _).alloc _)⟩
          · rw [show ((2 : Nat) : Int) = 2 from rfl]
            go_wp2_with fail
            go_meet
            case rel => exact ⟨vm, rfl, HB.out.2.2.2.1, HV.out.1.kp ((Kp.refl _).alloc _), HV.out.2.kp ((Kp.refl _).alloc _)⟩
          · rw [show ((3 : Nat) : Int) = 3 from rfl]
            go_wp2_with fail
            go_meet
            case rel => exact ⟨v48, rfl, HB.out.2.2.2.2, HV.out.1.kp ((Kp.refl _).alloc _), HV.out.2.kp ((Kp.refl _).alloc _)⟩
        case rest =>
          obtain ⟨AD, rfl, hAD, HV2⟩ := hcut
          have HC : Hid (AD < 18446744073709551616 ∧ WW w (fun i => i = bv) p (100 + 24 * i) M wc ∧ RX wc bv 29 [.int .u64 4096, .bool ON, .int .u64 (RT : Int)]) := ⟨hAD, HV2.out⟩
          clear HV HV2 hAD y2 y3 kt
          by_cases h1 : 1 < i
          · have h2 : (1 : Int) < (i : Int) := by omega
            go_upto_region 12 with fail
            clear y4 y5 y6 h2
            obtain ⟨OO, FF, N, kn, kr⟩ := both_any HC.out.2.1 ON RT AD ((k5 : Int)) HR.out (by omega)
            obtain ⟨oF, oI, oa, ob, oc, or', oq, ox⟩ := OO
            obtain ⟨fs, fk, fl, fa, ft⟩ := FF
            have kx := fun w => nsame_any ⟨oF, oI, oa, ob, oc, or', oq, ox⟩ ⟨fs, fk, fl, fa, ft⟩ (N : Int) w
            have kx : ∀ w, Calls Try.prog 9 #[.agg #[.int .i64 oF, .int .u64 (oI : Int), .bool oa, .bool ob, .bool oc, .bool or', .bool oq, .bool ox], .agg #[.int .i64 fs, .int .i64 fk, .int .i64 fl, .int .u64 (fa : Int), .bool ft], .int .i64 (N : Int), .agg #[.int .i64 oF, .int .u64 (oI : Int), .bool oa, .bool ob, .bool oc, .bool or', .bool oq, .bool ox], .agg #[.int .i64 fs, .int .i64 fk, .int .i64 fl, .int .u64 (fa : Int), .bool ft], .int .i64 (N : Int)] w fun e w' => e = .returned (.bool true) ∧ Kp w w' := kx
            have k1 : Calls Try.prog 6 #[.pointer (some ⟨p, 0, none⟩), .agg #[.int .u64 4096, .bool ON, .int .u64 (RT : Int)], .int .u64 (AD : Int), .int .i64 ((k5 : Int))] wc fun e w' => e = .returned (.tuple #[.agg #[.int .i64 oF, .int .u64 (oI : Int), .bool oa, .bool ob, .bool oc, .bool or', .bool oq, .bool ox], .agg #[.int .i64 fs, .int .i64 fk, .int .i64 fl, .int .u64 (fa : Int), .bool ft], .int .i64 (N : Int)]) ∧ Hid (WW w (fun i => i = bv) p (100 + 24 * (i + 1)) M w' ∧ Fr (OuX w (fun i => i = bv)) wc w') := kn.mono fun e w' ⟨h1, h2, h3⟩ => ⟨h1, h2.le (by omega), h3⟩
            have KR : Hid (∀ v qq, DM v qq M → Calls Try.prog 7 #[.pointer (some ⟨qq, 0, none⟩), .int .u64 4096, .bool ON, .int .u64 (RT : Int), .int .u64 (AD : Int), .int .i64 ((k5 : Int))] v fun e w' => e = .returned (.tuple #[ouV ⟨oF, oI, oa, ob, oc, or', oq, ox⟩, faV ⟨fs, fk, fl, fa, ft⟩, .int .i64 ((N : Nat) : Int)]) ∧ Kp v w') := kr
            have XV := HC.out.2.2
            have xl := XV.lt
            have x0 := XV.cell (j := 0) rfl; have x1 := XV.cell (j := 1) rfl; have x2 := XV.cell (j := 2) rfl
            clear kn kr XV
            go_wp2_with fail
            with_reducible refine k1.mono ?_
            rintro _ w2 ⟨rfl, H2⟩
            have X2 : RX w2 bv 29 [.int .u64 4096, .bool ON, .int .u64 (RT : Int)] := HC.out.2.2.fr H2.out.2 (fun c => c.2 rfl)
            have K2 := box2_kp w2 ⟨oF, oI, oa, ob, oc, or', oq, ox⟩ ⟨fs, fk, fl, fa, ft⟩
            have W2 := H2.out.1.kp K2
            have X3 := X2.kp K2
            have A2 := box2_o w2 ⟨oF, oI, oa, ob, oc, or', oq, ox⟩ ⟨fs, fk, fl, fa, ft⟩
            have B2 := box2_f w2 ⟨oF, oI, oa, ob, oc, or', oq, ox⟩ ⟨fs, fk, fl, fa, ft⟩
            obtain ⟨v2, hv2⟩ : ∃ v, v = box2 w2 ⟨oF, oI, oa, ob, oc, or', oq, ox⟩ ⟨fs, fk, fl, fa, ft⟩ := ⟨_, rfl⟩
            rw [← hv2] at W2 X3 A2 B2
            have he2 : v2 = (w2.alloc (.cells #[.int .i64 oF, .int .u64 (oI : Int), .bool oa, .bool ob, .bool oc, .bool or', .bool oq, .bool ox] 33)).alloc (.cells #[.int .i64 fs, .int .i64 fk, .int .i64 fl, .int .u64 (fa : Int), .bool ft] 35) := hv2
            have HV : Hid (WW w (fun i => i = bv) p (100 + 24 * (i + 1)) M v2 ∧ RX v2 bv 29 [.int .u64 4096, .bool ON, .int .u64 (RT : Int)] ∧ RX v2 w2.heap.size 33 (encO ⟨oF, oI, oa, ob, oc, or', oq, ox⟩) ∧ RX v2 (w2.heap.size + 1) 35 (encF ⟨fs, fk, fl, fa, ft⟩)) := ⟨W2, X3, A2, B2⟩
            clear hv2 k1 H2 X2 K2 W2 X3 A2 B2 x0 x1 x2 HC xl
            go_upto_region 13 with fail
            rw [← he2]
            clear he2
            go_cut [20, 21, 22] (fun v20 v21 v22 wx => ∃ br bf, v20 = .pointer (some ⟨br, 0, none⟩) ∧ v21 = .pointer (some ⟨bf, 0, none⟩) ∧ v22 = .int .i64 ((N : Nat) : Int) ∧ Hid (RX wx br 38 (encO ⟨oF, oI, oa, ob, oc, or', oq, ox⟩) ∧ RX wx bf 35 (encF ⟨fs, fk, fl, fa, ft⟩) ∧ Kp v2 wx))
            case first =>
              refine wp_region_vals mixed (n13_G (M := M) (p := p) (bv := bv) (root := RT) (u := AD) (on := ON) (acc := (k5 : Int)) (OO := ⟨oF, oI, oa, ob, oc, or', oq, ox⟩) (FF := ⟨fs, fk, fl, fa, ft⟩) (N := N) ⟨rfl, ⟨_, rfl, rfl, rfl, rfl⟩, ⟨_, rfl, rfl, rfl, rfl⟩, ⟨_, rfl, rfl, rfl, rfl⟩, ⟨_, rfl, rfl, rfl, rfl⟩, ⟨_, rfl, rfl, rfl, rfl⟩, ⟨_, rfl, rfl, rfl, rfl⟩, ⟨_, rfl, rfl, rfl, rfl⟩, ⟨_, rfl, rfl, rfl, rfl⟩, ⟨_, rfl, rfl, rfl, rfl⟩, ⟨_, rfl, rfl, rfl, rfl⟩, ⟨_, rfl, rfl, rfl, rfl⟩, ⟨_, rfl, rfl, rfl, rfl⟩, ⟨_, rfl, rfl, rfl, rfl⟩, ⟨_, rfl, rfl, rfl, rfl⟩, ⟨_, rfl, rfl, rfl, rfl⟩, ⟨_, rfl, rfl, rfl, rfl⟩, ⟨_, rfl, rfl, rfl, rfl⟩, ⟨_, rfl, rfl, rfl, rfl⟩, ⟨_, rfl, rfl, rfl, rfl⟩, ⟨_, rfl, rfl, rfl, rfl⟩, by kernel_rfl, by kernel_rfl, by kernel_rfl, ⟨by kernel_rfl, by kernel_rfl, by kernel_rfl, by kernel_rfl⟩⟩ rfl rfl rfl rfl rfl HV.out.1 HV.out.2.1 KR.out alloc_rout alloc_flt) (Kp.refl _).drew ?_
              intro U v k hv hb _
              have f22 := hv 19 22 _ (by decide) rfl (fun _ _ _ h => h)
              obtain ⟨br, f20, _, _, p20⟩ := hb 15 20 _ _ (by decide) rfl
              obtain ⟨bf, f21, _, _, p21⟩ := hb 16 21 _ _ (by decide) rfl
              have R20 := p20 17 _ _ (by decide) rfl
              have R21 := p21 18 _ _ (by decide) rfl
              have HE : Hid (RX v br 38 (encO ⟨oF, oI, oa, ob, oc, or', oq, ox⟩) ∧ RX v bf 35 (encF ⟨fs, fk, fl, fa, ft⟩) ∧ Kp v2 v) := ⟨R20, R21, k⟩
              clear hv hb p20 p21 R20 R21 k
              simp only [fr2, layA, lays, List.setIfInBounds_toArray, List.set_cons_succ, List.set_cons_zero, Nat.reduceAdd]
              rw [f20, f21, f22]
              go_wp2_with fail
              go_meet
              case rel => exact ⟨br, bf, rfl, rfl, rfl, HE⟩
            case rest =>
              obtain ⟨br, bf, rfl, rfl, rfl, HE⟩ := hcut
              have C5 := HE.out.1
              have D5 := HE.out.2.1
              have A5 := HV.out.2.2.1.kp HE.out.2.2
              have B5 := HV.out.2.2.2.kp HE.out.2.2
              have a0 := A5.cell (j := 0) rfl; have a1 := A5.cell (j := 1) rfl; have a2 := A5.cell (j := 2) rfl; have a3 := A5.cell (j := 3) rfl; have a4 := A5.cell (j := 4) rfl; have a5 := A5.cell (j := 5) rfl; have a6 := A5.cell (j := 6) rfl; have a7 := A5.cell (j := 7) rfl
              have b0 := B5.cell (j := 0) rfl; have b1 := B5.cell (j := 1) rfl; have b2 := B5.cell (j := 2) rfl; have b3 := B5.cell (j := 3) rfl; have b4 := B5.cell (j := 4) rfl
              have c0 := C5.cell (j := 0) rfl; have c1 := C5.cell (j := 1) rfl; have c2 := C5.cell (j := 2) rfl; have c3 := C5.cell (j := 3) rfl; have c4 := C5.cell (j := 4) rfl; have c5 := C5.cell (j := 5) rfl; have c6 := C5.cell (j := 6) rfl; have c7 := C5.cell (j := 7) rfl
              have d0 := D5.cell (j := 0) rfl; have d1 := D5.cell (j := 1) rfl; have d2 := D5.cell (j := 2) rfl; have d3 := D5.cell (j := 3) rfl; have d4 := D5.cell (j := 4) rfl
              have HW5 : Hid (WW w (fun _ => False) p (100 + 24 * (i + 1)) M wc) := (HV.out.1.kp HE.out.2.2).less (fun i h => h.elim)
              clear A5 B5 C5 D5 HE HV KR
              go_wp2_with fail
              with_reducible refine (kx _).mono ?_
              rintro _ w6 ⟨rfl, K6⟩
              have HW6 : Hid (WW w (fun _ => False) p (100 + 24 * (i + 1)) M w6) := HW5.out.kp K6
              clear K6 HW5 kx a0 a1 a2 a3 a4 a5 a6 a7 b0 b1 b2 b3 b4 c0 c1 c2 c3 c4 c5 c6 c7 d0 d1 d2 d3 d4
              go_wp2_with fail
              go_roundg (4 - (i + 1))
              case measure => omega
              case rel => exact ⟨i + 1, by go_num, by omega, by omega, HW6⟩
          · have h2 : ¬ (1 : Int) < (i : Int) := by omega
            clear y4 y5 y6
            go_upto_region 12 with fail
            clear h2
            obtain ⟨OO, FF, N, kn, kr⟩ := both_any HC.out.2.1 ON RT AD (acc) HR.out (by omega)
            obtain ⟨oF, oI, oa, ob, oc, or', oq, ox⟩ := OO
            obtain ⟨fs, fk, fl, fa, ft⟩ := FF
            have kx := fun w => nsame_any ⟨oF, oI, oa, ob, oc, or', oq, ox⟩ ⟨fs, fk, fl, fa, ft⟩ (N : Int) w
            have kx : ∀ w, Calls Try.prog 9 #[.agg #[.int .i64 oF, .int .u64 (oI : Int), .bool oa, .bool ob, .bool oc, .bool or', .bool oq, .bool ox], .agg #[.int .i64 fs, .int .i64 fk, .int .i64 fl, .int .u64 (fa : Int), .bool ft], .int .i64 (N : Int), .agg #[.int .i64 oF, .int .u64 (oI : Int), .bool oa, .bool ob, .bool oc, .bool or', .bool oq, .bool ox], .agg #[.int .i64 fs, .int .i64 fk, .int .i64 fl, .int .u64 (fa : Int), .bool ft], .int .i64 (N : Int)] w fun e w' => e = .returned (.bool true) ∧ Kp w w' := kx
            have k1 : Calls Try.prog 6 #[.pointer (some ⟨p, 0, none⟩), .agg #[.int .u64 4096, .bool ON, .int .u64 (RT : Int)], .int .u64 (AD : Int), .int .i64 (acc)] wc fun e w' => e = .returned (.tuple #[.agg #[.int .i64 oF, .int .u64 (oI : Int), .bool oa, .bool ob, .bool oc, .bool or', .bool oq, .bool ox], .agg #[.int .i64 fs, .int .i64 fk, .int .i64 fl, .int .u64 (fa : Int), .bool ft], .int .i64 (N : Int)]) ∧ Hid (WW w (fun i => i = bv) p (100 + 24 * (i + 1)) M w' ∧ Fr (OuX w (fun i => i = bv)) wc w') := kn.mono fun e w' ⟨h1, h2, h3⟩ => ⟨h1, h2.le (by omega), h3⟩
            have KR : Hid (∀ v qq, DM v qq M → Calls Try.prog 7 #[.pointer (some ⟨qq, 0, none⟩), .int .u64 4096, .bool ON, .int .u64 (RT : Int), .int .u64 (AD : Int), .int .i64 (acc)] v fun e w' => e = .returned (.tuple #[ouV ⟨oF, oI, oa, ob, oc, or', oq, ox⟩, faV ⟨fs, fk, fl, fa, ft⟩, .int .i64 ((N : Nat) : Int)]) ∧ Kp v w') := kr
            have XV := HC.out.2.2
            have xl := XV.lt
            have x0 := XV.cell (j := 0) rfl; have x1 := XV.cell (j := 1) rfl; have x2 := XV.cell (j := 2) rfl
            clear kn kr XV
            go_wp2_with fail
            with_reducible refine k1.mono ?_
            rintro _ w2 ⟨rfl, H2⟩
            have X2 : RX w2 bv 29 [.int .u64 4096, .bool ON, .int .u64 (RT : Int)] := HC.out.2.2.fr H2.out.2 (fun c => c.2 rfl)
            have K2 := box2_kp w2 ⟨oF, oI, oa, ob, oc, or', oq, ox⟩ ⟨fs, fk, fl, fa, ft⟩
            have W2 := H2.out.1.kp K2
            have X3 := X2.kp K2
            have A2 := box2_o w2 ⟨oF, oI, oa, ob, oc, or', oq, ox⟩ ⟨fs, fk, fl, fa, ft⟩
            have B2 := box2_f w2 ⟨oF, oI, oa, ob, oc, or', oq, ox⟩ ⟨fs, fk, fl, fa, ft⟩
            obtain ⟨v2, hv2⟩ : ∃ v, v = box2 w2 ⟨oF, oI, oa, ob, oc, or', oq, ox⟩ ⟨fs, fk, fl, fa, ft⟩ := ⟨_, rfl⟩
            rw [← hv2] at W2 X3 A2 B2
            have he2 : v2 = (w2.alloc (.cells #[.int .i64 oF, .int .u64 (oI : Int), .bool oa, .bool ob, .bool oc, .bool or', .bool oq, .bool ox] 33)).alloc (.cells #[.int .i64 fs, .int .i64 fk, .int .i64 fl, .int .u64 (fa : Int), .bool ft] 35) := hv2
            have HV : Hid (WW w (fun i => i = bv) p (100 + 24 * (i + 1)) M v2 ∧ RX v2 bv 29 [.int .u64 4096, .bool ON, .int .u64 (RT : Int)] ∧ RX v2 w2.heap.size 33 (encO ⟨oF, oI, oa, ob, oc, or', oq, ox⟩) ∧ RX v2 (w2.heap.size + 1) 35 (encF ⟨fs, fk, fl, fa, ft⟩)) := ⟨W2, X3, A2, B2⟩
            clear hv2 k1 H2 X2 K2 W2 X3 A2 B2 x0 x1 x2 HC xl
            go_upto_region 13 with fail
            rw [← he2]
            clear he2
            go_cut [20, 21, 22] (fun v20 v21 v22 wx => ∃ br bf, v20 = .pointer (some ⟨br, 0, none⟩) ∧ v21 = .pointer (some ⟨bf, 0, none⟩) ∧ v22 = .int .i64 ((N : Nat) : Int) ∧ Hid (RX wx br 38 (encO ⟨oF, oI, oa, ob, oc, or', oq, ox⟩) ∧ RX wx bf 35 (encF ⟨fs, fk, fl, fa, ft⟩) ∧ Kp v2 wx))
            case first =>
              refine wp_region_vals mixed (n13_G (M := M) (p := p) (bv := bv) (root := RT) (u := AD) (on := ON) (acc := acc) (OO := ⟨oF, oI, oa, ob, oc, or', oq, ox⟩) (FF := ⟨fs, fk, fl, fa, ft⟩) (N := N) ⟨rfl, ⟨_, rfl, rfl, rfl, rfl⟩, ⟨_, rfl, rfl, rfl, rfl⟩, ⟨_, rfl, rfl, rfl, rfl⟩, ⟨_, rfl, rfl, rfl, rfl⟩, ⟨_, rfl, rfl, rfl, rfl⟩, ⟨_, rfl, rfl, rfl, rfl⟩, ⟨_, rfl, rfl, rfl, rfl⟩, ⟨_, rfl, rfl, rfl, rfl⟩, ⟨_, rfl, rfl, rfl, rfl⟩, ⟨_, rfl, rfl, rfl, rfl⟩, ⟨_, rfl, rfl, rfl, rfl⟩, ⟨_, rfl, rfl, rfl, rfl⟩, ⟨_, rfl, rfl, rfl, rfl⟩, ⟨_, rfl, rfl, rfl, rfl⟩, ⟨_, rfl, rfl, rfl, rfl⟩, ⟨_, rfl, rfl, rfl, rfl⟩, ⟨_, rfl, rfl, rfl, rfl⟩, ⟨_, rfl, rfl, rfl, rfl⟩, ⟨_, rfl, rfl, rfl, rfl⟩, ⟨_, rfl, rfl, rfl, rfl⟩, by kernel_rfl, by kernel_rfl, by kernel_rfl, ⟨by kernel_rfl, by kernel_rfl, by kernel_rfl, by kernel_rfl⟩⟩ rfl rfl rfl rfl rfl HV.out.1 HV.out.2.1 KR.out alloc_rout alloc_flt) (Kp.refl _).drew ?_
              intro U v k hv hb _
              have f22 := hv 19 22 _ (by decide) rfl (fun _ _ _ h => h)
              obtain ⟨br, f20, _, _, p20⟩ := hb 15 20 _ _ (by decide) rfl
              obtain ⟨bf, f21, _, _, p21⟩ := hb 16 21 _ _ (by decide) rfl
              have R20 := p20 17 _ _ (by decide) rfl
              have R21 := p21 18 _ _ (by decide) rfl
              have HE : Hid (RX v br 38 (encO ⟨oF, oI, oa, ob, oc, or', oq, ox⟩) ∧ RX v bf 35 (encF ⟨fs, fk, fl, fa, ft⟩) ∧ Kp v2 v) := ⟨R20, R21, k⟩
              clear hv hb p20 p21 R20 R21 k
              simp only [fr2, layA, lays, List.setIfInBounds_toArray, List.set_cons_succ, List.set_cons_zero, Nat.reduceAdd]
              rw [f20, f21, f22]
              go_wp2_with fail
              go_meet
              case rel => exact ⟨br, bf, rfl, rfl, rfl, HE⟩
            case rest =>
              obtain ⟨br, bf, rfl, rfl, rfl, HE⟩ := hcut
              have C5 := HE.out.1
              have D5 := HE.out.2.1
              have A5 := HV.out.2.2.1.kp HE.out.2.2
              have B5 := HV.out.2.2.2.kp HE.out.2.2
              have a0 := A5.cell (j := 0) rfl; have a1 := A5.cell (j := 1) rfl; have a2 := A5.cell (j := 2) rfl; have a3 := A5.cell (j := 3) rfl; have a4 := A5.cell (j := 4) rfl; have a5 := A5.cell (j := 5) rfl; have a6 := A5.cell (j := 6) rfl; have a7 := A5.cell (j := 7) rfl
              have b0 := B5.cell (j := 0) rfl; have b1 := B5.cell (j := 1) rfl; have b2 := B5.cell (j := 2) rfl; have b3 := B5.cell (j := 3) rfl; have b4 := B5.cell (j := 4) rfl
              have c0 := C5.cell (j := 0) rfl; have c1 := C5.cell (j := 1) rfl; have c2 := C5.cell (j := 2) rfl; have c3 := C5.cell (j := 3) rfl; have c4 := C5.cell (j := 4) rfl; have c5 := C5.cell (j := 5) rfl; have c6 := C5.cell (j := 6) rfl; have c7 := C5.cell (j := 7) rfl
              have d0 := D5.cell (j := 0) rfl; have d1 := D5.cell (j := 1) rfl; have d2 := D5.cell (j := 2) rfl; have d3 := D5.cell (j := 3) rfl; have d4 := D5.cell (j := 4) rfl
              have HW5 : Hid (WW w (fun _ => False) p (100 + 24 * (i + 1)) M wc) := (HV.out.1.kp HE.out.2.2).less (fun i h => h.elim)
              clear A5 B5 C5 D5 HE HV KR
              go_wp2_with fail
              with_reducible refine (kx _).mono ?_
              rintro _ w6 ⟨rfl, K6⟩
              have HW6 : Hid (WW w (fun _ => False) p (100 + 24 * (i + 1)) M w6) := HW5.out.kp K6
              clear K6 HW5 kx a0 a1 a2 a3 a4 a5 a6 a7 b0 b1 b2 b3 b4 c0 c1 c2 c3 c4 c5 c6 c7 d0 d1 d2 d3 d4
              go_wp2_with fail
              go_roundg (4 - (i + 1))
              case measure => omega
              case rel => exact ⟨i + 1, by go_num, by omega, by omega, HW6⟩
    · have ej : i = 4 := by omega
      subst ej
      have HK : Hid (Kp w wr) := HI.out.k
      clear HI y1 y2 y3 y4 y5 y6
      rw [show ((4 : Nat) : Int) = 4 from rfl]
      go_wp2_with fail
      with_reducible refine (kt _).mono ?_
      rintro _ w5 ⟨rfl, K5⟩
      have HK5 : Hid (Kp w w5) := HK.out.trans K5
      clear HK K5 kt
      go_wp2
      go_ret
      exact ⟨rfl, HK5.out⟩

theorem nwalks_law (on : Bool) (root va acc : Int) (na : Option Addr) (n cap : Nat) (V : Nat → EV) (w : World) (H : ES w na n V) (h1 : (Lit.int .u64 root).wf = true) (h2 : (Lit.int .u64 va).wf = true) :
    Calls Try.prog 3 #[.slice na n cap, .bool on, .int .u64 root, .int .u64 va, .int .i64 acc] w fun e w' => e = .returned (.bool true) ∧ Kp w w' := by
  obtain ⟨a1, a2⟩ := wf_word h1
  obtain ⟨t, rfl⟩ := Int.eq_ofNat_of_zero_le a1
  obtain ⟨b1, b2⟩ := wf_word h2
  obtain ⟨u, rfl⟩ := Int.eq_ofNat_of_zero_le b1
  have e1 := u64_and_nat t 28672 (by omega) (by decide)
  have l1 : t &&& 28672 ≤ 28672 := Nat.and_le_right
  obtain ⟨m, m1, m2⟩ := and_lim acc 3 (by omega)
  exact nwalks_walk na n cap V on t u (t &&& 28672) (u % 131072) (u % 281474976710656) m (m % 3) (1 + m % 3) acc w H (by omega) (by omega) e1 l1 (by rw [Int.tmod_eq_emod_of_nonneg (by omega)]; omega) (by omega) (by rw [Int.tmod_eq_emod_of_nonneg (by omega)]; omega) (by omega) m1 (by rw [Int.tmod_eq_emod_of_nonneg (by omega)]; omega) (by omega) (by omega)

end Go.Proofs.Ytclcickhgoiooaa
