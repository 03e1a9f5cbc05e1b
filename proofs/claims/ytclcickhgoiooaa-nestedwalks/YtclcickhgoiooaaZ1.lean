/- walk: a descriptor, a step; a reader; ask. -/
import Derived.Test.YtclcickhgoiooaaJE
import Derived.Test.YtclcickhgoiooaaUS
import Derived.Defers
import Derived.Recover
import Derived.Laws.Pointers
namespace Go.Proofs.Ytclcickhgoiooaa
open Go.RowKit
set_option maxRecDepth 10000

/-- A descriptor. -/
structure DV where
  k : Int
  a : Nat
  r : Bool
  q : Bool
  x : Bool
  f : Int

/-- A step: the level, where the entry lies, the word, its descriptor. -/
structure SV where
  l : Nat
  p : Nat
  u : Nat
  d : DV

def encS (s : SV) : List Value := [.int .i64 (s.l : Int), .int .u64 (s.p : Int), .int .u64 (s.u : Int), .int .i64 s.d.k, .int .u64 (s.d.a : Int), .bool s.d.r, .bool s.d.q, .bool s.d.x, .int .i64 s.d.f]
theorem encS_ok : Enc encS 9 where
  len _ := rfl
  one s u h := by
    simp only [encS, List.mem_cons, List.not_mem_nil, or_false] at h
    rcases h with rfl | rfl | rfl | rfl | rfl | rfl | rfl | rfl | rfl <;> rfl
  pos := by decide

/-- What is below B stays, in any world that changes other blocks alone. -/
theorem Fr.below {S : Nat → Prop} {w w' : World} {B : Nat} (h : Fr S w w') (hB : B ≤ w.heap.size) (hS : ∀ b, S b → B ≤ b) : Go.RowKit.Below B w w' :=
  ⟨h.os, h.tape, h.output, h.size, fun k hk => h.block k (by omega) (fun s => by have := hS k s; omega)⟩
theorem Kp.below {w w' : World} {B : Nat} (h : Kp w w') (hB : B ≤ w.heap.size) : Go.RowKit.Below B w w' := Go.RowKit.Below.mono h hB

/-- A reader: what it tells of a place is rd; n of its calls have been made where I n holds; it touches the blocks of S alone, and leans on those below B alone. -/
structure RD (B : Nat) (g : FuncId) (fst cap : Array Value) (rd : Nat → Nat × Bool) (S : Nat → Prop) (I : Nat → World → Prop) : Prop where
  fn : ∃ fn, Try.prog.funcs[g]? = some fn ∧ fn.body.isSome = true ∧ ¬ fn.name = "runtime.NumGoroutine"
  lt : ∀ b, S b → b < B
  word : ∀ p, (rd p).1 < 18446744073709551616
  keep : ∀ n w w', I n w → Go.RowKit.Below B w w' → I n w'
  size : ∀ n w, I n w → B ≤ w.heap.size
  call : ∀ n w (p : Nat), I n w → n ≤ 100 → p < 18446744073709551616 → Calls Try.prog g (fst.push (.int .u64 (p : Int)) ++ cap) w fun e w' => e = .returned (.tuple #[.int .u64 ((rd p).1 : Int), .bool (rd p).2]) ∧ I (n + 1) w' ∧ Fr S w w'

/-- The deferred function of a frame that returns: nothing is recovered, nothing changes. -/
theorem catch_idle (p q : Addr) (w : World) :
    CallsD Try.prog 90 #[.pointer (some p), .pointer (some q)] .returning w fun e u' w' => e = .returned (.tuple #[]) ∧ u' = .returning ∧ w' = w := by
  refine callsD_of_wpS Try.func90 rfl fun c₀ cs hu => ?_
  apply wpS_seq
  apply wpS_region
  simp [wpOpsS, go_sem, recoverD, hu, Try.ntmps90, Exit.thenS]
  refine wpS_cond (t := false) (by simp [Act.eval, Array.replicate]) ?_
  simp only [Bool.false_eq_true, if_false]
  refine wpS_of_wp (wp_skip ?_)
  cases c₀
  simp_all [bodyPostS, results, Try.results90]

theorem ask_nil (p : Int) (w : World) :
    Calls Try.prog 83 #[.nilFunc, .int .u64 p] w fun e w' => e = .returned (.tuple #[.int .u64 0, .bool false]) ∧ Kp w w' := by
  have hnil : ∀ w : World, (binOp BinOp.eql 94 .nilFunc .nilFunc).run Try.prog w = .ok (.bool true) w := fun _ => by kernel_rfl
  go_enter_defers Try.func83, Try.ntmps83
  go_wp2
  refine ⟨_, ?_, rfl, ((Kp.refl w).alloc _).alloc _⟩
  simp [results, Try.results83, go_sem]

theorem ask_any {B : Nat} {g : FuncId} {fst cap : Array Value} {rd : Nat → Nat × Bool} {S : Nat → Prop} {I : Nat → World → Prop} (R : RD B g fst cap rd S I) (n p : Nat) (w : World) (hI : I n w) (hn : n ≤ 100) (hp : p < 18446744073709551616) :
    Calls Try.prog 83 #[.func (.func g) fst cap, .int .u64 (p : Int)] w fun e w' => e = .returned (.tuple #[.int .u64 ((rd p).1 : Int), .bool (rd p).2]) ∧ I (n + 1) w' ∧ Fr S w w' := by
  have hnil : ∀ w : World, (binOp BinOp.eql 94 (.func (.func g) fst cap) .nilFunc).run Try.prog w = .ok (.bool false) w := fun _ => by rfl
  have hmf : ∀ (fn : Fn) (first cap : Array Value) (w : World), (Instr.makeFunc fn first cap).run Try.prog w = .ok (.func fn first cap) w := fun _ _ _ _ => rfl
  have hcf : ∀ args w, (callFunc g args).run Try.prog w = .ok (.enter g args) w := by
    obtain ⟨fn, hf, hb, hnm⟩ := R.fn
    obtain ⟨c, hb⟩ := Option.isSome_iff_exists.1 hb
    intro args w
    simp [callFunc, go_sem, hf, hb, hnm]
  obtain ⟨w2, hw2⟩ : ∃ w2, w2 = (w.alloc (.cells #[.int .u64 0] 23)).alloc (.cells #[.bool false] 4) := ⟨_, rfl⟩
  have k2 : Kp w w2 := by rw [hw2]; exact ((Kp.refl w).alloc _).alloc _
  have b0 := R.size n w hI
  have e4 : w2.heap[w.heap.size]? = some (.cells #[.int .u64 0] 23) := by
    rw [hw2]; exact (((Kp.refl _).alloc _).block w.heap.size (by simp)).trans (heap_alloc_new w _)
  have e5 : w2.heap[w.heap.size + 1]? = some (.cells #[.bool false] 4) := by
    rw [hw2]; have := heap_alloc_new (w.alloc (.cells #[.int .u64 0] 23)) (.cells #[.bool false] 4); simpa using this
  have z2 : w2.heap.size = w.heap.size + 2 := by rw [hw2]; simp
  have hc := R.call n w2 p (R.keep n w w2 hI (k2.below b0)) hn hp
  generalize (rd p).1 = u at hc ⊢
  generalize (rd p).2 = ok at hc ⊢
  have hc : Aside (Calls Try.prog g (fst.push (.int .u64 (p : Int)) ++ cap) w2 fun e w' => e = .returned (.tuple #[.int .u64 (u : Int), .bool ok]) ∧ I (n + 1) w' ∧ Fr S w2 w') := hc
  have HW : Hid (Kp w w2) := k2
  clear k2
  go_enter_defers Try.func83, Try.ntmps83
  go_wp2_with fail
  rw [← hw2]
  with_reducible refine hc.out.mono ?_
  rintro e w3 ⟨rfl, I3, F3⟩
  have f4 : w3.heap[w.heap.size]? = some (.cells #[.int .u64 0] 23) := (F3.block _ (by omega) (fun s => by have := R.lt _ s; omega)).trans e4
  have f5 : w3.heap[w.heap.size + 1]? = some (.cells #[.bool false] 4) := (F3.block _ (by omega) (fun s => by have := R.lt _ s; omega)).trans e5
  have g4 : w3.frozen? ⟨w.heap.size, 0, none⟩ = false := frozen_of_row _ _ 0 _ _ f4
  have g5 : w3.frozen? ⟨w.heap.size + 1, 0, none⟩ = false := frozen_of_row _ _ 0 _ _ f5
  have h4 : w3.cell? ⟨w.heap.size, 0, none⟩ = some (.int .u64 0) := by rw [cell_of_row _ _ 0 _ _ _ f4]; rfl
  have h5 : w3.cell? ⟨w.heap.size + 1, 0, none⟩ = some (.bool false) := by rw [cell_of_row _ _ 0 _ _ _ f5]; rfl
  have HI : Hid (I (n + 1) w3) := I3
  have HF : Hid (Fr S w2 w3) := F3
  clear I3 F3 hc hI e4 e5
  go_wp2
  obtain ⟨w4, hw4⟩ : ∃ w4, w4 = (w3.setCell ⟨w.heap.size, 0, none⟩ (.int .u64 (u : Int))).setCell ⟨w.heap.size + 1, 0, none⟩ (.bool ok) := ⟨_, rfl⟩
  have x4 : w4.heap[w.heap.size]? = some (.cells #[.int .u64 (u : Int)] 23) := by
    rw [hw4, heap_setCell_other _ _ _ _ (by simp)]; exact heap_setCell_same w3 _ 0 _ _ _ f4
  have x5 : w4.heap[w.heap.size + 1]? = some (.cells #[.bool ok] 4) := by
    have f6 : (w3.setCell ⟨w.heap.size, 0, none⟩ (.int .u64 (u : Int))).heap[w.heap.size + 1]? = some (.cells #[.bool false] 4) := (heap_setCell_other w3 ⟨w.heap.size, 0, none⟩ (w.heap.size + 1) _ (by simp)).trans f5
    rw [hw4]; exact heap_setCell_same _ _ 0 _ _ _ f6
  have h3 := HF.out.size
  have F4 : Fr (fun b => w.heap.size ≤ b) w3 w4 := by rw [hw4]; exact ((Fr.refl _ w3).set _ _ (Nat.le_refl w.heap.size)).set _ _ (Nat.le_add_right w.heap.size 1)
  have I4 : I (n + 1) w4 := R.keep _ w3 w4 HI.out (F4.below (by omega) (fun b hb => by omega))
  have FF : Fr S w w4 := ((HW.out.fr S).trans HF.out).trans2 F4 (fun i hi t => by omega)
  rw [← hw4]
  refine leaves_cons (f := 90) (args := #[.pointer (some ⟨w.heap.size, 0, none⟩), .pointer (some ⟨w.heap.size + 1, 0, none⟩)]) (by simp) (by simp [go_sem]) ?_
  refine (catch_idle _ _ _).mono ?_
  rintro e u' w'' ⟨rfl, rfl, rfl⟩
  have c4 : w''.cell? ⟨w.heap.size, 0, none⟩ = some (.int .u64 (u : Int)) := by rw [cell_of_row _ _ 0 _ _ _ x4]; rfl
  have c5 : w''.cell? ⟨w.heap.size + 1, 0, none⟩ = some (.bool ok) := by rw [cell_of_row _ _ 0 _ _ _ x5]; rfl
  refine ⟨_, ?_, rfl, I4, FF⟩
  simp [results, Try.results83, go_sem, c4, c5]

end Go.Proofs.Ytclcickhgoiooaa
