/- tlb: lines and places: like ones, in blocks, results. -/
import Derived.Test.YtclcickhgoiooaaRXG
import Derived.Test.YtclcickhgoiooaaEP
import Derived.Test.YtclcickhgoiooaaSA
import Derived.Test.YtclcickhgoiooaaUS
namespace Go.Proofs.Ytclcickhgoiooaa
open Go.RowKit
set_option maxRecDepth 10000

/-- A line. -/
structure LN where
  i : Int
  a : Int
  v : Nat
  p : Nat
  f : Int
  r : Bool
  q : Bool
  x : Bool
  r2 : Bool
  q2 : Bool
  x2 : Bool
/-- A place. -/
structure PC where
  on : Bool
  l : LN
def zL : LN := ⟨0, 0, 0, 0, 0, false, false, false, false, false, false⟩
def zP : PC := ⟨false, zL⟩
def encL (l : LN) : List Value := [.int .i64 l.i, .int .i64 l.a, .int .u64 (l.v : Int), .int .u64 (l.p : Int), .int .i64 l.f, .bool l.r, .bool l.q, .bool l.x, .bool l.r2, .bool l.q2, .bool l.x2]
def encP (c : PC) : List Value := [.bool c.on, .int .i64 c.l.i, .int .i64 c.l.a, .int .u64 (c.l.v : Int), .int .u64 (c.l.p : Int), .int .i64 c.l.f, .bool c.l.r, .bool c.l.q, .bool c.l.x, .bool c.l.r2, .bool c.l.q2, .bool c.l.x2]
def lnV (l : LN) : Value := .agg #[.int .i64 l.i, .int .i64 l.a, .int .u64 (l.v : Int), .int .u64 (l.p : Int), .int .i64 l.f, .bool l.r, .bool l.q, .bool l.x, .bool l.r2, .bool l.q2, .bool l.x2]
def pcV (c : PC) : Value := .agg #[.bool c.on, .int .i64 c.l.i, .int .i64 c.l.a, .int .u64 (c.l.v : Int), .int .u64 (c.l.p : Int), .int .i64 c.l.f, .bool c.l.r, .bool c.l.q, .bool c.l.x, .bool c.l.r2, .bool c.l.q2, .bool c.l.x2]
theorem encL_ok : Enc encL 11 where
  len _ := rfl
  one s u h := by
    simp only [encL, List.mem_cons, List.not_mem_nil, or_false] at h
    rcases h with rfl | rfl | rfl | rfl | rfl | rfl | rfl | rfl | rfl | rfl | rfl <;> rfl
  pos := by decide
/-- Are two lines alike? -/
def samL (l m : LN) : Bool := ((l.i == m.i) && (l.a == m.a) && ((l.v : Int) == (m.v : Int)) && ((l.p : Int) == (m.p : Int)) && (l.f == m.f) && samP l.r l.q l.x m.r m.q m.x && samP l.r2 l.q2 l.x2 m.r2 m.q2 m.x2)
theorem samL_eq {l m : LN} : samL l m = true ↔ l = m := by
  obtain ⟨i, a, v, p, f, r, q, x, r2, q2, x2⟩ := l
  obtain ⟨i', a', v', p', f', r', q', x', r2', q2', x2'⟩ := m
  simp only [samL, Bool.and_eq_true, beq_iff_eq, samP_eq, LN.mk.injEq]
  constructor
  · rintro ⟨⟨⟨⟨⟨⟨h1, h2⟩, h3⟩, h4⟩, h5⟩, h6, h7, h8⟩, h9, h10, h11⟩
    exact ⟨h1, h2, by omega, by omega, h5, h6, h7, h8, h9, h10, h11⟩
  · rintro ⟨h1, h2, h3, h4, h5, h6, h7, h8, h9, h10, h11⟩
    exact ⟨⟨⟨⟨⟨⟨h1, h2⟩, by omega⟩, by omega⟩, h5⟩, h6, h7, h8⟩, h9, h10, h11⟩
theorem samL_refl (l : LN) : samL l l = true := samL_eq.2 rfl
theorem samL_not {l m : LN} (h : l ≠ m) : samL l m = false := by
  cases e : samL l m
  · rfl
  · exact absurd (samL_eq.1 e) h

theorem eq_lineA (i a v p f i' a' v' p' f' : Int) (r q x r2 q2 x2 r' q' x' r2' q2' x2' : Bool) (w : World) : (Op.equalIn 10000 54 (.agg #[.int .i64 i, .int .i64 a, .int .u64 v, .int .u64 p, .int .i64 f, .bool r, .bool q, .bool x, .bool r2, .bool q2, .bool x2]) (.agg #[.int .i64 i', .int .i64 a', .int .u64 v', .int .u64 p', .int .i64 f', .bool r', .bool q', .bool x', .bool r2', .bool q2', .bool x2'])).run Try.prog w =
    .ok ((i == i') && (a == a') && (v == v') && (p == p') && (f == f') && samP r q x r' q' x' && samP r2 q2 x2 r2' q2' x2') w := by
  rw [show (10000 : Nat) = 9999 + 1 from rfl, run_equalIn_struct w 9999 _ _ _ (by kernel_rfl) (by kernel_rfl)]
  have e0 : (Op.equalIn 9999 3 (.int .i64 i) (.int .i64 i')).run Try.prog w = .ok (i == i') w := run_equalIn_int w 9998 3 .i64 .i64 i i' Try.underlying3
  have e1 : (Op.equalIn 9999 3 (.int .i64 a) (.int .i64 a')).run Try.prog w = .ok (a == a') w := run_equalIn_int w 9998 3 .i64 .i64 a a' Try.underlying3
  have e2 : (Op.equalIn 9999 23 (.int .u64 v) (.int .u64 v')).run Try.prog w = .ok (v == v') w := run_equalIn_int w 9998 23 .u64 .u64 v v' Try.underlying23
  have e3 : (Op.equalIn 9999 23 (.int .u64 p) (.int .u64 p')).run Try.prog w = .ok (p == p') w := run_equalIn_int w 9998 23 .u64 .u64 p p' Try.underlying23
  have e4 : (Op.equalIn 9999 3 (.int .i64 f) (.int .i64 f')).run Try.prog w = .ok (f == f') w := run_equalIn_int w 9998 3 .i64 .i64 f f' Try.underlying3
  have e5 : (Op.equalIn 9999 31 (.agg #[.bool r, .bool q, .bool x]) (.agg #[.bool r', .bool q', .bool x'])).run Try.prog w = .ok (samP r q x r' q' x') w := eq_perm 9997 r q x r' q' x' w
  have e6 : (Op.equalIn 9999 31 (.agg #[.bool r2, .bool q2, .bool x2]) (.agg #[.bool r2', .bool q2', .bool x2'])).run Try.prog w = .ok (samP r2 q2 x2 r2' q2' x2') w := eq_perm 9997 r2 q2 x2 r2' q2' x2' w
  have h0 : ∀ (i a v p f : Int) (r q x r2 q2 x2 : Bool), (part 3 #[.int .i64 i, .int .i64 a, .int .u64 v, .int .u64 p, .int .i64 f, .bool r, .bool q, .bool x, .bool r2, .bool q2, .bool x2] 0).run Try.prog w = .ok (.int .i64 i) w := fun i a v p f r q x r2 q2 x2 => by simp [part, isAgg, run_underlying Try.underlying3]
  have h1 : ∀ (i a v p f : Int) (r q x r2 q2 x2 : Bool), (part 3 #[.int .i64 i, .int .i64 a, .int .u64 v, .int .u64 p, .int .i64 f, .bool r, .bool q, .bool x, .bool r2, .bool q2, .bool x2] 1).run Try.prog w = .ok (.int .i64 a) w := fun i a v p f r q x r2 q2 x2 => by simp [part, isAgg, run_underlying Try.underlying3]
  have h2 : ∀ (i a v p f : Int) (r q x r2 q2 x2 : Bool), (part 23 #[.int .i64 i, .int .i64 a, .int .u64 v, .int .u64 p, .int .i64 f, .bool r, .bool q, .bool x, .bool r2, .bool q2, .bool x2] 2).run Try.prog w = .ok (.int .u64 v) w := fun i a v p f r q x r2 q2 x2 => by simp [part, isAgg, run_underlying Try.underlying23]
  have h3 : ∀ (i a v p f : Int) (r q x r2 q2 x2 : Bool), (part 23 #[.int .i64 i, .int .i64 a, .int .u64 v, .int .u64 p, .int .i64 f, .bool r, .bool q, .bool x, .bool r2, .bool q2, .bool x2] 3).run Try.prog w = .ok (.int .u64 p) w := fun i a v p f r q x r2 q2 x2 => by simp [part, isAgg, run_underlying Try.underlying23]
  have h4 : ∀ (i a v p f : Int) (r q x r2 q2 x2 : Bool), (part 3 #[.int .i64 i, .int .i64 a, .int .u64 v, .int .u64 p, .int .i64 f, .bool r, .bool q, .bool x, .bool r2, .bool q2, .bool x2] 4).run Try.prog w = .ok (.int .i64 f) w := fun i a v p f r q x r2 q2 x2 => by simp [part, isAgg, run_underlying Try.underlying3]
  have h5 : ∀ (i a v p f : Int) (r q x r2 q2 x2 : Bool), (part 31 #[.int .i64 i, .int .i64 a, .int .u64 v, .int .u64 p, .int .i64 f, .bool r, .bool q, .bool x, .bool r2, .bool q2, .bool x2] 5).run Try.prog w = .ok (.agg #[.bool r, .bool q, .bool x]) w := fun i a v p f r q x r2 q2 x2 => by simp [part, isAgg, run_underlying Try.underlying31]
  have h6 : ∀ (i a v p f : Int) (r q x r2 q2 x2 : Bool), (part 31 #[.int .i64 i, .int .i64 a, .int .u64 v, .int .u64 p, .int .i64 f, .bool r, .bool q, .bool x, .bool r2, .bool q2, .bool x2] 8).run Try.prog w = .ok (.agg #[.bool r2, .bool q2, .bool x2]) w := fun i a v p f r q x r2 q2 x2 => by simp [part, isAgg, run_underlying Try.underlying31]
  generalize (i == i') = c0 at *
  generalize (a == a') = c1 at *
  generalize (v == v') = c2 at *
  generalize (p == p') = c3 at *
  generalize (f == f') = c4 at *
  generalize samP r q x r' q' x' = c5 at *
  generalize samP r2 q2 x2 r2' q2' x2' = c6 at *
  simp only [Program.fieldsOf, Try.underlying54, Op.eqFields]
  cases c0
  · simp [h0, e0]
  cases c1
  · simp [h0, e0, h1, e1]
  cases c2
  · simp [h0, e0, h1, e1, h2, e2]
  cases c3
  · simp [h0, e0, h1, e1, h2, e2, h3, e3]
  cases c4
  · simp [h0, e0, h1, e1, h2, e2, h3, e3, h4, e4]
  cases c5
  · simp [h0, e0, h1, e1, h2, e2, h3, e3, h4, e4, h5, e5]
  cases c6
  · simp [h0, e0, h1, e1, h2, e2, h3, e3, h4, e4, h5, e5, h6, e6]
  simp [h0, e0, h1, e1, h2, e2, h3, e3, h4, e4, h5, e5, h6, e6]
theorem eq_line (l m : LN) (w : World) : (Op.equalIn 10000 54 (lnV l) (lnV m)).run Try.prog w = .ok (samL l m) w := eq_lineA l.i l.a l.v l.p l.f m.i m.a m.v m.p m.f l.r l.q l.x l.r2 l.q2 l.x2 m.r m.q m.x m.r2 m.q2 m.x2 w

/-! ### lines in blocks -/
section
variable {w : World} {b : Nat}
theorem RX.made1 (w : World) (o : Obj) (t : TypeId) (V : List Value) : RX ((w.alloc o).alloc (.cells V.toArray t)) (w.heap.size + 1) t V := by
  have h := RX.made (w.alloc o) t V
  simpa using h
theorem putR_11 (w : World) (b j : Nat) (c0 c1 c2 c3 c4 c5 c6 c7 c8 c9 c10 : Value) : putR w b j [c0, c1, c2, c3, c4, c5, c6, c7, c8, c9, c10] = (((((((((((w.setCell ⟨b, j, none⟩ c0).setCell ⟨b, j + 1, none⟩ c1).setCell ⟨b, j + 2, none⟩ c2).setCell ⟨b, j + 3, none⟩ c3).setCell ⟨b, j + 4, none⟩ c4).setCell ⟨b, j + 5, none⟩ c5).setCell ⟨b, j + 6, none⟩ c6).setCell ⟨b, j + 7, none⟩ c7).setCell ⟨b, j + 8, none⟩ c8).setCell ⟨b, j + 9, none⟩ c9).setCell ⟨b, j + 10, none⟩ c10) := rfl
theorem putR_11z (w : World) (b : Nat) (c0 c1 c2 c3 c4 c5 c6 c7 c8 c9 c10 : Value) : putR w b 0 [c0, c1, c2, c3, c4, c5, c6, c7, c8, c9, c10] = (((((((((((w.setCell ⟨b, 0, none⟩ c0).setCell ⟨b, 1, none⟩ c1).setCell ⟨b, 2, none⟩ c2).setCell ⟨b, 3, none⟩ c3).setCell ⟨b, 4, none⟩ c4).setCell ⟨b, 5, none⟩ c5).setCell ⟨b, 6, none⟩ c6).setCell ⟨b, 7, none⟩ c7).setCell ⟨b, 8, none⟩ c8).setCell ⟨b, 9, none⟩ c9).setCell ⟨b, 10, none⟩ c10) := rfl
theorem putR_12 (w : World) (b j : Nat) (c0 c1 c2 c3 c4 c5 c6 c7 c8 c9 c10 c11 : Value) : putR w b j [c0, c1, c2, c3, c4, c5, c6, c7, c8, c9, c10, c11] = ((((((((((((w.setCell ⟨b, j, none⟩ c0).setCell ⟨b, j + 1, none⟩ c1).setCell ⟨b, j + 2, none⟩ c2).setCell ⟨b, j + 3, none⟩ c3).setCell ⟨b, j + 4, none⟩ c4).setCell ⟨b, j + 5, none⟩ c5).setCell ⟨b, j + 6, none⟩ c6).setCell ⟨b, j + 7, none⟩ c7).setCell ⟨b, j + 8, none⟩ c8).setCell ⟨b, j + 9, none⟩ c9).setCell ⟨b, j + 10, none⟩ c10).setCell ⟨b, j + 11, none⟩ c11) := rfl
theorem load_line (l : LN) (h : RX w b 54 (encL l)) : (loadVar 54 ⟨b, 0, none⟩).run Try.prog w = .ok (lnV l) w :=
  run_loadVar_row w b _ 54 _ _ _ h Try.underlying54 rfl (by kernel_rfl)
theorem res_ln {fn : Func} {c : Tmp} {tmps : Array Value} {l : LN} (hf : fn.results = #[.cell c 54]) (hc : tmps.getD c undef = .pointer (some ⟨b, 0, none⟩)) (B : RX w b 54 (encL l)) :
    (results fn tmps).run Try.prog w = .ok (lnV l) w := by
  have hc' : tmps[c]?.getD undef = .pointer (some ⟨b, 0, none⟩) := by simpa using hc
  simp [results, hf, hc', asAddr, load_line l B]
theorem res_ln2 {fn : Func} {c d : Tmp} {tmps : Array Value} {l : LN} (hf : fn.results = #[.cell c 54, .tmp d]) (hc : tmps.getD c undef = .pointer (some ⟨b, 0, none⟩)) (B : RX w b 54 (encL l)) :
    (results fn tmps).run Try.prog w = .ok (.tuple #[lnV l, tmps.getD d undef]) w := by
  have hc' : tmps[c]?.getD undef = .pointer (some ⟨b, 0, none⟩) := by simpa using hc
  simp [results, hf, hc', asAddr, load_line l B]
end

end Go.Proofs.Ytclcickhgoiooaa
