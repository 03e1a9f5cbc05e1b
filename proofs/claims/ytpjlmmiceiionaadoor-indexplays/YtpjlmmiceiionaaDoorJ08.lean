/- Joined: C2, B1. -/
import Derived.Test.YtpjlmmiceiionaaDoorC1
import Derived.Test.YtpjlmmiceiionaaDoorW3
import Derived.Test.YtpjlmmiceiionaaDoorJ00
import Derived.Deep.QuietTactic
import Derived.BigQuiet
import Derived.Deep.LoopGhost
/- Whole complex numbers as a map's keys; numbers as a map's keys. -/
namespace Go.Proofs.YtpjlmmiceiionaaDoor
open Go.RowKit Go.MapKept Go.ChangeMaps
open Ieee

theorem FI_bits {a : Nat} {n : Int} (h : FI a n) (h0 : n ≠ 0) :
    ∃ e r : Nat, a % 9223372036854775808 = r ∧ (a / 9223372036854775808 % 2 == 1) = decide (n < 0) ∧ a < 18446744073709551616 ∧ 4503599627370496 ≤ r ∧ n.natAbs * 2 ^ e = 4503599627370496 + r % 4503599627370496 ∧ (e : Int) = 1074 - (r / 4503599627370496 - 1 : Nat) := by
  obtain ⟨hlt, s, e, hr, h1, h2⟩ := h
  refine ⟨e, _, rfl, ?_⟩
  have hs : s = decide (n < 0) := by
    by_cases c : n < 0
    · rw [h1 c]; simp [c]
    · rw [h2 (by omega)]; simp [c]
  unfold Format.read at hr
  simp only [dbl_sw, dbl_bin, dbl_inf, dbl_least] at hr
  split at hr
  · rename_i c
    simp only [Datum.number.injEq] at hr
    obtain ⟨_, q2, q3⟩ := hr
    exfalso
    have e1 : e = 1074 := by omega
    have p : 2 ^ 53 ≤ 2 ^ e := Nat.pow_le_pow_right (n := 2) (by decide) (by omega)
    have hn : 1 ≤ n.natAbs := by omega
    have q : 1 * 2 ^ e ≤ n.natAbs * 2 ^ e := Nat.mul_le_mul_right _ hn
    generalize (2 : Nat) ^ e = z at p q q2
    omega
  · rename_i c
    split at hr
    · simp only [Datum.number.injEq] at hr
      obtain ⟨q1, q2, q3⟩ := hr
      refine ⟨by rw [← hs]; exact q1, hlt, by omega, by omega, by omega⟩
    · split at hr <;> cases hr

theorem FC_uniq {a b : Nat} {n : Int} (ha : FC a n) (hb : FC b n) : a = b := by
  by_cases h0 : n = 0
  · rw [ha.2 h0, hb.2 h0]
  · obtain ⟨e, r, h1, h2, h3, h4, h5, h6⟩ := FI_bits ha.1 h0
    obtain ⟨e', r', k1, k2, k3, k4, k5, k6⟩ := FI_bits hb.1 h0
    have ee : e = e' := by
      rcases Nat.lt_trichotomy e e' with c | c | c
      · exfalso
        have : n.natAbs * 2 ^ e * 2 ≤ n.natAbs * 2 ^ e' := by
          rw [Nat.mul_assoc, ← Nat.pow_succ]
          exact Nat.mul_le_mul_left _ (Nat.pow_le_pow_right (by omega) c)
        omega
      · exact c
      · exfalso
        have : n.natAbs * 2 ^ e' * 2 ≤ n.natAbs * 2 ^ e := by
          rw [Nat.mul_assoc, ← Nat.pow_succ]
          exact Nat.mul_le_mul_left _ (Nat.pow_le_pow_right (by omega) c)
        omega
    subst ee
    have hs := h2.trans k2.symm
    have : (a / 9223372036854775808 % 2 = 1) ↔ (b / 9223372036854775808 % 2 = 1) := by
      have := congrArg (· = true) hs
      simpa using this
    omega

/-- The whole number x. -/
abbrev flC (x : Int) : Nat := floatOfInt .f64 x
abbrev CN := Int × Int
/-- The complex number d. -/
def cK (d : CN) : Value := .complex .f64 (flC d.1) (flC d.2)
def okC (d : CN) : Prop := d.1.natAbs < 9007199254740992 ∧ d.2.natAbs < 9007199254740992
theorem FC_fl {a : Nat} {n : Int} (h : FC a n) (hn : n.natAbs < 9007199254740992) : a = flC n := FC_uniq h (FC_of_int n hn)
theorem feq (x y : Int) (hx : x.natAbs < 9007199254740992) (hy : y.natAbs < 9007199254740992) : Op.floatEq .f64 (flC x) (flC y) = decide (x = y) := by
  show (Ieee.double.order (flC x) (flC y) == some .eq) = _
  rw [FI_order (FI_of_int x hx) (FI_of_int y hy)]
  by_cases c : x = y
  · subst c; simp
  · rw [decide_eq_false c]
    have : compare x y ≠ .eq := fun h => c (Int.compare_eq_eq.1 h)
    simpa using this
theorem fl_inj {x y : Int} (hx : x.natAbs < 9007199254740992) (hy : y.natAbs < 9007199254740992) (h : flC x = flC y) : x = y := by
  have h1 := feq x y hx hy
  have h2 := feq y y hy hy
  rw [h] at h1
  rw [h1] at h2
  simpa using h2
theorem cK_inj {d e : CN} (hd : okC d) (he : okC e) (h : cK d = cK e) : d = e := by
  unfold cK at h
  simp only [Value.complex.injEq, true_and] at h
  exact Prod.ext (fl_inj hd.1 he.1 h.1) (fl_inj hd.2 he.2 h.2)
theorem und_c : Tryd.prog.underlying 51 = some (.complex .f64) := Tryd.underlying51
theorem equal_cn (n : Nat) (w : World) {d e : CN} (hd : okC d) (he : okC e) : (Op.equalIn (n + 1) 51 (cK d) (cK e)).run Tryd.prog w = .ok (decide (d = e)) w := by
  have e1 : decide (d = e) = (decide (d.1 = e.1) && decide (d.2 = e.2)) := by
    rcases d with ⟨x, y⟩; rcases e with ⟨u, v⟩
    simp
  simp only [Op.equalIn, cK, Sem.run_bind, run_underlying und_c, Result.andThen, if_true, feq _ _ hd.1 he.1, feq _ _ hd.2 he.2, e1]
  rfl
theorem equal_c (w : World) {d e : CN} (hd : okC d) (he : okC e) : (Op.equal 51 (cK d) (cK e)).run Tryd.prog w = .ok (decide (d = e)) w := equal_cn 9999 w hd he
theorem check_cn (n : Nat) (em : Bool) (w : World) (x : CN) : (Instr.checkKey em (n + 1) 51 (cK x)).run Tryd.prog w = .ok () w := by
  simp only [Instr.checkKey, cK, Sem.run_bind, run_underlying und_c, Result.andThen]
  rfl
theorem ask_c (w : World) {d : CN} (hd : okC d) : ∀ (es : List MapEntry) (i : Nat), (∀ e ∈ es, ∃ y, okC y ∧ e.key = cK y) →
    ((Instr.findAsking 51 (cK d) es i).run Tryd.prog w = .ok none w ∧ ∀ e ∈ es, e.key ≠ cK d) ∨ ∃ j e, (Instr.findAsking 51 (cK d) es i).run Tryd.prog w = .ok (some (i + j, e.val)) w ∧ es[j]? = some e ∧ e.key = cK d
  | [], i, _ => .inl ⟨rfl, fun _ h => by cases h⟩
  | x :: es, i, hes => by
    obtain ⟨y, hy, hk⟩ := hes x (by simp)
    have he := equal_c w hd hy
    rw [← hk] at he
    by_cases c : d = y
    · right
      refine ⟨0, x, ?_, rfl, by rw [hk, c]⟩
      simp only [Instr.findAsking, Sem.run_bind, he, Result.andThen, decide_eq_true c, if_true]
      rfl
    · have hx : x.key ≠ cK d := fun e => c (cK_inj hd hy (by rw [← hk, e]))
      rcases ask_c w hd es (i + 1) (fun e h => hes e (by simp [h])) with ⟨h1, h2⟩ | ⟨j, e, h1, h2, h3⟩
      · left
        refine ⟨?_, fun e h => ?_⟩
        · simp only [Instr.findAsking, Sem.run_bind, he, Result.andThen, decide_eq_false c]
          exact h1
        · rcases List.mem_cons.1 h with rfl | h
          · exact hx
          · exact h2 e h
      · right
        refine ⟨j + 1, e, ?_, by simpa using h2, h3⟩
        simp only [Instr.findAsking, Sem.run_bind, he, Result.andThen, decide_eq_false c]
        rw [show i + (j + 1) = i + 1 + j by omega]
        exact h1

theorem kv_c : KV 51 cK okC where
  inj x y hx hy h := cK_inj hx hy h
  check w em x _ := check_cn 9999 em w x
  find w x hx es hes := by
    cases es with
    | nil =>
      left
      refine ⟨?_, fun _ h => by cases h⟩
      simp only [Instr.findKey, Sem.run_bind, run_underlying und_c, Result.andThen, Instr.findNow]
      rfl
    | cons e es =>
      have hf : Instr.findNow (.complex .f64) (cK x) (e :: es) 0 = none := by
        simp only [Instr.findNow, Instr.sameNow]
      have := ask_c w hx (e :: es) 0 hes
      simp only [Nat.zero_add] at this
      simp only [Instr.findKey, Sem.run_bind, run_underlying und_c, Result.andThen, hf]
      exact this
  stays w x _ := by
    have : Instr.sameBits 10000 (cK x) (cK x) = true := by simp [Instr.sameBits, cK]
    simp only [Instr.keyThatStays, this, if_true]
    rfl

/-- The numbers. -/
def iK (x : Int) : Value := .int .i64 x
def okI (x : Int) : Prop := (Lit.int .i64 x).wf = true
theorem keyed_i : Maps.Keyed Tryd.prog 3 := Maps.int_keyed Tryd.underlying3
theorem kv_i : KV 3 iK okI where
  inj x y _ _ h := by unfold iK at h; simpa using h
  check w em x hx := keyed_i.check w em (Maps.keyOf_int_mk Tryd.underlying3 hx)
  find w x hx es hes := keyed_i.find w (Maps.keyOf_int_mk Tryd.underlying3 hx) es (fun e he => by
    obtain ⟨y, hy, hk⟩ := hes e he
    exact ⟨_, by rw [hk]; exact Maps.keyOf_int_mk Tryd.underlying3 hy⟩)
  stays w x hx := keyed_i.stays w (Maps.keyOf_int_mk Tryd.underlying3 hx)

end Go.Proofs.YtpjlmmiceiionaaDoor

/- bits: which bits and levels there are; a row of ones; fields; indices and spans. -/
namespace Go.Proofs.YtpjlmmiceiionaaDoor
open Go.RowKit
/-- n ones. -/
def on (n : Nat) : Nat := 2 ^ n - 1
theorem on_lt {n : Nat} (h : n ≤ 64) : on n < 18446744073709551616 := by
  have := Nat.pow_le_pow_right (n := 2) (by decide) h
  unfold on; omega
theorem on_top : ∀ n, n ≤ 64 → 18446744073709551615 / 2 ^ (64 - n) = on n := by decide +kernel
theorem on_top_int (n : Nat) (h : n ≤ 64) : (18446744073709551615 : Int) / 2 ^ (64 - n) = (on n : Nat) := by
  rw [← on_top n h]; simp


/-- The n bits from low on. -/
def fieldN (u low n : Nat) : Nat := u / 2 ^ low % 2 ^ n
theorem field_and (u low n : Nat) (hu : u < 18446744073709551616) (hn : n ≤ 64) : bits .and .u64 ((u : Int) / 2 ^ low) (on n : Nat) = (fieldN u low n : Nat) := by
  have h1 : u / 2 ^ low < 18446744073709551616 := Nat.lt_of_le_of_lt (Nat.div_le_self _ _) hu
  have h2 := u64_and_nat (u / 2 ^ low) (on n) h1 (on_lt hn)
  rw [on, Nat.and_two_pow_sub_one_eq_mod] at h2
  rw [← fieldN, ← on] at h2
  rw [← h2]; congr 1

/-- u with v's low n bits from low on. -/
def setN (u low n v : Nat) : Nat := (u &&& (18446744073709551615 - on n * 2 ^ low)) ||| (v % 2 ^ n * 2 ^ low)

theorem shl_lt {c n low : Nat} (hc : c < 2 ^ n) (hl : low + n ≤ 64) : c * 2 ^ low < 18446744073709551616 := by
  have h1 : c * 2 ^ low < 2 ^ n * 2 ^ low := Nat.mul_lt_mul_of_pos_right hc (Nat.two_pow_pos _)
  rw [← Nat.pow_add] at h1
  have h2 := Nat.pow_le_pow_right (n := 2) (by decide) (show n + low ≤ 64 by omega)
  exact Nat.lt_of_lt_of_le h1 h2
theorem shl_mod {c low : Nat} (h : c * 2 ^ low < 18446744073709551616) : IntKind.u64.wrap ((c : Int) * 2 ^ low) = ((c * 2 ^ low : Nat) : Int) := by
  have e : (c : Int) * 2 ^ low = ((c * 2 ^ low : Nat) : Int) := by rw [Int.natCast_mul, Int.natCast_pow]; rfl
  rw [e]; simp [IntKind.wrap, IntKind.bits, IntKind.signed]; omega
theorem on_pow (n : Nat) : on n < 2 ^ n := by have := Nat.two_pow_pos n; unfold on; omega

end Go.Proofs.YtpjlmmiceiionaaDoor
