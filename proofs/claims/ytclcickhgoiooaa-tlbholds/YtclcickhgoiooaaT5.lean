/- tlb: Find. -/
import Derived.Test.YtclcickhgoiooaaT4
namespace Go.Proofs.Ytclcickhgoiooaa
open Go.RowKit
set_option maxRecDepth 10000

def keyL (i a : Int) (v : Nat) : LN := ⟨i, a, v, 0, 0, false, false, false, false, false, false⟩
/-- Is it the place of the line of that name? -/
def keyB (i a : Int) (v : Nat) (c : PC) : Bool := c.on && samL (nameL c.l) (keyL i a v)
theorem keyB_iff {i a : Int} {v : Nat} {c : PC} : keyB i a v c = true ↔ c.on = true ∧ c.l.i = i ∧ c.l.a = a ∧ c.l.v = v := by
  simp only [keyB, Bool.and_eq_true, samL_eq, nameL, keyL, LN.mk.injEq, and_true]
/-- Where in its set the line of a name is; -1: nowhere. -/
def fndI (T : Nat → PC) (s k : Nat) (i a : Int) (v : Nat) : Int := sr (fun j => keyB i a v (T (v % s * k + j))) k 0
def fndB (T : Nat → PC) (s k : Nat) (i a : Int) (v : Nat) : Bool := !(fndI T s k i a v == -1)
def fndL (T : Nat → PC) (s k : Nat) (i a : Int) (v : Nat) : LN := if fndI T s k i a v = -1 then zL else (T (v % s * k + (fndI T s k i a v).toNat)).l
theorem set_le {s k v : Nat} (hs : 1 ≤ s) : v % s * k + k ≤ s * k := by
  have := Nat.mul_le_mul_right k (show v % s + 1 ≤ s from Nat.mod_lt _ (by omega))
  rw [Nat.add_mul] at this
  omega

section
variable {w : World} {b g s k : Nat} {T : Nat → PC}
set_option maxHeartbeats 4000000 in
theorem find_any (h : TP w b g s k T) (i a : Int) (v : Nat) :
    Calls Try.prog 13 #[.pointer (some ⟨b, 0, none⟩), .int .i64 i, .int .i64 a, .int .u64 (v : Int)] w fun e w' => e = .returned (.tuple #[lnV (fndL T s k i a v), .bool (fndB T s k i a v)]) ∧ Kp w w' := by
  obtain ⟨w1, hw1⟩ : ∃ w1, w1 = w.alloc (.cells (encL zL).toArray 54) := ⟨_, rfl⟩
  have K1 : Kp w w1 := by rw [hw1]; exact (Kp.refl w).alloc _
  have X1 : RX w1 w.heap.size 54 (encL zL) := by rw [hw1]; exact RX.made w _ _
  obtain ⟨f, hf⟩ : ∃ f, v % s * k = f := ⟨_, rfl⟩
  have cS := setOf_any (h.kp K1) v f hf
  have f1 := set_le (k := k) (v := v) h.s0
  rw [hf] at f1
  have cH : ∀ w, Calls Try.prog 43 #[.agg #[.int .i64 i, .int .i64 a, .int .u64 (v : Int), .int .u64 0, .int .i64 0, .bool false, .bool false, .bool false, .bool false, .bool false, .bool false]] w fun e w' => e = .returned (.func (.func 69) #[] #[.pointer (some ⟨w.heap.size, 0, none⟩)]) ∧ w' = w.alloc (.cells (encL (keyL i a v)).toArray 54) := fun w => holds_any (keyL i a v) w
  obtain ⟨z, hz⟩ : ∃ z, fndI T s k i a v = z := ⟨_, rfl⟩
  have hz2 : sr (fun j => keyB i a v (T (f + j))) k 0 = z := by rw [← hz, ← hf]; rfl
  have HH : Hid (TP w b g s k T ∧ Kp w w1 ∧ RX w1 w.heap.size 54 (encL zL) ∧ sr (fun j => keyB i a v (T (f + j))) k 0 = z) := ⟨h, K1, X1, hz2⟩
  have kk := h.k1
  obtain ⟨L, hL⟩ : ∃ L, fndL T s k i a v = L := ⟨_, rfl⟩
  obtain ⟨B, hB⟩ : ∃ B, fndB T s k i a v = B := ⟨_, rfl⟩
  rw [hL, hB]
  unfold fndL at hL
  unfold fndB at hB
  rw [hz, hf] at hL
  rw [hz] at hB
  have HL : Hid ((if z = -1 then zL else (T (f + z.toNat)).l) = L ∧ (!(z == -1)) = B) := ⟨hL, hB⟩
  obtain ⟨N, hN⟩ : ∃ N, s * k = N := ⟨_, rfl⟩
  rw [hN] at cS f1
  have HN : Hid (s * k = N ∧ f + k ≤ N) := ⟨hN, f1⟩
  clear K1 X1 hz hz2 hf h hL hB hN f1
  go_enter Try.func13, Try.ntmps13
  go_wp2_with fail
  rw [show w.alloc (.cells #[.int .i64 0, .int .i64 0, .int .u64 0, .int .u64 0, .int .i64 0, .bool false, .bool false, .bool false, .bool false, .bool false, .bool false] 54) = w1 from hw1.symm]
  with_reducible refine cS.mono ?_
  rintro e w2 ⟨rfl, D2⟩
  go_wp2_with fail
  with_reducible refine (cH _).mono ?_
  rintro e w3 ⟨rfl, E3⟩
  obtain ⟨h, K1, X1, hz⟩ := HH.out
  have K3 : Kp w2 w3 := by rw [E3]; exact (Kp.refl w2).alloc _
  have K13 : Kp w1 w3 := D2.kp.trans K3
  have R3 : RX w3 w2.heap.size 54 (encL (keyL i a v)) := by rw [E3]; exact RX.made w2 _ _
  have cQ := search_any (c := N - f) (h.row.kp (K1.trans K13)) (holds_ft w2.heap.size (keyL i a v)) R3 (f := f) (k := k) (by have := HN.out; omega) kk
  have hz3 : sr (fun j => (fun c => c.on && samL (nameL c.l) (keyL i a v)) (T (f + j))) k 0 = z := hz
  rw [hz3] at cQ
  clear hz3 R3 E3 K3 cS cH
  have HJ : Hid (Kp w1 w3) := K13
  clear K13 D2 h K1 X1 hz
  go_wp2_with fail
  with_reducible refine cQ.mono ?_
  rintro e w4 ⟨rfl, K4⟩
  have HE : Hid (Kp w w4) := HH.out.2.1.trans (HJ.out.trans K4)
  have X4 := HH.out.2.2.1.kp (HJ.out.trans K4)
  have P4 := HH.out.1.row.kp HE.out
  have sz := sr_cases (fun j => keyB i a v (T (f + j))) k 0
  rw [HH.out.2.2.2] at sz
  have fz := X4.fz
  have e0 := X4.cell (j := 0) rfl
  have e1 := X4.cell (j := 1) rfl
  have e2 := X4.cell (j := 2) rfl
  have e3 := X4.cell (j := 3) rfl
  have e4 := X4.cell (j := 4) rfl
  have e5 := X4.cell (j := 5) rfl
  have e6 := X4.cell (j := 6) rfl
  have e7 := X4.cell (j := 7) rfl
  have e8 := X4.cell (j := 8) rfl
  have e9 := X4.cell (j := 9) rfl
  have e10 := X4.cell (j := 10) rfl
  have HX : Hid (RX w4 w.heap.size 54 (encL zL)) := X4
  clear HJ K4 cQ X4
  rcases sz with ⟨rfl, _⟩ | ⟨j, rfl, _, j2, _, _⟩
  · have e := HL.out
    rw [if_pos rfl] at e
    obtain ⟨rfl, rfl⟩ := e
    clear P4 HH HL HN
    go_wp2
    rw [← putR_11z]
    exact bodyPost_ret (res_ln2 (l := zL) rfl rfl (HX.out.put (U := encL zL) rfl)) rfl ⟨rfl, Kp.putR (Nat.le_refl _) _ _ _ HE.out⟩
  · have e := HL.out
    rw [if_neg (by omega), show ((j : Int) == -1) = false from by rw [beq_eq_false_iff_ne]; omega, Int.toNat_natCast] at e
    have b1 : ((j : Int) == -1) = false := by rw [beq_eq_false_iff_ne]; omega
    have y1 : (j : Int) < k := by omega
    have y2 : (k : Int) ≤ 8 := by omega
    have cc : ∀ m y, (encP (T (f + j)))[m]? = some y → w4.cell? ⟨g, f * 12 + j * 12 + m, none⟩ = some y := fun m y hy => by
      have := P4.cell (f + j) m y (by have := HN.out; omega) hy
      rwa [Nat.add_mul] at this
    clear P4 HH HL HN
    obtain ⟨C, hC⟩ : ∃ C, T (f + j) = C := ⟨_, rfl⟩
    rw [hC] at cc e
    clear hC
    obtain ⟨on, l⟩ := C
    replace e : l = L ∧ true = B := e
    obtain ⟨rfl, rfl⟩ := e
    have x1 := cc 1 _ rfl
    have x2 := cc 2 _ rfl
    have x3 := cc 3 _ rfl
    have x4 := cc 4 _ rfl
    have x5 := cc 5 _ rfl
    have x6 := cc 6 _ rfl
    have x7 := cc 7 _ rfl
    have x8 := cc 8 _ rfl
    have x9 := cc 9 _ rfl
    have x10 := cc 10 _ rfl
    have x11 := cc 11 _ rfl
    clear cc
    go_wp2
    rw [← putR_11z]
    exact bodyPost_ret (res_ln2 (l := l) rfl rfl (HX.out.put (U := encL l) rfl)) rfl ⟨rfl, Kp.putR (Nat.le_refl _) _ _ _ HE.out⟩
end

end Go.Proofs.Ytclcickhgoiooaa
