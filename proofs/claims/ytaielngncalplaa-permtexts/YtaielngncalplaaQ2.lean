/- perm: Within, Judge, Text. -/
import Derived.Test.YtaielngncalplaaQ1
import Derived.Test.YtaielngncalplaaKB
import Derived.Deep.RegionHeld3
namespace Go.Proofs.Ytaielngncalplaa
open Go.RowKit

/-- Does b allow all that a does? -/
def wiP (a b c a' b' c' : Bool) : Bool := samP (a && a') (b && b') (c && c') a b c

set_option maxHeartbeats 4000000 in
theorem pwithin_any (a b c a' b' c' : Bool) (w : World) :
    Calls Try.prog 11 #[.agg #[.bool a, .bool b, .bool c], .agg #[.bool a', .bool b', .bool c']] w fun e w' => e = .returned (.bool (wiP a b c a' b' c')) ∧ Kp w w' := by
  have s1 : Aside (∀ w, Calls Try.prog 9 #[.agg #[.bool a, .bool b, .bool c], .agg #[.bool a', .bool b', .bool c']] w fun e w' => e = .returned (.agg #[.bool (a && a'), .bool (b && b'), .bool (c && c')]) ∧ Kp w w') := fun w => pand_any a b c a' b' c' w
  have h1 := eq_permP (a && a') (b && b') (c && c') a b c
  unfold wiP
  generalize (a && a') = x at *
  generalize (b && b') = y at *
  generalize (c && c') = z at *
  generalize samP x y z a b c = D at *
  have H1 : Aside _ := h1
  clear h1
  go_enter Try.func11, Try.ntmps11
  go_wp2_with fail
  obtain ⟨W1, hW1⟩ : ∃ W1, W1 = (w.alloc (.cells #[.bool a, .bool b, .bool c] 23)).alloc (.cells #[.bool a', .bool b', .bool c'] 23) := ⟨_, rfl⟩
  obtain ⟨b3, hb3⟩ : ∃ b3, b3 = w.heap.size + 1 := ⟨_, rfl⟩
  obtain ⟨b2, hb2⟩ : ∃ b2, b2 = w.heap.size := ⟨_, rfl⟩
  have B2 : PX W1 b2 a b c := by rw [hW1, hb2]; exact (PX.made w a b c).kp ((Kp.refl _).alloc _)
  have B3 : PX W1 b3 a' b' c' := by rw [hW1, hb3]; exact PX.made1 w _ a' b' c'
  have HK : Hid (Kp w W1) := by rw [hW1]; exact ((Kp.refl w).alloc _).alloc _
  rw [← hW1, ← hb3, ← hb2]
  clear hW1 hb3 hb2
  have u0 : ∀ P : KeptBy W1, P.v.cell? ⟨b2, 0, none⟩ = some (.bool a) := fun P => (B2.kp P.k).c0
  have u1 : ∀ P : KeptBy W1, P.v.cell? ⟨b2, 1, none⟩ = some (.bool b) := fun P => (B2.kp P.k).c1
  have u2 : ∀ P : KeptBy W1, P.v.cell? ⟨b2, 2, none⟩ = some (.bool c) := fun P => (B2.kp P.k).c2
  have v0 : ∀ P : KeptBy W1, P.v.cell? ⟨b3, 0, none⟩ = some (.bool a') := fun P => (B3.kp P.k).c0
  have v1 : ∀ P : KeptBy W1, P.v.cell? ⟨b3, 1, none⟩ = some (.bool b') := fun P => (B3.kp P.k).c1
  have v2 : ∀ P : KeptBy W1, P.v.cell? ⟨b3, 2, none⟩ = some (.bool c') := fun P => (B3.kp P.k).c2
  clear B2 B3
  have h1 := H1.out
  refine wp_region_kept mixed (by kernel_rfl) ?_
  repeat (go_big_quiet_step (first | exact rfl | (go_at_call 9; with_reducible refine Calls.kept_of (s1.out _))))
  refine wpQuiet_nil ?_
  intro _ hw'
  obtain ⟨⟨wq, kq⟩, hw''⟩ := hw'
  subst hw''
  go_wp2_with fail
  go_ret
  exact ⟨rfl, HK.out.trans kq⟩

set_option maxHeartbeats 4000000 in
theorem pjudge_any (a b c a' b' c' : Bool) (k : Int) (w : World) :
    Calls Try.prog 12 #[.agg #[.bool a, .bool b, .bool c], .agg #[.bool a', .bool b', .bool c'], .int .i64 k] w fun e w' => e = .returned (.int .i64 (juP (alP a b c k) (alP a' b' c' k))) ∧ Kp w w' := by
  have s1 : Aside (∀ w, Calls Try.prog 10 #[.agg #[.bool a, .bool b, .bool c], .int .i64 k] w fun e w' => e = .returned (.bool (alP a b c k)) ∧ Kp w w') := fun w => pallows_any a b c k w
  have s2 : Aside (∀ w, Calls Try.prog 10 #[.agg #[.bool a', .bool b', .bool c'], .int .i64 k] w fun e w' => e = .returned (.bool (alP a' b' c' k)) ∧ Kp w w') := fun w => pallows_any a' b' c' k w
  generalize alP a b c k = A at *
  generalize alP a' b' c' k = B at *
  unfold juP
  cases A
  · rw [if_pos rfl]
    go_enter Try.func12, Try.ntmps12
    go_wp2_with fail
    with_reducible refine (s1.out _).mono ?_
    rintro e w1 ⟨rfl, K⟩
    have HK : Hid (Kp w w1) := (((Kp.refl w).alloc _).alloc _).trans K
    clear K s1 s2
    go_wp2_with fail
    go_ret
    exact ⟨rfl, HK.out⟩
  rw [if_neg (by decide)]
  cases B
  all_goals
    go_enter Try.func12, Try.ntmps12
    go_wp2_with fail
    with_reducible refine (s1.out _).mono ?_
    rintro e w1 ⟨rfl, K⟩
    have HK : Hid (Kp w w1) := (((Kp.refl w).alloc _).alloc _).trans K
    have B3 : PX w1 (w.heap.size + 1) a' b' c' := (PX.made1 w _ a' b' c').kp K
    have v0 := B3.c0
    have v1 := B3.c1
    have v2 := B3.c2
    clear K s1 B3
    go_wp2_with fail
    with_reducible refine (s2.out _).mono ?_
    rintro e w2 ⟨rfl, K⟩
    have HK' : Hid (Kp w w2) := HK.out.trans K
    clear K HK s2 v0 v1 v2
    go_wp2_with fail
    go_ret
    exact ⟨rfl, HK'.out⟩

/-- The three letters. -/
def letN (a : Bool) (c : Nat) : Nat := if a then c else 45
def txt (r q x : Bool) : ByteArray := ⟨#[UInt8.ofNat (letN r 114), UInt8.ofNat (letN q 119), UInt8.ofNat (letN x 120)]⟩

theorem str3 (w : World) (b A B C : Nat) (h : w.heap[b]? = some (.cells #[.int .u8 (A : Int), .int .u8 (B : Int), .int .u8 (C : Int)] 5)) :
    (convert 39 9 (.slice (some ⟨b, 0, none⟩) 3 3)).run Try.prog w = .ok (.string ⟨#[UInt8.ofNat A, UInt8.ofNat B, UInt8.ofNat C]⟩) w := by
  rw [run_convert_bytes_string w 39 9 5 _ _ _ Try.underlying39 Try.underlying5 Try.underlying9]
  refine run_bytesToString w ⟨b, 0, none⟩ 3 3 [(A : Int), (B : Int), (C : Int)] ?_
  have := run_loadCells_list (P := Try.prog) (w := w) ⟨b, 0, none⟩ [.int .u8 (A : Int), .int .u8 (B : Int), .int .u8 (C : Int)] ?_
  · simpa using this
  intro j u hu
  match j with
  | 0 => simp at hu; subst hu; rw [add_at, cell_of_row _ _ _ _ _ _ h]; rfl
  | 1 => simp at hu; subst hu; rw [add_at, cell_of_row _ _ _ _ _ _ h]; rfl
  | 2 => simp at hu; subst hu; rw [add_at, cell_of_row _ _ _ _ _ _ h]; rfl
  | j + 3 => simp at hu

set_option maxHeartbeats 4000000 in
theorem ptext_any (r q x : Bool) (w : World) :
    Calls Try.prog 15 #[.agg #[.bool r, .bool q, .bool x]] w fun e w' => e = .returned (.string (txt r q x)) ∧ Kp w w' := by
  have c1 : Aside (∀ w, Calls Try.prog 16 #[.bool r, .int .u8 114] w fun e w' => e = .returned (.int .u8 ((letN r 114 : Nat) : Int)) ∧ w' = w) := fun w => pletter_any r 114 w
  have c2 : Aside (∀ w, Calls Try.prog 16 #[.bool q, .int .u8 119] w fun e w' => e = .returned (.int .u8 ((letN q 119 : Nat) : Int)) ∧ w' = w) := fun w => pletter_any q 119 w
  have c3 : Aside (∀ w, Calls Try.prog 16 #[.bool x, .int .u8 120] w fun e w' => e = .returned (.int .u8 ((letN x 120 : Nat) : Int)) ∧ w' = w) := fun w => pletter_any x 120 w
  unfold txt
  generalize letN r 114 = A at *
  generalize letN q 119 = B at *
  generalize letN x 120 = C at *
  go_enter Try.func15, Try.ntmps15
  go_wp2_with fail
  obtain ⟨W1, hW1⟩ : ∃ W1, W1 = w.alloc (.cells #[.bool r, .bool q, .bool x] 23) := ⟨_, rfl⟩
  obtain ⟨b1, hb1⟩ : ∃ b1, b1 = w.heap.size := ⟨_, rfl⟩
  have B1 : PX W1 b1 r q x := by rw [hW1, hb1]; exact PX.made w r q x
  have HK : Hid (Kp w W1) := by rw [hW1]; exact (Kp.refl w).alloc _
  rw [← hW1, ← hb1]
  clear hW1 hb1
  have x0 := B1.c0
  have x1 := B1.c1
  have x2 := B1.c2
  clear B1
  obtain ⟨W2, hW2⟩ : ∃ W2, W2 = (W1.alloc (.cells #[.int .u8 (A : Int), .int .u8 (B : Int), .int .u8 (C : Int)] 5)).drew := ⟨_, rfl⟩
  have hs : (convert 39 9 (.slice (some ⟨W1.heap.size, 0, none⟩) 3 3)).run Try.prog W2 = .ok (.string ⟨#[UInt8.ofNat A, UInt8.ofNat B, UInt8.ofNat C]⟩) W2 := by rw [hW2]; exact str3 _ _ A B C (heap_alloc_new W1 _)
  rw [hW2] at hs
  go_region_held (fun w' => w'.cell? ⟨b1, 0, none⟩ = some (.bool r) ∧ w'.cell? ⟨b1, 1, none⟩ = some (.bool q) ∧ w'.cell? ⟨b1, 2, none⟩ = some (.bool x)) (first | go_keep) (first | (go_at_call 16; go_must (first | (with_reducible refine (c1.out _).mono ?_) | (with_reducible refine (c2.out _).mono ?_) | (with_reducible refine (c3.out _).mono ?_)); rintro e w' ⟨rfl, rfl⟩))
  all_goals
    go_wp2_with fail
    go_ret
    exact ⟨rfl, (HK.out.alloc _).drew⟩

end Go.Proofs.Ytaielngncalplaa
