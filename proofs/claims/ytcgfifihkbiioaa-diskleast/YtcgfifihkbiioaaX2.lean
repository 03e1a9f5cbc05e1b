/- The swap device, as it lies: disk.Disk; which slots are taken; what is told ahead. -/
import Derived.Test.YtcgfifihkbiioaaX1
namespace Go.Proofs.Ytcgfifihkbiioaa
open Go.RowKit Go.Maps

/-! ### which slots are taken, and what they have -/
/-- T x: the bytes of the slot x, if it is taken. -/
abbrev Slots := Nat → Option (Nat → Nat)
def hasT (T : Slots) (x : Int) : Bool := decide (0 ≤ x) && (T x.toNat).isSome
theorem hasT_nat (T : Slots) (x : Nat) : hasT T (x : Int) = (T x).isSome := by unfold hasT; simp
/-- How many of the first n are taken. -/
def tkn (T : Slots) : Nat → Nat
  | 0 => 0
  | n + 1 => tkn T n + if (T n).isSome then 1 else 0
theorem tkn_le (T : Slots) : ∀ n, tkn T n ≤ n
  | 0 => Nat.le_refl _
  | n + 1 => by have := tkn_le T n; unfold tkn; split <;> omega
/-- The least of the first n that is not taken, or n. -/
def lst (T : Slots) : Nat → Nat
  | 0 => 0
  | n + 1 => if lst T n < n then lst T n else if (T n).isSome then n + 1 else n
theorem lst_le (T : Slots) : ∀ n, lst T n ≤ n
  | 0 => Nat.le_refl _
  | n + 1 => by have := lst_le T n; unfold lst; split; omega; split <;> omega
theorem lst_on (T : Slots) : ∀ n x, x < lst T n → (T x).isSome = true
  | 0, x, h => by simp [lst] at h
  | n + 1, x, h => by
    unfold lst at h
    have := lst_le T n
    split at h
    · exact lst_on T n x h
    · rename_i c
      have e : lst T n = n := by omega
      split at h
      · rename_i c2
        by_cases d : x = n
        · subst d; exact c2
        · exact lst_on T n x (by omega)
      · exact lst_on T n x (by omega)
theorem lst_off (T : Slots) : ∀ n, lst T n < n → T (lst T n) = none
  | 0, h => by simp [lst] at h
  | n + 1, h => by
    unfold lst at h ⊢
    have := lst_le T n
    split
    · rename_i c; exact lst_off T n c
    · rename_i c
      rw [if_neg c] at h
      split
      · rename_i c2; rw [if_pos c2] at h; omega
      · rename_i c2; simpa using c2
theorem tkn_all (T : Slots) : ∀ n, tkn T n = n ↔ lst T n = n
  | 0 => by simp [tkn, lst]
  | n + 1 => by
    have i := tkn_all T n
    have h1 := tkn_le T n
    have h2 := lst_le T n
    unfold tkn lst
    by_cases c : (T n).isSome = true
    · rw [if_pos c, if_pos c]
      split
      · omega
      · omega
    · rw [if_neg c, if_neg c]
      split <;> omega
def putT (T : Slots) (x : Nat) (f : Nat → Nat) : Slots := fun y => if y = x then some f else T y
def offT (T : Slots) (x : Nat) : Slots := fun y => if y = x then none else T y
theorem putT_same (T : Slots) (x : Nat) (f : Nat → Nat) : putT T x f x = some f := if_pos rfl
theorem putT_other (T : Slots) (x y : Nat) (f : Nat → Nat) (h : y ≠ x) : putT T x f y = T y := if_neg h
theorem offT_same (T : Slots) (x : Nat) : offT T x x = none := if_pos rfl
theorem offT_other (T : Slots) (x y : Nat) (h : y ≠ x) : offT T x y = T y := if_neg h
theorem tkn_like {T T' : Slots} : ∀ n, (∀ x, x < n → (T' x).isSome = (T x).isSome) → tkn T' n = tkn T n
  | 0, _ => rfl
  | n + 1, h => by unfold tkn; rw [tkn_like n (fun x hx => h x (by omega)), h n (by omega)]
theorem tkn_put (T : Slots) (x : Nat) (f : Nat → Nat) (h : T x = none) : ∀ n, x < n → tkn (putT T x f) n = tkn T n + 1
  | 0, hx => by omega
  | n + 1, hx => by
    unfold tkn
    by_cases e : x = n
    · subst e
      rw [tkn_like x (fun y hy => by rw [putT_other _ _ _ _ (by omega)]), putT_same, h]; simp
    · rw [tkn_put T x f h n (by omega), putT_other _ _ _ _ (by omega)]; omega
theorem tkn_put_on (T : Slots) (x : Nat) (f : Nat → Nat) (h : (T x).isSome = true) (n : Nat) : tkn (putT T x f) n = tkn T n :=
  tkn_like n (fun y _ => by
    by_cases e : y = x
    · subst e; rw [putT_same, h]; rfl
    · rw [putT_other _ _ _ _ e])
theorem tkn_off (T : Slots) (x : Nat) (h : (T x).isSome = true) : ∀ n, x < n → tkn (offT T x) n + 1 = tkn T n
  | 0, hx => by omega
  | n + 1, hx => by
    unfold tkn
    by_cases e : x = n
    · subst e
      rw [tkn_like x (fun y hy => by rw [offT_other _ _ _ (by omega)]), offT_same, if_pos h]; simp
    · have := tkn_off T x h n (by omega)
      rw [offT_other _ _ _ (by omega)]; omega
theorem tkn_none (n : Nat) : tkn (fun _ => none) n = 0 := by
  induction n with
  | zero => rfl
  | succ n ih => unfold tkn; rw [ih]; rfl

/-! ### what is told ahead -/
/-- v is a row of marks, which lies in a block of which ok holds. -/
def AH (w : World) (v : Value) (A : List Bool) (ok : Nat → Prop) : Prop :=
  ∃ na cap, v = .slice na A.length cap ∧ A.length ≤ cap ∧ A.length ≤ 4611686018427387904 ∧ (A ≠ [] → ∃ b o, na = some ⟨b, o, none⟩ ∧ b < w.heap.size ∧ ok b ∧ ∀ i x, A[i]? = some x → w.cell? ⟨b, o + i, none⟩ = some (.bool x))
theorem AH.fr {w w' : World} {v : Value} {A : List Bool} {ok ok' : Nat → Prop} (h : AH w v A ok) {S : Nat → Prop} (k : Fr S w w') (hS : ∀ b, b < w.heap.size → ok b → ¬ S b) (h' : ∀ b, b < w.heap.size → ok b → ok' b) : AH w' v A ok' := by
  obtain ⟨na, cap, e, l, l', h⟩ := h
  refine ⟨na, cap, e, l, l', fun hA => ?_⟩
  obtain ⟨b, o, e1, e2, e3, e4⟩ := h hA
  exact ⟨b, o, e1, Nat.lt_of_lt_of_le e2 k.size, h' b e2 e3, fun i x hx => by rw [k.cell (a := ⟨b, o + i, none⟩) e2 (hS b e2 e3)]; exact e4 i x hx⟩
theorem AH.nil (w : World) (ok : Nat → Prop) : AH w (.slice none 0 0) [] ok := ⟨none, 0, rfl, Nat.le_refl _, Nat.zero_le _, fun h => absurd rfl h⟩

/-- The device whose struct is block p: N slots, of which those of T are taken; A is told ahead; all that is its own lies in S. -/
structure DMat (w : World) (S : Nat → Prop) (p bm : Nat) (g : Int → Option Nat) (N : Nat) (T : Slots) (v : Value) (A : List Bool) : Prop where
  own : ∀ k, S k → k < w.heap.size
  sp : S p
  sm : S bm
  ne : bm ≠ p
  row : w.heap[p]? = some (.cells #[.int .i64 (N : Nat), .map (some bm), v] 60 (0, 0))
  map : MP w bm N g (tkn T N)
  page : ∀ x b, g x = some b → S b ∧ b ≠ p ∧ b ≠ bm ∧ ∃ f, T x.toNat = some f ∧ PG w b f ∧ Bytes f
  none : ∀ x : Nat, g x = none → T x = none
  inj : ∀ x y b, g x = some b → g y = some b → x = y
  n2 : N ≤ 4096
  ah : AH w v A (fun b => S b ∧ b ≠ p ∧ b ≠ bm ∧ ∀ x, g x ≠ some b)
def DK (w : World) (S : Nat → Prop) (p N : Nat) (T : Slots) (A : List Bool) : Prop := ∃ bm g v, DMat w S p bm g N T v A

theorem DMat.fr {w w' : World} {S X : Nat → Prop} {p bm : Nat} {g : Int → Option Nat} {N : Nat} {T : Slots} {v : Value} {A : List Bool} (h : DMat w S p bm g N T v A) (k : Fr X w w') (hX : ∀ i, S i → ¬ X i) : DMat w' S p bm g N T v A :=
  ⟨fun i hi => Nat.lt_of_lt_of_le (h.own i hi) k.size, h.sp, h.sm, h.ne, (k.block p (h.own p h.sp) (hX p h.sp)).trans h.row, h.map.fr k (hX bm h.sm),
   fun x b hx => by obtain ⟨h1, h2, h3, f, h4, h5, h6⟩ := h.page x b hx; exact ⟨h1, h2, h3, f, h4, h5.fr k (hX b h1), h6⟩, h.none, h.inj, h.n2, h.ah.fr k (fun b _ hb => hX b hb.1) (fun _ _ h => h)⟩
theorem DK.fr {w w' : World} {S X : Nat → Prop} {p N : Nat} {T : Slots} {A : List Bool} (h : DK w S p N T A) (k : Fr X w w') (hX : ∀ i, S i → ¬ X i) : DK w' S p N T A := by
  obtain ⟨bm, g, v, h⟩ := h
  exact ⟨bm, g, v, h.fr k hX⟩
theorem DK.kp {w w' : World} {S : Nat → Prop} {p N : Nat} {T : Slots} {A : List Bool} (h : DK w S p N T A) (k : Kp w w') : DK w' S p N T A := h.fr (k.fr (fun _ => False)) (fun _ _ => id)
theorem DK.own {w : World} {S : Nat → Prop} {p N : Nat} {T : Slots} {A : List Bool} (h : DK w S p N T A) : ∀ i, S i → i < w.heap.size := by
  obtain ⟨bm, g, v, h⟩ := h
  exact h.own
theorem DK.n2 {w : World} {S : Nat → Prop} {p N : Nat} {T : Slots} {A : List Bool} (h : DK w S p N T A) : N ≤ 4096 := by
  obtain ⟨bm, g, v, h⟩ := h
  exact h.n2
theorem DK.al {w : World} {S : Nat → Prop} {p N : Nat} {T : Slots} {A : List Bool} (h : DK w S p N T A) : A.length ≤ 4611686018427387904 := by
  obtain ⟨bm, g, v, h⟩ := h
  obtain ⟨_, _, _, _, l, _⟩ := h.ah
  exact l
section
variable {w : World} {S : Nat → Prop} {p bm : Nat} {g : Int → Option Nat} {N : Nat} {T : Slots} {v : Value} {A : List Bool}
theorem DMat.c0 (h : DMat w S p bm g N T v A) : w.cell? ⟨p, 0, .none⟩ = .some (.int .i64 (N : Nat)) := by rw [cell_of_row w p 0 _ _ _ h.row]; rfl
theorem DMat.c1 (h : DMat w S p bm g N T v A) : w.cell? ⟨p, 1, .none⟩ = .some (.map (.some bm)) := by rw [cell_of_row w p 1 _ _ _ h.row]; rfl
theorem DMat.c2 (h : DMat w S p bm g N T v A) : w.cell? ⟨p, 2, .none⟩ = .some v := by rw [cell_of_row w p 2 _ _ _ h.row]; rfl
theorem DMat.f2 (h : DMat w S p bm g N T v A) : w.frozen? ⟨p, 2, .none⟩ = false := frozen_of_row w p 2 _ _ h.row
theorem DMat.has (h : DMat w S p bm g N T v A) (x : Int) : (g x).isSome = hasT T x := by
  unfold hasT
  cases e : g x with
  | none =>
    by_cases c : 0 ≤ x
    · rw [h.none x.toNat (by rw [show ((x.toNat : Nat) : Int) = x by omega]; exact e)]; simp
    · rw [decide_eq_false c]; rfl
  | some b =>
    obtain ⟨_, _, _, f, hf, _⟩ := h.page x b e
    rw [hf, decide_eq_true (h.map.dom x b e).1]; rfl
theorem DMat.over (h : DMat w S p bm g N T v A) (x : Nat) (hx : N ≤ x) : T x = .none := by
  apply h.none x
  cases e : g (x : Int) with
  | none => rfl
  | some b => have := (h.map.dom _ b e).2; omega
end

/-! ### New -/
set_option maxHeartbeats 1000000 in
theorem dnew_ok (n : Nat) (w : World) (h2 : n ≤ 4096) :
    Calls Try.prog 7 #[.int .i64 (n : Int)] w fun e w' => ∃ p S, e = .returned (.tuple #[.pointer (some ⟨p, 0, none⟩), .int .i64 0]) ∧ DK w' S p n (fun _ => none) [] ∧ Kp w w' ∧ ∀ k, S k → w.heap.size ≤ k := by
  have z2 : (n : Int) ≤ 4096 := by omega
  have hmm := @run_makeMap Try.prog
  go_enter Try.func7, Try.ntmps7
  go_wp2
  go_ret2
  have k1 : Kp w (w.alloc (.map #[] 0)) := (Kp.refl w).alloc _
  have e1 : (w.alloc (.map #[] 0)).heap.size = w.heap.size + 1 := by simp
  have k2 : Kp (w.alloc (.map #[] 0)) ((w.alloc (.map #[] 0)).alloc (.cells #[.int .i64 (n : Int), .map (some w.heap.size), .slice none 0 0] 60)) := (Kp.refl _).alloc _
  have e2 := heap_alloc_new (w.alloc (.map #[] 0)) (.cells #[.int .i64 (n : Int), .map (some w.heap.size), .slice none 0 0] 60)
  rw [e1] at e2
  refine ⟨w.heap.size + 1, fun k => w.heap.size ≤ k ∧ k < w.heap.size + 2, rfl, ⟨w.heap.size, fun _ => none, _, ⟨fun k hk => ?_, ⟨by omega, by omega⟩, ⟨by omega, by omega⟩, by omega, e2, by rw [tkn_none]; exact (MP.made w n).fr (k2.fr (fun _ => False)) id, fun _ _ h => (by cases h), fun _ _ => rfl, fun _ _ _ h => (by cases h), h2, AH.nil _ _⟩⟩, k1.trans k2, fun k hk => hk.1⟩
  have : ((w.alloc (.map #[] 0)).alloc (.cells #[.int .i64 (n : Int), .map (some w.heap.size), .slice none 0 0] 60)).heap.size = w.heap.size + 2 := by simp
  omega

theorem dnew_no (n : Int) (w : World) (h : n < 0 ∨ 4096 < n) :
    Calls Try.prog 7 #[.int .i64 n] w fun e w' => e = .returned (.tuple #[.pointer none, .int .i64 1]) ∧ w' = w := by
  rcases h with h | h
  · go_enter Try.func7, Try.ntmps7
    go_wp2
    go_ret2
    exact ⟨rfl, rfl⟩
  · have h' : ¬ n < 0 := by omega
    go_enter Try.func7, Try.ntmps7
    go_wp2
    go_ret2
    exact ⟨rfl, rfl⟩

/-! ### has, Left, Free -/
set_option maxHeartbeats 1000000 in
theorem dhas_any {w : World} {S : Nat → Prop} {p bm : Nat} {g : Int → Option Nat} {N : Nat} {T : Slots} {v : Value} {A : List Bool} (h : DMat w S p bm g N T v A) (x : Int) (hx : (Lit.int .i64 x).wf = true) :
    Calls Try.prog 25 #[.pointer (some ⟨p, 0, none⟩), .int .i64 x] w fun e w' => e = .returned (.bool (hasT T x)) ∧ w' = w := by
  have c1 := h.c1
  have hl := h.map.look x hx
  rw [h.has x] at hl
  clear h hx
  generalize hasT T x = r at *
  generalize at_ g x = ad at *
  go_enter Try.func25, Try.ntmps25
  go_wp2
  go_ret
  exact ⟨rfl, rfl⟩

theorem dleft_any {w : World} {S : Nat → Prop} {p N : Nat} {T : Slots} {A : List Bool} (h : DK w S p N T A) :
    Calls Try.prog 22 #[.pointer (some ⟨p, 0, none⟩)] w fun e w' => e = .returned (.int .i64 (A.length : Nat)) ∧ w' = w := by
  obtain ⟨bm, g, v, h⟩ := h
  obtain ⟨na, cap, rfl, _, _⟩ := h.ah
  have c2 := h.c2
  clear h
  generalize A.length = n at *
  go_enter Try.func22, Try.ntmps22
  go_wp2
  go_ret
  exact ⟨rfl, rfl⟩

set_option maxHeartbeats 1000000 in
theorem dfree_any {w : World} {S : Nat → Prop} {p N : Nat} {T : Slots} {A : List Bool} (h : DK w S p N T A) :
    Calls Try.prog 20 #[.pointer (some ⟨p, 0, none⟩)] w fun e w' => e = .returned (.int .i64 ((N : Int) - (tkn T N : Nat))) ∧ Dr w w' := by
  obtain ⟨bm, g, v, h⟩ := h
  have c0 := h.c0
  have c1 := h.c1
  have hl := fun n ty => (show MP (w.drewN n) bm N g (tkn T N) from h.map.fr (((Kp.refl w).drewN n).fr (fun _ => False)) id).len ty
  have z1 : (N : Int) ≤ 4096 := by have := h.n2; omega
  have z2 : ((tkn T N : Nat) : Int) ≤ N := by have := tkn_le T N; omega
  clear h
  generalize tkn T N = t at *
  go_enter Try.func20, Try.ntmps20
  go_wp2_with fail
  go_quiet (fail)
  go_wp2
  go_ret
  exact ⟨rfl, ⟨_, rfl⟩⟩

end Go.Proofs.Ytcgfifihkbiioaa
