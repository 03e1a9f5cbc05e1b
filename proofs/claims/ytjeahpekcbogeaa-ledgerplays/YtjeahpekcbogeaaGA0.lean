/- The ledger beside a box; moves. -/
import Derived.Test.YtjeahpekcbogeaaG9
import Derived.Deep.RegionHeld3
namespace Go.Proofs.Ytjeahpekcbogeaa
open Go.RowKit Go.Maps

variable {W w w' : World} {p bm N bo : Nat} {E : Int → Int × Int} {s q : Int}
theorem putE_twice (E : Int → Int × Int) (x : Int) (a b : Int × Int) : putE (putE E x a) x b = putE E x b := by
  funext y
  unfold putE
  by_cases e : y = x
  · rw [if_pos e, if_pos e]
  · rw [if_neg e, if_neg e, if_neg e]
theorem putE_no (x : Int) : putE noE x (0, 0) = noE := by
  funext y
  unfold putE noE
  split <;> rfl

/-- The ledger beside an entry in a box. -/
structure LX (W w : World) (p bm N : Nat) (E : Int → Int × Int) (bo : Nat) (s q : Int) : Prop where
  lk : LK W w p bm N E
  b : NX w bo s q
  ne : bo ≠ bm
theorem LX.kp (h : LX W w p bm N E bo s q) (k : Kp w w') : LX W w' p bm N E bo s q := ⟨h.lk.kp k, h.b.kp k, h.ne⟩
theorem LX.does (h : LX W w p bm N E bo s q) (x a u : Int) (v : Int × Int) (hx : (Lit.int .i64 x).wf = true) (hm : mayN N (E x) x a u = 0) (hv : aftN a u = v) :
    Calls Try.prog 12 #[.pointer (some ⟨p, 0, none⟩), .int .i64 x, .int .i64 a, .int .i64 u] w fun e w' => e = .returned (.int .i64 0) ∧ LX W w' p bm N (putE E x v) bo s q := by
  rw [← hv]
  exact (h.lk.does x a u hx hm).mono (fun _ _ ⟨h1, h2, h3⟩ => ⟨h1, h2, h.b.fr h3 h.ne, h.ne⟩)
theorem LX.may (h : LX W w p bm N E bo s q) (x a u r : Int) (hx : (Lit.int .i64 x).wf = true) (hm : mayN N (E x) x a u = r) :
    Calls Try.prog 10 #[.pointer (some ⟨p, 0, none⟩), .int .i64 x, .int .i64 a, .int .i64 u] w fun e w' => e = .returned (.int .i64 r) ∧ LX W w' p bm N E bo s q :=
  (h.lk.may x a u r hx hm).mono (fun _ _ ⟨h1, h2, h3⟩ => ⟨h1, h2, h.b.kp h3, h.ne⟩)
theorem LX.get (h : LX W w p bm N E bo s q) (x a b : Int) (hx : (Lit.int .i64 x).wf = true) (he : E x = (a, b)) :
    Calls Try.prog 14 #[.pointer (some ⟨p, 0, none⟩), .int .i64 x] w fun e w' => e = .returned (.agg #[.int .i64 a, .int .i64 b]) ∧ LX W w' p bm N E bo s q :=
  (h.lk.get x a b hx he).mono (fun _ _ ⟨h1, h2, h3⟩ => ⟨h1, h2, h.b.kp h3, h.ne⟩)

theorem fit_in {u : Int} (h1 : 1 ≤ u) (h2 : u ≤ 255) : fitB u true = true := by
  unfold fitB
  rw [if_pos rfl, decide_eq_true h1, decide_eq_true h2]; rfl
theorem may_mov {x : Int} {N : Nat} (h0 : 0 ≤ x) (h1 : x < (N : Int)) (s q u : Int) (a : Nat) (ha : 1 ≤ a) (ha2 : a ≤ 10) (h9 : a ≠ 9) : mayN N (s, q) x (a : Int) u = movN s q (mvF a) (mvO a) (mvG a) u := by
  unfold mayN
  rw [if_neg (by omega), if_neg (by omega), if_neg (by omega), Int.toNat_natCast]
theorem may_rel {x : Int} {N : Nat} (h0 : 0 ≤ x) (h1 : x < (N : Int)) (s q u : Int) : mayN N (s, q) x 9 u = relN s q u := by
  unfold mayN
  rw [if_neg (by omega), if_neg (by omega), if_pos rfl]


end Go.Proofs.Ytjeahpekcbogeaa
