/- TableKeeps: its calls, over one Block. -/
import Derived.Test.YtanlcmdnhhdhaaaGreatDoorJ28
import Derived.Test.YtanlcmdnhhdhaaaGreatDoorJ27
namespace Go.Proofs.YtanlcmdnhhdhaaaGreatDoor
open Go.RowKit
set_option maxRecDepth 10000

section
variable {W W0 w w' : World} {X Y : Nat → Prop} {bt p pm N pool o : Nat} {M : Nat → Nat → Nat} {C : Nat → Nat}
/-- The frames, told from an earlier world on. -/
theorem FW.base (h : FW W X w p pm N pool o M C) (k : Kp W0 W) (T : TAB W0) (hX : ∀ i, Y i → X i ∨ i < W.heap.size) : FW W0 Y w p pm N pool o M C := by
  obtain ⟨ops, B, h1, h2, S, f⟩ := h
  have := k.size
  have := f.kp.size
  refine ⟨ops, B, h1, h2, S, f.fs, k.trans f.kp, fun i hi => ⟨by have := (f.out i hi).1; omega, fun c => (hX i c).elim (f.out i hi).2 (fun c => by have := (f.out i hi).1; omega)⟩, fun i hi => (hX i hi).elim (f.lt i) (fun c => by omega), T.lt⟩
end
theorem Fr.putP {S : Nat → Prop} {w w' : World} {b : Nat} (h : Fr S w w') (hb : S b) (r q x : Bool) : Fr S w (putP w' b r q x) := ((h.set _ _ hb).set _ _ hb).set _ _ hb
set_option maxHeartbeats 4000000 in
theorem right_any (r q x : Bool) (w : World) : Calls Tryz.prog 22 #[.agg #[.bool r, .bool q, .bool x]] w fun e w' => e = .returned (.agg #[.bool r, .bool (q && r), .bool x]) ∧ Kp w w' := by
  cases q
  all_goals
    go_enter Tryz.func22, Tryz.ntmps22
    go_wp2
    first
      | exact bodyPost_ret (res_p (r := r) (q := false) (x := x) rfl rfl (PX.made1 w _ _ _ _)) rfl ⟨rfl, ((Kp.refl _).alloc _).alloc _⟩
      | exact bodyPost_ret (res_p (r := r) (q := r) (x := x) rfl rfl (PX.made1 w _ _ _ _)) rfl ⟨rfl, ((Kp.refl _).alloc _).alloc _⟩

/-- Are two leaves alike? -/
def samL (u v : LV) : Bool := ((u.g : Int) == (v.g : Int)) && ((u.x : Int) == (v.x : Int)) && samP u.r u.q u.e v.r v.q v.e && (u.f == v.f) && ((u.l : Int) == (v.l : Int))
theorem samL_self (u : LV) : samL u u = true := by unfold samL samP; simp
theorem eq_leaf (g x f l g' x' f' l' : Int) (r q e r' q' e' : Bool) (w : World) : (Op.equalIn 10000 58 (.agg #[.int .u64 g, .int .i64 x, .bool r, .bool q, .bool e, .int .i64 f, .int .i64 l]) (.agg #[.int .u64 g', .int .i64 x', .bool r', .bool q', .bool e', .int .i64 f', .int .i64 l'])).run Tryz.prog w =
    .ok ((g == g') && (x == x') && samP r q e r' q' e' && (f == f') && (l == l')) w := by
  rw [show (10000 : Nat) = 9999 + 1 from rfl, run_equalIn_struct w 9999 _ _ _ (by kernel_rfl) (by kernel_rfl)]
  have e0 : (Op.equalIn 9999 37 (.int .u64 g) (.int .u64 g')).run Tryz.prog w = .ok (g == g') w := run_equalIn_int w 9998 37 .u64 .u64 g g' Tryz.underlying37
  have e1 : (Op.equalIn 9999 3 (.int .i64 x) (.int .i64 x')).run Tryz.prog w = .ok (x == x') w := run_equalIn_int w 9998 3 .i64 .i64 x x' Tryz.underlying3
  have e2 : (Op.equalIn 9999 39 (.agg #[.bool r, .bool q, .bool e]) (.agg #[.bool r', .bool q', .bool e'])).run Tryz.prog w = .ok (samP r q e r' q' e') w := eq_perm 9997 r q e r' q' e' w
  have e3 : (Op.equalIn 9999 3 (.int .i64 f) (.int .i64 f')).run Tryz.prog w = .ok (f == f') w := run_equalIn_int w 9998 3 .i64 .i64 f f' Tryz.underlying3
  have e4 : (Op.equalIn 9999 3 (.int .i64 l) (.int .i64 l')).run Tryz.prog w = .ok (l == l') w := run_equalIn_int w 9998 3 .i64 .i64 l l' Tryz.underlying3
  have h0 : ∀ (g x f l : Int) (r q e : Bool), (part 37 #[.int .u64 g, .int .i64 x, .bool r, .bool q, .bool e, .int .i64 f, .int .i64 l] 0).run Tryz.prog w = .ok (.int .u64 g) w := fun g x f l r q e => by simp [part, isAgg, run_underlying Tryz.underlying37]
  have h1 : ∀ (g x f l : Int) (r q e : Bool), (part 3 #[.int .u64 g, .int .i64 x, .bool r, .bool q, .bool e, .int .i64 f, .int .i64 l] 1).run Tryz.prog w = .ok (.int .i64 x) w := fun g x f l r q e => by simp [part, isAgg, run_underlying Tryz.underlying3]
  have h2 : ∀ (g x f l : Int) (r q e : Bool), (part 39 #[.int .u64 g, .int .i64 x, .bool r, .bool q, .bool e, .int .i64 f, .int .i64 l] 2).run Tryz.prog w = .ok (.agg #[.bool r, .bool q, .bool e]) w := fun g x f l r q e => by simp [part, isAgg, run_underlying Tryz.underlying39]
  have h3 : ∀ (g x f l : Int) (r q e : Bool), (part 3 #[.int .u64 g, .int .i64 x, .bool r, .bool q, .bool e, .int .i64 f, .int .i64 l] 5).run Tryz.prog w = .ok (.int .i64 f) w := fun g x f l r q e => by simp [part, isAgg, run_underlying Tryz.underlying3]
  have h4 : ∀ (g x f l : Int) (r q e : Bool), (part 3 #[.int .u64 g, .int .i64 x, .bool r, .bool q, .bool e, .int .i64 f, .int .i64 l] 6).run Tryz.prog w = .ok (.int .i64 l) w := fun g x f l r q e => by simp [part, isAgg, run_underlying Tryz.underlying3]
  generalize (g == g') = c0 at *
  generalize (x == x') = c1 at *
  generalize samP r q e r' q' e' = c2 at *
  generalize (f == f') = c3 at *
  generalize (l == l') = c4 at *
  simp only [Program.fieldsOf, Tryz.underlying58, Op.eqFields]
  cases c0 <;> cases c1 <;> cases c2 <;> cases c3 <;> cases c4 <;> simp [h0, h1, h2, h3, h4, e0, e1, e2, e3, e4]
/-- The table, the two permissions. -/
structure KJ (W : World) (X : Nat → Prop) (wr : World) (bt p pm y bP bQ : Nat) (r q x : Bool) (o : Nat) (M : Nat → Nat → Nat) (C : Nat → Nat) (E : Nat → Nat → DV) : Prop where
  ts : TS W X wr bt p pm 2100 20 o M C (fun _ => false) y E
  ne : NE y E (fun _ _ => False)
  pp : PX wr bP r q x
  pq : PX wr bQ true false (!x)
  xp : X bP
  xq : X bQ
section
variable {W wr u : World} {X : Nat → Prop} {bt p pm y bP bQ : Nat} {r q x : Bool} {o o' : Nat} {M M' : Nat → Nat → Nat} {C C' : Nat → Nat} {E E' : Nat → Nat → DV}
theorem KJ.kps (h : KJ W X wr bt p pm y bP bQ r q x o M C E) (k : Kp wr u) : KJ W X u bt p pm y bP bQ r q x o M C E := ⟨h.ts.kps k, h.ne, h.pp.kp k, h.pq.kp k, h.xp, h.xq⟩
theorem KJ.same (h : KJ W X wr bt p pm y bP bQ r q x o M C E) (t : TS W X u bt p pm 2100 20 o' M' C' (fun _ => false) y E') (ne : NE y E' (fun _ _ => False)) (k : Fr (Out W X) wr u) : KJ W X u bt p pm y bP bQ r q x o' M' C' E' := ⟨t, ne, h.pp.frO k h.xp, h.pq.frO k h.xq, h.xp, h.xq⟩
theorem KJ.le (h : KJ W X wr bt p pm y bP bQ r q x o M C E) (ho : o ≤ o') : KJ W X wr bt p pm y bP bQ r q x o' M C E := ⟨h.ts.le ho, h.ne, h.pp, h.pq, h.xp, h.xq⟩
theorem KJ.ac (h : KJ W X wr bt p pm y bP bQ r q x o M C E) (a : AC W X wr u bt p pm 2100 20 o' M C (fun _ => false) y C' E') : ∃ M', KJ W X u bt p pm y bP bQ r q x o' M' C' E' := by
  obtain ⟨⟨M', t, _⟩, ne, f⟩ := a
  exact ⟨M', h.same t ne f⟩
theorem KJ.more (h : KJ W X wr bt p pm y bP bQ r q x o M C E) (k : Kp wr u) (b : Nat) (hb : wr.heap.size ≤ b) (hl : b < u.heap.size) : KJ W (fun i => X i ∨ i = b) u bt p pm y bP bQ r q x o M C E := ⟨h.ts.more k b hb hl, h.ne, h.pp.kp k, h.pq.kp k, .inl h.xp, .inl h.xq⟩
end
/-- What does not change. -/
structure Kc (r q : Bool) (fr sf j : Nat) : Prop where
  fr : fr = 512 ∨ fr = 1024
  sf : sf ≤ 15
  q : q = true → r = true
  j : j < 524288
/-- Between two rounds: a Block, or its Pages; whether it is whole. -/
def S0 (W : World) (X : Nat → Prop) (w : World) (bt p pm y bP bQ : Nat) (r q x : Bool) (fr sf j : Nat) (o : Nat) : Prop := ∃ M C E, KJ W X w bt p pm y bP bQ r q x o M C E ∧ KSt E C j (⟨2, fr * 4096, r, q, x, (sf : Int)⟩ : DV)
def SW (W : World) (X : Nat → Prop) (w : World) (bt p pm y bP bQ : Nat) (r q x : Bool) (fr sf j : Nat) (o : Nat) : Prop := ∃ M C E, KJ W X w bt p pm y bP bQ r q x o M C E ∧ whS E j (⟨2, fr * 4096, r, q, x, (sf : Int)⟩ : DV) ∧ cnt (fT 20 C) 20 = 17
def SP (W : World) (X : Nat → Prop) (w : World) (bt p pm y bP bQ : Nat) (r q x : Bool) (fr sf j : Nat) (o : Nat) : Prop := ∃ M C E, KJ W X w bt p pm y bP bQ r q x o M C E ∧ spS E j (⟨2, fr * 4096, r, q, x, (sf : Int)⟩ : DV) ∧ cnt (fT 20 C) 20 = 16
/-- A page of it is protected otherwise. -/
def S1 (W : World) (X : Nat → Prop) (w : World) (bt p pm y bP bQ : Nat) (r q x : Bool) (fr sf j : Nat) (o page : Nat) : Prop := ∃ M C E, KJ W X w bt p pm y bP bQ r q x o M C E ∧ spX E j (⟨2, fr * 4096, r, q, x, (sf : Int)⟩ : DV) page (⟨3, (fr + page % 512) * 4096, true, false, !x, (sf : Int)⟩ : DV) ∧ cnt (fT 20 C) 20 = 16
/-- It is unmapped. -/
def S2 (W : World) (X : Nat → Prop) (w : World) (bt p pm y bP bQ : Nat) (r q x : Bool) (fr sf j : Nat) (o page : Nat) : Prop := ∃ M C E, KJ W X w bt p pm y bP bQ r q x o M C E ∧ spX E j (⟨2, fr * 4096, r, q, x, (sf : Int)⟩ : DV) page dN ∧ ∃ M0 C0 E0, TG M0 C0 20 (fun _ => false) y E0 ∧ NE y E0 (fun _ _ => False) ∧ spX E0 j (⟨2, fr * 4096, r, q, x, (sf : Int)⟩ : DV) page (⟨3, (fr + page % 512) * 4096, true, false, !x, (sf : Int)⟩ : DV) ∧ cnt (fT 20 C0) 20 = 16
section
variable {W w u : World} {X : Nat → Prop} {bt p pm y bP bQ : Nat} {r q x : Bool} {o o' fr sf j page : Nat} {M M' : Nat → Nat → Nat} {C C' : Nat → Nat} {E E' : Nat → Nat → DV}
theorem SW.s0 (h : SW W X w bt p pm y bP bQ r q x fr sf j o) : S0 W X w bt p pm y bP bQ r q x fr sf j o := by
  obtain ⟨M, C, E, a, b, c⟩ := h
  exact ⟨M, C, E, a, .inl ⟨b, c⟩⟩
theorem SP.s0 (h : SP W X w bt p pm y bP bQ r q x fr sf j o) : S0 W X w bt p pm y bP bQ r q x fr sf j o := by
  obtain ⟨M, C, E, a, b, c⟩ := h
  exact ⟨M, C, E, a, .inr ⟨b, c⟩⟩
theorem S0.pp (h : S0 W X w bt p pm y bP bQ r q x fr sf j o) : PX w bP r q x ∧ PX w bQ true false (!x) ∧ Kp W w := by
  obtain ⟨M, C, E, a, b⟩ := h
  exact ⟨a.pp, a.pq, a.ts.fw.kp⟩
theorem S2.pp (h : S2 W X w bt p pm y bP bQ r q x fr sf j o page) : PX w bP r q x ∧ Kp W w := by
  obtain ⟨M, C, E, a, b⟩ := h
  exact ⟨a.pp, a.ts.fw.kp⟩
theorem SW.frX (h : SW W X w bt p pm y bP bQ r q x fr sf j o) {Y : Nat → Prop} (k : Fr Y w u) (hY : ∀ i, Y i → W.heap.size ≤ i ∧ X i) (h1 : ¬ Y bt) (h2 : ¬ Y bP) (h3 : ¬ Y bQ) : SW W X u bt p pm y bP bQ r q x fr sf j o := by
  obtain ⟨M, C, E, a, b⟩ := h
  exact ⟨M, C, E, ⟨a.ts.frX k hY h1, a.ne, (k.block bP a.pp.lt h2).trans a.pp, (k.block bQ a.pq.lt h3).trans a.pq, a.xp, a.xq⟩, b⟩
theorem SP.lt (h : SP W X w bt p pm y bP bQ r q x fr sf j o) : bt < w.heap.size ∧ bP < w.heap.size ∧ bQ < w.heap.size ∧ Kp W w := by
  obtain ⟨M, C, E, a, b⟩ := h
  exact ⟨a.ts.tx.lt, a.pp.lt, a.pq.lt, a.ts.fw.kp⟩
theorem SP.le (h : SP W X w bt p pm y bP bQ r q x fr sf j o) (ho : o ≤ o') : SP W X w bt p pm y bP bQ r q x fr sf j o' := by
  obtain ⟨M, C, E, a, b⟩ := h
  exact ⟨M, C, E, a.le ho, b⟩
theorem SW.le (h : SW W X w bt p pm y bP bQ r q x fr sf j o) (ho : o ≤ o') : SW W X w bt p pm y bP bQ r q x fr sf j o' := by
  obtain ⟨M, C, E, a, b⟩ := h
  exact ⟨M, C, E, a.le ho, b⟩
theorem SP.kps (h : SP W X w bt p pm y bP bQ r q x fr sf j o) (k : Kp w u) : SP W X u bt p pm y bP bQ r q x fr sf j o := by
  obtain ⟨M, C, E, a, b⟩ := h
  exact ⟨M, C, E, a.kps k, b⟩
theorem SW.kps (h : SW W X w bt p pm y bP bQ r q x fr sf j o) (k : Kp w u) : SW W X u bt p pm y bP bQ r q x fr sf j o := by
  obtain ⟨M, C, E, a, b⟩ := h
  exact ⟨M, C, E, a.kps k, b⟩
theorem SP.more (h : SP W X w bt p pm y bP bQ r q x fr sf j o) (k : Kp w u) (b : Nat) (hb : w.heap.size ≤ b) (hl : b < u.heap.size) : SP W (fun i => X i ∨ i = b) u bt p pm y bP bQ r q x fr sf j o := by
  obtain ⟨M, C, E, a, g⟩ := h
  exact ⟨M, C, E, a.more k b hb hl, g⟩
theorem kc_ok (kc : Kc r q fr sf j) : okD 2 (⟨2, fr * 4096, r, q, x, (sf : Int)⟩ : DV) ∧ canB r q (sf : Int) = true ∧ canB true false (sf : Int) = true := by
  refine ⟨okD_block (by rcases kc.fr with h | h <;> omega) (by rcases kc.fr with h | h <;> omega) kc.q (by omega) (by have := kc.sf; omega), ?_, ?_⟩
  · have := kc.sf
    have := kc.q
    unfold canB
    cases q <;> cases r <;> simp_all <;> omega
  · have := kc.sf
    unfold canB
    simp; omega
theorem at_a (s : spS E j (⟨2, fr * 4096, r, q, x, (sf : Int)⟩ : DV)) (h : TG M C 20 (fun _ => false) y E) (hj : page / 512 = j) : (enG E page).a = (fr + page % 512) * 4096 := by
  rw [(s.en h hj).1]
  show fr * 4096 + page % 512 * 4096 = _
  omega
theorem kj_protect (h : S0 W X w bt p pm y bP bQ r q x fr sf j o) (kc : Kc r q fr sf j) (hj : page / 512 = j) (hp : page < 268435456) (ho : o < 1000000) :
    Calls Tryz.prog 34 #[.pointer (some ⟨bt, 0, none⟩), .int .u64 (page : Int), .agg #[.bool true, .bool false, .bool (!x)], .int .i64 (sf : Int)] w fun e w' => e = .returned (.int .i64 0) ∧ S1 W X w' bt p pm y bP bQ r q x fr sf j (o + 526) page := by
  obtain ⟨M, C, E, J, s⟩ := h
  obtain ⟨e1, _, _, e4, _, e6⟩ := s.en J.ts.tg (page := page) rfl hj
  have sam : same4 (enG E page) true false (!x) (sf : Int) = false := by
    unfold same4 samP
    rw [e4]
    cases x <;> simp
  refine (protect_ok J.ts J.ne page true false (!x) (sf : Int) hp (by omega) (kc_ok (x := x) kc).2.2 e1 sam (fun _ => e6)).mono ?_
  rintro e w' ⟨rfl, C', E1, E', ac, lr, l2, M1, g1⟩
  obtain ⟨s1, c1⟩ := s.lr J.ts.tg rfl hj lr
  obtain ⟨M', J'⟩ := J.ac ac
  have s2 := (s1.x hj).put l2
  rw [at_a s1 g1 hj] at s2
  exact ⟨rfl, M', C', E', J', s2, c1⟩
theorem kj_nojoin (h : S1 W X w bt p pm y bP bQ r q x fr sf j o page) (hj : page / 512 = j) (hp : page < 268435456) (ho : o < 1000000) :
    Calls Tryz.prog 38 #[.pointer (some ⟨bt, 0, none⟩), .int .u64 (page : Int)] w fun e w' => e = .returned (.int .i64 20) ∧ S1 W X w' bt p pm y bP bQ r q x fr sf j (o + 5) page := by
  obtain ⟨M, C, E, J, s, c⟩ := h
  have en := s.en J.ts.tg rfl
  refine (join_three J.ts J.ne page hp (by omega) (by rw [en.1])).mono ?_
  rintro e w' ⟨t, rfl, ht, C', E', ac, hf, _⟩
  have tf : t = false := by
    cases t
    · rfl
    · exact absurd (ht.1 rfl) (s.nojoin J.ts.tg hj rfl)
  subst tf
  obtain ⟨rfl, rfl⟩ := hf rfl
  obtain ⟨M', J'⟩ := J.ac ac
  exact ⟨rfl, M', C', E', J', s, c⟩
theorem kj_unmap (h : S1 W X w bt p pm y bP bQ r q x fr sf j o page) (hp : page < 268435456) (ho : o < 1000000) :
    Calls Tryz.prog 23 #[.pointer (some ⟨bt, 0, none⟩), .int .u64 (page : Int)] w fun e w' => e = .returned (.tuple #[.int .i64 ((fr + page % 512 : Nat) : Int), .int .i64 0]) ∧ S2 W X w' bt p pm y bP bQ r q x fr sf j (o + 525) page := by
  obtain ⟨M, C, E, J, s, c⟩ := h
  have en := s.en J.ts.tg rfl
  refine (unmap_ok J.ts J.ne page hp (by omega) (by rw [en.1]; show (3 : Int) ≠ 0; decide) (fun c => by rw [en.1] at c; cases c)).mono ?_
  rintro e w' ⟨C1, E1, rfl, C', E', ac, lr, l2, _⟩
  rcases lr with ⟨_, rfl, rfl⟩ | ⟨k, _⟩
  · obtain ⟨M', J'⟩ := J.ac ac
    refine ⟨?_, M', C', E', J', s.put l2, M, C1, E1, J.ts.tg, J.ne, s, c⟩
    rw [en.1]
    show Ending.returned (.tuple #[.int .i64 (((fr + page % 512) * 4096 / 4096 : Nat) : Int), .int .i64 0]) = _
    rw [Nat.mul_div_cancel _ (by decide)]
  · rw [en.1] at k; cases k
theorem kj_need (h : S2 W X w bt p pm y bP bQ r q x fr sf j o page) (hj : page / 512 = j) (hp : page < 268435456) (ho : o < 1000000) :
    Calls Tryz.prog 42 #[.pointer (some ⟨bt, 0, none⟩), .int .u64 (page : Int)] w fun e w' => e = .returned (.int .i64 0) ∧ S2 W X w' bt p pm y bP bQ r q x fr sf j (o + 4) page := by
  obtain ⟨M, C, E, J, s, c⟩ := h
  have en := s.need J.ts.tg hj
  refine (need_any J.ts page hp (by omega)).mono ?_
  rintro e w' ⟨rfl, t, f⟩
  refine ⟨?_, M, C, E, J.same t J.ne f, s, c⟩
  unfold needN
  rw [if_neg (fun c => c en.1), en.2]
  rfl
theorem kj_map (h : S2 W X w bt p pm y bP bQ r q x fr sf j o page) (kc : Kc r q fr sf j) (hj : page / 512 = j) (hp : page < 268435456) (ho : o < 1000000) :
    Calls Tryz.prog 21 #[.pointer (some ⟨bt, 0, none⟩), .int .u64 (page : Int), .int .i64 ((fr + page % 512 : Nat) : Int), .agg #[.bool r, .bool q, .bool x], .int .i64 (sf : Int)] w fun e w' => e = .returned (.int .i64 0) ∧ SP W X w' bt p pm y bP bQ r q x fr sf j (o + 12) := by
  obtain ⟨M, C, E, J, s, M0, C0, E0, g0, n0, s0, c0⟩ := h
  have en := s.need J.ts.tg hj
  have eR : mapR 2100 20 C E page ((fr + page % 512 : Nat) : Int) r q (sf : Int) = 0 := by
    unfold mapR plR
    have := kc.fr
    rw [if_neg (by unfold hasN; simp; omega), if_neg (by rw [(kc_ok (x := x) kc).2.1]; decide), if_neg (by rw [en.1, en.2]; omega), en.2, if_neg (by omega)]
  have k := map_any J.ts J.ne page ((fr + page % 512 : Nat) : Int) r q x (sf : Int) (by omega)
  rw [eR] at k
  refine k.mono ?_
  rintro e w' ⟨rfl, C', E', ac, _, b⟩
  obtain ⟨_, l2⟩ := b rfl
  rw [qn_three] at l2
  have e5 : (⟨3, Int.toNat ((fr + page % 512 : Nat) : Int) * 4096, r, q, x, (sf : Int)⟩ : DV) = pgOf (⟨2, fr * 4096, r, q, x, (sf : Int)⟩ : DV) (page % 512) := by
    unfold pgOf
    rw [Int.toNat_natCast, Nat.add_mul]
  rw [e5] at l2
  obtain ⟨M', J'⟩ := J.ac ac
  have s2 := s.put l2
  exact ⟨rfl, M', C', E', J', s2.s hj, (free_like g0 J'.ts.tg n0 J'.ne (s0.like s2 ⟨(fun c => by cases c), fun c => by cases c⟩)).trans c0⟩
theorem kj_split (h : SW W X w bt p pm y bP bQ r q x fr sf j o) (hj : page / 512 = j) (hp : page < 268435456) (ho : o < 1000000) :
    Calls Tryz.prog 36 #[.pointer (some ⟨bt, 0, none⟩), .int .u64 (page : Int)] w fun e w' => e = .returned (.int .i64 0) ∧ SP W X w' bt p pm y bP bQ r q x fr sf j (o + 517) := by
  obtain ⟨M, C, E, J, s, c⟩ := h
  have en := s.en J.ts.tg (page := page) rfl hj
  have eR : splR 20 C E page = 0 := by
    unfold splR spR
    rw [en.1, if_neg (by show ¬ (2 : Int) = 0; decide), if_neg (by show ¬ (2 : Int) = 3; decide), if_neg (by omega)]
  have k := tsplit_any J.ts J.ne page hp (by omega)
  rw [eR] at k
  refine k.mono ?_
  rintro e w' ⟨rfl, C', E', ac, _, b⟩
  obtain ⟨c2, l2⟩ := b rfl
  obtain ⟨M', J'⟩ := J.ac ac
  exact ⟨rfl, M', C', E', J', s.split rfl (hj ▸ l2), by omega⟩
theorem kj_get (h : SP W X w bt p pm y bP bQ r q x fr sf j o) (hj : page / 512 = j) (hp : page < 268435456) (ho : o < 1000000) :
    Calls Tryz.prog 18 #[.pointer (some ⟨bt, 0, none⟩), .int .u64 (page : Int)] w fun e w' => e = .returned (.tuple #[.agg #[.int .u64 (page : Int), .int .i64 ((fr + page % 512 : Nat) : Int), .bool r, .bool q, .bool x, .int .i64 (sf : Int), .int .i64 3], .bool true]) ∧ SP W X w' bt p pm y bP bQ r q x fr sf j (o + 4) := by
  obtain ⟨M, C, E, J, s, c⟩ := h
  have en := s.en J.ts.tg (page := page) hj
  have ek : (enG E page).k ≠ 0 := by rw [en.1]; show (3 : Int) ≠ 0; decide
  refine (get_any J.ts page hp (by omega)).mono ?_
  rintro e w' ⟨rfl, t, f⟩
  refine ⟨?_, M, C, E, J.same t J.ne f, s, c⟩
  rw [decide_eq_true ek]
  have : getN E page = ⟨page, fr + page % 512, r, q, x, (sf : Int), 3⟩ := by
    unfold getN tellN
    rw [if_pos ek, en.1, en.2]
    show (⟨page, (fr * 4096 + page % 512 * 4096) / 4096 + 0, r, q, x, (sf : Int), 3⟩ : LV) = _
    rw [show (fr * 4096 + page % 512 * 4096) / 4096 + 0 = fr + page % 512 by omega]
  rw [this]
  rfl
theorem kj_get2 (h : SW W X w bt p pm y bP bQ r q x fr sf j o) (hj : page / 512 = j) (hp : page < 268435456) (ho : o < 1000000) :
    Calls Tryz.prog 18 #[.pointer (some ⟨bt, 0, none⟩), .int .u64 (page : Int)] w fun e w' => e = .returned (.tuple #[.agg #[.int .u64 (page : Int), .int .i64 ((fr + page % 512 : Nat) : Int), .bool r, .bool q, .bool x, .int .i64 (sf : Int), .int .i64 2], .bool true]) ∧ SW W X w' bt p pm y bP bQ r q x fr sf j (o + 4) ∧ Fr (Out W X) w w' := by
  obtain ⟨M, C, E, J, s, c⟩ := h
  have en := s.en J.ts.tg (page := page) rfl hj
  have ek : (enG E page).k ≠ 0 := by rw [en.1]; show (2 : Int) ≠ 0; decide
  refine (get_any J.ts page hp (by omega)).mono ?_
  rintro e w' ⟨rfl, t, f⟩
  refine ⟨?_, ⟨M, C, E, J.same t J.ne f, s, c⟩, f⟩
  rw [decide_eq_true ek]
  have : getN E page = ⟨page, fr + page % 512, r, q, x, (sf : Int), 2⟩ := by
    unfold getN tellN
    rw [if_pos ek, en.1, en.2]
    show (⟨page, fr * 4096 / 4096 + page % 512, r, q, x, (sf : Int), 2⟩ : LV) = _
    rw [Nat.mul_div_cancel _ (by decide)]
  rw [this]
  rfl
theorem kj_tables (h : SP W X w bt p pm y bP bQ r q x fr sf j o) : Calls Tryz.prog 24 #[.pointer (some ⟨bt, 0, none⟩)] w fun e w' => e = .returned (.int .i64 4) ∧ SP W X w' bt p pm y bP bQ r q x fr sf j o ∧ Kp w w' := by
  obtain ⟨M, C, E, J, s, c⟩ := h
  refine (tcount_any J.ts).mono ?_
  rintro e w' ⟨rfl, k⟩
  have := cnt_alone 20 C
  refine ⟨?_, ⟨M, C, E, J.kps k, s, c⟩, k⟩
  rw [show cnt (ownC C (fun _ => false)) 20 = 4 by omega]
  rfl
theorem kj_tables2 (h : SW W X w bt p pm y bP bQ r q x fr sf j o) : Calls Tryz.prog 24 #[.pointer (some ⟨bt, 0, none⟩)] w fun e w' => e = .returned (.int .i64 3) ∧ SW W X w' bt p pm y bP bQ r q x fr sf j o ∧ Kp w w' := by
  obtain ⟨M, C, E, J, s, c⟩ := h
  refine (tcount_any J.ts).mono ?_
  rintro e w' ⟨rfl, k⟩
  have := cnt_alone 20 C
  refine ⟨?_, ⟨M, C, E, J.kps k, s, c⟩, k⟩
  rw [show cnt (ownC C (fun _ => false)) 20 = 3 by omega]
  rfl
theorem kj_join (h : SP W X w bt p pm y bP bQ r q x fr sf j o) (kc : Kc r q fr sf j) (hj : page / 512 = j) (hp : page < 268435456) (ho : o < 1000000) :
    Calls Tryz.prog 38 #[.pointer (some ⟨bt, 0, none⟩), .int .u64 (page : Int)] w fun e w' => e = .returned (.int .i64 0) ∧ SW W X w' bt p pm y bP bQ r q x fr sf j (o + 5) ∧ Fr (Out W X) w w' := by
  obtain ⟨M, C, E, J, s, c⟩ := h
  have en := s.en J.ts.tg (page := page) hj
  obtain ⟨j1, j2⟩ := s.joins J.ts.tg rfl (kc_ok (x := x) kc).1 hj
  refine (join_three J.ts J.ne page hp (by omega) (by rw [en.1]; rfl)).mono ?_
  rintro e w' ⟨t, rfl, ht, C', E', ac, _, hf⟩
  have tt := ht.2 j1
  subst tt
  obtain ⟨c2, l2⟩ := hf rfl
  obtain ⟨M', J'⟩ := J.ac ac
  rw [j2, hj] at l2
  exact ⟨rfl, ⟨M', C', E', J', s.join l2, by omega⟩, ac.fr⟩
theorem kj_leaves (h : SW W X w bt p pm y bP bQ r q x fr sf j o) : Calls Tryz.prog 20 #[.pointer (some ⟨bt, 0, none⟩)] w fun e w' => (∃ g cap, e = .returned (.slice (some ⟨g, 0, none⟩) 1 cap) ∧ w'.cell? ⟨g, 0, none⟩ = some (.int .u64 ((j * 512 : Nat) : Int)) ∧ g < w'.heap.size) ∧ SW W X w' bt p pm y bP bQ r q x fr sf j o ∧ Kp w w' := by
  obtain ⟨M, C, E, J, s, c⟩ := h
  refine (leaves_any J.ts).mono ?_
  rintro e w' ⟨⟨v, rfl, ol⟩, k, _⟩
  rw [s.leaves J.ts.tg rfl] at ol
  refine ⟨?_, ⟨M, C, E, J.kps k, s, c⟩, k⟩
  obtain ⟨na, cap, ev, _, hc⟩ := ol.form
  rcases hc with ⟨_, _, c⟩ | ⟨g, rfl, hg⟩
  · cases c
  · subst ev
    refine ⟨g, cap, rfl, ?_, hg⟩
    exact OL.cell encL_ok ol (i := 0) (j := 0) (x := tellN (j * 512) 2 (⟨2, fr * 4096, r, q, x, (sf : Int)⟩ : DV)) rfl rfl
end
end Go.Proofs.YtanlcmdnhhdhaaaGreatDoor
