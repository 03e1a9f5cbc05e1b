/- disk.Disk: the least free slot; Take, Give; fails. -/
import Derived.Test.YtcgfifihkbiioaaX2
namespace Go.Proofs.Ytcgfifihkbiioaa
open Go.RowKit Go.Maps

theorem jump_mono {P : Program} {c : Code} {l : Nat} {J J' : Act → World → Prop} {Q : Exit → Act → World → Prop} {a : Act} {w : World} (hJ : ∀ a w, J' a w → J a w) (h : c.wp P (Exit.jump l J' Q) a w) : c.wp P (Exit.jump l J Q) a w :=
  Code.wp_mono (fun e a w => by
    cases e with
    | goto l' => exact fun hq => ⟨hq.1, hJ _ _ hq.2⟩
    | _ => exact id) h
/-- A scope that is left to its one label again and again: the rest behind the label is walked once. -/
theorem scope_again {P : Program} {c X : Code} {a : Act} {w : World} {Q : Exit → Act → World → Prop} (l : Nat) (J : Act → World → Prop) (μ : Act → World → Nat) (hf : findLabel c l = some (Code.skip.seq X))
    (first : (∀ a w, J a w → X.wp P (Exit.jump l J Q) a w) → c.wp P (Exit.jump l J Q) a w)
    (pass : ∀ a w, J a w → X.wp P (Exit.jump l (fun a' w' => J a' w' ∧ μ a' w' < μ a w) Q) a w) : (Code.scope c).wp P Q a w :=
  wp_scope_jumps l J μ hf (first fun a w hJ => jump_mono (fun _ _ h => h.1) (pass a w hJ)) (fun a w hJ => wp_seq (wp_skip (pass a w hJ)))

set_option maxHeartbeats 4000000 in
set_option maxRecDepth 1000000 in
theorem dleast_any {w : World} {S : Nat → Prop} {p bm : Nat} {g : Int → Option Nat} {N : Nat} {T : Slots} {v : Value} {A : List Bool} (h : DMat w S p bm g N T v A) :
    Calls Try.prog 24 #[.pointer (some ⟨p, 0, none⟩)] w fun e w' => e = .returned (.int .i64 (lst T N : Nat)) ∧ w' = w := by
  have hh : Aside (∀ k : Nat, k ≤ 4096 → Calls Try.prog 25 #[.pointer (some ⟨p, 0, none⟩), .int .i64 (k : Int)] w fun e w' => e = .returned (.bool (T k).isSome) ∧ w' = w) := fun k hk => by
    have := dhas_any h (k : Int) (WalkArith.wf_i64 (by omega))
    rwa [hasT_nat] at this
  have hN := h.n2
  have hle := lst_le T N
  have hoff : T (lst T N) = none := by
    by_cases c : lst T N < N
    · exact lst_off T N c
    · exact h.over _ (by omega)
  have hon : Aside (∀ x, x < lst T N → (T x).isSome = true) := fun x hx => lst_on T N x hx
  have HO : Hid (T (lst T N) = none) := hoff
  clear h hoff
  generalize lst T N = m at *
  go_enter Try.func24, Try.ntmps24
  go_wp2_with fail
  refine scope_again 0 (fun a' w' => w' = w ∧ ∃ (k : Nat) (u1 u2 u4 u5 u6 u7 u8 u9 : Value), a' = { tmps := #[.pointer (some ⟨p, 0, none⟩), u1, u2, .int .i64 (k : Int), u4, u5, u6, u7, u8, u9], defers := [] } ∧ k ≤ m) (fun a' _ => m - (intOf (a'.tmps.getD 3 undef)).toNat) rfl (fun pass => ?_) ?_
  · go_wp2_with fail
    go_step3
    rename_i hK
    exact hK _ _ (pass _ _ ⟨rfl, 0, _, _, _, _, _, _, _, _, rfl, Nat.zero_le _⟩)
  · rintro a' w' ⟨rfl, k, u1, u2, u4, u5, u6, u7, u8, u9, rfl, hk⟩
    have c1 := hh.out k (by omega)
    have y1 : (k : Int) ≤ 4096 := by omega
    by_cases e : k = m
    · subst e
      rw [HO.out] at c1
      go_wp2_with (go_at_call 25; with_reducible refine c1.mono ?_; rintro e w' ⟨rfl, rfl⟩)
      simp only [Exit.jump]
      go_ret
      exact ⟨rfl, rfl⟩
    · rw [hon.out k (by omega)] at c1
      go_wp2_with (go_at_call 25; with_reducible refine c1.mono ?_; rintro e w' ⟨rfl, rfl⟩)
      go_step3
      refine ⟨rfl, ⟨rfl, k + 1, _, _, _, _, _, _, _, _, rfl, by omega⟩, ?_⟩
      simp [intOf]
      omega

/-! ### Take -/
/-- What Take tells, and leaves. -/
def tkX (N : Nat) (T : Slots) : Nat := if tkn T N = N then 0 else lst T N
def tkR (N : Nat) (T : Slots) : Int := if tkn T N = N then 12 else 0
def tkT (N : Nat) (T : Slots) : Slots := if tkn T N = N then T else putT T (lst T N) z0

theorem DMat.put {w w1 w2 : World} {S : Nat → Prop} {p bm : Nat} {g : Int → Option Nat} {N : Nat} {T : Slots} {v : Value} {A : List Bool} (h : DMat w S p bm g N T v A) (x : Nat) (hx : x < N) (hg : T x = Option.none) (k1 : Kp w w1) (pg : PG w1 w.heap.size z0)
    (m2 : MP w2 bm N (withp g x w.heap.size) (tkn T N + 1)) (k2 : Fr (· = bm) w1 w2) :
    DMat w2 (fun k => S k ∨ k = w.heap.size) p bm (withp g x w.heap.size) N (putT T x z0) v A ∧ Fr S w w2 := by
  have hlm := h.own bm h.sm
  have hlp := h.own p h.sp
  have k12 : Fr (· = bm) w w2 := (k1.fr _).trans k2
  have hw : ∀ y b, withp g x w.heap.size y = .some b → (y = (x : Int) ∧ b = w.heap.size) ∨ (y ≠ (x : Int) ∧ g y = .some b) := fun y b hy => by
    unfold withp at hy
    by_cases e : y = (x : Int)
    · rw [if_pos e] at hy; cases hy; exact .inl ⟨e, rfl⟩
    · rw [if_neg e] at hy; exact .inr ⟨e, hy⟩
  have no : ∀ y, g y ≠ .some w.heap.size := fun y hy => by have := h.own _ (h.page y _ hy).1; omega
  refine ⟨⟨fun k hk => ?_, .inl h.sp, .inl h.sm, h.ne, (k12.block p hlp (fun e => h.ne e.symm)).trans h.row, by rw [tkn_put T x z0 hg N hx]; exact m2, fun y b hy => ?_, fun y hy => ?_, fun y z b hy hz => ?_, h.n2, h.ah.fr k12 (fun b _ hb e => hb.2.2.1 e) (fun b hb hok => ⟨.inl hok.1, hok.2.1, hok.2.2.1, fun y hy => ?_⟩)⟩, k12.mono (fun i _ e => by rw [e]; exact h.sm)⟩
  · rcases hk with hk | rfl
    · exact Nat.lt_of_lt_of_le (h.own k hk) k12.size
    · exact Nat.lt_of_lt_of_le pg.lt k2.size
  · rcases hw y b hy with ⟨rfl, rfl⟩ | ⟨e, hy⟩
    · exact ⟨.inr rfl, by omega, by omega, z0, by rw [Int.toNat_natCast, putT_same], pg.fr k2 (by omega), z0_byte⟩
    · obtain ⟨q1, q2, q3, f, q4, q5, q6⟩ := h.page y b hy
      have hd := h.map.dom y b hy
      exact ⟨.inl q1, q2, q3, f, by rw [putT_other _ _ _ _ (by omega)]; exact q4, q5.fr k12 q3, q6⟩
  · unfold withp at hy
    by_cases e : (y : Int) = (x : Int)
    · rw [if_pos e] at hy; cases hy
    · rw [if_neg e] at hy
      rw [putT_other _ _ _ _ (by omega)]
      exact h.none y hy
  · rcases hw y b hy with ⟨e1, e2⟩ | ⟨e1, e2⟩ <;> rcases hw z b hz with ⟨d1, d2⟩ | ⟨d1, d2⟩
    · rw [e1, d1]
    · exact absurd (e2 ▸ d2) (no z)
    · exact absurd (d2 ▸ e2) (no y)
    · exact h.inj y z b e2 d2
  · rcases hw y b hy with ⟨_, e2⟩ | ⟨_, e2⟩
    · omega
    · exact hok.2.2.2 y e2

set_option maxHeartbeats 2000000 in
theorem dtake_any {w : World} {S : Nat → Prop} {p N : Nat} {T : Slots} {A : List Bool} (h : DK w S p N T A) :
    Calls Try.prog 9 #[.pointer (some ⟨p, 0, none⟩)] w fun e w' => e = .returned (.tuple #[.int .i64 (tkX N T : Nat), .int .i64 (tkR N T)]) ∧ ∃ S', DK w' S' p N (tkT N T) A ∧ Fr S w w' ∧ Less S S' w := by
  have k1 := dfree_any h
  have hle := tkn_le T N
  unfold tkX tkR tkT
  by_cases c : tkn T N = N
  · rw [if_pos c, if_pos c, if_pos c]
    rw [c, Int.sub_self] at k1
    have HH : Hid (DK w S p N T A) := h
    clear h hle c
    go_enter Try.func9, Try.ntmps9
    go_wp2_with fail
    with_reducible refine k1.mono ?_
    rintro e w1 ⟨rfl, D1⟩
    have E : Hid (∃ S', DK w1 S' p N T A ∧ Fr S w w1 ∧ Less S S' w) := ⟨S, HH.out.kp D1.kp, D1.kp.fr _, fun k hk => .inl hk⟩
    clear k1 D1 HH
    go_wp2
    go_ret2
    exact ⟨rfl, E.out⟩
  · rw [if_neg c, if_neg c, if_neg c]
    have hlt : lst T N < N := by
      have := lst_le T N
      have := tkn_all T N
      omega
    have hoff := lst_off T N hlt
    have z1 : ¬ (N : Int) - (tkn T N : Nat) = 0 := by omega
    generalize hf : (N : Int) - (tkn T N : Nat) = fr at *
    clear hf c hle
    have HH : Hid (DK w S p N T A) := h
    generalize hm : lst T N = m at *
    have HX : Hid (m < N ∧ T m = none) := ⟨hlt, hoff⟩
    have HM : Hid (lst T N = m) := hm
    clear h hlt hoff hm
    go_enter Try.func9, Try.ntmps9
    go_wp2_with fail
    with_reducible refine k1.mono ?_
    rintro e w1 ⟨rfl, D1⟩
    clear k1
    obtain ⟨bm, g, v, h⟩ := HH.out.kp D1.kp
    have k2 := dleast_any h
    rw [HM.out] at k2
    clear HM
    have c1 := h.c1
    have a1 := alloc_page w1 (.tuple #[])
    have kA : Kp w1 (w1.alloc (.cells (bytesOf z0 4096).toArray 63)) := (Kp.refl w1).alloc _
    have cA := (h.fr (kA.fr (fun _ => False)) (fun _ _ => id)).c1
    have hgn : g (m : Nat) = none := by
      have := h.has (m : Nat)
      rw [hasT_nat, HX.out.2] at this
      simpa using this
    have hn2 := h.n2
    obtain ⟨w2, r1, r2, r3⟩ := (h.map.fr (kA.fr (fun _ => False)) id).store (m : Nat) w1.heap.size (WalkArith.wf_i64 (by have := HX.out.1; omega)) (by omega) (by have := HX.out.1; omega) (by unfold maxLen; omega) hgn
    obtain ⟨q1, q2⟩ := h.put (m) HX.out.1 HX.out.2 kA (PG.made w1) r2 r3
    have E : Hid (∃ S', DK w2 S' p N (putT T (m) z0) A ∧ Fr S w w2 ∧ Less S S' w) := ⟨_, ⟨bm, _, v, q1⟩, (D1.kp.fr _).trans q2, fun k hk => hk.elim .inl (fun e => .inr (by rw [e]; exact D1.kp.size))⟩
    clear h kA hgn hn2 r2 r3 q1 q2 D1 HX HH
    generalize (bytesOf z0 4096).toArray = P at *
    go_wp2_with (first | (go_at_call 24; with_reducible refine k2.mono ?_; rintro e w' ⟨rfl, rfl⟩) | (refine wpList_alloc_of 63 a1 rfl rfl ?_) | (refine wpList_update_of 58 r1 _ _ _ rfl rfl rfl rfl rfl ?_))
    go_ret2
    exact ⟨rfl, E.out⟩

/-! ### Give -/
def gvR (T : Slots) (x : Int) : Int := if hasT T x = true then 0 else 23
def gvT (T : Slots) (x : Int) : Slots := if hasT T x = true then offT T x.toNat else T
theorem hasT_iff (T : Slots) (x : Int) : hasT T x = true ↔ 0 ≤ x ∧ (T x.toNat).isSome = true := by unfold hasT; simp

theorem DMat.drop {w w2 : World} {S : Nat → Prop} {p bm : Nat} {g : Int → Option Nat} {N c : Nat} {T : Slots} {v : Value} {A : List Bool} (h : DMat w S p bm g N T v A) (x : Nat) (hc : tkn (offT T x) N = c) (m2 : MP w2 bm N (without g x) c) (k : Fr (· = bm) w w2) :
    DMat w2 S p bm (without g x) N (offT T x) v A ∧ Fr S w w2 := by
  have hw : ∀ y b, without g x y = .some b → y ≠ (x : Int) ∧ g y = .some b := fun y b hy => by
    unfold without at hy
    by_cases e : y = (x : Int)
    · rw [if_pos e] at hy; cases hy
    · rw [if_neg e] at hy; exact ⟨e, hy⟩
  refine ⟨⟨fun i hi => Nat.lt_of_lt_of_le (h.own i hi) k.size, h.sp, h.sm, h.ne, (k.block p (h.own p h.sp) (fun e => h.ne e.symm)).trans h.row, by rw [hc]; exact m2, fun y b hy => ?_, fun y hy => ?_, fun y z b hy hz => h.inj y z b (hw y b hy).2 (hw z b hz).2, h.n2, h.ah.fr k (fun b _ hb e => hb.2.2.1 e) (fun b _ hok => ⟨hok.1, hok.2.1, hok.2.2.1, fun y hy => hok.2.2.2 y (hw y b hy).2⟩)⟩, k.mono (fun i _ e => by rw [e]; exact h.sm)⟩
  · obtain ⟨e, hy⟩ := hw y b hy
    obtain ⟨q1, q2, q3, f, q4, q5, q6⟩ := h.page y b hy
    have hd := h.map.dom y b hy
    exact ⟨q1, q2, q3, f, by rw [offT_other _ _ _ (by omega)]; exact q4, q5.fr k q3, q6⟩
  · unfold without at hy
    by_cases e : (y : Int) = (x : Int)
    · have e' : y = x := by omega
      subst e'; exact offT_same _ _
    · rw [if_neg e] at hy
      rw [offT_other _ _ _ (by omega)]
      exact h.none y hy

set_option maxHeartbeats 1000000 in
theorem dgive_any {w : World} {S : Nat → Prop} {p N : Nat} {T : Slots} {A : List Bool} (h : DK w S p N T A) (x : Int) (hx : (Lit.int .i64 x).wf = true) :
    Calls Try.prog 11 #[.pointer (some ⟨p, 0, none⟩), .int .i64 x] w fun e w' => e = .returned (.int .i64 (gvR T x)) ∧ DK w' S p N (gvT T x) A ∧ Fr S w w' := by
  obtain ⟨bm, g, v, h⟩ := h
  have k1 := dhas_any h x hx
  unfold gvR gvT
  by_cases c : hasT T x = true
  · rw [if_pos c, if_pos c]
    rw [c] at k1
    have c1 := h.c1
    obtain ⟨y1, y2⟩ := (hasT_iff T x).1 c
    have ex : ((x.toNat : Nat) : Int) = x := by omega
    have hl : x.toNat < N := by
      by_cases hh : x.toNat < N
      · exact hh
      · rw [h.over _ (by omega)] at y2; cases y2
    have ht := tkn_off T x.toNat y2 N hl
    have hm := h.map
    rw [← ht] at hm
    obtain ⟨w2, r1, r2, r3⟩ := hm.drop x hx (by rw [h.has, c]) 0
    have q := h.drop x.toNat rfl (by rw [ex]; exact r2) r3
    have E : Hid (DK w2 S p N (offT T x.toNat) A ∧ Fr S w w2) := ⟨⟨bm, _, v, q.1⟩, q.2⟩
    clear h hm r2 r3 q ht hl y1 y2 ex c hx
    go_enter Try.func11, Try.ntmps11
    go_wp2_with (go_at_call 25; with_reducible refine k1.mono ?_; rintro e w' ⟨rfl, rfl⟩)
    go_ret
    exact ⟨rfl, E.out⟩
  · rw [if_neg c, if_neg c]
    rw [show hasT T x = false by simpa using c] at k1
    have E : Hid (DK w S p N T A ∧ Fr S w w) := ⟨⟨bm, g, v, h⟩, Fr.refl _ _⟩
    clear h c hx
    go_enter Try.func11, Try.ntmps11
    go_wp2_with (go_at_call 25; with_reducible refine k1.mono ?_; rintro e w' ⟨rfl, rfl⟩)
    go_ret
    exact ⟨rfl, E.out⟩

/-! ### fails -/
/-- d.ahead = u. -/
theorem DMat.told {w w1 : World} {S S' : Nat → Prop} {p bm : Nat} {g : Int → Option Nat} {N : Nat} {T : Slots} {v u : Value} {A B : List Bool} (h : DMat w S p bm g N T v A) (k : Kp w w1) (hS : ∀ i, S i → S' i) (hS' : ∀ i, S' i → i < w1.heap.size) (hu : AH w1 u B (fun b => S' b ∧ b ≠ p ∧ b ≠ bm ∧ ∀ x, g x ≠ some b)) :
    DMat (w1.setCell ⟨p, 2, .none⟩ u) S' p bm g N T u B ∧ Fr S w (w1.setCell ⟨p, 2, .none⟩ u) := by
  have h1 := h.fr (k.fr (fun _ => False)) (fun _ _ => id)
  have k2 : Fr (· = p) w1 (w1.setCell ⟨p, 2, .none⟩ u) := (Fr.refl _ w1).set _ _ rfl
  refine ⟨⟨fun i hi => by rw [World.size_setCell]; exact hS' i hi, hS _ h.sp, hS _ h.sm, h.ne, ?_, h1.map.fr k2 h.ne, fun x b hx => ?_, h.none, h.inj, h.n2, hu.fr k2 (fun b _ hb e => hb.2.1 e) (fun _ _ h => h)⟩, (k.fr _).trans (k2.mono (fun i _ e => by rw [e]; exact h.sp))⟩
  · rw [heap_setCell_same w1 p 2 _ _ _ h1.row]
    simp
  · obtain ⟨q1, q2, q3, f, q4, q5, q6⟩ := h1.page x b hx
    exact ⟨hS _ q1, q2, q3, f, q4, q5.fr k2 q2, q6⟩

set_option maxHeartbeats 2000000 in
theorem dfails_any {w : World} {S : Nat → Prop} {p bm : Nat} {g : Int → Option Nat} {N : Nat} {T : Slots} {v : Value} {A : List Bool} (h : DMat w S p bm g N T v A) :
    Calls Try.prog 27 #[.pointer (some ⟨p, 0, none⟩)] w fun e w' => e = .returned (.bool (A.headD false)) ∧ (∃ v', DMat w' S p bm g N T v' A.tail) ∧ Fr S w w' := by
  obtain ⟨na, cap, rfl, l1, l2, hA⟩ := h.ah
  have c2 := h.c2
  have f2 := h.f2
  cases A with
  | nil =>
    have E : Hid ((∃ v', DMat w S p bm g N T v' []) ∧ Fr S w w) := ⟨⟨_, h⟩, Fr.refl _ _⟩
    clear h
    rw [List.length_nil] at c2
    go_enter Try.func27, Try.ntmps27
    go_wp2
    go_ret
    exact ⟨rfl, E.out⟩
  | cons a r =>
    obtain ⟨b, o, rfl, e2, e3, e4⟩ := hA (by simp)
    have d0 := e4 0 a rfl
    rw [Nat.add_zero] at d0
    rw [List.length_cons] at c2 l1 l2
    have ht := fun u (hu : AH w u r (fun b => S b ∧ b ≠ p ∧ b ≠ bm ∧ ∀ x, g x ≠ some b)) => h.told (Kp.refl w) (fun _ h => h) h.own hu
    by_cases c : cap = 1
    · subst c
      have er : r = [] := List.eq_nil_of_length_eq_zero (by omega)
      subst er
      have E := ht (.slice (some ⟨b, o, none⟩) 0 0) ⟨_, _, rfl, Nat.le_refl _, Nat.zero_le _, fun h => absurd rfl h⟩
      have EE : Hid ((∃ v', DMat (w.setCell ⟨p, 2, none⟩ (.slice (some ⟨b, o, none⟩) 0 0)) S p bm g N T v' []) ∧ Fr S w (w.setCell ⟨p, 2, none⟩ (.slice (some ⟨b, o, none⟩) 0 0))) := ⟨⟨_, E.1⟩, E.2⟩
      clear h ht E e2 e3 e4 l1 l2
      rw [List.length_nil] at c2
      go_enter Try.func27, Try.ntmps27
      go_wp2
      go_ret
      exact ⟨rfl, EE.out⟩
    · have E := ht (.slice (some ⟨b, o + 1, none⟩) r.length (cap - 1)) ⟨_, _, rfl, by omega, by omega, fun _ => ⟨b, o + 1, rfl, e2, e3, fun i x hx => by rw [Nat.add_assoc, Nat.add_comm 1 i]; exact e4 (i + 1) x (by simpa using hx)⟩⟩
      have EE : Hid ((∃ v', DMat (w.setCell ⟨p, 2, none⟩ (.slice (some ⟨b, o + 1, none⟩) r.length (cap - 1))) S p bm g N T v' r) ∧ Fr S w (w.setCell ⟨p, 2, none⟩ (.slice (some ⟨b, o + 1, none⟩) r.length (cap - 1)))) := ⟨⟨_, E.1⟩, E.2⟩
      have z1 : ((r.length : Nat) : Int) + 1 ≤ cap := by omega
      clear h ht E e2 e3 e4
      rw [List.headD_cons, List.tail_cons]
      generalize r.length = n at *
      go_enter Try.func27, Try.ntmps27
      go_wp2
      go_ret
      exact ⟨rfl, EE.out⟩

end Go.Proofs.Ytcgfifihkbiioaa
