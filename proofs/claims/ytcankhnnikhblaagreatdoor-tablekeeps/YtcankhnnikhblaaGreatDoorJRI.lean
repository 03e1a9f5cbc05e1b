/- Joined: R38, R39, R40, R41. -/
import Derived.Test.YtcankhnnikhblaaGreatDoorJRH
/- stage2: Unmap, all of it; Split. -/
namespace Go.Proofs.YtcankhnnikhblaaGreatDoor
open Go.RowKit
set_option maxRecDepth 10000

section
variable {W w w' : World} {X Y : Nat → Prop} {bt p pm N pool o : Nat} {M : Nat → Nat → Nat} {C : Nat → Nat} {Z : Nat → Bool} {root : Nat} {E : Nat → Nat → DV}
/-- What Unmap leaves: the page's way is single (C1, E1), then the page goes. -/
def UnO (W : World) (X : Nat → Prop) (w w' : World) (bt p pm N pool o : Nat) (M : Nat → Nat → Nat) (C : Nat → Nat) (Z : Nat → Bool) (root : Nat) (E : Nat → Nat → DV) (page : Nat) (C1 : Nat → Nat) (E1 : Nat → Nat → DV) : Prop :=
  ∃ C' E', AC W X w w' bt p pm N pool (o + 525) M C Z root C' E' ∧ LR pool C C1 E E1 page ∧ (∀ l j, l ≤ 3 → lfD E' l j = if l = 3 ∧ j = page then dN else lfD E1 l j) ∧ ∃ M1, TG M1 C1 pool Z root E1
set_option maxHeartbeats 4000000 in
theorem unmap_ok (h : TS W X w bt p pm N pool o M C Z root E) (ne : NE root E (fun _ _ => False)) (page : Nat) (hp : page < 268435456) (ho : o < 2000000000000000000) (hk : (enG E page).k ≠ 0) (sp : (enG E page).k = 2 → spR pool C = 0) :
    Calls Tryz.prog 28 #[.pointer (some ⟨bt, 0, none⟩), .int .u64 (page : Int)] w fun e w' => ∃ C1 E1, e = .returned (.tuple #[.int .i64 (((enG E1 page).a / 4096 : Nat) : Int), .int .i64 0]) ∧ UnO W X w w' bt p pm N pool o M C Z root E page C1 E1 := by
  have k1 := single_ok h ne page hp (by omega) hk sp
  have xb := h.xb
  have KK : Aside (∀ (v : World) (b : Nat) (M1 : Nat → Nat → Nat) (C1 : Nat → Nat) (E1 : Nat → Nat → DV), WL v b (stps root E1 page) → TS W (fun i => X i ∨ i = b) v bt p pm N pool (o + 521) M1 C1 Z root E1 → NE root E1 (fun _ _ => False) → Ot Z M C M1 C1 → Fr (Out W X) w v → lvG E1 page = 3 → LR pool C C1 E E1 page → Calls Tryz.prog 69 #[.pointer (some ⟨bt, 0, none⟩), .slice (some ⟨b, 0, none⟩) 4 4] v fun e w' => e = .returned (.tuple #[]) ∧ Hid (UnO W X w w' bt p pm N pool o M C Z root E page C1 E1 ∧ WL w' b (stps root E1 page))) := fun v b M1 C1 E1 a1 a2 a3 a4 a5 a6 a7 => (clear_any a2 a3 page b hp (by omega) a6 a1 (.inr rfl)).mono fun e w' ⟨e1, ⟨C', E', e2, e3⟩, e4⟩ => ⟨e1, ⟨C', E', ⟨by obtain ⟨M', q1, q2⟩ := e2.ts; exact ⟨M', (q1.less (fun _ => .inl) xb).le (by omega), a4.trans q2⟩, e2.ne, a5.trans (e2.fr.less fun _ => .inl)⟩, a7, e3, M1, a2.tg⟩, e4⟩
  clear h ne hp ho hk sp
  go_enter Tryz.func28, Tryz.ntmps28
  go_wp2_with fail
  with_reducible refine k1.mono ?_
  rintro e w1 ⟨b, rfl, M1, C1, E1, l1, t1, n1, o1, r1, hk, hl, lr, hb⟩
  have hs : (stps root E1 page)[3]? = some (stp root E1 page 3) := stps_get (by omega)
  have hd : (stp root E1 page 3).d.a = (enG E1 page).a := by unfold enG; rw [hl]; rfl
  have ha : (enG E1 page).a < 18446744073709551616 := by
    have := (t1.tg.ok (lvG E1 page) (qn page (lvG E1 page)) (lvG_le _ _)).parts.2.2.2.2.2.2.1
    unfold enG; omega
  have f1 := field_d (stp root E1 page 3)
  have f2 := field_a (stp root E1 page 3).d
  rw [hd] at f2
  have kf := fun v => frameOf_any (enG E1 page).a v ha
  have HS : Hid ((stps root E1 page)[3]? = some (stp root E1 page 3)) := hs
  have kc := KK.out w1 b M1 C1 E1 l1 t1 n1 o1 r1 hl lr
  clear k1 KK l1 t1 n1 o1 r1 hk hl lr hb hs hd ha
  generalize stp root E1 page 3 = st at *
  generalize stps root E1 page = L at *
  generalize dvV st.d = dd at *
  obtain ⟨fa, hfa⟩ : ∃ fa, fa = (enG E1 page).a := ⟨_, rfl⟩
  rw [← hfa] at f2
  rw [← hfa] at kf
  have HF : Hid ((enG E1 page).a = fa) := hfa.symm
  clear hfa
  go_wp2_with fail
  with_reducible refine kc.mono ?_
  rintro e w2 ⟨rfl, H2⟩
  have k2 := last_any H2.out.2 (by omega) HS.out
  clear kc
  go_wp2_with fail
  with_reducible refine k2.mono ?_
  rintro e w3 ⟨rfl, k3⟩
  have H3 : Hid (UnO W X w w3 bt p pm N pool o M C Z root E page C1 E1) := by
    obtain ⟨C', E', e2, e3⟩ := H2.out.1
    obtain ⟨M', q1, q2⟩ := e2.ts
    exact ⟨C', E', ⟨⟨M', q1.kps k3, q2⟩, e2.ne, e2.fr.trans (k3.fr _)⟩, e3⟩
  clear k2 k3 H2
  go_wp2_with (go_at_call 70; with_reducible refine (kf _).mono ?_; rintro _ w' ⟨rfl, rfl⟩)
  go_ret2
  exact ⟨C1, E1, by rw [HF.out]; rfl, H3.out⟩
set_option maxHeartbeats 4000000 in
theorem unmap_full (h : TS W X w bt p pm N pool o M C Z root E) (ne : NE root E (fun _ _ => False)) (page : Nat) (hp : page < 268435456) (ho : o < 2000000000000000000) (hk : (enG E page).k = 2) (sp : spR pool C ≠ 0) :
    Calls Tryz.prog 28 #[.pointer (some ⟨bt, 0, none⟩), .int .u64 (page : Int)] w fun e w' => e = .returned (.tuple #[.int .i64 0, .int .i64 11]) ∧ AC W X w w' bt p pm N pool (o + 525) M C Z root C E := by
  have k1 : Calls Tryz.prog 65 #[.pointer (some ⟨bt, 0, none⟩), .int .u64 (page : Int)] w fun e w' => e = .returned (.tuple #[.slice none 0 0, .int .i64 11]) ∧ Hid (AC W X w w' bt p pm N pool (o + 525) M C Z root C E) := (single_full h ne page hp (by omega) hk sp).mono fun e w' ⟨e1, e2⟩ => ⟨e1, by
    obtain ⟨M', q1, q2⟩ := e2.ts
    exact ⟨⟨M', q1.le (by omega), q2⟩, e2.ne, e2.fr⟩⟩
  clear h ne hp ho hk sp
  go_enter Tryz.func28, Tryz.ntmps28
  go_wp2_with fail
  with_reducible refine k1.mono ?_
  rintro e w1 ⟨rfl, H1⟩
  clear k1
  go_wp2
  go_ret2
  exact ⟨rfl, H1.out⟩
set_option maxHeartbeats 4000000 in
theorem unmap_no (h : TS W X w bt p pm N pool o M C Z root E) (ne : NE root E (fun _ _ => False)) (page : Nat) (hp : page < 268435456) (ho : o < 2000000000000000000) (hk : (enG E page).k = 0) :
    Calls Tryz.prog 28 #[.pointer (some ⟨bt, 0, none⟩), .int .u64 (page : Int)] w fun e w' => e = .returned (.tuple #[.int .i64 0, .int .i64 23]) ∧ AC W X w w' bt p pm N pool (o + 525) M C Z root C E := by
  have k1 : Calls Tryz.prog 65 #[.pointer (some ⟨bt, 0, none⟩), .int .u64 (page : Int)] w fun e w' => e = .returned (.tuple #[.slice none 0 0, .int .i64 23]) ∧ Hid (AC W X w w' bt p pm N pool (o + 525) M C Z root C E) := (single_none h page hp (by omega) hk).mono fun e w' ⟨e1, e2, e3⟩ => ⟨e1, AC.same ne e2 (by omega) e3⟩
  clear h ne hp ho hk
  go_enter Tryz.func28, Tryz.ntmps28
  go_wp2_with fail
  with_reducible refine k1.mono ?_
  rintro e w1 ⟨rfl, H1⟩
  clear k1
  go_wp2
  go_ret2
  exact ⟨rfl, H1.out⟩
/-- What Split tells. -/
def splR (pool : Nat) (C : Nat → Nat) (E : Nat → Nat → DV) (page : Nat) : Int := if (enG E page).k = 0 then 23 else if (enG E page).k = 3 then 20 else spR pool C
set_option maxHeartbeats 4000000 in
theorem tsplit_none (h : TS W X w bt p pm N pool o M C Z root E) (ne : NE root E (fun _ _ => False)) (page : Nat) (hp : page < 268435456) (ho : o < 2000000000000000000) (hk : (enG E page).k = 0) :
    Calls Tryz.prog 31 #[.pointer (some ⟨bt, 0, none⟩), .int .u64 (page : Int)] w fun e w' => e = .returned (.int .i64 23) ∧ AC W X w w' bt p pm N pool (o + 517) M C Z root C E := by
  have k1 := way_any h page hp (by omega)
  rw [decide_eq_false (by simpa using hk)] at k1
  have HX : Hid (X bt ∧ NE root E (fun _ _ => False)) := ⟨h.xb, ne⟩
  clear h ne hp ho hk
  generalize stps root E page = L at *
  generalize lvG E page = l at *
  go_enter Tryz.func31, Tryz.ntmps31
  go_wp2_with fail
  with_reducible refine k1.mono ?_
  rintro e w1 ⟨rfl, _, t1, r1⟩
  have H1 : Hid (AC W X w w1 bt p pm N pool (o + 517) M C Z root C E) := AC.same HX.out.2 (t1.less (fun _ => .inl) HX.out.1) (by omega) r1
  clear k1 t1 r1
  go_wp2
  go_ret
  exact ⟨rfl, H1.out⟩
set_option maxHeartbeats 4000000 in
theorem tsplit_some (h : TS W X w bt p pm N pool o M C Z root E) (page l : Nat) (rr : Int) (Q : World → Prop) (hp : page < 268435456) (ho : o < 2000000000000000000) (hk : (enG E page).k ≠ 0) (hl : lvG E page = l)
    (KS : Aside (∀ v, TS W (fun i => X i ∨ i = w.heap.size) v bt p pm N pool (o + 4) M C Z root E → Fr (Out W X) w v → Calls Tryz.prog 71 #[.pointer (some ⟨bt, 0, none⟩), svV (stp root E page l)] v fun e w' => e = .returned (.int .i64 rr) ∧ Hid (Q w'))) :
    Calls Tryz.prog 31 #[.pointer (some ⟨bt, 0, none⟩), .int .u64 (page : Int)] w fun e w' => e = .returned (.int .i64 rr) ∧ Q w' := by
  have k1 := way_any h page hp (by omega)
  rw [decide_eq_true hk, hl] at k1
  have hs : (stps root E page)[l]? = some (stp root E page l) := stps_get (by omega)
  have HS : Hid ((stps root E page)[l]? = some (stp root E page l) ∧ l ≤ 3) := ⟨hs, by rw [← hl]; exact lvG_le _ _⟩
  have K1 : Aside (Calls Tryz.prog 57 #[.pointer (some ⟨bt, 0, none⟩), .int .u64 (page : Int)] w fun e w' => e = .returned (.tuple #[.slice (some ⟨w.heap.size, 0, none⟩) (l + 1) 4, .bool true]) ∧ Hid (WL w' w.heap.size (stps root E page) ∧ TS W (fun i => X i ∨ i = w.heap.size) w' bt p pm N pool (o + 4) M C Z root E ∧ Fr (Out W X) w w')) := k1
  clear h hp ho hk hl k1 hs
  generalize stp root E page l = st at *
  generalize stps root E page = L at *
  go_enter Tryz.func31, Tryz.ntmps31
  go_wp2_with fail
  with_reducible refine K1.out.mono ?_
  rintro e w1 ⟨rfl, H1⟩
  have k2 := last_any H1.out.1 HS.out.2 HS.out.1
  clear K1
  go_wp2_with fail
  with_reducible refine k2.mono ?_
  rintro e w2 ⟨rfl, k3⟩
  have k5 := KS.out w2 (H1.out.2.1.kps k3) (H1.out.2.2.trans (k3.fr _))
  clear k2 k3 H1 KS
  generalize svV st = sv at *
  go_wp2_with fail
  with_reducible refine k5.mono ?_
  rintro e w4 ⟨rfl, H4⟩
  clear k5
  go_wp2
  go_ret
  exact ⟨rfl, H4.out⟩
theorem tsplit_any (h : TS W X w bt p pm N pool o M C Z root E) (ne : NE root E (fun _ _ => False)) (page : Nat) (hp : page < 268435456) (ho : o < 2000000000000000000) :
    Calls Tryz.prog 31 #[.pointer (some ⟨bt, 0, none⟩), .int .u64 (page : Int)] w fun e w' => e = .returned (.int .i64 (splR pool C E page)) ∧ ∃ C' E', AC W X w w' bt p pm N pool (o + 517) M C Z root C' E' ∧ (splR pool C E page ≠ 0 → C' = C ∧ E' = E) ∧ (splR pool C E page = 0 → cnt (fT pool C') pool + 1 = cnt (fT pool C) pool ∧ SpL E E' (page / 512)) := by
  unfold splR
  by_cases c0 : (enG E page).k = 0
  · rw [if_pos c0]
    exact (tsplit_none h ne page hp ho c0).mono fun e w' ⟨e1, e2⟩ => ⟨e1, C, E, e2, fun _ => ⟨rfl, rfl⟩, fun c => by cases c⟩
  · rw [if_neg c0]
    by_cases c3 : (enG E page).k = 3
    · rw [if_pos c3]
      have hl := h.tg.three3 c3
      refine (tsplit_some h page 3 20 (fun w' => AC W X w w' bt p pm N pool (o + 517) M C Z root C E) hp ho c0 hl (fun v tv fv => ?_)).mono fun e w' ⟨e1, e2⟩ => ⟨e1, C, E, e2, fun _ => ⟨rfl, rfl⟩, fun c => by cases c⟩
      exact (split_state bt (stp root E page 3) v (by show (3 : Nat) ≠ 2; decide) (by show (3 : Nat) ≤ 3; decide)).mono fun e w' ⟨e1, e2⟩ => ⟨e1, AC.same ne ((tv.kps e2).less (fun _ => .inl) h.xb) (by omega) (fv.trans (e2.fr _))⟩
    · rw [if_neg c3]
      have k2 : (enG E page).k = 2 := by
        have a := (h.tg.ok _ (qn page (lvG E page)) (lvG_le E page)).parts
        have b := h.tg.last page
        unfold enG at *
        omega
      have hl := h.tg.two2 k2
      refine tsplit_some h page 2 (spR pool C) (fun w' => ∃ C' E', AC W X w w' bt p pm N pool (o + 517) M C Z root C' E' ∧ (spR pool C ≠ 0 → C' = C ∧ E' = E) ∧ (spR pool C = 0 → cnt (fT pool C') pool + 1 = cnt (fT pool C) pool ∧ SpL E E' (page / 512))) hp ho c0 hl (fun v tv fv => ?_)
      exact (split_any tv ne page hp (by omega) k2 hl).mono fun e w' ⟨e1, C', E', e2, e3, e4⟩ => ⟨e1, C', E', by
        obtain ⟨M', q1, q2⟩ := e2.ts
        exact ⟨⟨M', (q1.le (by omega)).less (fun _ => .inl) h.xb, q2⟩, e2.ne, fv.trans (e2.fr.less fun _ => .inl)⟩, e3, e4⟩
end
end Go.Proofs.YtcankhnnikhblaaGreatDoor

/- stage2: Protect. -/
namespace Go.Proofs.YtcankhnnikhblaaGreatDoor
open Go.RowKit
set_option maxRecDepth 10000

section
variable {W w w' : World} {X Y : Nat → Prop} {bt p pm N pool o : Nat} {M : Nat → Nat → Nat} {C : Nat → Nat} {Z : Nat → Bool} {root : Nat} {E : Nat → Nat → DV}
theorem ne_relaid (ne : NE root E (fun _ _ => False)) {page : Nat} {d : DV} (hd : d.k ≠ 0) : NE root (hang E 3 page d (fun _ => dN)) (fun _ _ => False) := by
  intro a b x h1 h2 _ h4
  have e : tbl root (hang E 3 page d (fun _ => dN)) a b = tbl root E a b := by
    cases a with
    | zero => rfl
    | succ m => rw [tbl_succ, tbl_succ, hang_out _ _ _ _ _ (by omega) (by omega)]
  rw [e] at h4
  obtain ⟨i, hi, hk⟩ := ne a b x h1 h2 id h4
  refine ⟨i, hi, ?_⟩
  by_cases c : a = 3 ∧ 512 * b + i = page
  · obtain ⟨rfl, rfl⟩ := c
    rw [hang_at]
    exact hd
  · rw [hang_out _ _ _ _ _ c (by omega)]
    exact hk
/-- A Page becomes another Page. -/
theorem put_page (h : TS W X w bt p pm N pool o M C Z root E) (ne : NE root E (fun _ _ => False)) (page : Nat) (d : DV) (hp : page < 268435456) (ho : o < 4611686018427387904) (hl : lvG E page = 3) (ok : okD 3 d) (hd : d.k = 3) :
    Calls Tryz.prog 66 #[.pointer (some ⟨bt, 0, none⟩), .int .u64 ((stp root E page 3).p : Int), .int .i64 3, dvV d] w fun e w' => e = .returned (.tuple #[]) ∧ ∃ E', AC W X w w' bt p pm N pool (o + 1) M C Z root C E' ∧ ∀ a b, a ≤ 3 → lfD E' a b = if a = 3 ∧ b = page then d else lfD E a b := by
  have hn := h.fw.nums
  obtain ⟨x, hx, ex, lx⟩ := h.tg.tab hp (l := 3) (by omega)
  rw [qn_three] at hx ex
  have k1 : (E 3 page).k ≠ 1 := fun c => by have := (h.tg.ok 3 page (by omega)).parts.2.2.2.2.2.2.2.1 c; omega
  have d1 : d.k ≠ 1 := by rw [hd]; decide
  have mx := h.tg.mine 3 _ x (by omega) hx
  have g1 : TG (updM M x (page % 512) (wdD d)) C pool Z root (hang E 3 page d (fun _ => dN)) := h.tg.leaf (by omega) k1 d1 ok (fun c => by rw [hd] at c; cases c) (fun c => by omega) hx (by unfold updM; rw [if_pos ⟨rfl, rfl⟩]) (fun y i _ hn => by unfold updM; rw [if_neg hn])
  have e : (stp root E page 3).p = x * 4096 + 8 * (page % 512) := by
    show tbX root E 3 (qn page 3 / 512) * 4096 + 8 * (qn page 3 % 512) = _
    rw [qn_three, ex]
  rw [e]
  exact (put_any h.ft x (page % 512) 3 d (by omega) (Nat.mod_lt _ (by decide)) ok ho).mono fun e w' ⟨e1, e2, e3⟩ => ⟨e1, _, ⟨⟨_, e2.ts g1, fun z hz => ⟨fun i _ => (by unfold updM; rw [if_neg]; rintro ⟨rfl, _⟩; rw [mx.2.2] at hz; cases hz), rfl⟩⟩, ne_relaid ne (by rw [hd]; decide), e3⟩, fun a b ha => lf_leaf h.tg (by omega) k1 d1 a b ha⟩
/-- Its permission and its mark are these. -/
def same4 (d : DV) (r q x : Bool) (s : Int) : Bool := samP d.r d.q d.x r q x && (d.f == s)
/-- What Protect leaves. -/
def PrO (W : World) (X : Nat → Prop) (w w' : World) (bt p pm N pool o : Nat) (M : Nat → Nat → Nat) (C : Nat → Nat) (Z : Nat → Bool) (root : Nat) (E : Nat → Nat → DV) (page : Nat) (r q x : Bool) (s : Int) : Prop :=
  ∃ C' E1 E', AC W X w w' bt p pm N pool (o + 526) M C Z root C' E' ∧ LR pool C C' E E1 page ∧ (∀ a b, a ≤ 3 → lfD E' a b = if a = 3 ∧ b = page then ⟨3, (enG E1 page).a, r, q, x, s⟩ else lfD E1 a b) ∧ ∃ M1, TG M1 C' pool Z root E1
theorem PX.fr {S : Nat → Prop} {b : Nat} {r q x : Bool} (h : PX w b r q x) (k : Fr S w w') (hS : ¬ S b) : PX w' b r q x := (k.block b h.lt hS).trans h
set_option maxHeartbeats 4000000 in
theorem protect_ok (h : TS W X w bt p pm N pool o M C Z root E) (ne : NE root E (fun _ _ => False)) (page : Nat) (r q x : Bool) (s : Int) (hp : page < 268435456) (ho : o < 2000000000000000000) (hc : canB r q s = true) (hk : (enG E page).k ≠ 0) (hns : same4 (enG E page) r q x s = false) (sp : (enG E page).k = 2 → spR pool C = 0) :
    Calls Tryz.prog 26 #[.pointer (some ⟨bt, 0, none⟩), .int .u64 (page : Int), .agg #[.bool r, .bool q, .bool x], .int .i64 s] w fun e w' => e = .returned (.int .i64 0) ∧ PrO W X w w' bt p pm N pool o M C Z root E page r q x s := by
  have h0 : ∀ ob, TS W (fun i => X i ∨ i = w.heap.size) (w.alloc ob) bt p pm N pool o M C Z root E := fun ob => h.more ((Kp.refl w).alloc ob) w.heap.size (Nat.le_refl _) (by simp)
  have c0 := fun ob => (h0 ob).tx.c0
  have KW : Aside (∀ v, TS W (fun i => X i ∨ i = w.heap.size) v bt p pm N pool o M C Z root E → Calls Tryz.prog 57 #[.pointer (some ⟨bt, 0, none⟩), .int .u64 (page : Int)] v fun e w' => e = .returned (.tuple #[.slice (some ⟨v.heap.size, 0, none⟩) (lvG E page + 1) 4, .bool true]) ∧ Hid (WL w' v.heap.size (stps root E page) ∧ TS W (fun i => X i ∨ i = w.heap.size) w' bt p pm N pool (o + 4) M C Z root E ∧ Fr (Out W (fun i => X i ∨ i = w.heap.size)) v w')) := fun v hv => by
    have := way_any hv page hp (by omega)
    rw [decide_eq_true hk] at this
    exact this.mono fun e w' ⟨e1, e2, e3, e4⟩ => ⟨e1, e2, e3.less (fun _ => .inl) hv.xb, e4⟩
  have KG : Aside (∀ v, TS W (fun i => X i ∨ i = w.heap.size) v bt p pm N pool (o + 4) M C Z root E → Calls Tryz.prog 65 #[.pointer (some ⟨bt, 0, none⟩), .int .u64 (page : Int)] v fun e w' => ∃ b, e = .returned (.tuple #[.slice (some ⟨b, 0, none⟩) 4 4, .int .i64 0]) ∧ Hid (SG W (fun i => X i ∨ i = w.heap.size) v w' b bt p pm N pool (o + 4 + 521) M C Z root E page)) := fun v hv => single_ok hv ne page hp (by omega) hk sp
  have KC : Aside (∀ v, Calls Tryz.prog 62 #[.agg #[.bool r, .bool q, .bool x], .int .i64 s] v fun e w' => e = .returned (.bool true) ∧ Kp v w') := fun v => by
    have := canBe_any r q x s v
    rw [hc] at this
    exact this
  have hc' : (q = true → r = true) ∧ 0 ≤ s ∧ s ≤ 15 := by
    unfold canB at hc
    simp at hc
    refine ⟨fun e => ?_, hc.1.2, hc.2⟩
    rcases hc.1.1 with c | c
    · exact c
    · rw [c] at e; cases e
  have xb := h.xb
  have xl := h.fw.xlt
  have KP : Aside (∀ (v : World) (M1 : Nat → Nat → Nat) (C1 : Nat → Nat) (E1 : Nat → Nat → DV), TS W (fun i => X i ∨ i = w.heap.size) v bt p pm N pool (o + 4 + 521) M1 C1 Z root E1 → NE root E1 (fun _ _ => False) → Ot Z M C M1 C1 → Fr (Out W X) w v → lvG E1 page = 3 → LR pool C C1 E E1 page → Calls Tryz.prog 66 #[.pointer (some ⟨bt, 0, none⟩), .int .u64 ((stp root E1 page 3).p : Int), .int .i64 3, .agg #[.int .i64 3, .int .u64 ((stp root E1 page 3).d.a : Int), .bool r, .bool q, .bool x, .int .i64 s]] v fun e w' => e = .returned (.tuple #[]) ∧ Hid (PrO W X w w' bt p pm N pool o M C Z root E page r q x s)) := fun v M1 C1 E1 a1 a2 a3 a4 a5 a6 => by
    have hd : (stp root E1 page 3).d.a = (enG E1 page).a := by unfold enG; rw [a5]; rfl
    have pr := (a1.tg.ok 3 (qn page 3) (by omega)).parts
    have e3 : (enG E1 page) = E1 3 (qn page 3) := by unfold enG; rw [a5]
    have ok : okD 3 ⟨3, (enG E1 page).a, r, q, x, s⟩ := by
      have := okD_page (x := (enG E1 page).a / 4096) (r := r) (q := q) (e := x) (f := s) (by rw [e3]; omega) hc'.1 hc'.2.1 hc'.2.2
      rw [show (enG E1 page).a / 4096 * 4096 = (enG E1 page).a by rw [e3]; omega] at this
      exact this
    rw [hd]
    exact (put_page a1 a2 page ⟨3, (enG E1 page).a, r, q, x, s⟩ hp (by omega) a5 ok rfl).mono fun e w' ⟨e1, E', e2, e4⟩ => ⟨e1, C1, E1, E', ⟨by obtain ⟨M', q1, q2⟩ := e2.ts; exact ⟨M', (q1.less (fun _ => .inl) xb).le (by omega), a3.trans q2⟩, e2.ne, a4.trans (e2.fr.less fun _ => .inl)⟩, a6, e4, M1, a1.tg⟩
  have hs := stps_get (root := root) (E := E) (p := page) (Nat.le_refl _)
  have HS : Hid ((stps root E page)[lvG E page]? = some (stp root E page (lvG E page)) ∧ lvG E page ≤ 3) := ⟨hs, lvG_le E page⟩
  have hst : (stp root E page (lvG E page)).d = enG E page := rfl
  have q0 := eql_frames p
  have HH : Hid ((∀ ob, TS W (fun i => X i ∨ i = w.heap.size) (w.alloc ob) bt p pm N pool o M C Z root E) ∧ X bt) := ⟨h0, xb⟩
  clear h ne hp ho hc hk sp h0 hc' hs xb xl
  generalize stp root E page (lvG E page) = st at *
  generalize stps root E page = L at *
  generalize lvG E page = lv at *
  rw [← hst] at hns
  clear hst
  obtain ⟨sl, spp, su, sk, sa, sr, sq, sx, sf⟩ := st
  have f1 := field_d ⟨sl, spp, su, sk, sa, sr, sq, sx, sf⟩
  simp only [svV, dvV] at f1
  unfold same4 at hns
  simp only at hns
  have hq := eq_permP sr sq sx r q x
  generalize samP sr sq sx r q x = D at *
  have hcase : D = false ∨ (D = true ∧ (sf == s) = false) := by
    cases D
    · exact .inl rfl
    · exact .inr ⟨rfl, by simpa using hns⟩
  clear hns
  go_enter Tryz.func26, Tryz.ntmps26
  go_wp2_with fail
  with_reducible refine (KC.out _).mono ?_
  rintro e w1 ⟨rfl, K1⟩
  have T1 := (HH.out.1 (.cells #[.bool r, .bool q, .bool x] 39)).kps K1
  have P1 : PX w1 w.heap.size r q x := (PX.made w r q x).kp K1
  have F1 : Fr (Out W X) w w1 := (((Kp.refl w).alloc _).trans K1).fr _
  have kw := KW.out w1 T1
  have H1 : Hid (PX w1 w.heap.size r q x ∧ Fr (Out W X) w w1) := ⟨P1, F1⟩
  clear KC K1 T1 P1 F1 KW c0
  go_wp2_with fail
  with_reducible refine kw.mono ?_
  rintro e w2 ⟨rfl, H2⟩
  have k2 := last_any H2.out.1 HS.out.2 HS.out.1
  have H2' : Hid (TS W (fun i => X i ∨ i = w.heap.size) w2 bt p pm N pool (o + 4) M C Z root E ∧ Fr (Out W X) w w2 ∧ PX w2 w.heap.size r q x) := ⟨H2.out.2.1, H1.out.2.trans (H2.out.2.2.less fun _ => .inl), H1.out.1.fr H2.out.2.2 (fun c => c.2 (.inr rfl))⟩
  simp only [svV] at k2
  clear kw H1 H2 HS
  go_wp2_with fail
  with_reducible refine k2.mono ?_
  rintro e w3 ⟨rfl, k3⟩
  have H3 : Hid (TS W (fun i => X i ∨ i = w.heap.size) w3 bt p pm N pool (o + 4) M C Z root E ∧ Fr (Out W X) w w3 ∧ PX w3 w.heap.size r q x) := ⟨H2'.out.1.kps k3, H2'.out.2.1.trans (k3.fr _), H2'.out.2.2.kp k3⟩
  have p0 := fun ob => (H3.out.2.2.kp ((Kp.refl w3).alloc ob)).c0
  have p1 := fun ob => (H3.out.2.2.kp ((Kp.refl w3).alloc ob)).c1
  have p2 := fun ob => (H3.out.2.2.kp ((Kp.refl w3).alloc ob)).c2
  have kg := fun ob => KG.out (w3.alloc ob) (H3.out.1.kps ((Kp.refl w3).alloc ob))
  clear k2 k3 H2' KG
  rcases hcase with rfl | ⟨rfl, hf⟩
  all_goals
    go_wp2_with fail
    with_reducible refine (kg _).mono ?_
    rintro e w4 ⟨b, rfl, G⟩
    obtain ⟨M1, C1, E1, l1, t1, n1, o1, r1, hk1, hl1, lr, hb⟩ := G.out
    have hs1 : (stps root E1 page)[3]? = some (stp root E1 page 3) := stps_get (by omega)
    have kl := last_any l1 (by omega) hs1
    have P4 : PX w4 w.heap.size r q x := (H3.out.2.2.kp ((Kp.refl w3).alloc _)).fr r1 (fun c => c.2 (.inr rfl))
    have F4 : Fr (Out W X) w w4 := (H3.out.2.1.trans (((Kp.refl w3).alloc _).fr _)).trans (r1.less fun _ => .inl)
    have T4 := t1.less (X := fun i => X i ∨ i = w.heap.size) (fun _ => .inl) (.inl HH.out.2)
    have kput := fun v (kv : Kp w4 v) => KP.out v M1 C1 E1 (T4.kps kv) n1 o1 (F4.trans (kv.fr _)) hl1 lr
    have e3 : (stp root E1 page 3).l = 3 := rfl
    have HP : Hid (PX w4 w.heap.size r q x) := P4
    clear kg KP G l1 t1 n1 o1 r1 hk1 hl1 lr hb hs1 P4 F4 T4 H3 p0 p1 p2 HH f1 hq q0
    generalize stp root E1 page 3 = st1 at *
    obtain ⟨tl, tp, tu, tk, ta, tr, tq, tx, tf⟩ := st1
    simp only at e3 kput
    subst e3
    simp only [svV] at kl
    rw [show ((3 : Nat) : Int) = 3 from rfl] at kl
    go_wp2_with fail
    with_reducible refine kl.mono ?_
    rintro e w5 ⟨rfl, k5⟩
    have p0 := fun ob => ((HP.out.kp k5).kp ((Kp.refl w5).alloc ob)).c0
    have p1 := fun ob => ((HP.out.kp k5).kp ((Kp.refl w5).alloc ob)).c1
    have p2 := fun ob => ((HP.out.kp k5).kp ((Kp.refl w5).alloc ob)).c2
    have kq := fun ob => kput (w5.alloc ob) (k5.trans ((Kp.refl w5).alloc ob))
    clear kl kput k5
    go_wp2_with fail
    with_reducible refine (kq _).mono ?_
    rintro e w6 ⟨rfl, H6⟩
    clear kq
    go_wp2
    go_ret
    exact ⟨rfl, H6.out⟩
end
end Go.Proofs.YtcankhnnikhblaaGreatDoor

/- stage2: blockOf. -/
namespace Go.Proofs.YtcankhnnikhblaaGreatDoor
open Go.RowKit
set_option maxRecDepth 10000

/-- The Block that begins as a Page does. -/
def bkD (d : DV) : DV := ⟨2, d.a, d.r, d.q, d.x, d.f⟩
/-- These are the Pages of a Block. -/
def whB (g : Nat → DV) : Prop := ∀ i, i < 512 → g i = pgOf (bkD (g 0)) i
theorem eqd_iff (d e : DV) : ((d.k == e.k) && ((d.a : Int) == (e.a : Int)) && ((d.r == e.r) && (d.q == e.q) && (d.x == e.x)) && (d.f == e.f)) = true ↔ d = e := by
  constructor
  · intro h
    simp at h
    obtain ⟨⟨⟨h1, h2⟩, ⟨h3, h4⟩, h5⟩, h6⟩ := h
    exact dv_eq h1 (by omega) h3 h4 h5 h6
  · rintro rfl
    simp
section
variable {W w w' : World} {X Y : Nat → Prop} {bt p pm N pool o : Nat} {M : Nat → Nat → Nat} {C : Nat → Nat} {Z : Nat → Bool} {root : Nat} {E : Nat → Nat → DV}
set_option maxHeartbeats 4000000 in
theorem blockOf_low (w : World) (bt xa : Nat) (g : Nat → DV) (ga : ∀ i, i < 512 → (g i).a < 4294967296)
    (ke : ∀ ob, Calls Tryz.prog 103 #[.pointer (some ⟨bt, 0, none⟩), .int .u64 (xa : Int), .int .i64 3] (w.alloc ob) fun e w' => (e = .returned (.slice (some ⟨w.heap.size + 1, 0, none⟩) 512 512) ∧ WD w' (w.heap.size + 1) ((List.range 512).map g)) ∧ Kp (w.alloc ob) w') :
    Calls Tryz.prog 67 #[.pointer (some ⟨bt, 0, none⟩), .int .u64 (xa : Int)] w fun e w' => (∃ D t, e = .returned (.tuple #[dvV D, .bool t]) ∧ (t = true ↔ (whB g ∧ okD 2 (bkD (g 0)))) ∧ (t = true → D = bkD (g 0))) ∧ Kp w w' := by
  have kpg : Aside (∀ (i : Nat) (v : World), i < 512 → Calls Tryz.prog 104 #[dvV (bkD (g 0)), .int .i64 (i : Int)] v fun e w' => e = .returned (dvV (pgOf (bkD (g 0)) i)) ∧ Kp v w') := fun i v hi => pageOf_any (bkD (g 0)) i v (ga 0 (by omega)) hi
  have kch : Aside (∀ v, Calls Tryz.prog 105 #[.int .i64 2, .int .i64 2, dvV (bkD (g 0))] v fun e w' => e = .returned (.int .i64 (dchk 2 2 2 (g 0).a (g 0).r (g 0).q (g 0).x (g 0).f)) ∧ Kp v w') := fun v => dcheck_any 2 2 2 (g 0).a (g 0).r (g 0).q (g 0).x (g 0).f v
  have hok : okD 2 (bkD (g 0)) ↔ dchk 2 2 2 (g 0).a (g 0).r (g 0).q (g 0).x (g 0).f = 0 := Iff.rfl
  generalize dchk 2 2 2 (g 0).a (g 0).r (g 0).q (g 0).x (g 0).f = ck at *
  have hg0 : ∀ v b, WD v b ((List.range 512).map g) → ∀ j y, (encD (g 0))[j]? = some y → v.cell? ⟨b, j, none⟩ = some y := fun v b hv j y hy => by
    have := hv.cell (i := 0) (j := j) (x := g 0) (by rfl) hy
    simpa using this
  have HG : Hid (okD 2 (bkD (g 0)) ↔ ck = 0) := hok
  clear ga hok
  obtain ⟨d0, hd0⟩ : ∃ d, d = g 0 := ⟨_, rfl⟩
  have HD0 : Hid (d0 = g 0) := hd0
  rw [← hd0] at hg0
  have hb0 : bkD (g 0) = bkD d0 := by rw [hd0]
  rw [hb0] at kpg
  rw [hb0] at kch
  clear hd0 hb0
  obtain ⟨zk, za, zr, zq, zx, zf⟩ := d0
  have KP : Aside (∀ (i : Nat) (v : World), i < 512 → Calls Tryz.prog 104 #[.agg #[.int .i64 2, .int .u64 (za : Int), .bool zr, .bool zq, .bool zx, .int .i64 zf], .int .i64 (i : Int)] v fun e w' => e = .returned (.agg #[.int .i64 3, .int .u64 ((za + i * 4096 : Nat) : Int), .bool zr, .bool zq, .bool zx, .int .i64 zf]) ∧ Kp v w') := kpg
  have KC : Aside (∀ v, Calls Tryz.prog 105 #[.int .i64 2, .int .i64 2, .agg #[.int .i64 2, .int .u64 (za : Int), .bool zr, .bool zq, .bool zx, .int .i64 zf]] v fun e w' => e = .returned (.int .i64 ck) ∧ Kp v w') := kch
  clear kpg kch
  go_enter Tryz.func67, Tryz.ntmps67
  go_wp2_with fail
  with_reducible refine (ke _).mono ?_
  rintro e w1 ⟨⟨rfl, D1⟩, K1⟩
  have B1 : BX w1 w.heap.size 0 0 false false false 0 := (BX.made w 0 0 false false false 0).kp K1
  have x0 := hg0 w1 _ D1 0 _ rfl
  have x1 := hg0 w1 _ D1 1 _ rfl
  have x2 := hg0 w1 _ D1 2 _ rfl
  have x3 := hg0 w1 _ D1 3 _ rfl
  have x4 := hg0 w1 _ D1 4 _ rfl
  have x5 := hg0 w1 _ D1 5 _ rfl
  have H1 : Hid (WD w1 (w.heap.size + 1) ((List.range 512).map g) ∧ BX w1 w.heap.size 0 0 false false false 0 ∧ Kp w w1) := ⟨D1, B1, ((Kp.refl w).alloc _).trans K1⟩
  clear ke D1 B1 K1 hg0
  go_wp2_with fail
  have B7 : BX (w1.alloc (.cells #[.int .i64 2, .int .u64 (za : Int), .bool zr, .bool zq, .bool zx, .int .i64 zf] 62)) w1.heap.size 2 za zr zq zx zf := heap_alloc_new w1 _
  have H2 : Hid (WD (w1.alloc (.cells #[.int .i64 2, .int .u64 (za : Int), .bool zr, .bool zq, .bool zx, .int .i64 zf] 62)) (w.heap.size + 1) ((List.range 512).map g) ∧ BX (w1.alloc (.cells #[.int .i64 2, .int .u64 (za : Int), .bool zr, .bool zq, .bool zx, .int .i64 zf] 62)) w.heap.size 0 0 false false false 0 ∧ Kp w (w1.alloc (.cells #[.int .i64 2, .int .u64 (za : Int), .bool zr, .bool zq, .bool zx, .int .i64 zf] 62)) ∧ BX (w1.alloc (.cells #[.int .i64 2, .int .u64 (za : Int), .bool zr, .bool zq, .bool zx, .int .i64 zf] 62)) w1.heap.size 2 za zr zq zx zf) := ⟨H1.out.1.kp ((Kp.refl _).alloc _), H1.out.2.1.kp ((Kp.refl _).alloc _), H1.out.2.2.alloc _, B7⟩
  clear x0 x1 x2 x3 x4 x5 B7 H1
  generalize w1.heap.size = b7 at *
  go_loopg [19] 514 (fun gg v19 wr => ∃ k : Nat, v19 = .int .i64 (k : Int) ∧ k ≤ 512 ∧ 513 - k ≤ gg ∧ Hid ((WD wr (w.heap.size + 1) ((List.range 512).map g) ∧ BX wr w.heap.size 0 0 false false false 0 ∧ Kp w wr ∧ BX wr b7 2 za zr zq zx zf) ∧ ∀ i, i < k → g i = pgOf (bkD ⟨zk, za, zr, zq, zx, zf⟩) i))
  case atStart => exact ⟨0, rfl, by omega, by omega, H2.out, fun i hi => by omega⟩
  case round =>
    obtain ⟨k, rfl, hk, hg, HI⟩ := hrel
    by_cases ek : k < 512
    · have z1 : (k : Int) < 512 := by omega
      have kp := fun v => KP.out k v ek
      have cu := fun j y hy => HI.out.1.1.cell (i := k) (j := j) (x := g k) (y := y) (by rw [List.getElem?_map, List.getElem?_range ek]; rfl) hy
      obtain ⟨d, hd⟩ : ∃ d, d = g k := ⟨_, rfl⟩
      rw [← hd] at cu
      have HQ : Hid (((d.k == 3) && ((d.a : Int) == ((za + k * 4096 : Nat) : Int)) && ((d.r == zr) && (d.q == zq) && (d.x == zx)) && (d.f == zf)) = true ↔ g k = pgOf (bkD ⟨zk, za, zr, zq, zx, zf⟩) k) := by rw [← hd]; exact eqd_iff d (pgOf (bkD ⟨zk, za, zr, zq, zx, zf⟩) k)
      clear hd
      obtain ⟨dk, da, dr, dq, dx, df⟩ := d
      have x0 := cu 0 _ rfl
      have x1 := cu 1 _ rfl
      have x2 := cu 2 _ rfl
      have x3 := cu 3 _ rfl
      have x4 := cu 4 _ rfl
      have x5 := cu 5 _ rfl
      simp only [Nat.add_zero] at x0
      have hq := eq_desc dk (da : Int) 3 ((za + k * 4096 : Nat) : Int) df zf dr dq dx zr zq zx
      simp only at HQ
      generalize za + k * 4096 = pa at *
      generalize ((dk == 3) && ((da : Int) == (pa : Int)) && ((dr == zr) && (dq == zq) && (dx == zx)) && (df == zf)) = D at *
      have HS : Aside (∀ v, Kp (wr.alloc (.cells #[.int .i64 dk, .int .u64 (da : Int), .bool dr, .bool dq, .bool dx, .int .i64 df] 62)) v → v.cell? ⟨wr.heap.size, 0, none⟩ = some (.int .i64 dk) ∧ v.cell? ⟨wr.heap.size, 1, none⟩ = some (.int .u64 (da : Int)) ∧ v.cell? ⟨wr.heap.size, 2, none⟩ = some (.bool dr) ∧ v.cell? ⟨wr.heap.size, 3, none⟩ = some (.bool dq) ∧ v.cell? ⟨wr.heap.size, 4, none⟩ = some (.bool dx) ∧ v.cell? ⟨wr.heap.size, 5, none⟩ = some (.int .i64 df) ∧ v.cell? ⟨b7, 0, none⟩ = some (.int .i64 2) ∧ v.cell? ⟨b7, 1, none⟩ = some (.int .u64 (za : Int)) ∧ v.cell? ⟨b7, 2, none⟩ = some (.bool zr) ∧ v.cell? ⟨b7, 3, none⟩ = some (.bool zq) ∧ v.cell? ⟨b7, 4, none⟩ = some (.bool zx) ∧ v.cell? ⟨b7, 5, none⟩ = some (.int .i64 zf)) := fun v kv => by
        have b9 : BX (wr.alloc (.cells #[.int .i64 dk, .int .u64 (da : Int), .bool dr, .bool dq, .bool dx, .int .i64 df] 62)) wr.heap.size dk da dr dq dx df := heap_alloc_new wr _
        have c9 := b9.kp kv
        have c7 := (HI.out.1.2.2.2.kp ((Kp.refl wr).alloc _)).kp kv
        exact ⟨c9.c0, c9.c1, c9.c2, c9.c3, c9.c4, c9.c5, c7.c0, c7.c1, c7.c2, c7.c3, c7.c4, c7.c5⟩
      have S0 := HS.out _ (Kp.refl _)
      clear KC KP cu
      go_wp2_with fail
      clear x0 x1 x2 x3 x4 x5
      go_region_held3 (fun v => v.cell? ⟨wr.heap.size, 0, none⟩ = some (.int .i64 dk) ∧ v.cell? ⟨wr.heap.size, 1, none⟩ = some (.int .u64 (da : Int)) ∧ v.cell? ⟨wr.heap.size, 2, none⟩ = some (.bool dr) ∧ v.cell? ⟨wr.heap.size, 3, none⟩ = some (.bool dq) ∧ v.cell? ⟨wr.heap.size, 4, none⟩ = some (.bool dx) ∧ v.cell? ⟨wr.heap.size, 5, none⟩ = some (.int .i64 df) ∧ v.cell? ⟨b7, 0, none⟩ = some (.int .i64 2) ∧ v.cell? ⟨b7, 1, none⟩ = some (.int .u64 (za : Int)) ∧ v.cell? ⟨b7, 2, none⟩ = some (.bool zr) ∧ v.cell? ⟨b7, 3, none⟩ = some (.bool zq) ∧ v.cell? ⟨b7, 4, none⟩ = some (.bool zx) ∧ v.cell? ⟨b7, 5, none⟩ = some (.int .i64 zf)) (first | exact S0 | exact S4 | go_keep)
        (first | (go_at_call 104; with_reducible refine (kp _).mono ?_; rintro _ w4 ⟨rfl, K4⟩; have K5 : Kp (wr.alloc (.cells #[.int .i64 dk, .int .u64 (da : Int), .bool dr, .bool dq, .bool dx, .int .i64 df] 62)) w4 := Kp.trans (by first | exact Kp.refl _ | exact (Kp.refl _).drew | exact (Kp.refl _).drewN _) K4; have S4 := HS.out w4 K5))
      have H4 : Hid (WD w4 (w.heap.size + 1) ((List.range 512).map g) ∧ BX w4 w.heap.size 0 0 false false false 0 ∧ Kp w w4 ∧ BX w4 b7 2 za zr zq zx zf) := by
        have kk := ((Kp.refl wr).alloc _).trans K5
        exact ⟨HI.out.1.1.kp kk, HI.out.1.2.1.kp kk, HI.out.1.2.2.1.trans kk, HI.out.1.2.2.2.kp kk⟩
      have HI2 : Hid (∀ i, i < k → g i = pgOf (bkD ⟨zk, za, zr, zq, zx, zf⟩) i) := HI.out.2
      clear kp HS S0 S4 K4 K5 hq HI
      cases D
      · have B4 := H4.out.2.1
        have c0 := B4.c0
        have c1 := B4.c1
        have c2 := B4.c2
        have c3 := B4.c3
        have c4 := B4.c4
        have c5 := B4.c5
        have f0 := B4.fz 0
        have f1 := B4.fz 1
        have f2 := B4.fz 2
        have f3 := B4.fz 3
        have f4 := B4.fz 4
        have f5 := B4.fz 5
        clear B4
        go_wp2
        refine bodyPost_ret (res_d2 rfl rfl (BX.put H4.out.2.1 0 0 false false false 0)) rfl ⟨⟨dN, false, rfl, ⟨fun c => (by cases c), fun c => ?_⟩, fun c => (by cases c)⟩, H4.out.2.2.1.putD (Nat.le_refl _)⟩
        have := HQ.out.2 (by rw [HD0.out]; exact c.1 k ek)
        cases this
      · go_wp2_with fail
        go_roundg (513 - (k + 1))
        case measure => omega
        case rel => exact ⟨k + 1, by go_num, by omega, by omega, H4.out, fun i hi => by
          rcases (by omega : i < k ∨ i = k) with c | rfl
          · exact HI2.out i c
          · first | exact HQ.out.1 rfl | exact HQ.out.1 trivial⟩
    · have ei : k = 512 := by omega
      subst ei
      have HW : Hid (whB g) := fun i hi => by rw [← HD0.out]; exact HI.out.2 i hi
      have kc := fun v => KC.out v
      have c0 := HI.out.1.2.2.2.c0
      have c1 := HI.out.1.2.2.2.c1
      have c2 := HI.out.1.2.2.2.c2
      have c3 := HI.out.1.2.2.2.c3
      have c4 := HI.out.1.2.2.2.c4
      have c5 := HI.out.1.2.2.2.c5
      have HB : Aside (∀ v, Kp wr v → v.cell? ⟨w.heap.size, 0, none⟩ = some (.int .i64 0) ∧ v.cell? ⟨w.heap.size, 1, none⟩ = some (.int .u64 0) ∧ v.cell? ⟨w.heap.size, 2, none⟩ = some (.bool false) ∧ v.cell? ⟨w.heap.size, 3, none⟩ = some (.bool false) ∧ v.cell? ⟨w.heap.size, 4, none⟩ = some (.bool false) ∧ v.cell? ⟨w.heap.size, 5, none⟩ = some (.int .i64 0) ∧ v.frozen? ⟨w.heap.size, 0, none⟩ = false ∧ v.frozen? ⟨w.heap.size, 1, none⟩ = false ∧ v.frozen? ⟨w.heap.size, 2, none⟩ = false ∧ v.frozen? ⟨w.heap.size, 3, none⟩ = false ∧ v.frozen? ⟨w.heap.size, 4, none⟩ = false ∧ v.frozen? ⟨w.heap.size, 5, none⟩ = false ∧ v.cell? ⟨b7, 0, none⟩ = some (.int .i64 2) ∧ v.cell? ⟨b7, 1, none⟩ = some (.int .u64 (za : Int)) ∧ v.cell? ⟨b7, 2, none⟩ = some (.bool zr) ∧ v.cell? ⟨b7, 3, none⟩ = some (.bool zq) ∧ v.cell? ⟨b7, 4, none⟩ = some (.bool zx) ∧ v.cell? ⟨b7, 5, none⟩ = some (.int .i64 zf) ∧ Hid (BX v w.heap.size 0 0 false false false 0 ∧ Kp w v)) := fun v kv => by
        have b4 := HI.out.1.2.1.kp kv
        have b8 := HI.out.1.2.2.2.kp kv
        exact ⟨b4.c0, b4.c1, b4.c2, b4.c3, b4.c4, b4.c5, b4.fz 0, b4.fz 1, b4.fz 2, b4.fz 3, b4.fz 4, b4.fz 5, b8.c0, b8.c1, b8.c2, b8.c3, b8.c4, b8.c5, b4, HI.out.1.2.2.1.trans kv⟩
      clear KC KP HI H2
      go_wp2_with fail
      go_region_with (first | (go_at_call 105; with_reducible refine (kc _).mono ?_; rintro _ w5 ⟨rfl, K5⟩; obtain ⟨y0, y1, y2, y3, y4, y5, f0, f1, f2, f3, f4, f5, x0, x1, x2, x3, x4, x5, H6⟩ := HB.out w5 (Kp.trans (by first | exact Kp.refl _ | exact (Kp.refl _).drew | exact (Kp.refl _).drewN _) K5)))
      all_goals
        go_wp2
        refine bodyPost_ret (res_d2 (b := w.heap.size) rfl rfl (BX.put (H6.out.1.kp (by first | exact Kp.refl _ | exact (Kp.refl _).drew | exact (Kp.refl _).drewN _)) 2 za zr zq zx zf)) rfl ⟨⟨⟨2, za, zr, zq, zx, zf⟩, (ck == 0), rfl, ⟨fun c => ⟨HW.out, HG.out.2 (by simpa using c)⟩, fun c => (by simpa using HG.out.1 c.2)⟩, fun _ => (by rw [← HD0.out]; rfl)⟩, (H6.out.2.trans (by first | exact Kp.refl _ | exact (Kp.refl _).drew | exact (Kp.refl _).drewN _)).putD (Nat.le_refl _)⟩
theorem blockOf_any (h : TS W X w bt p pm N pool o M C Z root E) {j x : Nat} (hx : tbl root E 3 j = some x) :
    Calls Tryz.prog 67 #[.pointer (some ⟨bt, 0, none⟩), .int .u64 ((x * 4096 : Nat) : Int)] w fun e w' => (∃ D t, e = .returned (.tuple #[dvV D, .bool t]) ∧ (t = true ↔ (whB (fun i => E 3 (512 * j + i)) ∧ okD 2 (bkD (E 3 (512 * j))))) ∧ (t = true → D = bkD (E 3 (512 * j)))) ∧ Kp w w' := by
  refine blockOf_low w bt (x * 4096) (fun i => E 3 (512 * j + i)) (fun i _ => (h.tg.ok 3 _ (by omega)).parts.2.2.2.2.2.2.1) fun ob => ?_
  have := entries_any (h.kps ((Kp.refl w).alloc ob)) (l := 3) (by omega) hx
  rw [show (w.alloc ob).heap.size = w.heap.size + 1 by simp] at this
  exact this
end
end Go.Proofs.YtcankhnnikhblaaGreatDoor

/- stage2: Join. -/
namespace Go.Proofs.YtcankhnnikhblaaGreatDoor
open Go.RowKit
set_option maxRecDepth 10000

/-- What a join makes of the leaves. -/
def JnL (E E' : Nat → Nat → DV) (j : Nat) (d : DV) : Prop := ∀ a b, a ≤ 3 → lfD E' a b = if a = 2 ∧ b = j then d else if a = 3 ∧ b / 512 = j then dN else lfD E a b
section
variable {M : Nat → Nat → Nat} {C : Nat → Nat} {pool root : Nat} {Z : Nat → Bool} {E : Nat → Nat → DV}
theorem TG.join (h : TG M C pool Z root E) {j x y : Nat} {d : DV} (hx : tbl root E 2 (j / 512) = some x) (hk1 : (E 2 j).k = 1) (hy : (E 2 j).a / 4096 = y) (ok : okD 2 d) (hd : d.k = 2) :
    TG (repM M x (j % 512) (E 2 j) d) (repC C (E 2 j)) pool Z root (hang E 2 j d (fun _ => dN)) ∧ Ot Z M C (repM M x (j % 512) (E 2 j) d) (repC C (E 2 j)) ∧ (NE root E (fun _ _ => False) → NE root (hang E 2 j d (fun _ => dN)) (fun _ _ => False)) ∧ JnL E (hang E 2 j d (fun _ => dN)) j d ∧ cnt (fT pool (repC C (E 2 j))) pool = cnt (fT pool C) pool + 1 ∧ y < pool ∧ C y = 1 := by
  have ht : tbl root E 3 j = some y := by rw [tbl_succ, if_pos hk1, hy]
  have my := h.mine 3 j y (by omega) ht
  have mx := h.mine 2 _ x (by omega) hx
  have xy : x ≠ y := fun c => by
    subst c
    have := h.one 2 _ 3 _ x (by omega) (by omega) hx ht
    omega
  have d1 : d.k ≠ 1 := by rw [hd]; decide
  have hE : ∀ i, i < 512 → (E 3 (512 * j + i)).k ≠ 1 := fun i _ c => by have := (h.ok 3 (512 * j + i) (by omega)).parts.2.2.2.2.2.2.2.1 c; omega
  have out : ∀ z i, z ≠ y → ¬ (z = x ∧ i = j % 512) → repM M x (j % 512) (E 2 j) d z i = M z i := fun z i a b => by
    unfold repM zerM updM
    rw [if_pos hk1, hy, if_neg a, if_neg b]
  have cc : repC C (E 2 j) = putC C y 0 := by unfold repC; rw [if_pos hk1, hy]
  refine ⟨h.off (by omega) ht hE d1 ok (fun _ => rfl) hx (by rw [cc]; unfold putC; rw [if_pos rfl]) (fun z hz => by rw [cc]; unfold putC; rw [if_neg hz]) ?_ (fun z i _ a b => out z i a b), fun z hz => ?_, fun ne => ?_, fun a b ha => ?_, by rw [cc]; exact cnt_give my.1 (by omega), my.1, my.2.1⟩
  · unfold repM zerM updM
    rw [if_pos hk1, hy, if_neg xy, if_pos ⟨rfl, rfl⟩]
  · have n1 : z ≠ y := fun c => by subst c; rw [my.2.2] at hz; cases hz
    have n2 : z ≠ x := fun c => by subst c; rw [mx.2.2] at hz; cases hz
    exact ⟨fun i _ => out z i n1 (fun c => n2 c.1), by rw [cc]; unfold putC; rw [if_neg n1]⟩
  · exact (NE.hang (l := 2) (j := j) (d := d) (ds := fun _ => dN) (ne.weak fun _ _ c => c.elim) (fun _ _ => by decide) hE (by rw [hd]; decide)).leafed (by rw [hang_at]; exact d1)
  · unfold lfD
    by_cases c1 : a = 2 ∧ b = j
    · rw [if_pos c1]
      obtain ⟨rfl, rfl⟩ := c1
      rw [hang_at, if_neg d1]
    · rw [if_neg c1]
      by_cases c2 : a = 3 ∧ b / 512 = j
      · rw [if_pos c2]
        obtain ⟨rfl, c2⟩ := c2
        have e : b = 512 * j + b % 512 := by omega
        have e2 : hang E 2 j d (fun _ => dN) 3 b = dN := by
          have := hang_in E 2 j d (fun _ => dN) (i := b % 512) (Nat.mod_lt _ (by decide))
          rw [← e] at this
          exact this
        rw [e2]
        rfl
      · rw [if_neg c2, hang_out _ _ _ _ _ c1 c2]
end
theorem field_l (s : SV) (w : World) : (Instr.field 64 (svV s) 0).run Tryz.prog w = .ok (.int .i64 (s.l : Int)) w := by unfold svV; kernel_rfl
section
variable {W w w' : World} {X Y : Nat → Prop} {bt p pm N pool o : Nat} {M : Nat → Nat → Nat} {C : Nat → Nat} {Z : Nat → Bool} {root : Nat} {E : Nat → Nat → DV}
/-- The Pages of a page's table are those of a Block that may be. -/
def joinB (E : Nat → Nat → DV) (page : Nat) : Prop := whB (fun i => E 3 (512 * (page / 512) + i)) ∧ okD 2 (bkD (E 3 (512 * (page / 512))))
set_option maxHeartbeats 4000000 in
theorem join_three (h : TS W X w bt p pm N pool o M C Z root E) (ne : NE root E (fun _ _ => False)) (page : Nat) (hp : page < 268435456) (ho : o < 2000000000000000000) (hk : (enG E page).k = 3) :
    Calls Tryz.prog 27 #[.pointer (some ⟨bt, 0, none⟩), .int .u64 (page : Int)] w fun e w' => (∃ t : Bool, e = .returned (.int .i64 (if t then 0 else 20)) ∧ (t = true ↔ joinB E page) ∧ ∃ C' E', AC W X w w' bt p pm N pool (o + 5) M C Z root C' E' ∧ (t = false → C' = C ∧ E' = E) ∧ (t = true → cnt (fT pool C') pool = cnt (fT pool C) pool + 1 ∧ JnL E E' (page / 512) (bkD (E 3 (512 * (page / 512)))))) := by
  have hl := h.tg.three3 hk
  have k1 := way_any h page hp (by omega)
  rw [decide_eq_true (by rw [hk]; decide), hl] at k1
  have hn := h.fw.nums
  have hs3 : (stps root E page)[3]? = some (stp root E page 3) := stps_get (by omega)
  have hs2 : (stps root E page)[2]? = some (stp root E page 2) := stps_get (by omega)
  have h2 : (E 2 (page / 512)).k = 1 := lvG_on (p := page) (l := 2) (by omega)
  obtain ⟨x, hx, ex, lx⟩ := h.tg.tab hp (l := 2) (by omega)
  have hx' : tbl root E 2 (page / 512 / 512) = some x := hx
  obtain ⟨y, hy⟩ : ∃ y, (E 2 (page / 512)).a = y * 4096 := ⟨(E 2 (page / 512)).a / 4096, by have := (h.tg.ok 2 (page / 512) (by omega)).parts.2.2.2.2.2.1; omega⟩
  have hy' : (E 2 (page / 512)).a / 4096 = y := by rw [hy]; omega
  have ht : tbl root E 3 (page / 512) = some y := by rw [tbl_succ, if_pos h2, hy']
  have KB : Aside (∀ v, TS W (fun i => X i ∨ i = w.heap.size) v bt p pm N pool (o + 4) M C Z root E → Calls Tryz.prog 67 #[.pointer (some ⟨bt, 0, none⟩), .int .u64 ((y * 4096 : Nat) : Int)] v fun e w' => (∃ D t, e = .returned (.tuple #[dvV D, .bool t]) ∧ Hid ((t = true ↔ joinB E page) ∧ (t = true → D = bkD (E 3 (512 * (page / 512)))))) ∧ Kp v w') := fun v hv => (blockOf_any hv ht).mono fun e w' ⟨⟨D, t, a1, a2, a3⟩, a4⟩ => ⟨⟨D, t, a1, a2, a3⟩, a4⟩
  have xb := h.xb
  have KR : Aside (∀ v, joinB E page → TS W (fun i => X i ∨ i = w.heap.size) v bt p pm N pool (o + 4) M C Z root E → Fr (Out W X) w v → Calls Tryz.prog 68 #[.pointer (some ⟨bt, 0, none⟩), svV (stp root E page 2), dvV (bkD (E 3 (512 * (page / 512))))] v fun e w' => e = .returned (.tuple #[]) ∧ Hid (∃ C' E', AC W X w w' bt p pm N pool (o + 5) M C Z root C' E' ∧ (cnt (fT pool C') pool = cnt (fT pool C) pool + 1 ∧ JnL E E' (page / 512) (bkD (E 3 (512 * (page / 512))))))) := fun v jb hv fv => by
    obtain ⟨g1, g2, g3, g4, g5, g6, g7⟩ := hv.tg.join (d := bkD (E 3 (512 * (page / 512)))) hx' h2 hy' jb.2 rfl
    have hp4 : (stp root E page 2).p = x * 4096 + 8 * (page / 512 % 512) := by rw [← ex]; rfl
    exact (replace_any hv.ft x (page / 512 % 512) (stp root E page 2) (bkD (E 3 (512 * (page / 512)))) hp4 (fun _ => ⟨by show (E 2 (page / 512)).a < _; rw [hy]; omega, by show (E 2 (page / 512)).a / 4096 < pool; rw [hy']; exact g6, by show C ((E 2 (page / 512)).a / 4096) = 1; rw [hy']; exact g7⟩) (by omega) (Nat.mod_lt _ (by decide)) jb.2 (by omega)).mono fun e w' ⟨e1, e2, e3⟩ => ⟨e1, _, _, ⟨⟨_, (e2.ts g1).less (fun _ => .inl) xb, g2⟩, g3 ne, fv.trans (e3.less fun _ => .inl)⟩, g5, g4⟩
  have HN : Hid (NE root E (fun _ _ => False) ∧ X bt) := ⟨ne, xb⟩
  have hst : (stp root E page 2).l = 2 ∧ (stp root E page 2).d.k = 1 ∧ (stp root E page 2).d.a = y * 4096 := ⟨rfl, h2, hy⟩
  have h3l : (stp root E page 3).l = 3 := rfl
  have HS : Hid ((stps root E page)[3]? = some (stp root E page 3) ∧ (stps root E page)[2]? = some (stp root E page 2)) := ⟨hs3, hs2⟩
  have K1 : Aside (Calls Tryz.prog 57 #[.pointer (some ⟨bt, 0, none⟩), .int .u64 (page : Int)] w fun e w' => e = .returned (.tuple #[.slice (some ⟨w.heap.size, 0, none⟩) 4 4, .bool true]) ∧ Hid (WL w' w.heap.size (stps root E page) ∧ TS W (fun i => X i ∨ i = w.heap.size) w' bt p pm N pool (o + 4) M C Z root E ∧ Fr (Out W X) w w')) := k1
  have f1 := field_l (stp root E page 3)
  rw [h3l] at f1
  clear h ne hp ho hk hl k1 hn hs3 hs2 h2 hx hx' ex lx hy hy' ht xb h3l
  generalize stp root E page 3 = st3 at *
  generalize stp root E page 2 = st at *
  generalize stps root E page = L at *
  obtain ⟨sl, sp, su, sk, sa, sr, sq, sx, sf⟩ := st
  obtain ⟨e1, e2, e3⟩ := hst
  simp only at e1 e2 e3
  subst e1
  subst e2
  subst e3
  generalize y * 4096 = ya at *
  rw [show ((3 : Nat) : Int) = 3 from rfl] at f1
  go_enter Tryz.func27, Tryz.ntmps27
  go_wp2_with fail
  with_reducible refine K1.out.mono ?_
  rintro e w1 ⟨rfl, H1⟩
  have k2 := last_any H1.out.1 (by omega) HS.out.1
  clear K1
  go_wp2_with fail
  with_reducible refine k2.mono ?_
  rintro e w2 ⟨rfl, k3⟩
  have H2 : Hid (WL w2 w.heap.size L ∧ TS W (fun i => X i ∨ i = w.heap.size) w2 bt p pm N pool (o + 4) M C Z root E ∧ Fr (Out W X) w w2) := ⟨H1.out.1.kp k3, H1.out.2.1.kps k3, H1.out.2.2.trans (k3.fr _)⟩
  have x0 := H2.out.1.cell HS.out.2 (j := 0) rfl
  have x1 := H2.out.1.cell HS.out.2 (j := 1) rfl
  have x2 := H2.out.1.cell HS.out.2 (j := 2) rfl
  have x3 := H2.out.1.cell HS.out.2 (j := 3) rfl
  have x4 := H2.out.1.cell HS.out.2 (j := 4) rfl
  have x5 := H2.out.1.cell HS.out.2 (j := 5) rfl
  have x6 := H2.out.1.cell HS.out.2 (j := 6) rfl
  have x7 := H2.out.1.cell HS.out.2 (j := 7) rfl
  have x8 := H2.out.1.cell HS.out.2 (j := 8) rfl
  rw [show ((2 : Nat) : Int) = 2 from rfl] at x0
  have kb := fun ob => KB.out (w2.alloc ob) (H2.out.2.1.kps ((Kp.refl w2).alloc ob))
  clear k2 k3 H1 KB HS
  generalize svV st3 = sv3 at *
  go_wp2_with fail
  with_reducible refine (kb _).mono ?_
  rintro e w3 ⟨⟨D, t, rfl, HT⟩, K3⟩
  have S3 : SBk w3 w2.heap.size ⟨2, sp, su, 1, ya, sr, sq, sx, sf⟩ := (SBk.made w2 ⟨2, sp, su, 1, ya, sr, sq, sx, sf⟩).kp K3
  have H3 : Hid (TS W (fun i => X i ∨ i = w.heap.size) w3 bt p pm N pool (o + 4) M C Z root E ∧ Fr (Out W X) w w3) := ⟨H2.out.2.1.kps (((Kp.refl w2).alloc _).trans K3), H2.out.2.2.trans ((((Kp.refl w2).alloc _).trans K3).fr _)⟩
  clear kb K3 H2 x0 x1 x2 x3 x4 x5 x6 x7 x8 f1
  have g0 := fun ob => (S3.kp ((Kp.refl w3).alloc ob)).c 0 rfl
  have g1 := fun ob => (S3.kp ((Kp.refl w3).alloc ob)).c 1 rfl
  have g2 := fun ob => (S3.kp ((Kp.refl w3).alloc ob)).c 2 rfl
  have g3 := fun ob => (S3.kp ((Kp.refl w3).alloc ob)).c 3 rfl
  have g4 := fun ob => (S3.kp ((Kp.refl w3).alloc ob)).c 4 rfl
  have g5 := fun ob => (S3.kp ((Kp.refl w3).alloc ob)).c 5 rfl
  have g6 := fun ob => (S3.kp ((Kp.refl w3).alloc ob)).c 6 rfl
  have g7 := fun ob => (S3.kp ((Kp.refl w3).alloc ob)).c 7 rfl
  have g8 := fun ob => (S3.kp ((Kp.refl w3).alloc ob)).c 8 rfl
  simp only [show ((2 : Nat) : Int) = 2 from rfl] at g0
  clear S3
  generalize w2.heap.size = bs at *
  cases t
  · obtain ⟨Dk, Da, Dr, Dq, Dx, Df⟩ := D
    clear KR g0 g1 g2 g3 g4 g5 g6 g7 g8
    simp only [dvV]
    go_wp2
    go_ret
    exact ⟨false, rfl, HT.out.1, C, E, AC.same HN.out.1 ((H3.out.1.kps ((Kp.refl w3).alloc _)).less (fun _ => .inl) HN.out.2) (by omega) (H3.out.2.trans (((Kp.refl w3).alloc _).fr _)), fun _ => ⟨rfl, rfl⟩, fun c => by cases c⟩
  · have hD := HT.out.2 rfl
    have kr := fun ob => KR.out (w3.alloc ob) (HT.out.1.1 rfl) (H3.out.1.kps ((Kp.refl w3).alloc ob)) (H3.out.2.trans (((Kp.refl w3).alloc ob).fr _))
    have HJ : Hid (true = true ↔ joinB E page) := HT.out.1
    clear KR HT H3
    rw [← hD] at kr
    have HD : Hid (D = bkD (E 3 (512 * (page / 512)))) := hD
    clear hD
    obtain ⟨Dk, Da, Dr, Dq, Dx, Df⟩ := D
    simp only [svV, dvV, show ((2 : Nat) : Int) = 2 from rfl] at kr
    simp only [dvV]
    go_wp2_with fail
    with_reducible refine (kr _).mono ?_
    rintro e w4 ⟨rfl, H4⟩
    clear kr g0 g1 g2 g3 g4 g5 g6 g7 g8
    go_wp2
    go_ret
    obtain ⟨C', E', a1, a2⟩ := H4.out
    rw [HD.out] at a2
    exact ⟨true, rfl, by simpa using HJ.out, C', E', a1, fun c => (by cases c), fun _ => a2⟩
end
end Go.Proofs.YtcankhnnikhblaaGreatDoor
