/- Joined: R36, R37, R38, R39. -/
import Derived.Test.YtanlcmdnhhdhaaaGreatDoorJ24
/- stage2: a split, as it is meant; a Block's single Page. -/
namespace Go.Proofs.YtanlcmdnhhdhaaaGreatDoor
open Go.RowKit
set_option maxRecDepth 10000

theorem okD.block {d : DV} (h : okD 2 d) (hk : d.k = 2) : d.a % 2097152 = 0 := by
  obtain ⟨_, _, _, _, _, h6⟩ := chk_ok h
  rw [hk] at h6
  have e : unitN ((2 : Nat) : Int) 2 = 2097152 := by decide
  rw [e] at h6
  exact h6
theorem okD.pages {d : DV} (h : okD 2 d) (hk : d.k = 2) {j : Nat} (hj : j < 512) : okD 3 (pgOf d j) := by
  obtain ⟨_, _, _, h4, h5, _, h7, _, _, _, h11⟩ := h.parts
  have h8 := h.block hk
  have := okD_page (x := d.a / 4096 + j) (r := d.r) (q := d.q) (e := d.x) (f := d.f) (by omega) h11 h4 h5
  rw [show (d.a / 4096 + j) * 4096 = d.a + j * 4096 by omega] at this
  exact this
/-- What a split makes of the leaves. -/
def SpL (E E' : Nat → Nat → DV) (j : Nat) : Prop := ∀ a b, a ≤ 3 → lfD E' a b = if a = 2 ∧ b = j then dN else if a = 3 ∧ b / 512 = j then pgOf (E 2 j) (b % 512) else lfD E a b
section
variable {M : Nat → Nat → Nat} {C : Nat → Nat} {pool root : Nat} {Z : Nat → Bool} {E : Nat → Nat → DV}
theorem TG.split (h : TG M C pool Z root E) (hpo : pool ≤ 1048576) {j x y : Nat} (hk : (E 2 j).k = 2) (hx : tbl root E 2 (j / 512) = some x) (hy : y < pool) (hC : C y = 0) :
    TG (splM M x (j % 512) y (E 2 j)) (putC C y 1) pool Z root (hang E 2 j (dT y) (pgOf (E 2 j))) ∧ Ot Z M C (splM M x (j % 512) y (E 2 j)) (putC C y 1) ∧ (NE root E (fun _ _ => False) → NE root (hang E 2 j (dT y) (pgOf (E 2 j))) (fun _ _ => False)) ∧ SpL E (hang E 2 j (dT y) (pgOf (E 2 j))) j := by
  have mx := h.mine 2 _ x (by omega) hx
  have xy : y ≠ x := fun c => by subst c; omega
  have zy : Z y = false := by
    cases c : Z y
    · rfl
    · exact absurd hC (h.oth y c)
  have k1 : (E 2 j).k ≠ 1 := by rw [hk]; decide
  have und : ∀ i, i < 512 → E 3 (512 * j + i) = dN := fun i hi => h.under (l := 2) (by omega) k1 hi
  have out : ∀ z i, z ≠ y → ¬ (z = x ∧ i = j % 512) → splM M x (j % 512) y (E 2 j) z i = M z i := fun z i a b => by
    unfold splM updM filM zerM
    rw [if_neg b, if_neg (fun c => a c.1), if_neg a]
  refine ⟨h.hung (by omega) k1 hy hC zy hpo (fun c => by omega) (fun i hi => ⟨(h.ok 2 j (by omega)).pages hk hi, by show (3 : Int) ≠ 1; decide, fun c => by cases c⟩) hx (by unfold putC; rw [if_pos rfl]) (fun z hz => by unfold putC; rw [if_neg hz]) ?_ (fun z i _ a b => out z i a b) (fun i hi => ?_), fun z hz => ?_, fun ne => ?_, fun a b ha => ?_⟩
  · unfold splM updM
    rw [if_pos ⟨rfl, rfl⟩]
  · unfold splM updM filM
    rw [if_neg (fun c => xy c.1), if_pos ⟨rfl, hi⟩]
  · have n1 : z ≠ y := fun c => by subst c; rw [zy] at hz; cases hz
    have n2 : z ≠ x := fun c => by subst c; rw [mx.2.2] at hz; cases hz
    exact ⟨fun i _ => out z i n1 (fun c => n2 c.1), by unfold putC; rw [if_neg n1]⟩
  · refine (NE.hang (l := 2) (j := j) (d := dT y) (ds := pgOf (E 2 j)) (ne.weak fun _ _ c => c.elim) (fun i _ => by show (3 : Int) ≠ 1; decide) (fun i hi => by rw [und i hi]; decide) (by show (1 : Int) ≠ 0; decide)).filled (i := 0) (by omega) ?_
    rw [hang_in _ _ _ _ _ (by omega)]
    show (3 : Int) ≠ 0
    decide
  · unfold lfD
    by_cases c1 : a = 2 ∧ b = j
    · rw [if_pos c1]
      obtain ⟨rfl, rfl⟩ := c1
      rw [hang_at, if_pos (show (dT y).k = 1 from rfl)]
    · rw [if_neg c1]
      by_cases c2 : a = 3 ∧ b / 512 = j
      · rw [if_pos c2]
        obtain ⟨rfl, c2⟩ := c2
        have e : b = 512 * j + b % 512 := by omega
        have e2 : hang E 2 j (dT y) (pgOf (E 2 j)) 3 b = pgOf (E 2 j) (b % 512) := by
          have := hang_in E 2 j (dT y) (pgOf (E 2 j)) (i := b % 512) (Nat.mod_lt _ (by decide))
          rw [← e] at this
          exact this
        rw [e2, if_neg (show ¬ (pgOf (E 2 j) (b % 512)).k = 1 by show ¬ (3 : Int) = 1; decide)]
      · rw [if_neg c2, hang_out _ _ _ _ _ c1 c2]
end
/-- What split tells. -/
def spR (pool : Nat) (C : Nat → Nat) : Int := if cnt (fT pool C) pool = 0 then 11 else 0
section
variable {W w w' : World} {X Y : Nat → Prop} {bt p pm N pool o : Nat} {M : Nat → Nat → Nat} {C : Nat → Nat} {Z : Nat → Bool} {root : Nat} {E : Nat → Nat → DV}
/-- What a split leaves. -/
def SplO (W : World) (X : Nat → Prop) (w w' : World) (bt p pm N pool o : Nat) (M : Nat → Nat → Nat) (C : Nat → Nat) (Z : Nat → Bool) (root : Nat) (E : Nat → Nat → DV) (j : Nat) : Prop :=
  ∃ C' E', AC W X w w' bt p pm N pool (o + 513) M C Z root C' E' ∧ (spR pool C ≠ 0 → C' = C ∧ E' = E) ∧ (spR pool C = 0 → cnt (fT pool C') pool + 1 = cnt (fT pool C) pool ∧ SpL E E' j)
theorem split_any (h : TS W X w bt p pm N pool o M C Z root E) (ne : NE root E (fun _ _ => False)) (page : Nat) (hp : page < 268435456) (ho : o < 4000000000000000000) (hk : (enG E page).k = 2) (hl : lvG E page = 2) :
    Calls Tryz.prog 76 #[.pointer (some ⟨bt, 0, none⟩), svV (stp root E page 2)] w fun e w' => e = .returned (.int .i64 (spR pool C)) ∧ SplO W X w w' bt p pm N pool o M C Z root E (page / 512) := by
  unfold SplO
  have hn := h.fw.nums
  have hk' : (E 2 (page / 512)).k = 2 := by unfold enG at hk; rw [hl] at hk; exact hk
  obtain ⟨x, hx, ex, lx⟩ := h.tg.tab hp (l := 2) (by omega)
  have hx' : tbl root E 2 (page / 512 / 512) = some x := hx
  by_cases c : cnt (fT pool C) pool = 0
  · have hr : TkR (fT pool C) 0 none := by
      obtain ⟨r, hr⟩ := tkr_ex (fT pool C) 0
      cases r with
      | none => exact hr
      | some y =>
        have f := hr.free
        have := (cnt_zero (F := fT pool C) pool).1 c y f.1
        rw [(fT_iff pool C y).2 f] at this
        cases this
    have e : spR pool C = 11 := if_pos c
    rw [e]
    exact (split_none h.ft (stp root E page 2) rfl hr).mono fun e w' ⟨e1, e2, e3⟩ => ⟨e1, C, E, AC.same ne (e2.ts h.tg) (by omega) e3, fun _ => ⟨rfl, rfl⟩, fun c => by cases c⟩
  · obtain ⟨y, hy⟩ := tk_there (F := fT pool C) (hi := pool) (by omega)
    have fy := hy.free
    have e : spR pool C = 0 := if_neg c
    rw [e]
    obtain ⟨g1, g2, g3, g4⟩ := h.tg.split (by omega) hk' hx' fy.1 fy.2
    have hp4 : (stp root E page 2).p = x * 4096 + 8 * (page / 512 % 512) := by rw [← ex]; rfl
    have ct := cnt_take fy.1 fy.2
    exact (split_go h.ft (stp root E page 2) x (page / 512 % 512) y hp4 rfl (by omega) (Nat.mod_lt _ (by decide)) (fun j hj => (h.tg.ok 2 (page / 512) (by omega)).pages hk' hj) (h.tg.ok 2 (page / 512) (by omega)).parts.2.2.2.2.2.2.1 hy ho).mono fun e w' ⟨e1, e2, e3⟩ => ⟨e1, _, _, ⟨⟨_, e2.ts g1, g2⟩, g3 ne, e3⟩, fun c => absurd rfl c, fun _ => ⟨ct, g4⟩⟩
end
end Go.Proofs.YtanlcmdnhhdhaaaGreatDoor

/- stage2: the way to a single Page, whatever it lies in. -/
namespace Go.Proofs.YtanlcmdnhhdhaaaGreatDoor
open Go.RowKit
set_option maxRecDepth 10000

section
variable {W w w' : World} {X Y : Nat → Prop} {bt p pm N pool o : Nat} {M : Nat → Nat → Nat} {C : Nat → Nat} {Z : Nat → Bool} {root : Nat} {E : Nat → Nat → DV}
/-- What a page's single way leaves: the block is split, or it was a Page. -/
def LR (pool : Nat) (C C' : Nat → Nat) (E E' : Nat → Nat → DV) (page : Nat) : Prop :=
  ((enG E page).k = 3 ∧ C' = C ∧ E' = E) ∨ ((enG E page).k = 2 ∧ cnt (fT pool C') pool + 1 = cnt (fT pool C) pool ∧ SpL E E' (page / 512))
def SG (W : World) (X : Nat → Prop) (w w' : World) (b bt p pm N pool o : Nat) (M : Nat → Nat → Nat) (C : Nat → Nat) (Z : Nat → Bool) (root : Nat) (E : Nat → Nat → DV) (page : Nat) : Prop :=
  ∃ M' C' E', WL w' b (stps root E' page) ∧ TS W (fun i => X i ∨ i = b) w' bt p pm N pool o M' C' Z root E' ∧ NE root E' (fun _ _ => False) ∧ Ot Z M C M' C' ∧ Fr (Out W X) w w' ∧ (enG E' page).k = 3 ∧ lvG E' page = 3 ∧ (LR pool C C' E E' page ∧ w.heap.size ≤ b)
theorem TG.spl {M' : Nat → Nat → Nat} {C' : Nat → Nat} {E' : Nat → Nat → DV} {page : Nat} (h : TG M' C' pool Z root E') (s : SpL E E' (page / 512)) : (enG E' page).k = 3 ∧ lvG E' page = 3 ∧ enG E' page = pgOf (E 2 (page / 512)) (page % 512) := by
  have e := s 3 page (by omega)
  rw [if_neg (by omega), if_pos ⟨rfl, rfl⟩, h.lf3] at e
  have lv := h.where3 (page := page) (by rw [e]; show (3 : Int) ≠ 0; decide)
  have en : enG E' page = E' 3 page := by unfold enG; rw [lv, qn_three]
  rw [en, e]
  exact ⟨rfl, lv, rfl⟩
theorem TG.two2 (h : TG M C pool Z root E) {page : Nat} (hk : (enG E page).k = 2) : lvG E page = 2 := h.blk _ _ (lvG_le E page) hk
theorem TG.three3 (h : TG M C pool Z root E) {page : Nat} (hk : (enG E page).k = 3) : lvG E page = 3 := (h.ok _ _ (lvG_le E page)).parts.2.2.2.2.2.2.2.2.2.1 hk
set_option maxHeartbeats 4000000 in
theorem single_full (h : TS W X w bt p pm N pool o M C Z root E) (ne : NE root E (fun _ _ => False)) (page : Nat) (hp : page < 268435456) (ho : o < 3000000000000000000) (hk : (enG E page).k = 2) (sp : spR pool C ≠ 0) :
    Calls Tryz.prog 63 #[.pointer (some ⟨bt, 0, none⟩), .int .u64 (page : Int)] w fun e w' => e = .returned (.tuple #[.slice none 0 0, .int .i64 11]) ∧ AC W X w w' bt p pm N pool (o + 521) M C Z root C E := by
  have hl := h.tg.two2 hk
  have k1 := way_any h page hp (by omega)
  rw [decide_eq_true (by rw [hk]; decide), hl] at k1
  have hs : (stps root E page)[2]? = some (stp root E page 2) := stps_get (by omega)
  have hd : (stp root E page 2).d.k = 2 := by have := hk; unfold enG at this; rw [hl] at this; exact this
  have f1 := field_d (stp root E page 2)
  have f2 := field_k (stp root E page 2).d
  rw [hd] at f2
  have e11 : spR pool C = 11 := by
    unfold spR at sp ⊢
    by_cases c : cnt (fT pool C) pool = 0
    · rw [if_pos c]
    · rw [if_neg c] at sp; exact absurd rfl sp
  have KS : Aside (∀ v, TS W (fun i => X i ∨ i = w.heap.size) v bt p pm N pool (o + 4) M C Z root E → Fr (Out W X) w v → Calls Tryz.prog 76 #[.pointer (some ⟨bt, 0, none⟩), svV (stp root E page 2)] v fun e w' => e = .returned (.int .i64 11) ∧ Hid (AC W X w w' bt p pm N pool (o + 521) M C Z root C E)) := fun v tv fv => by
    have := split_any tv ne page hp (by omega) hk hl
    rw [e11] at this
    exact this.mono fun e w' ⟨e1, C', E', e2, e3, _⟩ => ⟨e1, by
      obtain ⟨rfl, rfl⟩ := e3 sp
      obtain ⟨M', q1, q2⟩ := e2.ts
      exact ⟨⟨M', (q1.le (by omega)).less (fun _ => .inl) h.xb, q2⟩, e2.ne, fv.trans (e2.fr.less fun _ => .inl)⟩⟩
  have HS : Hid ((stps root E page)[2]? = some (stp root E page 2)) := hs
  have K1 : Aside (Calls Tryz.prog 54 #[.pointer (some ⟨bt, 0, none⟩), .int .u64 (page : Int)] w fun e w' => e = .returned (.tuple #[.slice (some ⟨w.heap.size, 0, none⟩) 3 4, .bool true]) ∧ Hid (WL w' w.heap.size (stps root E page) ∧ TS W (fun i => X i ∨ i = w.heap.size) w' bt p pm N pool (o + 4) M C Z root E ∧ Fr (Out W X) w w')) := k1
  clear h ne hp ho hk hl k1 hs hd sp e11
  generalize stp root E page 2 = st at *
  generalize stps root E page = L at *
  generalize dvV st.d = dd at *
  go_enter Tryz.func63, Tryz.ntmps63
  go_wp2_with fail
  with_reducible refine K1.out.mono ?_
  rintro e w1 ⟨rfl, H1⟩
  have k2 := last_any H1.out.1 (by omega) HS.out
  clear K1
  go_wp2_with fail
  with_reducible refine k2.mono ?_
  rintro e w2 ⟨rfl, k3⟩
  have H2 : Hid (WL w2 w.heap.size L ∧ TS W (fun i => X i ∨ i = w.heap.size) w2 bt p pm N pool (o + 4) M C Z root E ∧ Fr (Out W X) w w2) := ⟨H1.out.1.kp k3, H1.out.2.1.kps k3, H1.out.2.2.trans (k3.fr _)⟩
  clear k2 k3 H1
  have k4 := last_any H2.out.1 (by omega) HS.out
  go_wp2_with fail
  with_reducible refine k4.mono ?_
  rintro e w3 ⟨rfl, k3⟩
  have k5 := KS.out w3 (H2.out.2.1.kps k3) (H2.out.2.2.trans (k3.fr _))
  clear k4 k3 H2 KS
  generalize svV st = sv at *
  go_wp2_with fail
  with_reducible refine k5.mono ?_
  rintro e w4 ⟨rfl, H4⟩
  clear k5
  go_wp2
  go_ret2
  exact ⟨rfl, H4.out⟩
set_option maxHeartbeats 4000000 in
theorem single_block (h : TS W X w bt p pm N pool o M C Z root E) (ne : NE root E (fun _ _ => False)) (page : Nat) (hp : page < 268435456) (ho : o < 3000000000000000000) (hk : (enG E page).k = 2) (sp : spR pool C = 0) :
    Calls Tryz.prog 63 #[.pointer (some ⟨bt, 0, none⟩), .int .u64 (page : Int)] w fun e w' => ∃ b, e = .returned (.tuple #[.slice (some ⟨b, 0, none⟩) 4 4, .int .i64 0]) ∧ SG W X w w' b bt p pm N pool (o + 521) M C Z root E page := by
  have hl := h.tg.two2 hk
  have k1 := way_any h page hp (by omega)
  rw [decide_eq_true (by rw [hk]; decide), hl] at k1
  have hs : (stps root E page)[2]? = some (stp root E page 2) := stps_get (by omega)
  have hd : (stp root E page 2).d.k = 2 := by have := hk; unfold enG at this; rw [hl] at this; exact this
  have f1 := field_d (stp root E page 2)
  have f2 := field_k (stp root E page 2).d
  rw [hd] at f2
  have KW : Aside (∀ v, (∃ C' E', AC W X w v bt p pm N pool (o + 517) M C Z root C' E' ∧ cnt (fT pool C') pool + 1 = cnt (fT pool C) pool ∧ SpL E E' (page / 512)) → Calls Tryz.prog 54 #[.pointer (some ⟨bt, 0, none⟩), .int .u64 (page : Int)] v fun e w' => e = .returned (.tuple #[.slice (some ⟨v.heap.size, 0, none⟩) 4 4, .bool true]) ∧ Hid (SG W X w w' v.heap.size bt p pm N pool (o + 521) M C Z root E page)) := fun v ⟨C', E', a1, a2, a3⟩ => by
    obtain ⟨M', q1, q2⟩ := a1.ts
    obtain ⟨g1, g2, g3⟩ := q1.tg.spl a3
    have := way_any q1 page hp (by omega)
    rw [decide_eq_true (by rw [g1]; decide), g2] at this
    exact this.mono fun e w' ⟨e1, e2, e3, e4⟩ => ⟨e1, M', C', E', e2, e3, a1.ne, q2, a1.fr.trans e4, g1, g2, .inr ⟨hk, a2, a3⟩, a1.fr.size⟩
  have KS : Aside (∀ v, TS W (fun i => X i ∨ i = w.heap.size) v bt p pm N pool (o + 4) M C Z root E → Fr (Out W X) w v → Calls Tryz.prog 76 #[.pointer (some ⟨bt, 0, none⟩), svV (stp root E page 2)] v fun e w' => e = .returned (.int .i64 0) ∧ Hid (∃ C' E', AC W X w w' bt p pm N pool (o + 517) M C Z root C' E' ∧ cnt (fT pool C') pool + 1 = cnt (fT pool C) pool ∧ SpL E E' (page / 512))) := fun v tv fv => by
    have := split_any tv ne page hp (by omega) hk hl
    rw [sp] at this
    exact this.mono fun e w' ⟨e1, C', E', e2, _, e4⟩ => ⟨e1, C', E', by
      obtain ⟨M', q1, q2⟩ := e2.ts
      exact ⟨⟨M', (q1.le (by omega)).less (fun _ => .inl) h.xb, q2⟩, e2.ne, fv.trans (e2.fr.less fun _ => .inl)⟩, e4 sp⟩
  have HS : Hid ((stps root E page)[2]? = some (stp root E page 2)) := hs
  have K1 : Aside (Calls Tryz.prog 54 #[.pointer (some ⟨bt, 0, none⟩), .int .u64 (page : Int)] w fun e w' => e = .returned (.tuple #[.slice (some ⟨w.heap.size, 0, none⟩) 3 4, .bool true]) ∧ Hid (WL w' w.heap.size (stps root E page) ∧ TS W (fun i => X i ∨ i = w.heap.size) w' bt p pm N pool (o + 4) M C Z root E ∧ Fr (Out W X) w w')) := k1
  clear h ne hp ho hk hl k1 hs hd sp
  generalize stp root E page 2 = st at *
  generalize stps root E page = L at *
  generalize dvV st.d = dd at *
  go_enter Tryz.func63, Tryz.ntmps63
  go_wp2_with fail
  with_reducible refine K1.out.mono ?_
  rintro e w1 ⟨rfl, H1⟩
  have k2 := last_any H1.out.1 (by omega) HS.out
  clear K1
  go_wp2_with fail
  with_reducible refine k2.mono ?_
  rintro e w2 ⟨rfl, k3⟩
  have H2 : Hid (WL w2 w.heap.size L ∧ TS W (fun i => X i ∨ i = w.heap.size) w2 bt p pm N pool (o + 4) M C Z root E ∧ Fr (Out W X) w w2) := ⟨H1.out.1.kp k3, H1.out.2.1.kps k3, H1.out.2.2.trans (k3.fr _)⟩
  clear k2 k3 H1
  have k4 := last_any H2.out.1 (by omega) HS.out
  go_wp2_with fail
  with_reducible refine k4.mono ?_
  rintro e w3 ⟨rfl, k3⟩
  have k5 := KS.out w3 (H2.out.2.1.kps k3) (H2.out.2.2.trans (k3.fr _))
  clear k4 k3 H2 KS
  generalize svV st = sv at *
  go_wp2_with fail
  with_reducible refine k5.mono ?_
  rintro e w4 ⟨rfl, H4⟩
  have k6 := KW.out w4 H4.out
  clear k5 KW H4
  go_wp2_with fail
  with_reducible refine k6.mono ?_
  rintro e w5 ⟨rfl, H5⟩
  clear k6
  go_wp2
  go_ret2
  exact ⟨_, rfl, H5.out⟩
/-- A single Page, where the pool suffices. -/
theorem single_ok (h : TS W X w bt p pm N pool o M C Z root E) (ne : NE root E (fun _ _ => False)) (page : Nat) (hp : page < 268435456) (ho : o < 3000000000000000000) (hk : (enG E page).k ≠ 0) (sp : (enG E page).k = 2 → spR pool C = 0) :
    Calls Tryz.prog 63 #[.pointer (some ⟨bt, 0, none⟩), .int .u64 (page : Int)] w fun e w' => ∃ b, e = .returned (.tuple #[.slice (some ⟨b, 0, none⟩) 4 4, .int .i64 0]) ∧ SG W X w w' b bt p pm N pool (o + 521) M C Z root E page := by
  by_cases c : (enG E page).k = 2
  · exact single_block h ne page hp ho c (sp c)
  · have k3 : (enG E page).k = 3 := by
      have a := (h.tg.ok _ (qn page (lvG E page)) (lvG_le E page)).parts
      have b := h.tg.last page
      unfold enG at *
      omega
    have hl := h.tg.three3 k3
    exact (single_page h page hp (by omega) k3 hl).mono fun e w' ⟨e1, e2, e3, e4⟩ => ⟨_, e1, M, C, E, e2, e3.le (by omega), ne, Ot.refl _ _ _, e4, k3, hl, .inl ⟨k3, rfl, rfl⟩, Nat.le_refl _⟩
end
end Go.Proofs.YtanlcmdnhhdhaaaGreatDoor

/- stage2: Unmap, all of it; Split. -/
namespace Go.Proofs.YtanlcmdnhhdhaaaGreatDoor
open Go.RowKit
set_option maxRecDepth 10000

section
variable {W w w' : World} {X Y : Nat → Prop} {bt p pm N pool o : Nat} {M : Nat → Nat → Nat} {C : Nat → Nat} {Z : Nat → Bool} {root : Nat} {E : Nat → Nat → DV}
/-- What Unmap leaves: the page's way is single (C1, E1), then the page goes. -/
def UnO (W : World) (X : Nat → Prop) (w w' : World) (bt p pm N pool o : Nat) (M : Nat → Nat → Nat) (C : Nat → Nat) (Z : Nat → Bool) (root : Nat) (E : Nat → Nat → DV) (page : Nat) (C1 : Nat → Nat) (E1 : Nat → Nat → DV) : Prop :=
  ∃ C' E', AC W X w w' bt p pm N pool (o + 525) M C Z root C' E' ∧ LR pool C C1 E E1 page ∧ (∀ l j, l ≤ 3 → lfD E' l j = if l = 3 ∧ j = page then dN else lfD E1 l j) ∧ ∃ M1, TG M1 C1 pool Z root E1
set_option maxHeartbeats 4000000 in
theorem unmap_ok (h : TS W X w bt p pm N pool o M C Z root E) (ne : NE root E (fun _ _ => False)) (page : Nat) (hp : page < 268435456) (ho : o < 2000000000000000000) (hk : (enG E page).k ≠ 0) (sp : (enG E page).k = 2 → spR pool C = 0) :
    Calls Tryz.prog 23 #[.pointer (some ⟨bt, 0, none⟩), .int .u64 (page : Int)] w fun e w' => ∃ C1 E1, e = .returned (.tuple #[.int .i64 (((enG E1 page).a / 4096 : Nat) : Int), .int .i64 0]) ∧ UnO W X w w' bt p pm N pool o M C Z root E page C1 E1 := by
  have k1 := single_ok h ne page hp (by omega) hk sp
  have xb := h.xb
  have KK : Aside (∀ (v : World) (b : Nat) (M1 : Nat → Nat → Nat) (C1 : Nat → Nat) (E1 : Nat → Nat → DV), WL v b (stps root E1 page) → TS W (fun i => X i ∨ i = b) v bt p pm N pool (o + 521) M1 C1 Z root E1 → NE root E1 (fun _ _ => False) → Ot Z M C M1 C1 → Fr (Out W X) w v → lvG E1 page = 3 → LR pool C C1 E E1 page → Calls Tryz.prog 64 #[.pointer (some ⟨bt, 0, none⟩), .slice (some ⟨b, 0, none⟩) 4 4] v fun e w' => e = .returned (.tuple #[]) ∧ Hid (UnO W X w w' bt p pm N pool o M C Z root E page C1 E1 ∧ WL w' b (stps root E1 page))) := fun v b M1 C1 E1 a1 a2 a3 a4 a5 a6 a7 => (clear_any a2 a3 page b hp (by omega) a6 a1 (.inr rfl)).mono fun e w' ⟨e1, ⟨C', E', e2, e3⟩, e4⟩ => ⟨e1, ⟨C', E', ⟨by obtain ⟨M', q1, q2⟩ := e2.ts; exact ⟨M', (q1.less (fun _ => .inl) xb).le (by omega), a4.trans q2⟩, e2.ne, a5.trans (e2.fr.less fun _ => .inl)⟩, a7, e3, M1, a2.tg⟩, e4⟩
  clear h ne hp ho hk sp
  go_enter Tryz.func23, Tryz.ntmps23
  go_wp2_with fail
  with_reducible refine k1.mono ?_
  rintro e w1 ⟨b, rfl, M1, C1, E1, l1, t1, n1, o1, r1, hk, hl, lr, hb⟩
  have hs : (stps root E1 page)[3]? = some (stp root E1 page 3) := stps_get (by omega)
  have hd : (stp root E1 page 3).d.a = (enG E1 page).a := by unfold enG; rw [hl]; rfl
  have ha : (enG E1 page).a < 18446744073709551616 := by
    have := (t1.tg.ok (lvG E1 page) (qn page (lvG E1 page)) (lvG_le _ _)).parts.2.2.2.2.2.2.1
    unfold enG; omega
  have f1 := field_d (stp root E1 page 3)
  have f2 := field_a (stp root E1 page 3).d
  rw [hd] at f2
  have kf := fun v => frameOf_any (enG E1 page).a v ha
  have HS : Hid ((stps root E1 page)[3]? = some (stp root E1 page 3)) := hs
  have kc := KK.out w1 b M1 C1 E1 l1 t1 n1 o1 r1 hl lr
  clear k1 KK l1 t1 n1 o1 r1 hk hl lr hb hs hd ha
  generalize stp root E1 page 3 = st at *
  generalize stps root E1 page = L at *
  generalize dvV st.d = dd at *
  obtain ⟨fa, hfa⟩ : ∃ fa, fa = (enG E1 page).a := ⟨_, rfl⟩
  rw [← hfa] at f2
  rw [← hfa] at kf
  have HF : Hid ((enG E1 page).a = fa) := hfa.symm
  clear hfa
  go_wp2_with fail
  with_reducible refine kc.mono ?_
  rintro e w2 ⟨rfl, H2⟩
  have k2 := last_any H2.out.2 (by omega) HS.out
  clear kc
  go_wp2_with fail
  with_reducible refine k2.mono ?_
  rintro e w3 ⟨rfl, k3⟩
  have H3 : Hid (UnO W X w w3 bt p pm N pool o M C Z root E page C1 E1) := by
    obtain ⟨C', E', e2, e3⟩ := H2.out.1
    obtain ⟨M', q1, q2⟩ := e2.ts
    exact ⟨C', E', ⟨⟨M', q1.kps k3, q2⟩, e2.ne, e2.fr.trans (k3.fr _)⟩, e3⟩
  clear k2 k3 H2
  go_wp2_with (go_at_call 65; with_reducible refine (kf _).mono ?_; rintro _ w' ⟨rfl, rfl⟩)
  go_ret2
  exact ⟨C1, E1, by rw [HF.out]; rfl, H3.out⟩
set_option maxHeartbeats 4000000 in
theorem unmap_full (h : TS W X w bt p pm N pool o M C Z root E) (ne : NE root E (fun _ _ => False)) (page : Nat) (hp : page < 268435456) (ho : o < 2000000000000000000) (hk : (enG E page).k = 2) (sp : spR pool C ≠ 0) :
    Calls Tryz.prog 23 #[.pointer (some ⟨bt, 0, none⟩), .int .u64 (page : Int)] w fun e w' => e = .returned (.tuple #[.int .i64 0, .int .i64 11]) ∧ AC W X w w' bt p pm N pool (o + 525) M C Z root C E := by
  have k1 : Calls Tryz.prog 63 #[.pointer (some ⟨bt, 0, none⟩), .int .u64 (page : Int)] w fun e w' => e = .returned (.tuple #[.slice none 0 0, .int .i64 11]) ∧ Hid (AC W X w w' bt p pm N pool (o + 525) M C Z root C E) := (single_full h ne page hp (by omega) hk sp).mono fun e w' ⟨e1, e2⟩ => ⟨e1, by
    obtain ⟨M', q1, q2⟩ := e2.ts
    exact ⟨⟨M', q1.le (by omega), q2⟩, e2.ne, e2.fr⟩⟩
  clear h ne hp ho hk sp
  go_enter Tryz.func23, Tryz.ntmps23
  go_wp2_with fail
  with_reducible refine k1.mono ?_
  rintro e w1 ⟨rfl, H1⟩
  clear k1
  go_wp2
  go_ret2
  exact ⟨rfl, H1.out⟩
set_option maxHeartbeats 4000000 in
theorem unmap_no (h : TS W X w bt p pm N pool o M C Z root E) (ne : NE root E (fun _ _ => False)) (page : Nat) (hp : page < 268435456) (ho : o < 2000000000000000000) (hk : (enG E page).k = 0) :
    Calls Tryz.prog 23 #[.pointer (some ⟨bt, 0, none⟩), .int .u64 (page : Int)] w fun e w' => e = .returned (.tuple #[.int .i64 0, .int .i64 23]) ∧ AC W X w w' bt p pm N pool (o + 525) M C Z root C E := by
  have k1 : Calls Tryz.prog 63 #[.pointer (some ⟨bt, 0, none⟩), .int .u64 (page : Int)] w fun e w' => e = .returned (.tuple #[.slice none 0 0, .int .i64 23]) ∧ Hid (AC W X w w' bt p pm N pool (o + 525) M C Z root C E) := (single_none h page hp (by omega) hk).mono fun e w' ⟨e1, e2, e3⟩ => ⟨e1, AC.same ne e2 (by omega) e3⟩
  clear h ne hp ho hk
  go_enter Tryz.func23, Tryz.ntmps23
  go_wp2_with fail
  with_reducible refine k1.mono ?_
  rintro e w1 ⟨rfl, H1⟩
  clear k1
  go_wp2
  go_ret2
  exact ⟨rfl, H1.out⟩
/-- What Split tells. -/
def splR (pool : Nat) (C : Nat → Nat) (E : Nat → Nat → DV) (page : Nat) : Int := if (enG E page).k = 0 then 23 else if (enG E page).k = 3 then 20 else spR pool C
set_option maxHeartbeats 4000000 in
theorem tsplit_none (h : TS W X w bt p pm N pool o M C Z root E) (ne : NE root E (fun _ _ => False)) (page : Nat) (hp : page < 268435456) (ho : o < 2000000000000000000) (hk : (enG E page).k = 0) :
    Calls Tryz.prog 36 #[.pointer (some ⟨bt, 0, none⟩), .int .u64 (page : Int)] w fun e w' => e = .returned (.int .i64 23) ∧ AC W X w w' bt p pm N pool (o + 517) M C Z root C E := by
  have k1 := way_any h page hp (by omega)
  rw [decide_eq_false (by simpa using hk)] at k1
  have HX : Hid (X bt ∧ NE root E (fun _ _ => False)) := ⟨h.xb, ne⟩
  clear h ne hp ho hk
  generalize stps root E page = L at *
  generalize lvG E page = l at *
  go_enter Tryz.func36, Tryz.ntmps36
  go_wp2_with fail
  with_reducible refine k1.mono ?_
  rintro e w1 ⟨rfl, _, t1, r1⟩
  have H1 : Hid (AC W X w w1 bt p pm N pool (o + 517) M C Z root C E) := AC.same HX.out.2 (t1.less (fun _ => .inl) HX.out.1) (by omega) r1
  clear k1 t1 r1
  go_wp2
  go_ret
  exact ⟨rfl, H1.out⟩
set_option maxHeartbeats 4000000 in
theorem tsplit_some (h : TS W X w bt p pm N pool o M C Z root E) (page l : Nat) (rr : Int) (Q : World → Prop) (hp : page < 268435456) (ho : o < 2000000000000000000) (hk : (enG E page).k ≠ 0) (hl : lvG E page = l)
    (KS : Aside (∀ v, TS W (fun i => X i ∨ i = w.heap.size) v bt p pm N pool (o + 4) M C Z root E → Fr (Out W X) w v → Calls Tryz.prog 76 #[.pointer (some ⟨bt, 0, none⟩), svV (stp root E page l)] v fun e w' => e = .returned (.int .i64 rr) ∧ Hid (Q w'))) :
    Calls Tryz.prog 36 #[.pointer (some ⟨bt, 0, none⟩), .int .u64 (page : Int)] w fun e w' => e = .returned (.int .i64 rr) ∧ Q w' := by
  have k1 := way_any h page hp (by omega)
  rw [decide_eq_true hk, hl] at k1
  have hs : (stps root E page)[l]? = some (stp root E page l) := stps_get (by omega)
  have HS : Hid ((stps root E page)[l]? = some (stp root E page l) ∧ l ≤ 3) := ⟨hs, by rw [← hl]; exact lvG_le _ _⟩
  have K1 : Aside (Calls Tryz.prog 54 #[.pointer (some ⟨bt, 0, none⟩), .int .u64 (page : Int)] w fun e w' => e = .returned (.tuple #[.slice (some ⟨w.heap.size, 0, none⟩) (l + 1) 4, .bool true]) ∧ Hid (WL w' w.heap.size (stps root E page) ∧ TS W (fun i => X i ∨ i = w.heap.size) w' bt p pm N pool (o + 4) M C Z root E ∧ Fr (Out W X) w w')) := k1
  clear h hp ho hk hl k1 hs
  generalize stp root E page l = st at *
  generalize stps root E page = L at *
  go_enter Tryz.func36, Tryz.ntmps36
  go_wp2_with fail
  with_reducible refine K1.out.mono ?_
  rintro e w1 ⟨rfl, H1⟩
  have k2 := last_any H1.out.1 HS.out.2 HS.out.1
  clear K1
  go_wp2_with fail
  with_reducible refine k2.mono ?_
  rintro e w2 ⟨rfl, k3⟩
  have k5 := KS.out w2 (H1.out.2.1.kps k3) (H1.out.2.2.trans (k3.fr _))
  clear k2 k3 H1 KS
  generalize svV st = sv at *
  go_wp2_with fail
  with_reducible refine k5.mono ?_
  rintro e w4 ⟨rfl, H4⟩
  clear k5
  go_wp2
  go_ret
  exact ⟨rfl, H4.out⟩
theorem tsplit_any (h : TS W X w bt p pm N pool o M C Z root E) (ne : NE root E (fun _ _ => False)) (page : Nat) (hp : page < 268435456) (ho : o < 2000000000000000000) :
    Calls Tryz.prog 36 #[.pointer (some ⟨bt, 0, none⟩), .int .u64 (page : Int)] w fun e w' => e = .returned (.int .i64 (splR pool C E page)) ∧ ∃ C' E', AC W X w w' bt p pm N pool (o + 517) M C Z root C' E' ∧ (splR pool C E page ≠ 0 → C' = C ∧ E' = E) ∧ (splR pool C E page = 0 → cnt (fT pool C') pool + 1 = cnt (fT pool C) pool ∧ SpL E E' (page / 512)) := by
  unfold splR
  by_cases c0 : (enG E page).k = 0
  · rw [if_pos c0]
    exact (tsplit_none h ne page hp ho c0).mono fun e w' ⟨e1, e2⟩ => ⟨e1, C, E, e2, fun _ => ⟨rfl, rfl⟩, fun c => by cases c⟩
  · rw [if_neg c0]
    by_cases c3 : (enG E page).k = 3
    · rw [if_pos c3]
      have hl := h.tg.three3 c3
      refine (tsplit_some h page 3 20 (fun w' => AC W X w w' bt p pm N pool (o + 517) M C Z root C E) hp ho c0 hl (fun v tv fv => ?_)).mono fun e w' ⟨e1, e2⟩ => ⟨e1, C, E, e2, fun _ => ⟨rfl, rfl⟩, fun c => by cases c⟩
      exact (split_state bt (stp root E page 3) v (by show (3 : Nat) ≠ 2; decide) (by show (3 : Nat) ≤ 3; decide)).mono fun e w' ⟨e1, e2⟩ => ⟨e1, AC.same ne ((tv.kps e2).less (fun _ => .inl) h.xb) (by omega) (fv.trans (e2.fr _))⟩
    · rw [if_neg c3]
      have k2 : (enG E page).k = 2 := by
        have a := (h.tg.ok _ (qn page (lvG E page)) (lvG_le E page)).parts
        have b := h.tg.last page
        unfold enG at *
        omega
      have hl := h.tg.two2 k2
      refine tsplit_some h page 2 (spR pool C) (fun w' => ∃ C' E', AC W X w w' bt p pm N pool (o + 517) M C Z root C' E' ∧ (spR pool C ≠ 0 → C' = C ∧ E' = E) ∧ (spR pool C = 0 → cnt (fT pool C') pool + 1 = cnt (fT pool C) pool ∧ SpL E E' (page / 512))) hp ho c0 hl (fun v tv fv => ?_)
      exact (split_any tv ne page hp (by omega) k2 hl).mono fun e w' ⟨e1, C', E', e2, e3, e4⟩ => ⟨e1, C', E', by
        obtain ⟨M', q1, q2⟩ := e2.ts
        exact ⟨⟨M', (q1.le (by omega)).less (fun _ => .inl) h.xb, q2⟩, e2.ne, fv.trans (e2.fr.less fun _ => .inl)⟩, e3, e4⟩
end
end Go.Proofs.YtanlcmdnhhdhaaaGreatDoor

/- stage2: Protect. -/
namespace Go.Proofs.YtanlcmdnhhdhaaaGreatDoor
open Go.RowKit
set_option maxRecDepth 10000

section
variable {W w w' : World} {X Y : Nat → Prop} {bt p pm N pool o : Nat} {M : Nat → Nat → Nat} {C : Nat → Nat} {Z : Nat → Bool} {root : Nat} {E : Nat → Nat → DV}
theorem ne_relaid (ne : NE root E (fun _ _ => False)) {page : Nat} {d : DV} (hd : d.k ≠ 0) : NE root (hang E 3 page d (fun _ => dN)) (fun _ _ => False) := by
  intro a b x h1 h2 _ h4
  have e : tbl root (hang E 3 page d (fun _ => dN)) a b = tbl root E a b := by
    cases a with
    | zero => rfl
    | succ m => rw [tbl_succ, tbl_succ, hang_out _ _ _ _ _ (by omega) (by omega)]
  rw [e] at h4
  obtain ⟨i, hi, hk⟩ := ne a b x h1 h2 id h4
  refine ⟨i, hi, ?_⟩
  by_cases c : a = 3 ∧ 512 * b + i = page
  · obtain ⟨rfl, rfl⟩ := c
    rw [hang_at]
    exact hd
  · rw [hang_out _ _ _ _ _ c (by omega)]
    exact hk
/-- A Page becomes another Page. -/
theorem put_page (h : TS W X w bt p pm N pool o M C Z root E) (ne : NE root E (fun _ _ => False)) (page : Nat) (d : DV) (hp : page < 268435456) (ho : o < 4611686018427387904) (hl : lvG E page = 3) (ok : okD 3 d) (hd : d.k = 3) :
    Calls Tryz.prog 75 #[.pointer (some ⟨bt, 0, none⟩), .int .u64 ((stp root E page 3).p : Int), .int .i64 3, dvV d] w fun e w' => e = .returned (.tuple #[]) ∧ ∃ E', AC W X w w' bt p pm N pool (o + 1) M C Z root C E' ∧ ∀ a b, a ≤ 3 → lfD E' a b = if a = 3 ∧ b = page then d else lfD E a b := by
  have hn := h.fw.nums
  obtain ⟨x, hx, ex, lx⟩ := h.tg.tab hp (l := 3) (by omega)
  rw [qn_three] at hx ex
  have k1 : (E 3 page).k ≠ 1 := fun c => by have := (h.tg.ok 3 page (by omega)).parts.2.2.2.2.2.2.2.1 c; omega
  have d1 : d.k ≠ 1 := by rw [hd]; decide
  have mx := h.tg.mine 3 _ x (by omega) hx
  have g1 : TG (updM M x (page % 512) (wdD d)) C pool Z root (hang E 3 page d (fun _ => dN)) := h.tg.leaf (by omega) k1 d1 ok (fun c => by rw [hd] at c; cases c) (fun c => by omega) hx (by unfold updM; rw [if_pos ⟨rfl, rfl⟩]) (fun y i _ hn => by unfold updM; rw [if_neg hn])
  have e : (stp root E page 3).p = x * 4096 + 8 * (page % 512) := by
    show tbX root E 3 (qn page 3 / 512) * 4096 + 8 * (qn page 3 % 512) = _
    rw [qn_three, ex]
  rw [e]
  exact (put_any h.ft x (page % 512) 3 d (by omega) (Nat.mod_lt _ (by decide)) ok ho).mono fun e w' ⟨e1, e2, e3⟩ => ⟨e1, _, ⟨⟨_, e2.ts g1, fun z hz => ⟨fun i _ => (by unfold updM; rw [if_neg]; rintro ⟨rfl, _⟩; rw [mx.2.2] at hz; cases hz), rfl⟩⟩, ne_relaid ne (by rw [hd]; decide), e3⟩, fun a b ha => lf_leaf h.tg (by omega) k1 d1 a b ha⟩
/-- Its permission and its mark are these. -/
def same4 (d : DV) (r q x : Bool) (s : Int) : Bool := samP d.r d.q d.x r q x && (d.f == s)
/-- What Protect leaves. -/
def PrO (W : World) (X : Nat → Prop) (w w' : World) (bt p pm N pool o : Nat) (M : Nat → Nat → Nat) (C : Nat → Nat) (Z : Nat → Bool) (root : Nat) (E : Nat → Nat → DV) (page : Nat) (r q x : Bool) (s : Int) : Prop :=
  ∃ C' E1 E', AC W X w w' bt p pm N pool (o + 526) M C Z root C' E' ∧ LR pool C C' E E1 page ∧ (∀ a b, a ≤ 3 → lfD E' a b = if a = 3 ∧ b = page then ⟨3, (enG E1 page).a, r, q, x, s⟩ else lfD E1 a b) ∧ ∃ M1, TG M1 C' pool Z root E1
theorem PX.fr {S : Nat → Prop} {b : Nat} {r q x : Bool} (h : PX w b r q x) (k : Fr S w w') (hS : ¬ S b) : PX w' b r q x := (k.block b h.lt hS).trans h
set_option maxHeartbeats 4000000 in
theorem protect_ok (h : TS W X w bt p pm N pool o M C Z root E) (ne : NE root E (fun _ _ => False)) (page : Nat) (r q x : Bool) (s : Int) (hp : page < 268435456) (ho : o < 2000000000000000000) (hc : canB r q s = true) (hk : (enG E page).k ≠ 0) (hns : same4 (enG E page) r q x s = false) (sp : (enG E page).k = 2 → spR pool C = 0) :
    Calls Tryz.prog 34 #[.pointer (some ⟨bt, 0, none⟩), .int .u64 (page : Int), .agg #[.bool r, .bool q, .bool x], .int .i64 s] w fun e w' => e = .returned (.int .i64 0) ∧ PrO W X w w' bt p pm N pool o M C Z root E page r q x s := by
  have h0 : ∀ ob, TS W (fun i => X i ∨ i = w.heap.size) (w.alloc ob) bt p pm N pool o M C Z root E := fun ob => h.more ((Kp.refl w).alloc ob) w.heap.size (Nat.le_refl _) (by simp)
  have c0 := fun ob => (h0 ob).tx.c0
  have KW : Aside (∀ v, TS W (fun i => X i ∨ i = w.heap.size) v bt p pm N pool o M C Z root E → Calls Tryz.prog 54 #[.pointer (some ⟨bt, 0, none⟩), .int .u64 (page : Int)] v fun e w' => e = .returned (.tuple #[.slice (some ⟨v.heap.size, 0, none⟩) (lvG E page + 1) 4, .bool true]) ∧ Hid (WL w' v.heap.size (stps root E page) ∧ TS W (fun i => X i ∨ i = w.heap.size) w' bt p pm N pool (o + 4) M C Z root E ∧ Fr (Out W (fun i => X i ∨ i = w.heap.size)) v w')) := fun v hv => by
    have := way_any hv page hp (by omega)
    rw [decide_eq_true hk] at this
    exact this.mono fun e w' ⟨e1, e2, e3, e4⟩ => ⟨e1, e2, e3.less (fun _ => .inl) hv.xb, e4⟩
  have KG : Aside (∀ v, TS W (fun i => X i ∨ i = w.heap.size) v bt p pm N pool (o + 4) M C Z root E → Calls Tryz.prog 63 #[.pointer (some ⟨bt, 0, none⟩), .int .u64 (page : Int)] v fun e w' => ∃ b, e = .returned (.tuple #[.slice (some ⟨b, 0, none⟩) 4 4, .int .i64 0]) ∧ Hid (SG W (fun i => X i ∨ i = w.heap.size) v w' b bt p pm N pool (o + 4 + 521) M C Z root E page)) := fun v hv => single_ok hv ne page hp (by omega) hk sp
  have KC : Aside (∀ v, Calls Tryz.prog 61 #[.agg #[.bool r, .bool q, .bool x], .int .i64 s] v fun e w' => e = .returned (.bool true) ∧ Kp v w') := fun v => by
    have := canBe_any r q x s v
    rw [hc] at this
    exact this
  have hc' : (q = true → r = true) ∧ 0 ≤ s ∧ s ≤ 15 := by
    unfold canB at hc
    simp at hc
    refine ⟨fun e => ?_, hc.1.2, hc.2⟩
    rcases hc.1.1 with c | c
    · exact c
    · rw [c] at e; cases e
  have xb := h.xb
  have xl := h.fw.xlt
  have KP : Aside (∀ (v : World) (M1 : Nat → Nat → Nat) (C1 : Nat → Nat) (E1 : Nat → Nat → DV), TS W (fun i => X i ∨ i = w.heap.size) v bt p pm N pool (o + 4 + 521) M1 C1 Z root E1 → NE root E1 (fun _ _ => False) → Ot Z M C M1 C1 → Fr (Out W X) w v → lvG E1 page = 3 → LR pool C C1 E E1 page → Calls Tryz.prog 75 #[.pointer (some ⟨bt, 0, none⟩), .int .u64 ((stp root E1 page 3).p : Int), .int .i64 3, .agg #[.int .i64 3, .int .u64 ((stp root E1 page 3).d.a : Int), .bool r, .bool q, .bool x, .int .i64 s]] v fun e w' => e = .returned (.tuple #[]) ∧ Hid (PrO W X w w' bt p pm N pool o M C Z root E page r q x s)) := fun v M1 C1 E1 a1 a2 a3 a4 a5 a6 => by
    have hd : (stp root E1 page 3).d.a = (enG E1 page).a := by unfold enG; rw [a5]; rfl
    have pr := (a1.tg.ok 3 (qn page 3) (by omega)).parts
    have e3 : (enG E1 page) = E1 3 (qn page 3) := by unfold enG; rw [a5]
    have ok : okD 3 ⟨3, (enG E1 page).a, r, q, x, s⟩ := by
      have := okD_page (x := (enG E1 page).a / 4096) (r := r) (q := q) (e := x) (f := s) (by rw [e3]; omega) hc'.1 hc'.2.1 hc'.2.2
      rw [show (enG E1 page).a / 4096 * 4096 = (enG E1 page).a by rw [e3]; omega] at this
      exact this
    rw [hd]
    exact (put_page a1 a2 page ⟨3, (enG E1 page).a, r, q, x, s⟩ hp (by omega) a5 ok rfl).mono fun e w' ⟨e1, E', e2, e4⟩ => ⟨e1, C1, E1, E', ⟨by obtain ⟨M', q1, q2⟩ := e2.ts; exact ⟨M', (q1.less (fun _ => .inl) xb).le (by omega), a3.trans q2⟩, e2.ne, a4.trans (e2.fr.less fun _ => .inl)⟩, a6, e4, M1, a1.tg⟩
  have hs := stps_get (root := root) (E := E) (p := page) (Nat.le_refl _)
  have HS : Hid ((stps root E page)[lvG E page]? = some (stp root E page (lvG E page)) ∧ lvG E page ≤ 3) := ⟨hs, lvG_le E page⟩
  have hst : (stp root E page (lvG E page)).d = enG E page := rfl
  have q0 := eql_frames p
  have HH : Hid ((∀ ob, TS W (fun i => X i ∨ i = w.heap.size) (w.alloc ob) bt p pm N pool o M C Z root E) ∧ X bt) := ⟨h0, xb⟩
  clear h ne hp ho hc hk sp h0 hc' hs xb xl
  generalize stp root E page (lvG E page) = st at *
  generalize stps root E page = L at *
  generalize lvG E page = lv at *
  rw [← hst] at hns
  clear hst
  obtain ⟨sl, spp, su, sk, sa, sr, sq, sx, sf⟩ := st
  have f1 := field_d ⟨sl, spp, su, sk, sa, sr, sq, sx, sf⟩
  simp only [svV, dvV] at f1
  unfold same4 at hns
  simp only at hns
  have hq := eq_permP sr sq sx r q x
  generalize samP sr sq sx r q x = D at *
  have hcase : D = false ∨ (D = true ∧ (sf == s) = false) := by
    cases D
    · exact .inl rfl
    · exact .inr ⟨rfl, by simpa using hns⟩
  clear hns
  go_enter Tryz.func34, Tryz.ntmps34
  go_wp2_with fail
  with_reducible refine (KC.out _).mono ?_
  rintro e w1 ⟨rfl, K1⟩
  have T1 := (HH.out.1 (.cells #[.bool r, .bool q, .bool x] 39)).kps K1
  have P1 : PX w1 w.heap.size r q x := (PX.made w r q x).kp K1
  have F1 : Fr (Out W X) w w1 := (((Kp.refl w).alloc _).trans K1).fr _
  have kw := KW.out w1 T1
  have H1 : Hid (PX w1 w.heap.size r q x ∧ Fr (Out W X) w w1) := ⟨P1, F1⟩
  clear KC K1 T1 P1 F1 KW c0
  go_wp2_with fail
  with_reducible refine kw.mono ?_
  rintro e w2 ⟨rfl, H2⟩
  have k2 := last_any H2.out.1 HS.out.2 HS.out.1
  have H2' : Hid (TS W (fun i => X i ∨ i = w.heap.size) w2 bt p pm N pool (o + 4) M C Z root E ∧ Fr (Out W X) w w2 ∧ PX w2 w.heap.size r q x) := ⟨H2.out.2.1, H1.out.2.trans (H2.out.2.2.less fun _ => .inl), H1.out.1.fr H2.out.2.2 (fun c => c.2 (.inr rfl))⟩
  simp only [svV] at k2
  clear kw H1 H2 HS
  go_wp2_with fail
  with_reducible refine k2.mono ?_
  rintro e w3 ⟨rfl, k3⟩
  have H3 : Hid (TS W (fun i => X i ∨ i = w.heap.size) w3 bt p pm N pool (o + 4) M C Z root E ∧ Fr (Out W X) w w3 ∧ PX w3 w.heap.size r q x) := ⟨H2'.out.1.kps k3, H2'.out.2.1.trans (k3.fr _), H2'.out.2.2.kp k3⟩
  have p0 := fun ob => (H3.out.2.2.kp ((Kp.refl w3).alloc ob)).c0
  have p1 := fun ob => (H3.out.2.2.kp ((Kp.refl w3).alloc ob)).c1
  have p2 := fun ob => (H3.out.2.2.kp ((Kp.refl w3).alloc ob)).c2
  have kg := fun ob => KG.out (w3.alloc ob) (H3.out.1.kps ((Kp.refl w3).alloc ob))
  clear k2 k3 H2' KG
  rcases hcase with rfl | ⟨rfl, hf⟩
  all_goals
    go_wp2_with fail
    with_reducible refine (kg _).mono ?_
    rintro e w4 ⟨b, rfl, G⟩
    obtain ⟨M1, C1, E1, l1, t1, n1, o1, r1, hk1, hl1, lr, hb⟩ := G.out
    have hs1 : (stps root E1 page)[3]? = some (stp root E1 page 3) := stps_get (by omega)
    have kl := last_any l1 (by omega) hs1
    have P4 : PX w4 w.heap.size r q x := (H3.out.2.2.kp ((Kp.refl w3).alloc _)).fr r1 (fun c => c.2 (.inr rfl))
    have F4 : Fr (Out W X) w w4 := (H3.out.2.1.trans (((Kp.refl w3).alloc _).fr _)).trans (r1.less fun _ => .inl)
    have T4 := t1.less (X := fun i => X i ∨ i = w.heap.size) (fun _ => .inl) (.inl HH.out.2)
    have kput := fun v (kv : Kp w4 v) => KP.out v M1 C1 E1 (T4.kps kv) n1 o1 (F4.trans (kv.fr _)) hl1 lr
    have e3 : (stp root E1 page 3).l = 3 := rfl
    have HP : Hid (PX w4 w.heap.size r q x) := P4
    clear kg KP G l1 t1 n1 o1 r1 hk1 hl1 lr hb hs1 P4 F4 T4 H3 p0 p1 p2 HH f1 hq q0
    generalize stp root E1 page 3 = st1 at *
    obtain ⟨tl, tp, tu, tk, ta, tr, tq, tx, tf⟩ := st1
    simp only at e3 kput
    subst e3
    simp only [svV] at kl
    rw [show ((3 : Nat) : Int) = 3 from rfl] at kl
    go_wp2_with fail
    with_reducible refine kl.mono ?_
    rintro e w5 ⟨rfl, k5⟩
    have p0 := fun ob => ((HP.out.kp k5).kp ((Kp.refl w5).alloc ob)).c0
    have p1 := fun ob => ((HP.out.kp k5).kp ((Kp.refl w5).alloc ob)).c1
    have p2 := fun ob => ((HP.out.kp k5).kp ((Kp.refl w5).alloc ob)).c2
    have kq := fun ob => kput (w5.alloc ob) (k5.trans ((Kp.refl w5).alloc ob))
    clear kl kput k5
    go_wp2_with fail
    with_reducible refine (kq _).mono ?_
    rintro e w6 ⟨rfl, H6⟩
    clear kq
    go_wp2
    go_ret
    exact ⟨rfl, H6.out⟩
end
end Go.Proofs.YtanlcmdnhhdhaaaGreatDoor
