/- Joined: R36, R37. -/
import Derived.Test.YtanlcmdnhhdhaaaGreatDoorJ24
/- stage2: a split, as it is meant; a Block's single Page. -/
namespace Go.Proofs.YtanlcmdnhhdhaaaGreatDoor
open Go.RowKit
set_option maxRecDepth 10000

theorem okD.block {d : DV} (h : okD 2 d) (hk : d.k = 2) : d.a % 2097152 = 0 := by
  obtain ⟨_, _, _, _, _, h6⟩ := chk_ok h
  rw [hk] at h6
  have e : unitN ((2 : Nat) : Int) 2 = 2097152 := by decide
  rw [e] at h6
  exact h6
theorem okD.pages {d : DV} (h : okD 2 d) (hk : d.k = 2) {j : Nat} (hj : j < 512) : okD 3 (pgOf d j) := by
  obtain ⟨_, _, _, h4, h5, _, h7, _, _, _, h11⟩ := h.parts
  have h8 := h.block hk
  have := okD_page (x := d.a / 4096 + j) (r := d.r) (q := d.q) (e := d.x) (f := d.f) (by omega) h11 h4 h5
  rw [show (d.a / 4096 + j) * 4096 = d.a + j * 4096 by omega] at this
  exact this
/-- What a split makes of the leaves. -/
def SpL (E E' : Nat → Nat → DV) (j : Nat) : Prop := ∀ a b, a ≤ 3 → lfD E' a b = if a = 2 ∧ b = j then dN else if a = 3 ∧ b / 512 = j then pgOf (E 2 j) (b % 512) else lfD E a b
section
variable {M : Nat → Nat → Nat} {C : Nat → Nat} {pool root : Nat} {Z : Nat → Bool} {E : Nat → Nat → DV}
theorem TG.split (h : TG M C pool Z root E) (hpo : pool ≤ 1048576) {j x y : Nat} (hk : (E 2 j).k = 2) (hx : tbl root E 2 (j / 512) = some x) (hy : y < pool) (hC : C y = 0) :
    TG (splM M x (j % 512) y (E 2 j)) (putC C y 1) pool Z root (hang E 2 j (dT y) (pgOf (E 2 j))) ∧ Ot Z M C (splM M x (j % 512) y (E 2 j)) (putC C y 1) ∧ (NE root E (fun _ _ => False) → NE root (hang E 2 j (dT y) (pgOf (E 2 j))) (fun _ _ => False)) ∧ SpL E (hang E 2 j (dT y) (pgOf (E 2 j))) j := by
  have mx := h.mine 2 _ x (by omega) hx
  have xy : y ≠ x := fun c => by subst c; omega
  have zy : Z y = false := by
    cases c : Z y
    · rfl
    · exact absurd hC (h.oth y c)
  have k1 : (E 2 j).k ≠ 1 := by rw [hk]; decide
  have und : ∀ i, i < 512 → E 3 (512 * j + i) = dN := fun i hi => h.under (l := 2) (by omega) k1 hi
  have out : ∀ z i, z ≠ y → ¬ (z = x ∧ i = j % 512) → splM M x (j % 512) y (E 2 j) z i = M z i := fun z i a b => by
    unfold splM updM filM zerM
    rw [if_neg b, if_neg (fun c => a c.1), if_neg a]
  refine ⟨h.hung (by omega) k1 hy hC zy hpo (fun c => by omega) (fun i hi => ⟨(h.ok 2 j (by omega)).pages hk hi, by show (3 : Int) ≠ 1; decide, fun c => by cases c⟩) hx (by unfold putC; rw [if_pos rfl]) (fun z hz => by unfold putC; rw [if_neg hz]) ?_ (fun z i _ a b => out z i a b) (fun i hi => ?_), fun z hz => ?_, fun ne => ?_, fun a b ha => ?_⟩
  · unfold splM updM
    rw [if_pos ⟨rfl, rfl⟩]
  · unfold splM updM filM
    rw [if_neg (fun c => xy c.1), if_pos ⟨rfl, hi⟩]
  · have n1 : z ≠ y := fun c => by subst c; rw [zy] at hz; cases hz
    have n2 : z ≠ x := fun c => by subst c; rw [mx.2.2] at hz; cases hz
    exact ⟨fun i _ => out z i n1 (fun c => n2 c.1), by unfold putC; rw [if_neg n1]⟩
  · refine (NE.hang (l := 2) (j := j) (d := dT y) (ds := pgOf (E 2 j)) (ne.weak fun _ _ c => c.elim) (fun i _ => by show (3 : Int) ≠ 1; decide) (fun i hi => by rw [und i hi]; decide) (by show (1 : Int) ≠ 0; decide)).filled (i := 0) (by omega) ?_
    rw [hang_in _ _ _ _ _ (by omega)]
    show (3 : Int) ≠ 0
    decide
  · unfold lfD
    by_cases c1 : a = 2 ∧ b = j
    · rw [if_pos c1]
      obtain ⟨rfl, rfl⟩ := c1
      rw [hang_at, if_pos (show (dT y).k = 1 from rfl)]
    · rw [if_neg c1]
      by_cases c2 : a = 3 ∧ b / 512 = j
      · rw [if_pos c2]
        obtain ⟨rfl, c2⟩ := c2
        have e : b = 512 * j + b % 512 := by omega
        have e2 : hang E 2 j (dT y) (pgOf (E 2 j)) 3 b = pgOf (E 2 j) (b % 512) := by
          have := hang_in E 2 j (dT y) (pgOf (E 2 j)) (i := b % 512) (Nat.mod_lt _ (by decide))
          rw [← e] at this
          exact this
        rw [e2, if_neg (show ¬ (pgOf (E 2 j) (b % 512)).k = 1 by show ¬ (3 : Int) = 1; decide)]
      · rw [if_neg c2, hang_out _ _ _ _ _ c1 c2]
end
/-- What split tells. -/
def spR (pool : Nat) (C : Nat → Nat) : Int := if cnt (fT pool C) pool = 0 then 11 else 0
section
variable {W w w' : World} {X Y : Nat → Prop} {bt p pm N pool o : Nat} {M : Nat → Nat → Nat} {C : Nat → Nat} {Z : Nat → Bool} {root : Nat} {E : Nat → Nat → DV}
/-- What a split leaves. -/
def SplO (W : World) (X : Nat → Prop) (w w' : World) (bt p pm N pool o : Nat) (M : Nat → Nat → Nat) (C : Nat → Nat) (Z : Nat → Bool) (root : Nat) (E : Nat → Nat → DV) (j : Nat) : Prop :=
  ∃ C' E', AC W X w w' bt p pm N pool (o + 513) M C Z root C' E' ∧ (spR pool C ≠ 0 → C' = C ∧ E' = E) ∧ (spR pool C = 0 → cnt (fT pool C') pool + 1 = cnt (fT pool C) pool ∧ SpL E E' j)
theorem split_any (h : TS W X w bt p pm N pool o M C Z root E) (ne : NE root E (fun _ _ => False)) (page : Nat) (hp : page < 268435456) (ho : o < 4000000000000000000) (hk : (enG E page).k = 2) (hl : lvG E page = 2) :
    Calls Tryz.prog 76 #[.pointer (some ⟨bt, 0, none⟩), svV (stp root E page 2)] w fun e w' => e = .returned (.int .i64 (spR pool C)) ∧ SplO W X w w' bt p pm N pool o M C Z root E (page / 512) := by
  unfold SplO
  have hn := h.fw.nums
  have hk' : (E 2 (page / 512)).k = 2 := by unfold enG at hk; rw [hl] at hk; exact hk
  obtain ⟨x, hx, ex, lx⟩ := h.tg.tab hp (l := 2) (by omega)
  have hx' : tbl root E 2 (page / 512 / 512) = some x := hx
  by_cases c : cnt (fT pool C) pool = 0
  · have hr : TkR (fT pool C) 0 none := by
      obtain ⟨r, hr⟩ := tkr_ex (fT pool C) 0
      cases r with
      | none => exact hr
      | some y =>
        have f := hr.free
        have := (cnt_zero (F := fT pool C) pool).1 c y f.1
        rw [(fT_iff pool C y).2 f] at this
        cases this
    have e : spR pool C = 11 := if_pos c
    rw [e]
    exact (split_none h.ft (stp root E page 2) rfl hr).mono fun e w' ⟨e1, e2, e3⟩ => ⟨e1, C, E, AC.same ne (e2.ts h.tg) (by omega) e3, fun _ => ⟨rfl, rfl⟩, fun c => by cases c⟩
  · obtain ⟨y, hy⟩ := tk_there (F := fT pool C) (hi := pool) (by omega)
    have fy := hy.free
    have e : spR pool C = 0 := if_neg c
    rw [e]
    obtain ⟨g1, g2, g3, g4⟩ := h.tg.split (by omega) hk' hx' fy.1 fy.2
    have hp4 : (stp root E page 2).p = x * 4096 + 8 * (page / 512 % 512) := by rw [← ex]; rfl
    have ct := cnt_take fy.1 fy.2
    exact (split_go h.ft (stp root E page 2) x (page / 512 % 512) y hp4 rfl (by omega) (Nat.mod_lt _ (by decide)) (fun j hj => (h.tg.ok 2 (page / 512) (by omega)).pages hk' hj) (h.tg.ok 2 (page / 512) (by omega)).parts.2.2.2.2.2.2.1 hy ho).mono fun e w' ⟨e1, e2, e3⟩ => ⟨e1, _, _, ⟨⟨_, e2.ts g1, g2⟩, g3 ne, e3⟩, fun c => absurd rfl c, fun _ => ⟨ct, g4⟩⟩
end
end Go.Proofs.YtanlcmdnhhdhaaaGreatDoor

/- stage2: the way to a single Page, whatever it lies in. -/
namespace Go.Proofs.YtanlcmdnhhdhaaaGreatDoor
open Go.RowKit
set_option maxRecDepth 10000

section
variable {W w w' : World} {X Y : Nat → Prop} {bt p pm N pool o : Nat} {M : Nat → Nat → Nat} {C : Nat → Nat} {Z : Nat → Bool} {root : Nat} {E : Nat → Nat → DV}
/-- What a page's single way leaves: the block is split, or it was a Page. -/
def LR (pool : Nat) (C C' : Nat → Nat) (E E' : Nat → Nat → DV) (page : Nat) : Prop :=
  ((enG E page).k = 3 ∧ C' = C ∧ E' = E) ∨ ((enG E page).k = 2 ∧ cnt (fT pool C') pool + 1 = cnt (fT pool C) pool ∧ SpL E E' (page / 512))
def SG (W : World) (X : Nat → Prop) (w w' : World) (b bt p pm N pool o : Nat) (M : Nat → Nat → Nat) (C : Nat → Nat) (Z : Nat → Bool) (root : Nat) (E : Nat → Nat → DV) (page : Nat) : Prop :=
  ∃ M' C' E', WL w' b (stps root E' page) ∧ TS W (fun i => X i ∨ i = b) w' bt p pm N pool o M' C' Z root E' ∧ NE root E' (fun _ _ => False) ∧ Ot Z M C M' C' ∧ Fr (Out W X) w w' ∧ (enG E' page).k = 3 ∧ lvG E' page = 3 ∧ (LR pool C C' E E' page ∧ w.heap.size ≤ b)
theorem TG.spl {M' : Nat → Nat → Nat} {C' : Nat → Nat} {E' : Nat → Nat → DV} {page : Nat} (h : TG M' C' pool Z root E') (s : SpL E E' (page / 512)) : (enG E' page).k = 3 ∧ lvG E' page = 3 ∧ enG E' page = pgOf (E 2 (page / 512)) (page % 512) := by
  have e := s 3 page (by omega)
  rw [if_neg (by omega), if_pos ⟨rfl, rfl⟩, h.lf3] at e
  have lv := h.where3 (page := page) (by rw [e]; show (3 : Int) ≠ 0; decide)
  have en : enG E' page = E' 3 page := by unfold enG; rw [lv, qn_three]
  rw [en, e]
  exact ⟨rfl, lv, rfl⟩
theorem TG.two2 (h : TG M C pool Z root E) {page : Nat} (hk : (enG E page).k = 2) : lvG E page = 2 := h.blk _ _ (lvG_le E page) hk
theorem TG.three3 (h : TG M C pool Z root E) {page : Nat} (hk : (enG E page).k = 3) : lvG E page = 3 := (h.ok _ _ (lvG_le E page)).parts.2.2.2.2.2.2.2.2.2.1 hk
set_option maxHeartbeats 4000000 in
theorem single_full (h : TS W X w bt p pm N pool o M C Z root E) (ne : NE root E (fun _ _ => False)) (page : Nat) (hp : page < 268435456) (ho : o < 3000000000000000000) (hk : (enG E page).k = 2) (sp : spR pool C ≠ 0) :
    Calls Tryz.prog 63 #[.pointer (some ⟨bt, 0, none⟩), .int .u64 (page : Int)] w fun e w' => e = .returned (.tuple #[.slice none 0 0, .int .i64 11]) ∧ AC W X w w' bt p pm N pool (o + 521) M C Z root C E := by
  have hl := h.tg.two2 hk
  have k1 := way_any h page hp (by omega)
  rw [decide_eq_true (by rw [hk]; decide), hl] at k1
  have hs : (stps root E page)[2]? = some (stp root E page 2) := stps_get (by omega)
  have hd : (stp root E page 2).d.k = 2 := by have := hk; unfold enG at this; rw [hl] at this; exact this
  have f1 := field_d (stp root E page 2)
  have f2 := field_k (stp root E page 2).d
  rw [hd] at f2
  have e11 : spR pool C = 11 := by
    unfold spR at sp ⊢
    by_cases c : cnt (fT pool C) pool = 0
    · rw [if_pos c]
    · rw [if_neg c] at sp; exact absurd rfl sp
  have KS : Aside (∀ v, TS W (fun i => X i ∨ i = w.heap.size) v bt p pm N pool (o + 4) M C Z root E → Fr (Out W X) w v → Calls Tryz.prog 76 #[.pointer (some ⟨bt, 0, none⟩), svV (stp root E page 2)] v fun e w' => e = .returned (.int .i64 11) ∧ Hid (AC W X w w' bt p pm N pool (o + 521) M C Z root C E)) := fun v tv fv => by
    have := split_any tv ne page hp (by omega) hk hl
    rw [e11] at this
    exact this.mono fun e w' ⟨e1, C', E', e2, e3, _⟩ => ⟨e1, by
      obtain ⟨rfl, rfl⟩ := e3 sp
      obtain ⟨M', q1, q2⟩ := e2.ts
      exact ⟨⟨M', (q1.le (by omega)).less (fun _ => .inl) h.xb, q2⟩, e2.ne, fv.trans (e2.fr.less fun _ => .inl)⟩⟩
  have HS : Hid ((stps root E page)[2]? = some (stp root E page 2)) := hs
  have K1 : Aside (Calls Tryz.prog 54 #[.pointer (some ⟨bt, 0, none⟩), .int .u64 (page : Int)] w fun e w' => e = .returned (.tuple #[.slice (some ⟨w.heap.size, 0, none⟩) 3 4, .bool true]) ∧ Hid (WL w' w.heap.size (stps root E page) ∧ TS W (fun i => X i ∨ i = w.heap.size) w' bt p pm N pool (o + 4) M C Z root E ∧ Fr (Out W X) w w')) := k1
  clear h ne hp ho hk hl k1 hs hd sp e11
  generalize stp root E page 2 = st at *
  generalize stps root E page = L at *
  generalize dvV st.d = dd at *
  go_enter Tryz.func63, Tryz.ntmps63
  go_wp2_with fail
  with_reducible refine K1.out.mono ?_
  rintro e w1 ⟨rfl, H1⟩
  have k2 := last_any H1.out.1 (by omega) HS.out
  clear K1
  go_wp2_with fail
  with_reducible refine k2.mono ?_
  rintro e w2 ⟨rfl, k3⟩
  have H2 : Hid (WL w2 w.heap.size L ∧ TS W (fun i => X i ∨ i = w.heap.size) w2 bt p pm N pool (o + 4) M C Z root E ∧ Fr (Out W X) w w2) := ⟨H1.out.1.kp k3, H1.out.2.1.kps k3, H1.out.2.2.trans (k3.fr _)⟩
  clear k2 k3 H1
  have k4 := last_any H2.out.1 (by omega) HS.out
  go_wp2_with fail
  with_reducible refine k4.mono ?_
  rintro e w3 ⟨rfl, k3⟩
  have k5 := KS.out w3 (H2.out.2.1.kps k3) (H2.out.2.2.trans (k3.fr _))
  clear k4 k3 H2 KS
  generalize svV st = sv at *
  go_wp2_with fail
  with_reducible refine k5.mono ?_
  rintro e w4 ⟨rfl, H4⟩
  clear k5
  go_wp2
  go_ret2
  exact ⟨rfl, H4.out⟩
set_option maxHeartbeats 4000000 in
theorem single_block (h : TS W X w bt p pm N pool o M C Z root E) (ne : NE root E (fun _ _ => False)) (page : Nat) (hp : page < 268435456) (ho : o < 3000000000000000000) (hk : (enG E page).k = 2) (sp : spR pool C = 0) :
    Calls Tryz.prog 63 #[.pointer (some ⟨bt, 0, none⟩), .int .u64 (page : Int)] w fun e w' => ∃ b, e = .returned (.tuple #[.slice (some ⟨b, 0, none⟩) 4 4, .int .i64 0]) ∧ SG W X w w' b bt p pm N pool (o + 521) M C Z root E page := by
  have hl := h.tg.two2 hk
  have k1 := way_any h page hp (by omega)
  rw [decide_eq_true (by rw [hk]; decide), hl] at k1
  have hs : (stps root E page)[2]? = some (stp root E page 2) := stps_get (by omega)
  have hd : (stp root E page 2).d.k = 2 := by have := hk; unfold enG at this; rw [hl] at this; exact this
  have f1 := field_d (stp root E page 2)
  have f2 := field_k (stp root E page 2).d
  rw [hd] at f2
  have KW : Aside (∀ v, (∃ C' E', AC W X w v bt p pm N pool (o + 517) M C Z root C' E' ∧ cnt (fT pool C') pool + 1 = cnt (fT pool C) pool ∧ SpL E E' (page / 512)) → Calls Tryz.prog 54 #[.pointer (some ⟨bt, 0, none⟩), .int .u64 (page : Int)] v fun e w' => e = .returned (.tuple #[.slice (some ⟨v.heap.size, 0, none⟩) 4 4, .bool true]) ∧ Hid (SG W X w w' v.heap.size bt p pm N pool (o + 521) M C Z root E page)) := fun v ⟨C', E', a1, a2, a3⟩ => by
    obtain ⟨M', q1, q2⟩ := a1.ts
    obtain ⟨g1, g2, g3⟩ := q1.tg.spl a3
    have := way_any q1 page hp (by omega)
    rw [decide_eq_true (by rw [g1]; decide), g2] at this
    exact this.mono fun e w' ⟨e1, e2, e3, e4⟩ => ⟨e1, M', C', E', e2, e3, a1.ne, q2, a1.fr.trans e4, g1, g2, .inr ⟨hk, a2, a3⟩, a1.fr.size⟩
  have KS : Aside (∀ v, TS W (fun i => X i ∨ i = w.heap.size) v bt p pm N pool (o + 4) M C Z root E → Fr (Out W X) w v → Calls Tryz.prog 76 #[.pointer (some ⟨bt, 0, none⟩), svV (stp root E page 2)] v fun e w' => e = .returned (.int .i64 0) ∧ Hid (∃ C' E', AC W X w w' bt p pm N pool (o + 517) M C Z root C' E' ∧ cnt (fT pool C') pool + 1 = cnt (fT pool C) pool ∧ SpL E E' (page / 512))) := fun v tv fv => by
    have := split_any tv ne page hp (by omega) hk hl
    rw [sp] at this
    exact this.mono fun e w' ⟨e1, C', E', e2, _, e4⟩ => ⟨e1, C', E', by
      obtain ⟨M', q1, q2⟩ := e2.ts
      exact ⟨⟨M', (q1.le (by omega)).less (fun _ => .inl) h.xb, q2⟩, e2.ne, fv.trans (e2.fr.less fun _ => .inl)⟩, e4 sp⟩
  have HS : Hid ((stps root E page)[2]? = some (stp root E page 2)) := hs
  have K1 : Aside (Calls Tryz.prog 54 #[.pointer (some ⟨bt, 0, none⟩), .int .u64 (page : Int)] w fun e w' => e = .returned (.tuple #[.slice (some ⟨w.heap.size, 0, none⟩) 3 4, .bool true]) ∧ Hid (WL w' w.heap.size (stps root E page) ∧ TS W (fun i => X i ∨ i = w.heap.size) w' bt p pm N pool (o + 4) M C Z root E ∧ Fr (Out W X) w w')) := k1
  clear h ne hp ho hk hl k1 hs hd sp
  generalize stp root E page 2 = st at *
  generalize stps root E page = L at *
  generalize dvV st.d = dd at *
  go_enter Tryz.func63, Tryz.ntmps63
  go_wp2_with fail
  with_reducible refine K1.out.mono ?_
  rintro e w1 ⟨rfl, H1⟩
  have k2 := last_any H1.out.1 (by omega) HS.out
  clear K1
  go_wp2_with fail
  with_reducible refine k2.mono ?_
  rintro e w2 ⟨rfl, k3⟩
  have H2 : Hid (WL w2 w.heap.size L ∧ TS W (fun i => X i ∨ i = w.heap.size) w2 bt p pm N pool (o + 4) M C Z root E ∧ Fr (Out W X) w w2) := ⟨H1.out.1.kp k3, H1.out.2.1.kps k3, H1.out.2.2.trans (k3.fr _)⟩
  clear k2 k3 H1
  have k4 := last_any H2.out.1 (by omega) HS.out
  go_wp2_with fail
  with_reducible refine k4.mono ?_
  rintro e w3 ⟨rfl, k3⟩
  have k5 := KS.out w3 (H2.out.2.1.kps k3) (H2.out.2.2.trans (k3.fr _))
  clear k4 k3 H2 KS
  generalize svV st = sv at *
  go_wp2_with fail
  with_reducible refine k5.mono ?_
  rintro e w4 ⟨rfl, H4⟩
  have k6 := KW.out w4 H4.out
  clear k5 KW H4
  go_wp2_with fail
  with_reducible refine k6.mono ?_
  rintro e w5 ⟨rfl, H5⟩
  clear k6
  go_wp2
  go_ret2
  exact ⟨_, rfl, H5.out⟩
/-- A single Page, where the pool suffices. -/
theorem single_ok (h : TS W X w bt p pm N pool o M C Z root E) (ne : NE root E (fun _ _ => False)) (page : Nat) (hp : page < 268435456) (ho : o < 3000000000000000000) (hk : (enG E page).k ≠ 0) (sp : (enG E page).k = 2 → spR pool C = 0) :
    Calls Tryz.prog 63 #[.pointer (some ⟨bt, 0, none⟩), .int .u64 (page : Int)] w fun e w' => ∃ b, e = .returned (.tuple #[.slice (some ⟨b, 0, none⟩) 4 4, .int .i64 0]) ∧ SG W X w w' b bt p pm N pool (o + 521) M C Z root E page := by
  by_cases c : (enG E page).k = 2
  · exact single_block h ne page hp ho c (sp c)
  · have k3 : (enG E page).k = 3 := by
      have a := (h.tg.ok _ (qn page (lvG E page)) (lvG_le E page)).parts
      have b := h.tg.last page
      unfold enG at *
      omega
    have hl := h.tg.three3 k3
    exact (single_page h page hp (by omega) k3 hl).mono fun e w' ⟨e1, e2, e3, e4⟩ => ⟨_, e1, M, C, E, e2, e3.le (by omega), ne, Ot.refl _ _ _, e4, k3, hl, .inl ⟨k3, rfl, rfl⟩, Nat.le_refl _⟩
end
end Go.Proofs.YtanlcmdnhhdhaaaGreatDoor
