/- Joined: R34, R35, R36, R37. -/
import Derived.Test.YtcankhnnikhblaaGreatDoorJRF
/- stage2: a Block's Pages. -/
namespace Go.Proofs.YtcankhnnikhblaaGreatDoor
open Go.RowKit
set_option maxRecDepth 10000

/-- The Page at the place i of those that are as good as the block. -/
def pgOf (d : DV) (i : Nat) : DV := ⟨3, d.a + i * 4096, d.r, d.q, d.x, d.f⟩
set_option maxHeartbeats 4000000 in
theorem pageOf_any (d : DV) (i : Nat) (w : World) (ha : d.a < 4294967296) (hi : i < 512) :
    Calls Tryz.prog 104 #[dvV d, .int .i64 (i : Int)] w fun e w' => e = .returned (dvV (pgOf d i)) ∧ Kp w w' := by
  have ka := fun v => addrOf_any i v (by omega)
  obtain ⟨k, a, r, q, x, f⟩ := d
  simp only at ha
  unfold pgOf dvV
  simp only
  have hb : i * 4096 < 2097152 := by omega
  generalize i * 4096 = ib at *
  have z1 : (a : Int) < 4294967296 := by omega
  have z2 : (ib : Int) < 2097152 := by omega
  rw [show ((a + ib : Nat) : Int) = (a : Int) + (ib : Int) by omega]
  clear ha hb hi
  go_enter Tryz.func104, Tryz.ntmps104
  go_wp2_with fail
  go_region_with (go_at_call 37; with_reducible refine (ka _).mono ?_; rintro _ w' ⟨rfl, rfl⟩)
  all_goals
    go_wp2
    refine bodyPost_ret (res_d (b := w.heap.size + 1) (k := 3) (a := (a : Int) + (ib : Int)) (r := r) (q := q) (x := x) (f := f) rfl rfl ?_) rfl ⟨rfl, by first | exact (((Kp.refl w).alloc _).alloc _).drew | exact (((Kp.refl w).alloc _).alloc _).drewN _⟩
    have := heap_alloc_new (w.alloc (.cells #[.int .i64 3, .int .u64 ((a : Int) + (ib : Int)), .bool r, .bool q, .bool x, .int .i64 f] 62)) (.cells #[.int .i64 3, .int .u64 ((a : Int) + (ib : Int)), .bool r, .bool q, .bool x, .int .i64 f] 62)
    rw [show (w.alloc (.cells #[.int .i64 3, .int .u64 ((a : Int) + (ib : Int)), .bool r, .bool q, .bool x, .int .i64 f] 62)).heap.size = w.heap.size + 1 by simp] at this
    exact this
end Go.Proofs.YtcankhnnikhblaaGreatDoor

/- stage2: split. -/
namespace Go.Proofs.YtcankhnnikhblaaGreatDoor
open Go.RowKit
set_option maxRecDepth 10000

/-- Words of a frame of which the first k are those of a Block's Pages. -/
def filM (M : Nat → Nat → Nat) (y : Nat) (d : DV) (k : Nat) : Nat → Nat → Nat := fun z j => if z = y ∧ j < k then wdD (pgOf d j) else M z j
theorem filM_zero (M : Nat → Nat → Nat) (y : Nat) (d : DV) : filM M y d 0 = M := by
  funext z j; unfold filM; rw [if_neg (by omega)]
theorem filM_succ (M : Nat → Nat → Nat) (y : Nat) (d : DV) (k : Nat) : updM (filM M y d k) y k (wdD (pgOf d k)) = filM M y d (k + 1) := by
  funext z j
  unfold updM filM
  by_cases c : z = y ∧ j = k
  · obtain ⟨rfl, rfl⟩ := c
    rw [if_pos ⟨rfl, rfl⟩, if_pos ⟨rfl, by omega⟩]
  · rw [if_neg c]
    by_cases c2 : z = y ∧ j < k
    · rw [if_pos c2, if_pos ⟨c2.1, by omega⟩]
    · rw [if_neg c2, if_neg (by omega)]
/-- The words behind a split. -/
def splM (M : Nat → Nat → Nat) (x i y : Nat) (d : DV) : Nat → Nat → Nat := updM (filM (zerM M y) y d 512) x i (wdD (dT y))
theorem SBk.six {w : World} {b : Nat} {l pp u a : Nat} {k f : Int} {r q e : Bool} (h : SBk w b ⟨l, pp, u, k, a, r, q, e, f⟩) : w.cell? ⟨b, 3, none⟩ = some (.int .i64 k) ∧ w.cell? ⟨b, 4, none⟩ = some (.int .u64 (a : Int)) ∧ w.cell? ⟨b, 5, none⟩ = some (.bool r) ∧ w.cell? ⟨b, 6, none⟩ = some (.bool q) ∧ w.cell? ⟨b, 7, none⟩ = some (.bool e) ∧ w.cell? ⟨b, 8, none⟩ = some (.int .i64 f) :=
  ⟨h.c 3 rfl, h.c 4 rfl, h.c 5 rfl, h.c 6 rfl, h.c 7 rfl, h.c 8 rfl⟩
section
variable {W w w' : World} {X Y : Nat → Prop} {bt p pm N pool o : Nat} {M : Nat → Nat → Nat} {C : Nat → Nat} {Z : Nat → Bool} {root : Nat} {E : Nat → Nat → DV}
set_option maxHeartbeats 4000000 in
theorem split_state (bt : Nat) (s : SV) (w : World) (hl : s.l ≠ 2) (h3 : s.l ≤ 3) :
    Calls Tryz.prog 71 #[.pointer (some ⟨bt, 0, none⟩), svV s] w fun e w' => e = .returned (.int .i64 20) ∧ Kp w w' := by
  obtain ⟨l, pp, u, k, a, r, q, e, f⟩ := s
  unfold svV
  simp only at *
  have z1 : ¬ (l : Int) = 2 := by omega
  have z2 : ((l : Int) == 2) = false := by rw [beq_eq_false_iff_ne]; exact z1
  have z3 : ((l : Int) != 2) = true := by rw [bne_iff_ne]; exact z1
  clear hl h3
  go_enter Tryz.func71, Tryz.ntmps71
  go_wp2
  go_ret
  exact ⟨rfl, (Kp.refl _).alloc _⟩
set_option maxHeartbeats 4000000 in
theorem split_none (h : FT W X w bt p pm N pool o M C root) (s : SV) (hl : s.l = 2) (hr : TkR (fT pool C) 0 none) :
    Calls Tryz.prog 71 #[.pointer (some ⟨bt, 0, none⟩), svV s] w fun e w' => e = .returned (.int .i64 11) ∧ FT W X w' bt p pm N pool o M C root ∧ Fr (Out W X) w w' := by
  have KT : Aside (∀ v, Kp w v → Calls Tryz.prog 36 #[.pointer (some ⟨p, 0, none⟩)] v fun e w' => e = .returned (.tuple #[.int .i64 0, .int .i64 11]) ∧ Hid (FT W X w' bt p pm N pool o M C root ∧ Fr (Out W X) w w')) := fun v kv => (wtable_none (h.fw.kps kv) hr).mono fun e w' ⟨e1, e2, e3⟩ => ⟨e1, (h.kps kv).next e2 e3, (kv.fr _).trans e3⟩
  have c0 := fun ob => (h.tx.kp ((Kp.refl w).alloc ob)).c0
  obtain ⟨l, pp, u, k, a, r, q, e, f⟩ := s
  unfold svV
  simp only at *
  subst hl
  rw [show ((2 : Nat) : Int) = 2 from rfl]
  clear h hr
  go_enter Tryz.func71, Tryz.ntmps71
  go_wp2_with fail
  with_reducible refine (KT.out _ ((Kp.refl w).alloc _)).mono ?_
  rintro _ w1 ⟨rfl, H1⟩
  clear KT c0
  go_wp2
  go_ret
  exact ⟨rfl, H1.out⟩
set_option maxHeartbeats 8000000 in
theorem split_go (h : FT W X w bt p pm N pool o M C root) (s : SV) (x i y : Nat) (hs : s.p = x * 4096 + 8 * i) (hl : s.l = 2) (hx : x < N) (hi : i < 512) (ok : ∀ j, j < 512 → okD 3 (pgOf s.d j)) (ha : s.d.a < 4294967296) (hr : TkR (fT pool C) 0 (some y)) (ho : o < 4000000000000000000) :
    Calls Tryz.prog 71 #[.pointer (some ⟨bt, 0, none⟩), svV s] w fun e w' => e = .returned (.int .i64 0) ∧ FT W X w' bt p pm N pool (o + 513) (splM M x i y s.d) (putC C y 1) root ∧ Fr (Out W X) w w' := by
  have hn := h.fw.nums
  have fy := hr.free
  have xb := h.xb
  have c0 := fun ob => (h.tx.kp ((Kp.refl w).alloc ob)).c0
  have KT : Aside (∀ v, Kp w v → w.heap.size < v.heap.size → SBk v w.heap.size s → Calls Tryz.prog 36 #[.pointer (some ⟨p, 0, none⟩)] v fun e w' => e = .returned (.tuple #[.int .i64 (y : Int), .int .i64 0]) ∧ Hid (FT W (fun i => X i ∨ i = w.heap.size) w' bt p pm N pool (o + 0) (filM (zerM M y) y s.d 0) (putC C y 1) root ∧ Fr (Out W X) w w' ∧ SBk w' w.heap.size s)) := fun v kv hv sb => by
    have h1 := h.more kv w.heap.size (Nat.le_refl _) hv
    rw [filM_zero]
    exact (wtable_some h1.fw y hr).mono fun e w' ⟨e1, e2, e3⟩ => ⟨e1, h1.next e2 e3, (kv.fr _).trans (e3.less fun _ => .inl), sb.fr e3 (fun c => c.2 (.inr rfl))⟩
  have KP : Aside (∀ (j : Nat) (v : World), j < 512 → Calls Tryz.prog 104 #[.agg #[.int .i64 s.d.k, .int .u64 (s.d.a : Int), .bool s.d.r, .bool s.d.q, .bool s.d.x, .int .i64 s.d.f], .int .i64 (j : Int)] v fun e w' => e = .returned (dvV (pgOf s.d j)) ∧ Kp v w') := fun j v hj => pageOf_any s.d j v ha hj
  have KE : Aside (∀ (j : Nat) (v : World), j < 512 → Calls Tryz.prog 107 #[.int .u64 ((y * 4096 : Nat) : Int), .int .i64 (j : Int)] v fun e w' => e = .returned (.int .u64 ((y * 4096 + 8 * j : Nat) : Int)) ∧ w' = v) := fun j v hj => entryAt_any y j v (by omega) hj
  have KA := addrOf_any y
  have K2 : Aside (∀ (j : Nat) (v : World), j < 512 → FT W (fun i => X i ∨ i = w.heap.size) v bt p pm N pool (o + j) (filM (zerM M y) y s.d j) (putC C y 1) root → Fr (Out W X) w v → SBk v w.heap.size s → Calls Tryz.prog 66 #[.pointer (some ⟨bt, 0, none⟩), .int .u64 ((y * 4096 + 8 * j : Nat) : Int), .int .i64 3, dvV (pgOf s.d j)] v fun e w' => e = .returned (.tuple #[]) ∧ Hid (FT W (fun i => X i ∨ i = w.heap.size) w' bt p pm N pool (o + (j + 1)) (filM (zerM M y) y s.d (j + 1)) (putC C y 1) root ∧ Fr (Out W X) w w' ∧ SBk w' w.heap.size s)) := fun j v hj h1 fr sb => by
    rw [← filM_succ]
    exact (put_any h1 y j 3 (pgOf s.d j) (by omega) hj (ok j hj) (by omega)).mono fun e w' ⟨e1, e2, e3⟩ => ⟨e1, e2, fr.trans (e3.less fun _ => .inl), sb.fr e3 (fun c => c.2 (.inr rfl))⟩
  have K3 : Aside (∀ v, FT W (fun i => X i ∨ i = w.heap.size) v bt p pm N pool (o + 512) (filM (zerM M y) y s.d 512) (putC C y 1) root → Fr (Out W X) w v → Calls Tryz.prog 66 #[.pointer (some ⟨bt, 0, none⟩), .int .u64 (s.p : Int), .int .i64 2, .agg #[.int .i64 1, .int .u64 ((y * 4096 : Nat) : Int), .bool false, .bool false, .bool false, .int .i64 0]] v fun e w' => e = .returned (.tuple #[]) ∧ Hid (FT W X w' bt p pm N pool (o + 513) (splM M x i y s.d) (putC C y 1) root ∧ Fr (Out W X) w w')) := fun v h1 fr => by
    rw [hs]
    exact (put_any h1 x i 2 (dT y) hx hi (okD_table (by omega) (by omega)) (by omega)).mono fun e w' ⟨e1, e2, e3⟩ => ⟨e1, e2.less (fun _ => .inl) xb, fr.trans (e3.less fun _ => .inl)⟩
  have z1 : (y : Int) < 1048576 := by omega
  have ka := fun v => KA v (by omega)
  clear h hs hx hi ok ha hr ho hn fy KA
  generalize splM M x i y s.d = M3 at *
  generalize y * 4096 = ya at *
  obtain ⟨l, pp, u, k, a, r, q, e, f⟩ := s
  unfold svV
  simp only at *
  subst hl
  rw [show ((2 : Nat) : Int) = 2 from rfl]
  have kt := KT.out (w.alloc (.cells #[.int .i64 2, .int .u64 (pp : Int), .int .u64 (u : Int), .int .i64 k, .int .u64 (a : Int), .bool r, .bool q, .bool e, .int .i64 f] 64)) ((Kp.refl w).alloc _) (by simp) (SBk.made w ⟨2, pp, u, k, a, r, q, e, f⟩)
  clear KT
  go_enter Tryz.func71, Tryz.ntmps71
  go_wp2_with fail
  with_reducible refine kt.mono ?_
  rintro _ w1 ⟨rfl, H1⟩
  clear kt c0
  go_wp2_with (go_at_call 37; with_reducible refine (ka _).mono ?_; rintro _ w' ⟨rfl, rfl⟩)
  clear ka
  go_loopg [25] 514 (fun g v25 wr => ∃ j : Nat, v25 = .int .i64 (j : Int) ∧ j ≤ 512 ∧ 513 - j ≤ g ∧ Hid (FT W (fun i => X i ∨ i = w.heap.size) wr bt p pm N pool (o + j) (filM (zerM M y) y ⟨k, a, r, q, e, f⟩ j) (putC C y 1) root ∧ Fr (Out W X) w wr ∧ SBk wr w.heap.size ⟨2, pp, u, k, a, r, q, e, f⟩))
  case atStart => exact ⟨0, rfl, by omega, by omega, H1⟩
  case round =>
    obtain ⟨j, rfl, hj, hg, HI⟩ := hrel
    by_cases ej : j < 512
    · have z2 : (j : Int) < 512 := by omega
      have ke := fun v => KE.out j v ej
      have kp := fun v => KP.out j v ej
      have k2 := fun v (kv : Kp wr v) => K2.out j v ej (HI.out.1.kps kv) (HI.out.2.1.trans (kv.fr _)) (HI.out.2.2.kp kv)
      have S0 := HI.out.2.2
      have HS : Aside (∀ v, Kp wr v → SBk v w.heap.size ⟨2, pp, u, k, a, r, q, e, f⟩) := fun v kv => S0.kp kv
      clear KE KP K2 HI K3 H1
      generalize ya + 8 * j = aj at *
      generalize dvV (pgOf ⟨k, a, r, q, e, f⟩ j) = dj at *
      go_wp2_with fail
      go_region_held3 (fun v => v.cell? ⟨w.heap.size, 3, none⟩ = some (.int .i64 k) ∧ v.cell? ⟨w.heap.size, 4, none⟩ = some (.int .u64 (a : Int)) ∧ v.cell? ⟨w.heap.size, 5, none⟩ = some (.bool r) ∧ v.cell? ⟨w.heap.size, 6, none⟩ = some (.bool q) ∧ v.cell? ⟨w.heap.size, 7, none⟩ = some (.bool e) ∧ v.cell? ⟨w.heap.size, 8, none⟩ = some (.int .i64 f)) (first | exact S0.six | exact S4.six | exact H5.out.2.2.six | go_keep)
        (first | (go_at_call 107; with_reducible refine (ke _).mono ?_; rintro _ w' ⟨rfl, rfl⟩) | (go_at_call 104; with_reducible refine (kp _).mono ?_; rintro _ w4 ⟨rfl, K4⟩; have K5 : Kp wr w4 := Kp.trans (by first | exact Kp.refl _ | exact (Kp.refl _).drew | exact (Kp.refl _).drewN _) K4; have S4 := HS.out w4 K5) | (go_at_call 66; with_reducible refine (k2 _ (by first | exact K5 | exact K5.drew | exact K5.drewN _)).mono ?_; rintro _ w5 ⟨rfl, H5⟩))
      clear ke kp k2 S0 HS
      go_wp2_with fail
      go_roundg (513 - (j + 1))
      case measure => omega
      case rel => exact ⟨j + 1, rfl, by omega, by omega, H5⟩
    · have ei : j = 512 := by omega
      subst ei
      have k3 := K3.out wr HI.out.1 HI.out.2.1
      have g0 := HI.out.2.2.c 0 rfl
      have g1 := HI.out.2.2.c 1 rfl
      rw [show ((2 : Nat) : Int) = 2 from rfl] at g0
      clear KE KP K2 K3 HI H1
      go_wp2_with fail
      with_reducible refine k3.mono ?_
      rintro _ w3 ⟨rfl, H3⟩
      clear k3
      go_wp2
      go_ret
      exact ⟨rfl, H3.out⟩
end
end Go.Proofs.YtcankhnnikhblaaGreatDoor

/- stage2: a split, as it is meant; a Block's single Page. -/
namespace Go.Proofs.YtcankhnnikhblaaGreatDoor
open Go.RowKit
set_option maxRecDepth 10000

theorem okD.block {d : DV} (h : okD 2 d) (hk : d.k = 2) : d.a % 2097152 = 0 := by
  obtain ⟨_, _, _, _, _, h6⟩ := chk_ok h
  rw [hk] at h6
  have e : unitN ((2 : Nat) : Int) 2 = 2097152 := by decide
  rw [e] at h6
  exact h6
theorem okD.pages {d : DV} (h : okD 2 d) (hk : d.k = 2) {j : Nat} (hj : j < 512) : okD 3 (pgOf d j) := by
  obtain ⟨_, _, _, h4, h5, _, h7, _, _, _, h11⟩ := h.parts
  have h8 := h.block hk
  have := okD_page (x := d.a / 4096 + j) (r := d.r) (q := d.q) (e := d.x) (f := d.f) (by omega) h11 h4 h5
  rw [show (d.a / 4096 + j) * 4096 = d.a + j * 4096 by omega] at this
  exact this
/-- What a split makes of the leaves. -/
def SpL (E E' : Nat → Nat → DV) (j : Nat) : Prop := ∀ a b, a ≤ 3 → lfD E' a b = if a = 2 ∧ b = j then dN else if a = 3 ∧ b / 512 = j then pgOf (E 2 j) (b % 512) else lfD E a b
section
variable {M : Nat → Nat → Nat} {C : Nat → Nat} {pool root : Nat} {Z : Nat → Bool} {E : Nat → Nat → DV}
theorem TG.split (h : TG M C pool Z root E) (hpo : pool ≤ 1048576) {j x y : Nat} (hk : (E 2 j).k = 2) (hx : tbl root E 2 (j / 512) = some x) (hy : y < pool) (hC : C y = 0) :
    TG (splM M x (j % 512) y (E 2 j)) (putC C y 1) pool Z root (hang E 2 j (dT y) (pgOf (E 2 j))) ∧ Ot Z M C (splM M x (j % 512) y (E 2 j)) (putC C y 1) ∧ (NE root E (fun _ _ => False) → NE root (hang E 2 j (dT y) (pgOf (E 2 j))) (fun _ _ => False)) ∧ SpL E (hang E 2 j (dT y) (pgOf (E 2 j))) j := by
  have mx := h.mine 2 _ x (by omega) hx
  have xy : y ≠ x := fun c => by subst c; omega
  have zy : Z y = false := by
    cases c : Z y
    · rfl
    · exact absurd hC (h.oth y c)
  have k1 : (E 2 j).k ≠ 1 := by rw [hk]; decide
  have und : ∀ i, i < 512 → E 3 (512 * j + i) = dN := fun i hi => h.under (l := 2) (by omega) k1 hi
  have out : ∀ z i, z ≠ y → ¬ (z = x ∧ i = j % 512) → splM M x (j % 512) y (E 2 j) z i = M z i := fun z i a b => by
    unfold splM updM filM zerM
    rw [if_neg b, if_neg (fun c => a c.1), if_neg a]
  refine ⟨h.hung (by omega) k1 hy hC zy hpo (fun c => by omega) (fun i hi => ⟨(h.ok 2 j (by omega)).pages hk hi, by show (3 : Int) ≠ 1; decide, fun c => by cases c⟩) hx (by unfold putC; rw [if_pos rfl]) (fun z hz => by unfold putC; rw [if_neg hz]) ?_ (fun z i _ a b => out z i a b) (fun i hi => ?_), fun z hz => ?_, fun ne => ?_, fun a b ha => ?_⟩
  · unfold splM updM
    rw [if_pos ⟨rfl, rfl⟩]
  · unfold splM updM filM
    rw [if_neg (fun c => xy c.1), if_pos ⟨rfl, hi⟩]
  · have n1 : z ≠ y := fun c => by subst c; rw [zy] at hz; cases hz
    have n2 : z ≠ x := fun c => by subst c; rw [mx.2.2] at hz; cases hz
    exact ⟨fun i _ => out z i n1 (fun c => n2 c.1), by unfold putC; rw [if_neg n1]⟩
  · refine (NE.hang (l := 2) (j := j) (d := dT y) (ds := pgOf (E 2 j)) (ne.weak fun _ _ c => c.elim) (fun i _ => by show (3 : Int) ≠ 1; decide) (fun i hi => by rw [und i hi]; decide) (by show (1 : Int) ≠ 0; decide)).filled (i := 0) (by omega) ?_
    rw [hang_in _ _ _ _ _ (by omega)]
    show (3 : Int) ≠ 0
    decide
  · unfold lfD
    by_cases c1 : a = 2 ∧ b = j
    · rw [if_pos c1]
      obtain ⟨rfl, rfl⟩ := c1
      rw [hang_at, if_pos (show (dT y).k = 1 from rfl)]
    · rw [if_neg c1]
      by_cases c2 : a = 3 ∧ b / 512 = j
      · rw [if_pos c2]
        obtain ⟨rfl, c2⟩ := c2
        have e : b = 512 * j + b % 512 := by omega
        have e2 : hang E 2 j (dT y) (pgOf (E 2 j)) 3 b = pgOf (E 2 j) (b % 512) := by
          have := hang_in E 2 j (dT y) (pgOf (E 2 j)) (i := b % 512) (Nat.mod_lt _ (by decide))
          rw [← e] at this
          exact this
        rw [e2, if_neg (show ¬ (pgOf (E 2 j) (b % 512)).k = 1 by show ¬ (3 : Int) = 1; decide)]
      · rw [if_neg c2, hang_out _ _ _ _ _ c1 c2]
end
/-- What split tells. -/
def spR (pool : Nat) (C : Nat → Nat) : Int := if cnt (fT pool C) pool = 0 then 11 else 0
section
variable {W w w' : World} {X Y : Nat → Prop} {bt p pm N pool o : Nat} {M : Nat → Nat → Nat} {C : Nat → Nat} {Z : Nat → Bool} {root : Nat} {E : Nat → Nat → DV}
/-- What a split leaves. -/
def SplO (W : World) (X : Nat → Prop) (w w' : World) (bt p pm N pool o : Nat) (M : Nat → Nat → Nat) (C : Nat → Nat) (Z : Nat → Bool) (root : Nat) (E : Nat → Nat → DV) (j : Nat) : Prop :=
  ∃ C' E', AC W X w w' bt p pm N pool (o + 513) M C Z root C' E' ∧ (spR pool C ≠ 0 → C' = C ∧ E' = E) ∧ (spR pool C = 0 → cnt (fT pool C') pool + 1 = cnt (fT pool C) pool ∧ SpL E E' j)
theorem split_any (h : TS W X w bt p pm N pool o M C Z root E) (ne : NE root E (fun _ _ => False)) (page : Nat) (hp : page < 268435456) (ho : o < 4000000000000000000) (hk : (enG E page).k = 2) (hl : lvG E page = 2) :
    Calls Tryz.prog 71 #[.pointer (some ⟨bt, 0, none⟩), svV (stp root E page 2)] w fun e w' => e = .returned (.int .i64 (spR pool C)) ∧ SplO W X w w' bt p pm N pool o M C Z root E (page / 512) := by
  unfold SplO
  have hn := h.fw.nums
  have hk' : (E 2 (page / 512)).k = 2 := by unfold enG at hk; rw [hl] at hk; exact hk
  obtain ⟨x, hx, ex, lx⟩ := h.tg.tab hp (l := 2) (by omega)
  have hx' : tbl root E 2 (page / 512 / 512) = some x := hx
  by_cases c : cnt (fT pool C) pool = 0
  · have hr : TkR (fT pool C) 0 none := by
      obtain ⟨r, hr⟩ := tkr_ex (fT pool C) 0
      cases r with
      | none => exact hr
      | some y =>
        have f := hr.free
        have := (cnt_zero (F := fT pool C) pool).1 c y f.1
        rw [(fT_iff pool C y).2 f] at this
        cases this
    have e : spR pool C = 11 := if_pos c
    rw [e]
    exact (split_none h.ft (stp root E page 2) rfl hr).mono fun e w' ⟨e1, e2, e3⟩ => ⟨e1, C, E, AC.same ne (e2.ts h.tg) (by omega) e3, fun _ => ⟨rfl, rfl⟩, fun c => by cases c⟩
  · obtain ⟨y, hy⟩ := tk_there (F := fT pool C) (hi := pool) (by omega)
    have fy := hy.free
    have e : spR pool C = 0 := if_neg c
    rw [e]
    obtain ⟨g1, g2, g3, g4⟩ := h.tg.split (by omega) hk' hx' fy.1 fy.2
    have hp4 : (stp root E page 2).p = x * 4096 + 8 * (page / 512 % 512) := by rw [← ex]; rfl
    have ct := cnt_take fy.1 fy.2
    exact (split_go h.ft (stp root E page 2) x (page / 512 % 512) y hp4 rfl (by omega) (Nat.mod_lt _ (by decide)) (fun j hj => (h.tg.ok 2 (page / 512) (by omega)).pages hk' hj) (h.tg.ok 2 (page / 512) (by omega)).parts.2.2.2.2.2.2.1 hy ho).mono fun e w' ⟨e1, e2, e3⟩ => ⟨e1, _, _, ⟨⟨_, e2.ts g1, g2⟩, g3 ne, e3⟩, fun c => absurd rfl c, fun _ => ⟨ct, g4⟩⟩
end
end Go.Proofs.YtcankhnnikhblaaGreatDoor

/- stage2: the way to a single Page, whatever it lies in. -/
namespace Go.Proofs.YtcankhnnikhblaaGreatDoor
open Go.RowKit
set_option maxRecDepth 10000

section
variable {W w w' : World} {X Y : Nat → Prop} {bt p pm N pool o : Nat} {M : Nat → Nat → Nat} {C : Nat → Nat} {Z : Nat → Bool} {root : Nat} {E : Nat → Nat → DV}
/-- What a page's single way leaves: the block is split, or it was a Page. -/
def LR (pool : Nat) (C C' : Nat → Nat) (E E' : Nat → Nat → DV) (page : Nat) : Prop :=
  ((enG E page).k = 3 ∧ C' = C ∧ E' = E) ∨ ((enG E page).k = 2 ∧ cnt (fT pool C') pool + 1 = cnt (fT pool C) pool ∧ SpL E E' (page / 512))
def SG (W : World) (X : Nat → Prop) (w w' : World) (b bt p pm N pool o : Nat) (M : Nat → Nat → Nat) (C : Nat → Nat) (Z : Nat → Bool) (root : Nat) (E : Nat → Nat → DV) (page : Nat) : Prop :=
  ∃ M' C' E', WL w' b (stps root E' page) ∧ TS W (fun i => X i ∨ i = b) w' bt p pm N pool o M' C' Z root E' ∧ NE root E' (fun _ _ => False) ∧ Ot Z M C M' C' ∧ Fr (Out W X) w w' ∧ (enG E' page).k = 3 ∧ lvG E' page = 3 ∧ (LR pool C C' E E' page ∧ w.heap.size ≤ b)
theorem TG.spl {M' : Nat → Nat → Nat} {C' : Nat → Nat} {E' : Nat → Nat → DV} {page : Nat} (h : TG M' C' pool Z root E') (s : SpL E E' (page / 512)) : (enG E' page).k = 3 ∧ lvG E' page = 3 ∧ enG E' page = pgOf (E 2 (page / 512)) (page % 512) := by
  have e := s 3 page (by omega)
  rw [if_neg (by omega), if_pos ⟨rfl, rfl⟩, h.lf3] at e
  have lv := h.where3 (page := page) (by rw [e]; show (3 : Int) ≠ 0; decide)
  have en : enG E' page = E' 3 page := by unfold enG; rw [lv, qn_three]
  rw [en, e]
  exact ⟨rfl, lv, rfl⟩
theorem TG.two2 (h : TG M C pool Z root E) {page : Nat} (hk : (enG E page).k = 2) : lvG E page = 2 := h.blk _ _ (lvG_le E page) hk
theorem TG.three3 (h : TG M C pool Z root E) {page : Nat} (hk : (enG E page).k = 3) : lvG E page = 3 := (h.ok _ _ (lvG_le E page)).parts.2.2.2.2.2.2.2.2.2.1 hk
set_option maxHeartbeats 4000000 in
theorem single_full (h : TS W X w bt p pm N pool o M C Z root E) (ne : NE root E (fun _ _ => False)) (page : Nat) (hp : page < 268435456) (ho : o < 3000000000000000000) (hk : (enG E page).k = 2) (sp : spR pool C ≠ 0) :
    Calls Tryz.prog 65 #[.pointer (some ⟨bt, 0, none⟩), .int .u64 (page : Int)] w fun e w' => e = .returned (.tuple #[.slice none 0 0, .int .i64 11]) ∧ AC W X w w' bt p pm N pool (o + 521) M C Z root C E := by
  have hl := h.tg.two2 hk
  have k1 := way_any h page hp (by omega)
  rw [decide_eq_true (by rw [hk]; decide), hl] at k1
  have hs : (stps root E page)[2]? = some (stp root E page 2) := stps_get (by omega)
  have hd : (stp root E page 2).d.k = 2 := by have := hk; unfold enG at this; rw [hl] at this; exact this
  have f1 := field_d (stp root E page 2)
  have f2 := field_k (stp root E page 2).d
  rw [hd] at f2
  have e11 : spR pool C = 11 := by
    unfold spR at sp ⊢
    by_cases c : cnt (fT pool C) pool = 0
    · rw [if_pos c]
    · rw [if_neg c] at sp; exact absurd rfl sp
  have KS : Aside (∀ v, TS W (fun i => X i ∨ i = w.heap.size) v bt p pm N pool (o + 4) M C Z root E → Fr (Out W X) w v → Calls Tryz.prog 71 #[.pointer (some ⟨bt, 0, none⟩), svV (stp root E page 2)] v fun e w' => e = .returned (.int .i64 11) ∧ Hid (AC W X w w' bt p pm N pool (o + 521) M C Z root C E)) := fun v tv fv => by
    have := split_any tv ne page hp (by omega) hk hl
    rw [e11] at this
    exact this.mono fun e w' ⟨e1, C', E', e2, e3, _⟩ => ⟨e1, by
      obtain ⟨rfl, rfl⟩ := e3 sp
      obtain ⟨M', q1, q2⟩ := e2.ts
      exact ⟨⟨M', (q1.le (by omega)).less (fun _ => .inl) h.xb, q2⟩, e2.ne, fv.trans (e2.fr.less fun _ => .inl)⟩⟩
  have HS : Hid ((stps root E page)[2]? = some (stp root E page 2)) := hs
  have K1 : Aside (Calls Tryz.prog 57 #[.pointer (some ⟨bt, 0, none⟩), .int .u64 (page : Int)] w fun e w' => e = .returned (.tuple #[.slice (some ⟨w.heap.size, 0, none⟩) 3 4, .bool true]) ∧ Hid (WL w' w.heap.size (stps root E page) ∧ TS W (fun i => X i ∨ i = w.heap.size) w' bt p pm N pool (o + 4) M C Z root E ∧ Fr (Out W X) w w')) := k1
  clear h ne hp ho hk hl k1 hs hd sp e11
  generalize stp root E page 2 = st at *
  generalize stps root E page = L at *
  generalize dvV st.d = dd at *
  go_enter Tryz.func65, Tryz.ntmps65
  go_wp2_with fail
  with_reducible refine K1.out.mono ?_
  rintro e w1 ⟨rfl, H1⟩
  have k2 := last_any H1.out.1 (by omega) HS.out
  clear K1
  go_wp2_with fail
  with_reducible refine k2.mono ?_
  rintro e w2 ⟨rfl, k3⟩
  have H2 : Hid (WL w2 w.heap.size L ∧ TS W (fun i => X i ∨ i = w.heap.size) w2 bt p pm N pool (o + 4) M C Z root E ∧ Fr (Out W X) w w2) := ⟨H1.out.1.kp k3, H1.out.2.1.kps k3, H1.out.2.2.trans (k3.fr _)⟩
  clear k2 k3 H1
  have k4 := last_any H2.out.1 (by omega) HS.out
  go_wp2_with fail
  with_reducible refine k4.mono ?_
  rintro e w3 ⟨rfl, k3⟩
  have k5 := KS.out w3 (H2.out.2.1.kps k3) (H2.out.2.2.trans (k3.fr _))
  clear k4 k3 H2 KS
  generalize svV st = sv at *
  go_wp2_with fail
  with_reducible refine k5.mono ?_
  rintro e w4 ⟨rfl, H4⟩
  clear k5
  go_wp2
  go_ret2
  exact ⟨rfl, H4.out⟩
set_option maxHeartbeats 4000000 in
theorem single_block (h : TS W X w bt p pm N pool o M C Z root E) (ne : NE root E (fun _ _ => False)) (page : Nat) (hp : page < 268435456) (ho : o < 3000000000000000000) (hk : (enG E page).k = 2) (sp : spR pool C = 0) :
    Calls Tryz.prog 65 #[.pointer (some ⟨bt, 0, none⟩), .int .u64 (page : Int)] w fun e w' => ∃ b, e = .returned (.tuple #[.slice (some ⟨b, 0, none⟩) 4 4, .int .i64 0]) ∧ SG W X w w' b bt p pm N pool (o + 521) M C Z root E page := by
  have hl := h.tg.two2 hk
  have k1 := way_any h page hp (by omega)
  rw [decide_eq_true (by rw [hk]; decide), hl] at k1
  have hs : (stps root E page)[2]? = some (stp root E page 2) := stps_get (by omega)
  have hd : (stp root E page 2).d.k = 2 := by have := hk; unfold enG at this; rw [hl] at this; exact this
  have f1 := field_d (stp root E page 2)
  have f2 := field_k (stp root E page 2).d
  rw [hd] at f2
  have KW : Aside (∀ v, (∃ C' E', AC W X w v bt p pm N pool (o + 517) M C Z root C' E' ∧ cnt (fT pool C') pool + 1 = cnt (fT pool C) pool ∧ SpL E E' (page / 512)) → Calls Tryz.prog 57 #[.pointer (some ⟨bt, 0, none⟩), .int .u64 (page : Int)] v fun e w' => e = .returned (.tuple #[.slice (some ⟨v.heap.size, 0, none⟩) 4 4, .bool true]) ∧ Hid (SG W X w w' v.heap.size bt p pm N pool (o + 521) M C Z root E page)) := fun v ⟨C', E', a1, a2, a3⟩ => by
    obtain ⟨M', q1, q2⟩ := a1.ts
    obtain ⟨g1, g2, g3⟩ := q1.tg.spl a3
    have := way_any q1 page hp (by omega)
    rw [decide_eq_true (by rw [g1]; decide), g2] at this
    exact this.mono fun e w' ⟨e1, e2, e3, e4⟩ => ⟨e1, M', C', E', e2, e3, a1.ne, q2, a1.fr.trans e4, g1, g2, .inr ⟨hk, a2, a3⟩, a1.fr.size⟩
  have KS : Aside (∀ v, TS W (fun i => X i ∨ i = w.heap.size) v bt p pm N pool (o + 4) M C Z root E → Fr (Out W X) w v → Calls Tryz.prog 71 #[.pointer (some ⟨bt, 0, none⟩), svV (stp root E page 2)] v fun e w' => e = .returned (.int .i64 0) ∧ Hid (∃ C' E', AC W X w w' bt p pm N pool (o + 517) M C Z root C' E' ∧ cnt (fT pool C') pool + 1 = cnt (fT pool C) pool ∧ SpL E E' (page / 512))) := fun v tv fv => by
    have := split_any tv ne page hp (by omega) hk hl
    rw [sp] at this
    exact this.mono fun e w' ⟨e1, C', E', e2, _, e4⟩ => ⟨e1, C', E', by
      obtain ⟨M', q1, q2⟩ := e2.ts
      exact ⟨⟨M', (q1.le (by omega)).less (fun _ => .inl) h.xb, q2⟩, e2.ne, fv.trans (e2.fr.less fun _ => .inl)⟩, e4 sp⟩
  have HS : Hid ((stps root E page)[2]? = some (stp root E page 2)) := hs
  have K1 : Aside (Calls Tryz.prog 57 #[.pointer (some ⟨bt, 0, none⟩), .int .u64 (page : Int)] w fun e w' => e = .returned (.tuple #[.slice (some ⟨w.heap.size, 0, none⟩) 3 4, .bool true]) ∧ Hid (WL w' w.heap.size (stps root E page) ∧ TS W (fun i => X i ∨ i = w.heap.size) w' bt p pm N pool (o + 4) M C Z root E ∧ Fr (Out W X) w w')) := k1
  clear h ne hp ho hk hl k1 hs hd sp
  generalize stp root E page 2 = st at *
  generalize stps root E page = L at *
  generalize dvV st.d = dd at *
  go_enter Tryz.func65, Tryz.ntmps65
  go_wp2_with fail
  with_reducible refine K1.out.mono ?_
  rintro e w1 ⟨rfl, H1⟩
  have k2 := last_any H1.out.1 (by omega) HS.out
  clear K1
  go_wp2_with fail
  with_reducible refine k2.mono ?_
  rintro e w2 ⟨rfl, k3⟩
  have H2 : Hid (WL w2 w.heap.size L ∧ TS W (fun i => X i ∨ i = w.heap.size) w2 bt p pm N pool (o + 4) M C Z root E ∧ Fr (Out W X) w w2) := ⟨H1.out.1.kp k3, H1.out.2.1.kps k3, H1.out.2.2.trans (k3.fr _)⟩
  clear k2 k3 H1
  have k4 := last_any H2.out.1 (by omega) HS.out
  go_wp2_with fail
  with_reducible refine k4.mono ?_
  rintro e w3 ⟨rfl, k3⟩
  have k5 := KS.out w3 (H2.out.2.1.kps k3) (H2.out.2.2.trans (k3.fr _))
  clear k4 k3 H2 KS
  generalize svV st = sv at *
  go_wp2_with fail
  with_reducible refine k5.mono ?_
  rintro e w4 ⟨rfl, H4⟩
  have k6 := KW.out w4 H4.out
  clear k5 KW H4
  go_wp2_with fail
  with_reducible refine k6.mono ?_
  rintro e w5 ⟨rfl, H5⟩
  clear k6
  go_wp2
  go_ret2
  exact ⟨_, rfl, H5.out⟩
/-- A single Page, where the pool suffices. -/
theorem single_ok (h : TS W X w bt p pm N pool o M C Z root E) (ne : NE root E (fun _ _ => False)) (page : Nat) (hp : page < 268435456) (ho : o < 3000000000000000000) (hk : (enG E page).k ≠ 0) (sp : (enG E page).k = 2 → spR pool C = 0) :
    Calls Tryz.prog 65 #[.pointer (some ⟨bt, 0, none⟩), .int .u64 (page : Int)] w fun e w' => ∃ b, e = .returned (.tuple #[.slice (some ⟨b, 0, none⟩) 4 4, .int .i64 0]) ∧ SG W X w w' b bt p pm N pool (o + 521) M C Z root E page := by
  by_cases c : (enG E page).k = 2
  · exact single_block h ne page hp ho c (sp c)
  · have k3 : (enG E page).k = 3 := by
      have a := (h.tg.ok _ (qn page (lvG E page)) (lvG_le E page)).parts
      have b := h.tg.last page
      unfold enG at *
      omega
    have hl := h.tg.three3 k3
    exact (single_page h page hp (by omega) k3 hl).mono fun e w' ⟨e1, e2, e3, e4⟩ => ⟨_, e1, M, C, E, e2, e3.le (by omega), ne, Ot.refl _ _ _, e4, k3, hl, .inl ⟨k3, rfl, rfl⟩, Nat.le_refl _⟩
end
end Go.Proofs.YtcankhnnikhblaaGreatDoor
