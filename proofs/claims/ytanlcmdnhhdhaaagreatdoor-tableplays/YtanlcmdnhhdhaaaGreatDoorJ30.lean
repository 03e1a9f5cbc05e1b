/- Joined: R63, R17, R18, R33. -/
import Derived.Test.YtanlcmdnhhdhaaaGreatDoorJ29
import Derived.Test.YtanlcmdnhhdhaaaGreatDoorJ23
/- stage2: Join of what is not mapped and of a Block; Protect of a page that is so, or whose Block can't be split. -/
namespace Go.Proofs.YtanlcmdnhhdhaaaGreatDoor
open Go.RowKit
set_option maxRecDepth 10000

section
variable {W w w' : World} {X Y : Nat → Prop} {bt p pm N pool o : Nat} {M : Nat → Nat → Nat} {C : Nat → Nat} {Z : Nat → Bool} {root : Nat} {E : Nat → Nat → DV}
set_option maxHeartbeats 4000000 in
theorem join_none (h : TS W X w bt p pm N pool o M C Z root E) (page : Nat) (hp : page < 268435456) (ho : o < 2000000000000000000) (hk : (enG E page).k = 0) :
    Calls Tryz.prog 38 #[.pointer (some ⟨bt, 0, none⟩), .int .u64 (page : Int)] w fun e w' => e = .returned (.int .i64 23) ∧ TS W X w' bt p pm N pool (o + 4) M C Z root E ∧ Fr (Out W X) w w' := by
  have k1 := way_any h page hp (by omega)
  rw [decide_eq_false (by simpa using hk)] at k1
  have HX : Hid (X bt) := h.xb
  clear h hp ho hk
  generalize stps root E page = L at *
  generalize lvG E page = l at *
  go_enter Tryz.func38, Tryz.ntmps38
  go_wp2_with fail
  with_reducible refine k1.mono ?_
  rintro e w1 ⟨rfl, _, t1, r1⟩
  have H1 : Hid (TS W X w1 bt p pm N pool (o + 4) M C Z root E ∧ Fr (Out W X) w w1) := ⟨t1.less (fun _ => .inl) HX.out, r1⟩
  clear k1 t1 r1
  go_wp2
  go_ret
  exact ⟨rfl, H1.out⟩
set_option maxHeartbeats 4000000 in
theorem join_block (h : TS W X w bt p pm N pool o M C Z root E) (page : Nat) (hp : page < 268435456) (ho : o < 2000000000000000000) (hk : (enG E page).k = 2) :
    Calls Tryz.prog 38 #[.pointer (some ⟨bt, 0, none⟩), .int .u64 (page : Int)] w fun e w' => e = .returned (.int .i64 20) ∧ TS W X w' bt p pm N pool (o + 4) M C Z root E ∧ Fr (Out W X) w w' := by
  have hl : lvG E page = 2 := h.tg.two2 hk
  have k1 := way_any h page hp (by omega)
  rw [decide_eq_true (by rw [hk]; decide), hl] at k1
  have hs2 : (stps root E page)[2]? = some (stp root E page 2) := stps_get (by omega)
  have HS : Hid ((stps root E page)[2]? = some (stp root E page 2) ∧ X bt) := ⟨hs2, h.xb⟩
  have f1 := field_l (stp root E page 2)
  have h2l : (stp root E page 2).l = 2 := rfl
  rw [h2l, show ((2 : Nat) : Int) = 2 from rfl] at f1
  have K1 : Aside (Calls Tryz.prog 54 #[.pointer (some ⟨bt, 0, none⟩), .int .u64 (page : Int)] w fun e w' => e = .returned (.tuple #[.slice (some ⟨w.heap.size, 0, none⟩) 3 4, .bool true]) ∧ Hid (WL w' w.heap.size (stps root E page) ∧ TS W (fun i => X i ∨ i = w.heap.size) w' bt p pm N pool (o + 4) M C Z root E ∧ Fr (Out W X) w w')) := k1
  clear h hp ho hk hl k1 hs2 h2l
  generalize stp root E page 2 = st at *
  generalize stps root E page = L at *
  go_enter Tryz.func38, Tryz.ntmps38
  go_wp2_with fail
  with_reducible refine K1.out.mono ?_
  rintro e w1 ⟨rfl, H1⟩
  have k2 := last_any H1.out.1 (by omega) HS.out.1
  clear K1
  generalize svV st = sv at *
  go_wp2_with fail
  with_reducible refine k2.mono ?_
  rintro e w2 ⟨rfl, k3⟩
  have H2 : Hid (TS W X w2 bt p pm N pool (o + 4) M C Z root E ∧ Fr (Out W X) w w2) := ⟨(H1.out.2.1.kps k3).less (fun _ => .inl) HS.out.2, H1.out.2.2.trans (k3.fr _)⟩
  clear k2 k3 H1
  go_wp2
  go_ret
  exact ⟨rfl, H2.out⟩
set_option maxHeartbeats 4000000 in
theorem protect_same (h : TS W X w bt p pm N pool o M C Z root E) (page : Nat) (r q x : Bool) (s : Int) (hp : page < 268435456) (ho : o < 2000000000000000000) (hc : canB r q s = true) (hk : (enG E page).k ≠ 0) (hns : same4 (enG E page) r q x s = true) :
    Calls Tryz.prog 34 #[.pointer (some ⟨bt, 0, none⟩), .int .u64 (page : Int), .agg #[.bool r, .bool q, .bool x], .int .i64 s] w fun e w' => e = .returned (.int .i64 0) ∧ TS W X w' bt p pm N pool (o + 4) M C Z root E ∧ Fr (Out W X) w w' := by
  have h0 : ∀ ob, TS W (fun i => X i ∨ i = w.heap.size) (w.alloc ob) bt p pm N pool o M C Z root E := fun ob => h.more ((Kp.refl w).alloc ob) w.heap.size (Nat.le_refl _) (by simp)
  have c0 := fun ob => (h0 ob).tx.c0
  have KW : Aside (∀ v, TS W (fun i => X i ∨ i = w.heap.size) v bt p pm N pool o M C Z root E → Calls Tryz.prog 54 #[.pointer (some ⟨bt, 0, none⟩), .int .u64 (page : Int)] v fun e w' => e = .returned (.tuple #[.slice (some ⟨v.heap.size, 0, none⟩) (lvG E page + 1) 4, .bool true]) ∧ Hid (WL w' v.heap.size (stps root E page) ∧ TS W (fun i => X i ∨ i = w.heap.size) w' bt p pm N pool (o + 4) M C Z root E ∧ Fr (Out W (fun i => X i ∨ i = w.heap.size)) v w')) := fun v hv => by
    have := way_any hv page hp (by omega)
    rw [decide_eq_true hk] at this
    exact this.mono fun e w' ⟨e1, e2, e3, e4⟩ => ⟨e1, e2, e3.less (fun _ => .inl) hv.xb, e4⟩
  have KC : Aside (∀ v, Calls Tryz.prog 61 #[.agg #[.bool r, .bool q, .bool x], .int .i64 s] v fun e w' => e = .returned (.bool true) ∧ Kp v w') := fun v => by
    have := canBe_any r q x s v
    rw [hc] at this
    exact this
  have hs := stps_get (root := root) (E := E) (p := page) (Nat.le_refl _)
  have HS : Hid ((stps root E page)[lvG E page]? = some (stp root E page (lvG E page)) ∧ lvG E page ≤ 3) := ⟨hs, lvG_le E page⟩
  have hst : (stp root E page (lvG E page)).d = enG E page := rfl
  have q0 := eql_frames p
  have HH : Hid ((∀ ob, TS W (fun i => X i ∨ i = w.heap.size) (w.alloc ob) bt p pm N pool o M C Z root E) ∧ X bt) := ⟨h0, h.xb⟩
  clear h hp ho hc hk h0 hs
  generalize stp root E page (lvG E page) = st at *
  generalize stps root E page = L at *
  generalize lvG E page = lv at *
  rw [← hst] at hns
  clear hst
  obtain ⟨sl, spp, su, sk, sa, sr, sq, sx, sf⟩ := st
  have f1 := field_d ⟨sl, spp, su, sk, sa, sr, sq, sx, sf⟩
  simp only [svV, dvV] at f1
  unfold same4 at hns
  simp only at hns
  have hq := eq_permP sr sq sx r q x
  generalize samP sr sq sx r q x = D at *
  have hcase : D = true ∧ (sf == s) = true := by simpa using hns
  obtain ⟨rfl, hf⟩ := hcase
  clear hns
  go_enter Tryz.func34, Tryz.ntmps34
  go_wp2_with fail
  with_reducible refine (KC.out _).mono ?_
  rintro e w1 ⟨rfl, K1⟩
  have T1 := (HH.out.1 (.cells #[.bool r, .bool q, .bool x] 39)).kps K1
  have P1 : PX w1 w.heap.size r q x := (PX.made w r q x).kp K1
  have F1 : Fr (Out W X) w w1 := (((Kp.refl w).alloc _).trans K1).fr _
  have kw := KW.out w1 T1
  have H1 : Hid (PX w1 w.heap.size r q x ∧ Fr (Out W X) w w1) := ⟨P1, F1⟩
  clear KC K1 T1 P1 F1 KW c0
  go_wp2_with fail
  with_reducible refine kw.mono ?_
  rintro e w2 ⟨rfl, H2⟩
  have k2 := last_any H2.out.1 HS.out.2 HS.out.1
  have H2' : Hid (TS W (fun i => X i ∨ i = w.heap.size) w2 bt p pm N pool (o + 4) M C Z root E ∧ Fr (Out W X) w w2 ∧ PX w2 w.heap.size r q x) := ⟨H2.out.2.1, H1.out.2.trans (H2.out.2.2.less fun _ => .inl), H1.out.1.fr H2.out.2.2 (fun c => c.2 (.inr rfl))⟩
  simp only [svV] at k2
  clear kw H1 H2 HS
  go_wp2_with fail
  with_reducible refine k2.mono ?_
  rintro e w3 ⟨rfl, k3⟩
  have H3 : Hid (TS W (fun i => X i ∨ i = w.heap.size) w3 bt p pm N pool (o + 4) M C Z root E ∧ Fr (Out W X) w w3 ∧ PX w3 w.heap.size r q x) := ⟨H2'.out.1.kps k3, H2'.out.2.1.trans (k3.fr _), H2'.out.2.2.kp k3⟩
  have p0 := fun ob => (H3.out.2.2.kp ((Kp.refl w3).alloc ob)).c0
  have p1 := fun ob => (H3.out.2.2.kp ((Kp.refl w3).alloc ob)).c1
  have p2 := fun ob => (H3.out.2.2.kp ((Kp.refl w3).alloc ob)).c2
  clear k2 k3 H2'
  go_wp2_with fail
  go_ret
  exact ⟨rfl, (H3.out.1.kps ((Kp.refl w3).alloc _)).less (fun _ => .inl) HH.out.2, H3.out.2.1.trans (((Kp.refl w3).alloc _).fr _)⟩
set_option maxHeartbeats 4000000 in
theorem protect_full (h : TS W X w bt p pm N pool o M C Z root E) (ne : NE root E (fun _ _ => False)) (page : Nat) (r q x : Bool) (s : Int) (hp : page < 268435456) (ho : o < 2000000000000000000) (hc : canB r q s = true) (hk2 : (enG E page).k = 2) (hns : same4 (enG E page) r q x s = false) (sp : spR pool C ≠ 0) :
    Calls Tryz.prog 34 #[.pointer (some ⟨bt, 0, none⟩), .int .u64 (page : Int), .agg #[.bool r, .bool q, .bool x], .int .i64 s] w fun e w' => e = .returned (.int .i64 11) ∧ AC W X w w' bt p pm N pool (o + 526) M C Z root C E := by
  have hk : (enG E page).k ≠ 0 := by rw [hk2]; decide
  have h0 : ∀ ob, TS W (fun i => X i ∨ i = w.heap.size) (w.alloc ob) bt p pm N pool o M C Z root E := fun ob => h.more ((Kp.refl w).alloc ob) w.heap.size (Nat.le_refl _) (by simp)
  have c0 := fun ob => (h0 ob).tx.c0
  have KW : Aside (∀ v, TS W (fun i => X i ∨ i = w.heap.size) v bt p pm N pool o M C Z root E → Calls Tryz.prog 54 #[.pointer (some ⟨bt, 0, none⟩), .int .u64 (page : Int)] v fun e w' => e = .returned (.tuple #[.slice (some ⟨v.heap.size, 0, none⟩) (lvG E page + 1) 4, .bool true]) ∧ Hid (WL w' v.heap.size (stps root E page) ∧ TS W (fun i => X i ∨ i = w.heap.size) w' bt p pm N pool (o + 4) M C Z root E ∧ Fr (Out W (fun i => X i ∨ i = w.heap.size)) v w')) := fun v hv => by
    have := way_any hv page hp (by omega)
    rw [decide_eq_true hk] at this
    exact this.mono fun e w' ⟨e1, e2, e3, e4⟩ => ⟨e1, e2, e3.less (fun _ => .inl) hv.xb, e4⟩
  have KG : Aside (∀ v, TS W (fun i => X i ∨ i = w.heap.size) v bt p pm N pool (o + 4) M C Z root E → Calls Tryz.prog 63 #[.pointer (some ⟨bt, 0, none⟩), .int .u64 (page : Int)] v fun e w' => e = .returned (.tuple #[.slice none 0 0, .int .i64 11]) ∧ Hid (AC W (fun i => X i ∨ i = w.heap.size) v w' bt p pm N pool (o + 4 + 521) M C Z root C E)) := fun v hv => single_full hv ne page hp (by omega) hk2 sp
  have KC : Aside (∀ v, Calls Tryz.prog 61 #[.agg #[.bool r, .bool q, .bool x], .int .i64 s] v fun e w' => e = .returned (.bool true) ∧ Kp v w') := fun v => by
    have := canBe_any r q x s v
    rw [hc] at this
    exact this
  have hs := stps_get (root := root) (E := E) (p := page) (Nat.le_refl _)
  have HS : Hid ((stps root E page)[lvG E page]? = some (stp root E page (lvG E page)) ∧ lvG E page ≤ 3) := ⟨hs, lvG_le E page⟩
  have hst : (stp root E page (lvG E page)).d = enG E page := rfl
  have q0 := eql_frames p
  have HH : Hid ((∀ ob, TS W (fun i => X i ∨ i = w.heap.size) (w.alloc ob) bt p pm N pool o M C Z root E) ∧ X bt) := ⟨h0, h.xb⟩
  clear h ne hp ho hc hk hk2 sp h0 hs
  generalize stp root E page (lvG E page) = st at *
  generalize stps root E page = L at *
  generalize lvG E page = lv at *
  rw [← hst] at hns
  clear hst
  obtain ⟨sl, spp, su, sk, sa, sr, sq, sx, sf⟩ := st
  have f1 := field_d ⟨sl, spp, su, sk, sa, sr, sq, sx, sf⟩
  simp only [svV, dvV] at f1
  unfold same4 at hns
  simp only at hns
  have hq := eq_permP sr sq sx r q x
  generalize samP sr sq sx r q x = D at *
  have hcase : D = false ∨ (D = true ∧ (sf == s) = false) := by
    cases D
    · exact .inl rfl
    · exact .inr ⟨rfl, by simpa using hns⟩
  clear hns
  go_enter Tryz.func34, Tryz.ntmps34
  go_wp2_with fail
  with_reducible refine (KC.out _).mono ?_
  rintro e w1 ⟨rfl, K1⟩
  have T1 := (HH.out.1 (.cells #[.bool r, .bool q, .bool x] 39)).kps K1
  have P1 : PX w1 w.heap.size r q x := (PX.made w r q x).kp K1
  have F1 : Fr (Out W X) w w1 := (((Kp.refl w).alloc _).trans K1).fr _
  have kw := KW.out w1 T1
  have H1 : Hid (PX w1 w.heap.size r q x ∧ Fr (Out W X) w w1) := ⟨P1, F1⟩
  clear KC K1 T1 P1 F1 KW c0
  go_wp2_with fail
  with_reducible refine kw.mono ?_
  rintro e w2 ⟨rfl, H2⟩
  have k2 := last_any H2.out.1 HS.out.2 HS.out.1
  have H2' : Hid (TS W (fun i => X i ∨ i = w.heap.size) w2 bt p pm N pool (o + 4) M C Z root E ∧ Fr (Out W X) w w2 ∧ PX w2 w.heap.size r q x) := ⟨H2.out.2.1, H1.out.2.trans (H2.out.2.2.less fun _ => .inl), H1.out.1.fr H2.out.2.2 (fun c => c.2 (.inr rfl))⟩
  simp only [svV] at k2
  clear kw H1 H2 HS
  go_wp2_with fail
  with_reducible refine k2.mono ?_
  rintro e w3 ⟨rfl, k3⟩
  have H3 : Hid (TS W (fun i => X i ∨ i = w.heap.size) w3 bt p pm N pool (o + 4) M C Z root E ∧ Fr (Out W X) w w3 ∧ PX w3 w.heap.size r q x) := ⟨H2'.out.1.kps k3, H2'.out.2.1.trans (k3.fr _), H2'.out.2.2.kp k3⟩
  have p0 := fun ob => (H3.out.2.2.kp ((Kp.refl w3).alloc ob)).c0
  have p1 := fun ob => (H3.out.2.2.kp ((Kp.refl w3).alloc ob)).c1
  have p2 := fun ob => (H3.out.2.2.kp ((Kp.refl w3).alloc ob)).c2
  have kg := fun ob => KG.out (w3.alloc ob) (H3.out.1.kps ((Kp.refl w3).alloc ob))
  clear k2 k3 H2' KG
  rcases hcase with rfl | ⟨rfl, hf⟩
  all_goals
    go_wp2_with fail
    with_reducible refine (kg _).mono ?_
    rintro e w4 ⟨rfl, G⟩
    obtain ⟨⟨M', a1, a2⟩, a3, a4⟩ := G.out
    have HZ : Hid (AC W X w w4 bt p pm N pool (o + 526) M C Z root C E) := ⟨⟨M', (a1.less (fun _ => .inl) HH.out.2).le (by omega), a2⟩, a3, (H3.out.2.1.trans (((Kp.refl w3).alloc _).fr _)).trans (a4.less fun _ => .inl)⟩
    clear kg G a1 a2 a3 a4 H3 HH p0 p1 p2 f1 hq q0
    go_wp2_with fail
    go_ret
    exact ⟨rfl, HZ.out⟩
end
end Go.Proofs.YtanlcmdnhhdhaaaGreatDoor

/- stage2: Map, MapBlock. -/
namespace Go.Proofs.YtanlcmdnhhdhaaaGreatDoor
open Go.RowKit
set_option maxRecDepth 10000

section
variable {W w w' : World} {X Y : Nat → Prop} {bt p pm N pool o : Nat} {M : Nat → Nat → Nat} {C : Nat → Nat} {Z : Nat → Bool} {root : Nat} {E : Nat → Nat → DV}
def hasN (N : Nat) (f : Int) (n : Nat) : Bool := decide (0 ≤ f) && decide (f ≤ (N : Int) - (n : Int))
set_option maxHeartbeats 4000000 in
theorem hasFrames_any (h : FT W X w bt p pm N pool o M C root) (f : Int) (n : Nat) (hn : n ≤ 512) :
    Calls Tryz.prog 60 #[.pointer (some ⟨bt, 0, none⟩), .int .i64 f, .int .i64 (n : Int)] w fun e w' => e = .returned (.bool (hasN N f n)) ∧ w' = w := by
  have c0 := h.tx.c0
  have k1 := wmem_any h.fw
  have k2 := wframes_any h.fw
  have hN := h.fw.nums
  have z1 : (N : Int) ≤ 1048576 := by omega
  have z2 : (n : Int) ≤ 512 := by omega
  unfold hasN
  clear h hN hn
  by_cases c1 : 0 ≤ f
  · by_cases c2 : f ≤ (N : Int) - (n : Int)
    · go_enter Tryz.func60, Tryz.ntmps60
      go_wp2_with (first | (go_at_call 95; with_reducible refine k1.mono ?_; rintro _ w' ⟨rfl, rfl⟩) | (go_at_call 68; with_reducible refine k2.mono ?_; rintro _ w' ⟨rfl, rfl⟩))
      go_ret
      exact ⟨by simp [c1, c2], rfl⟩
    · go_enter Tryz.func60, Tryz.ntmps60
      go_wp2_with (first | (go_at_call 95; with_reducible refine k1.mono ?_; rintro _ w' ⟨rfl, rfl⟩) | (go_at_call 68; with_reducible refine k2.mono ?_; rintro _ w' ⟨rfl, rfl⟩))
      go_ret
      exact ⟨by simp; omega, rfl⟩
  · go_enter Tryz.func60, Tryz.ntmps60
    go_wp2
    go_ret
    exact ⟨by simp; omega, rfl⟩
/-- What Map tells. -/
def mapR (N pool : Nat) (C : Nat → Nat) (E : Nat → Nat → DV) (page : Nat) (f : Int) (r q : Bool) (s : Int) : Int := if 268435456 ≤ page ∨ hasN N f 1 = false then 2 else if canB r q s = false then 1 else plR pool C E page 3
theorem mapR_ok {N pool page : Nat} {C : Nat → Nat} {E : Nat → Nat → DV} {f s : Int} {r q : Bool} (h : mapR N pool C E page f r q s = 0) : page < 268435456 ∧ 0 ≤ f ∧ f < N ∧ (q = true → r = true) ∧ 0 ≤ s ∧ s ≤ 15 ∧ plR pool C E page 3 = 0 := by
  unfold mapR at h
  split at h
  · cases h
  rename_i c1
  split at h
  · cases h
  rename_i c2
  unfold hasN at c1
  unfold canB at c2
  simp only [Bool.not_eq_false] at c1 c2
  simp at c1 c2
  refine ⟨by omega, by omega, by omega, fun e => ?_, by omega, by omega, h⟩
  rcases c2.1.1 with c | c
  · exact c
  · rw [c] at e; cases e
set_option maxHeartbeats 8000000 in
theorem map_go (h : TS W X w bt p pm N pool o M C Z root E) (ne : NE root E (fun _ _ => False)) (page f : Nat) (r q x : Bool) (s : Int) (hp : page < 268435456) (hf : f < N) (hq : canB r q s = true) (ho : o < 4000000000000000000) :
    Calls Tryz.prog 21 #[.pointer (some ⟨bt, 0, none⟩), .int .u64 (page : Int), .int .i64 (f : Int), .agg #[.bool r, .bool q, .bool x], .int .i64 s] w fun e w' => e = .returned (.int .i64 (plR pool C E page 3)) ∧ ∃ C' E', AC W X w w' bt p pm N pool (o + 12) M C Z root C' E' ∧ (plR pool C E page 3 ≠ 0 → C' = C ∧ E' = E) ∧ (plR pool C E page 3 = 0 → cnt (fT pool C') pool + (3 - lvG E page) = cnt (fT pool C) pool ∧ ∀ a b, a ≤ 3 → lfD E' a b = if a = 3 ∧ b = page then ⟨3, f * 4096, r, q, x, s⟩ else lfD E a b) := by
  have hn := h.fw.nums
  have hq' : (q = true → r = true) ∧ 0 ≤ s ∧ s ≤ 15 := by
    unfold canB at hq
    simp at hq
    refine ⟨fun e => ?_, hq.1.2, hq.2⟩
    rcases hq.1.1 with c | c
    · exact c
    · rw [c] at e; cases e
  have ok : okD 3 ⟨3, f * 4096, r, q, x, s⟩ := okD_page (by omega) hq'.1 hq'.2.1 hq'.2.2
  have KP : Aside (∀ v, Kp w v → Calls Tryz.prog 62 #[.pointer (some ⟨bt, 0, none⟩), .int .u64 (page : Int), .int .i64 3, .agg #[.int .i64 3, .int .u64 ((f * 4096 : Nat) : Int), .bool r, .bool q, .bool x, .int .i64 s]] v fun e w' => e = .returned (.int .i64 (plR pool C E page 3)) ∧ Hid (∃ C' E', AC W X w w' bt p pm N pool (o + 12) M C Z root C' E' ∧ (plR pool C E page 3 ≠ 0 → C' = C ∧ E' = E) ∧ (plR pool C E page 3 = 0 → cnt (fT pool C') pool + (3 - lvG E page) = cnt (fT pool C) pool ∧ ∀ a b, a ≤ 3 → lfD E' a b = if a = 3 ∧ b = page then ⟨3, f * 4096, r, q, x, s⟩ else lfD E a b))) := fun v kv => by
    have := tplace_any (h.kps kv) ne page 3 ⟨3, f * 4096, r, q, x, s⟩ hp ho (by omega) (by omega) ok (by show (3 : Int) ≠ 0; decide) (by show (3 : Int) ≠ 1; decide) (fun c => by cases c)
    rw [qn_three] at this
    exact this.mono fun e w' ⟨e1, C', E', e2, e3, e4⟩ => ⟨e1, C', E', ⟨e2.ts, e2.ne, (kv.fr _).trans e2.fr⟩, e3, e4⟩
  have KH : Aside (∀ v, Kp w v → Calls Tryz.prog 60 #[.pointer (some ⟨bt, 0, none⟩), .int .i64 (f : Int), .int .i64 1] v fun e w' => e = .returned (.bool true) ∧ w' = v) := fun v kv => by
    have := hasFrames_any (h.ft.kps kv) (f : Int) 1 (by omega)
    rw [show hasN N (f : Int) 1 = true by unfold hasN; simp; omega] at this
    exact this
  have KC : Aside (∀ v, Calls Tryz.prog 61 #[.agg #[.bool r, .bool q, .bool x], .int .i64 s] v fun e w' => e = .returned (.bool true) ∧ Kp v w') := fun v => by
    have := canBe_any r q x s v
    rw [hq] at this
    exact this
  have KA : Aside (∀ v, Calls Tryz.prog 29 #[.int .i64 (f : Int)] v fun e w' => e = .returned (.int .u64 ((f * 4096 : Nat) : Int)) ∧ w' = v) := fun v => addrOf_any f v (by omega)
  have C0 : Aside (∀ v, Kp w v → v.cell? ⟨bt, 0, none⟩ = some (.pointer (some ⟨p, 0, none⟩))) := fun v k => (h.tx.kp k).c0
  have g1 : decide ((268435456 : Int) ≤ (page : Int)) = false := decide_eq_false (by omega)
  have g2 : decide (268435456 ≤ page) = false := decide_eq_false (by omega)
  have q0 := eql_frames p
  clear h ne hn hq' ok hp hf hq ho
  generalize f * 4096 = fa at *
  generalize plR pool C E page 3 = rr at *
  have c0 := fun ob => C0.out (w.alloc ob) ((Kp.refl w).alloc ob)
  have kh := fun ob => KH.out (w.alloc ob) ((Kp.refl w).alloc ob)
  clear C0 KH
  go_enter Tryz.func21, Tryz.ntmps21
  go_wp2_with (go_at_call 60; with_reducible refine (kh _).mono ?_; rintro _ w' ⟨rfl, rfl⟩)
  with_reducible refine (KC.out _).mono ?_
  rintro _ w1 ⟨rfl, K1⟩
  have P1 : PX w1 w.heap.size r q x := PX.kp (w := w.alloc (.cells #[.bool r, .bool q, .bool x] 39)) (heap_alloc_new w _) K1
  have p0 := P1.c0
  have p1 := P1.c1
  have p2 := P1.c2
  have k1 : Kp w w1 := ((Kp.refl w).alloc _).trans K1
  have kp := fun v (kv : Kp w1 v) => KP.out v (k1.trans kv)
  have ka := fun v => KA.out v
  clear K1 P1 k1 KP KC KA c0 kh q0
  go_wp2_with fail
  go_region_with (first | (go_at_call 29; with_reducible refine (ka _).mono ?_; rintro _ w' ⟨rfl, rfl⟩) | (go_at_call 62; with_reducible refine (kp _ (by first | exact Kp.refl _ | exact (Kp.refl _).drew | exact (Kp.refl _).drewN _)).mono ?_; rintro _ w4 ⟨rfl, H4⟩))
  all_goals
    go_wp2
    go_ret
    exact ⟨rfl, H4.out⟩
end
end Go.Proofs.YtanlcmdnhhdhaaaGreatDoor

/- stage2: Map and MapBlock, refused; MapBlock. -/
namespace Go.Proofs.YtanlcmdnhhdhaaaGreatDoor
open Go.RowKit
set_option maxRecDepth 10000

set_option maxHeartbeats 4000000 in
theorem map_gone {w : World} {b : Nat} (h : TXn w b) (page : Nat) (f : Int) (r q x : Bool) (s : Int) :
    Calls Tryz.prog 21 #[.pointer (some ⟨b, 0, none⟩), .int .u64 (page : Int), .int .i64 f, .agg #[.bool r, .bool q, .bool x], .int .i64 s] w fun e w' => e = .returned (.int .i64 23) ∧ Kp w w' := by
  have c0 := fun ob => (h.kp ((Kp.refl w).alloc ob)).c0
  clear h
  go_enter Tryz.func21, Tryz.ntmps21
  go_wp2
  go_ret
  exact ⟨rfl, (Kp.refl _).alloc _⟩
set_option maxHeartbeats 4000000 in
theorem mapb_gone {w : World} {b : Nat} (h : TXn w b) (page : Nat) (f : Int) (r q x : Bool) (s : Int) :
    Calls Tryz.prog 31 #[.pointer (some ⟨b, 0, none⟩), .int .u64 (page : Int), .int .i64 f, .agg #[.bool r, .bool q, .bool x], .int .i64 s] w fun e w' => e = .returned (.int .i64 23) ∧ Kp w w' := by
  have c0 := fun ob => (h.kp ((Kp.refl w).alloc ob)).c0
  clear h
  go_enter Tryz.func31, Tryz.ntmps31
  go_wp2
  go_ret
  exact ⟨rfl, (Kp.refl _).alloc _⟩
section
variable {W w w' : World} {X Y : Nat → Prop} {bt p pm N pool o : Nat} {M : Nat → Nat → Nat} {C : Nat → Nat} {Z : Nat → Bool} {root : Nat} {E : Nat → Nat → DV}
set_option maxHeartbeats 4000000 in
theorem map_far (h : FT W X w bt p pm N pool o M C root) (page : Nat) (f : Int) (r q x : Bool) (s : Int) (hp : 268435456 ≤ page) :
    Calls Tryz.prog 21 #[.pointer (some ⟨bt, 0, none⟩), .int .u64 (page : Int), .int .i64 f, .agg #[.bool r, .bool q, .bool x], .int .i64 s] w fun e w' => e = .returned (.int .i64 2) ∧ Kp w w' := by
  have c0 := fun ob => (h.tx.kp ((Kp.refl w).alloc ob)).c0
  have g1 : decide ((268435456 : Int) ≤ (page : Int)) = true := decide_eq_true (by omega)
  have g2 : decide (268435456 ≤ page) = true := decide_eq_true (by omega)
  have q0 := eql_frames p
  clear h hp
  go_enter Tryz.func21, Tryz.ntmps21
  go_wp2
  go_ret
  exact ⟨rfl, (Kp.refl _).alloc _⟩
set_option maxHeartbeats 4000000 in
theorem map_range (h : FT W X w bt p pm N pool o M C root) (page : Nat) (f : Int) (r q x : Bool) (s : Int) (hp : page < 268435456) (hf : hasN N f 1 = false) :
    Calls Tryz.prog 21 #[.pointer (some ⟨bt, 0, none⟩), .int .u64 (page : Int), .int .i64 f, .agg #[.bool r, .bool q, .bool x], .int .i64 s] w fun e w' => e = .returned (.int .i64 2) ∧ Kp w w' := by
  have c0 := fun ob => (h.tx.kp ((Kp.refl w).alloc ob)).c0
  have g1 : decide ((268435456 : Int) ≤ (page : Int)) = false := decide_eq_false (by omega)
  have g2 : decide (268435456 ≤ page) = false := decide_eq_false (by omega)
  have q0 := eql_frames p
  have kh : ∀ ob, Calls Tryz.prog 60 #[.pointer (some ⟨bt, 0, none⟩), .int .i64 f, .int .i64 1] (w.alloc ob) fun e w' => e = .returned (.bool false) ∧ w' = w.alloc ob := fun ob => by
    have := hasFrames_any (h.kps ((Kp.refl w).alloc ob)) f 1 (by omega)
    rw [hf] at this
    exact this
  clear h hp hf
  go_enter Tryz.func21, Tryz.ntmps21
  go_wp2_with (go_at_call 60; with_reducible refine (kh _).mono ?_; rintro _ w' ⟨rfl, rfl⟩)
  go_ret
  exact ⟨rfl, (Kp.refl _).alloc _⟩
set_option maxHeartbeats 4000000 in
theorem map_arg (h : FT W X w bt p pm N pool o M C root) (page : Nat) (f : Int) (r q x : Bool) (s : Int) (hp : page < 268435456) (hf : hasN N f 1 = true) (hc : canB r q s = false) :
    Calls Tryz.prog 21 #[.pointer (some ⟨bt, 0, none⟩), .int .u64 (page : Int), .int .i64 f, .agg #[.bool r, .bool q, .bool x], .int .i64 s] w fun e w' => e = .returned (.int .i64 1) ∧ Kp w w' := by
  have c0 := fun ob => (h.tx.kp ((Kp.refl w).alloc ob)).c0
  have g1 : decide ((268435456 : Int) ≤ (page : Int)) = false := decide_eq_false (by omega)
  have g2 : decide (268435456 ≤ page) = false := decide_eq_false (by omega)
  have q0 := eql_frames p
  have kh : ∀ ob, Calls Tryz.prog 60 #[.pointer (some ⟨bt, 0, none⟩), .int .i64 f, .int .i64 1] (w.alloc ob) fun e w' => e = .returned (.bool true) ∧ w' = w.alloc ob := fun ob => by
    have := hasFrames_any (h.kps ((Kp.refl w).alloc ob)) f 1 (by omega)
    rw [hf] at this
    exact this
  have kc := canBe_any r q x s
  rw [hc] at kc
  clear h hp hf hc
  go_enter Tryz.func21, Tryz.ntmps21
  go_wp2_with (go_at_call 60; with_reducible refine (kh _).mono ?_; rintro _ w' ⟨rfl, rfl⟩)
  with_reducible refine (kc _).mono ?_
  rintro _ w1 ⟨rfl, K1⟩
  clear kc kh c0
  go_wp2
  go_ret
  exact ⟨rfl, ((Kp.refl _).alloc _).trans K1⟩
/-- What Map leaves. -/
def MapO (W : World) (X : Nat → Prop) (w w' : World) (bt p pm N pool o : Nat) (M : Nat → Nat → Nat) (C : Nat → Nat) (Z : Nat → Bool) (root : Nat) (E : Nat → Nat → DV) (l page : Nat) (d : DV) (rr : Int) : Prop :=
  ∃ C' E', AC W X w w' bt p pm N pool (o + 12) M C Z root C' E' ∧ (rr ≠ 0 → C' = C ∧ E' = E) ∧ (rr = 0 → cnt (fT pool C') pool + (l - lvG E page) = cnt (fT pool C) pool ∧ ∀ a b, a ≤ 3 → lfD E' a b = if a = l ∧ b = qn page l then d else lfD E a b)
theorem MapO.no (h : TS W X w bt p pm N pool o M C Z root E) (ne : NE root E (fun _ _ => False)) (k : Kp w w') {l page : Nat} {d : DV} {rr : Int} (hr : rr ≠ 0) : MapO W X w w' bt p pm N pool o M C Z root E l page d rr :=
  ⟨C, E, AC.same ne (h.kps k) (by omega) (k.fr _), fun _ => ⟨rfl, rfl⟩, fun c => absurd c hr⟩
theorem map_any (h : TS W X w bt p pm N pool o M C Z root E) (ne : NE root E (fun _ _ => False)) (page : Nat) (f : Int) (r q x : Bool) (s : Int) (ho : o < 4000000000000000000) :
    Calls Tryz.prog 21 #[.pointer (some ⟨bt, 0, none⟩), .int .u64 (page : Int), .int .i64 f, .agg #[.bool r, .bool q, .bool x], .int .i64 s] w fun e w' => e = .returned (.int .i64 (mapR N pool C E page f r q s)) ∧ MapO W X w w' bt p pm N pool o M C Z root E 3 page ⟨3, f.toNat * 4096, r, q, x, s⟩ (mapR N pool C E page f r q s) := by
  unfold mapR
  by_cases c1 : 268435456 ≤ page
  · rw [if_pos (.inl c1)]
    exact (map_far h.ft page f r q x s c1).mono fun e w' ⟨e1, e2⟩ => ⟨e1, MapO.no h ne e2 (by decide)⟩
  · cases c2 : hasN N f 1
    · rw [if_pos (.inr rfl)]
      exact (map_range h.ft page f r q x s (by omega) c2).mono fun e w' ⟨e1, e2⟩ => ⟨e1, MapO.no h ne e2 (by decide)⟩
    · rw [if_neg (fun c => c.elim c1 (fun c => by cases c))]
      cases c3 : canB r q s
      · rw [if_pos rfl]
        exact (map_arg h.ft page f r q x s (by omega) c2 c3).mono fun e w' ⟨e1, e2⟩ => ⟨e1, MapO.no h ne e2 (by decide)⟩
      · rw [if_neg (by decide)]
        have hf : 0 ≤ f ∧ f ≤ (N : Int) - 1 := by unfold hasN at c2; simpa using c2
        have := map_go h ne page f.toNat r q x s (by omega) (by omega) c3 ho
        rw [Int.toNat_of_nonneg hf.1] at this
        exact this.mono fun e w' ⟨e1, C', E', e2, e3, e4⟩ => ⟨e1, C', E', e2, e3, fun c => ⟨(e4 c).1, by rw [qn_three]; exact (e4 c).2⟩⟩
end
end Go.Proofs.YtanlcmdnhhdhaaaGreatDoor

/- stage2: MapBlock. -/
namespace Go.Proofs.YtanlcmdnhhdhaaaGreatDoor
open Go.RowKit
set_option maxRecDepth 10000

section
variable {W w w' : World} {X Y : Nat → Prop} {bt p pm N pool o : Nat} {M : Nat → Nat → Nat} {C : Nat → Nat} {Z : Nat → Bool} {root : Nat} {E : Nat → Nat → DV}
set_option maxHeartbeats 8000000 in
theorem mapb_go (h : TS W X w bt p pm N pool o M C Z root E) (ne : NE root E (fun _ _ => False)) (page f : Nat) (r q x : Bool) (s : Int) (hp : page < 268435456) (hf : f + 512 ≤ N) (hp5 : page % 512 = 0) (hf5 : f % 512 = 0) (hq : canB r q s = true) (ho : o < 4000000000000000000) :
    Calls Tryz.prog 31 #[.pointer (some ⟨bt, 0, none⟩), .int .u64 (page : Int), .int .i64 (f : Int), .agg #[.bool r, .bool q, .bool x], .int .i64 s] w fun e w' => e = .returned (.int .i64 (plR pool C E page 2)) ∧ ∃ C' E', AC W X w w' bt p pm N pool (o + 12) M C Z root C' E' ∧ (plR pool C E page 2 ≠ 0 → C' = C ∧ E' = E) ∧ (plR pool C E page 2 = 0 → cnt (fT pool C') pool + (2 - lvG E page) = cnt (fT pool C) pool ∧ ∀ a b, a ≤ 3 → lfD E' a b = if a = 2 ∧ b = qn page 2 then ⟨2, f * 4096, r, q, x, s⟩ else lfD E a b) := by
  have hn := h.fw.nums
  have hq' : (q = true → r = true) ∧ 0 ≤ s ∧ s ≤ 15 := by
    unfold canB at hq
    simp at hq
    refine ⟨fun e => ?_, hq.1.2, hq.2⟩
    rcases hq.1.1 with c | c
    · exact c
    · rw [c] at e; cases e
  have ok : okD 2 ⟨2, f * 4096, r, q, x, s⟩ := okD_block (by omega) hf5 hq'.1 hq'.2.1 hq'.2.2
  have KP : Aside (∀ v, Kp w v → Calls Tryz.prog 62 #[.pointer (some ⟨bt, 0, none⟩), .int .u64 (page : Int), .int .i64 2, .agg #[.int .i64 2, .int .u64 ((f * 4096 : Nat) : Int), .bool r, .bool q, .bool x, .int .i64 s]] v fun e w' => e = .returned (.int .i64 (plR pool C E page 2)) ∧ Hid (∃ C' E', AC W X w w' bt p pm N pool (o + 12) M C Z root C' E' ∧ (plR pool C E page 2 ≠ 0 → C' = C ∧ E' = E) ∧ (plR pool C E page 2 = 0 → cnt (fT pool C') pool + (2 - lvG E page) = cnt (fT pool C) pool ∧ ∀ a b, a ≤ 3 → lfD E' a b = if a = 2 ∧ b = qn page 2 then ⟨2, f * 4096, r, q, x, s⟩ else lfD E a b))) := fun v kv => by
    have := tplace_any (h.kps kv) ne page 2 ⟨2, f * 4096, r, q, x, s⟩ hp ho (by omega) (by omega) ok (by show (2 : Int) ≠ 0; decide) (by show (2 : Int) ≠ 1; decide) (fun _ => rfl)
    exact this.mono fun e w' ⟨e1, C', E', e2, e3, e4⟩ => ⟨e1, C', E', ⟨e2.ts, e2.ne, (kv.fr _).trans e2.fr⟩, e3, e4⟩
  have KH : Aside (∀ v, Kp w v → Calls Tryz.prog 60 #[.pointer (some ⟨bt, 0, none⟩), .int .i64 (f : Int), .int .i64 512] v fun e w' => e = .returned (.bool true) ∧ w' = v) := fun v kv => by
    have := hasFrames_any (h.ft.kps kv) (f : Int) 512 (by omega)
    rw [show hasN N (f : Int) 512 = true by unfold hasN; simp; omega] at this
    exact this
  have KC : Aside (∀ v, Calls Tryz.prog 61 #[.agg #[.bool r, .bool q, .bool x], .int .i64 s] v fun e w' => e = .returned (.bool true) ∧ Kp v w') := fun v => by
    have := canBe_any r q x s v
    rw [hq] at this
    exact this
  have KA : Aside (∀ v, Calls Tryz.prog 29 #[.int .i64 (f : Int)] v fun e w' => e = .returned (.int .u64 ((f * 4096 : Nat) : Int)) ∧ w' = v) := fun v => addrOf_any f v (by omega)
  have C0 : Aside (∀ v, Kp w v → v.cell? ⟨bt, 0, none⟩ = some (.pointer (some ⟨p, 0, none⟩))) := fun v k => (h.tx.kp k).c0
  have g1 : decide ((268435456 : Int) ≤ (page : Int)) = false := decide_eq_false (by omega)
  have g2 : decide (268435456 ≤ page) = false := decide_eq_false (by omega)
  have q0 := eql_frames p
  have a1 : (page : Int) % 512 = 0 := by omega
  have a2 : (f : Int).tmod 512 = 0 := by rw [Int.tmod_eq_emod_of_nonneg (by omega)]; omega
  have a3 : page % 512 = 0 := hp5
  clear h ne hn hq' ok hp hf hq ho hp5 hf5
  generalize f * 4096 = fa at *
  generalize plR pool C E page 2 = rr at *
  have c0 := fun ob => C0.out (w.alloc ob) ((Kp.refl w).alloc ob)
  have kh := fun ob => KH.out (w.alloc ob) ((Kp.refl w).alloc ob)
  clear C0 KH
  go_enter Tryz.func31, Tryz.ntmps31
  go_wp2_with (go_at_call 60; with_reducible refine (kh _).mono ?_; rintro _ w' ⟨rfl, rfl⟩)
  with_reducible refine (KC.out _).mono ?_
  rintro _ w1 ⟨rfl, K1⟩
  have P1 : PX w1 w.heap.size r q x := PX.kp (w := w.alloc (.cells #[.bool r, .bool q, .bool x] 39)) (heap_alloc_new w _) K1
  have p0 := P1.c0
  have p1 := P1.c1
  have p2 := P1.c2
  have k1 : Kp w w1 := ((Kp.refl w).alloc _).trans K1
  have kp := fun v (kv : Kp w1 v) => KP.out v (k1.trans kv)
  have ka := fun v => KA.out v
  clear K1 P1 k1 KP KC KA c0 kh q0
  go_wp2_with fail
  go_region_with (first | (go_at_call 29; with_reducible refine (ka _).mono ?_; rintro _ w' ⟨rfl, rfl⟩) | (go_at_call 62; with_reducible refine (kp _ (by first | exact Kp.refl _ | exact (Kp.refl _).drew | exact (Kp.refl _).drewN _)).mono ?_; rintro _ w4 ⟨rfl, H4⟩))
  all_goals
    go_wp2
    go_ret
    exact ⟨rfl, H4.out⟩
set_option maxHeartbeats 4000000 in
theorem mapb_far (h : FT W X w bt p pm N pool o M C root) (page : Nat) (f : Int) (r q x : Bool) (s : Int) (hp : 268435456 ≤ page) :
    Calls Tryz.prog 31 #[.pointer (some ⟨bt, 0, none⟩), .int .u64 (page : Int), .int .i64 f, .agg #[.bool r, .bool q, .bool x], .int .i64 s] w fun e w' => e = .returned (.int .i64 2) ∧ Kp w w' := by
  have c0 := fun ob => (h.tx.kp ((Kp.refl w).alloc ob)).c0
  have g1 : decide ((268435456 : Int) ≤ (page : Int)) = true := decide_eq_true (by omega)
  have g2 : decide (268435456 ≤ page) = true := decide_eq_true (by omega)
  have q0 := eql_frames p
  clear h hp
  go_enter Tryz.func31, Tryz.ntmps31
  go_wp2
  go_ret
  exact ⟨rfl, (Kp.refl _).alloc _⟩
set_option maxHeartbeats 4000000 in
theorem mapb_range (h : FT W X w bt p pm N pool o M C root) (page : Nat) (f : Int) (r q x : Bool) (s : Int) (hp : page < 268435456) (hf : hasN N f 512 = false) :
    Calls Tryz.prog 31 #[.pointer (some ⟨bt, 0, none⟩), .int .u64 (page : Int), .int .i64 f, .agg #[.bool r, .bool q, .bool x], .int .i64 s] w fun e w' => e = .returned (.int .i64 2) ∧ Kp w w' := by
  have c0 := fun ob => (h.tx.kp ((Kp.refl w).alloc ob)).c0
  have g1 : decide ((268435456 : Int) ≤ (page : Int)) = false := decide_eq_false (by omega)
  have g2 : decide (268435456 ≤ page) = false := decide_eq_false (by omega)
  have q0 := eql_frames p
  have kh : ∀ ob, Calls Tryz.prog 60 #[.pointer (some ⟨bt, 0, none⟩), .int .i64 f, .int .i64 512] (w.alloc ob) fun e w' => e = .returned (.bool false) ∧ w' = w.alloc ob := fun ob => by
    have := hasFrames_any (h.kps ((Kp.refl w).alloc ob)) f 512 (by omega)
    rw [hf] at this
    exact this
  clear h hp hf
  go_enter Tryz.func31, Tryz.ntmps31
  go_wp2_with (go_at_call 60; with_reducible refine (kh _).mono ?_; rintro _ w' ⟨rfl, rfl⟩)
  go_ret
  exact ⟨rfl, (Kp.refl _).alloc _⟩
set_option maxHeartbeats 4000000 in
theorem mapb_arg (h : FT W X w bt p pm N pool o M C root) (page : Nat) (f : Int) (r q x : Bool) (s : Int) (hp : page < 268435456) (hf : hasN N f 512 = true) (hc : canB r q s = false) :
    Calls Tryz.prog 31 #[.pointer (some ⟨bt, 0, none⟩), .int .u64 (page : Int), .int .i64 f, .agg #[.bool r, .bool q, .bool x], .int .i64 s] w fun e w' => e = .returned (.int .i64 1) ∧ Kp w w' := by
  have c0 := fun ob => (h.tx.kp ((Kp.refl w).alloc ob)).c0
  have g1 : decide ((268435456 : Int) ≤ (page : Int)) = false := decide_eq_false (by omega)
  have g2 : decide (268435456 ≤ page) = false := decide_eq_false (by omega)
  have q0 := eql_frames p
  have kh : ∀ ob, Calls Tryz.prog 60 #[.pointer (some ⟨bt, 0, none⟩), .int .i64 f, .int .i64 512] (w.alloc ob) fun e w' => e = .returned (.bool true) ∧ w' = w.alloc ob := fun ob => by
    have := hasFrames_any (h.kps ((Kp.refl w).alloc ob)) f 512 (by omega)
    rw [hf] at this
    exact this
  have kc := canBe_any r q x s
  rw [hc] at kc
  clear h hp hf hc
  go_enter Tryz.func31, Tryz.ntmps31
  go_wp2_with (go_at_call 60; with_reducible refine (kh _).mono ?_; rintro _ w' ⟨rfl, rfl⟩)
  with_reducible refine (kc _).mono ?_
  rintro _ w1 ⟨rfl, K1⟩
  clear kc kh c0
  go_wp2
  go_ret
  exact ⟨rfl, ((Kp.refl _).alloc _).trans K1⟩
set_option maxHeartbeats 4000000 in
theorem mapb_align (h : FT W X w bt p pm N pool o M C root) (page : Nat) (f : Int) (r q x : Bool) (s : Int) (hp : page < 268435456) (hf : hasN N f 512 = true) (hc : canB r q s = true) (h5 : page % 512 ≠ 0 ∨ f % 512 ≠ 0) :
    Calls Tryz.prog 31 #[.pointer (some ⟨bt, 0, none⟩), .int .u64 (page : Int), .int .i64 f, .agg #[.bool r, .bool q, .bool x], .int .i64 s] w fun e w' => e = .returned (.int .i64 3) ∧ Kp w w' := by
  have c0 := fun ob => (h.tx.kp ((Kp.refl w).alloc ob)).c0
  have g1 : decide ((268435456 : Int) ≤ (page : Int)) = false := decide_eq_false (by omega)
  have g2 : decide (268435456 ≤ page) = false := decide_eq_false (by omega)
  have q0 := eql_frames p
  have kh : ∀ ob, Calls Tryz.prog 60 #[.pointer (some ⟨bt, 0, none⟩), .int .i64 f, .int .i64 512] (w.alloc ob) fun e w' => e = .returned (.bool true) ∧ w' = w.alloc ob := fun ob => by
    have := hasFrames_any (h.kps ((Kp.refl w).alloc ob)) f 512 (by omega)
    rw [hf] at this
    exact this
  have kc := canBe_any r q x s
  rw [hc] at kc
  have f0 : 0 ≤ f := by unfold hasN at hf; simp at hf; omega
  have HA : (page % 512 ≠ 0) ∨ (page % 512 = 0 ∧ f % 512 ≠ 0) := by omega
  clear h hp hf hc h5
  rcases HA with ha | ⟨ha, hb⟩
  · have a1 : ((page : Int) % 512) ≠ 0 := by omega
    have a1' : (((page : Int) % 512) == 0) = false := by simpa using a1
    have a4 : ((page : Int) % 512 != 0) = true := by simpa using a1
    go_enter Tryz.func31, Tryz.ntmps31
    go_wp2_with (go_at_call 60; with_reducible refine (kh _).mono ?_; rintro _ w' ⟨rfl, rfl⟩)
    with_reducible refine (kc _).mono ?_
    rintro _ w1 ⟨rfl, K1⟩
    clear kc kh c0
    go_wp2
    go_ret
    exact ⟨rfl, ((Kp.refl _).alloc _).trans K1⟩
  · have a1 : ((page : Int) % 512) = 0 := by omega
    have a2 : (f.tmod 512) ≠ 0 := by rw [Int.tmod_eq_emod_of_nonneg f0]; exact hb
    have a2' : (f.tmod 512 == 0) = false := by simpa using a2
    have a4 : (f.tmod 512 != 0) = true := by simpa using a2
    go_enter Tryz.func31, Tryz.ntmps31
    go_wp2_with (go_at_call 60; with_reducible refine (kh _).mono ?_; rintro _ w' ⟨rfl, rfl⟩)
    with_reducible refine (kc _).mono ?_
    rintro _ w1 ⟨rfl, K1⟩
    clear kc kh c0
    go_wp2
    go_ret
    exact ⟨rfl, ((Kp.refl _).alloc _).trans K1⟩
/-- What MapBlock tells. -/
def mapbR (N pool : Nat) (C : Nat → Nat) (E : Nat → Nat → DV) (page : Nat) (f : Int) (r q : Bool) (s : Int) : Int := if 268435456 ≤ page ∨ hasN N f 512 = false then 2 else if canB r q s = false then 1 else if page % 512 ≠ 0 ∨ f % 512 ≠ 0 then 3 else plR pool C E page 2
theorem mapb_any (h : TS W X w bt p pm N pool o M C Z root E) (ne : NE root E (fun _ _ => False)) (page : Nat) (f : Int) (r q x : Bool) (s : Int) (ho : o < 4000000000000000000) :
    Calls Tryz.prog 31 #[.pointer (some ⟨bt, 0, none⟩), .int .u64 (page : Int), .int .i64 f, .agg #[.bool r, .bool q, .bool x], .int .i64 s] w fun e w' => e = .returned (.int .i64 (mapbR N pool C E page f r q s)) ∧ MapO W X w w' bt p pm N pool o M C Z root E 2 page ⟨2, f.toNat * 4096, r, q, x, s⟩ (mapbR N pool C E page f r q s) := by
  unfold mapbR
  by_cases c1 : 268435456 ≤ page
  · rw [if_pos (.inl c1)]
    exact (mapb_far h.ft page f r q x s c1).mono fun e w' ⟨e1, e2⟩ => ⟨e1, MapO.no h ne e2 (by decide)⟩
  · cases c2 : hasN N f 512
    · rw [if_pos (.inr rfl)]
      exact (mapb_range h.ft page f r q x s (by omega) c2).mono fun e w' ⟨e1, e2⟩ => ⟨e1, MapO.no h ne e2 (by decide)⟩
    · rw [if_neg (fun c => c.elim c1 (fun c => by cases c))]
      cases c3 : canB r q s
      · rw [if_pos rfl]
        exact (mapb_arg h.ft page f r q x s (by omega) c2 c3).mono fun e w' ⟨e1, e2⟩ => ⟨e1, MapO.no h ne e2 (by decide)⟩
      · rw [if_neg (by decide)]
        by_cases c4 : page % 512 ≠ 0 ∨ f % 512 ≠ 0
        · rw [if_pos c4]
          exact (mapb_align h.ft page f r q x s (by omega) c2 c3 c4).mono fun e w' ⟨e1, e2⟩ => ⟨e1, MapO.no h ne e2 (by decide)⟩
        · rw [if_neg c4]
          have hf : 0 ≤ f ∧ f ≤ (N : Int) - 512 := by unfold hasN at c2; simpa using c2
          have := mapb_go h ne page f.toNat r q x s (by omega) (by omega) (by omega) (by omega) c3 ho
          rw [Int.toNat_of_nonneg hf.1] at this
          exact this.mono fun e w' ⟨e1, C', E', e2, e3, e4⟩ => ⟨e1, C', E', e2, e3, fun c => ⟨(e4 c).1, (e4 c).2⟩⟩
end
end Go.Proofs.YtanlcmdnhhdhaaaGreatDoor
