/- Joined: R13, R14, R15. -/
import Derived.Test.YtanlcmdnhhdhaaaGreatDoorJ21
/- stage2: whether a table has a Page; place. -/
namespace Go.Proofs.YtanlcmdnhhdhaaaGreatDoor
open Go.RowKit
set_option maxRecDepth 10000

theorem anyP_one (d : DV) (w : World) : Calls Tryz.prog 116 #[.agg #[.int .i64 d.k, .int .u64 (d.a : Int), .bool d.r, .bool d.q, .bool d.x, .int .i64 d.f]] w fun e w' => e = .returned (.bool (d.k == 3)) ∧ Kp w w' := by
  obtain ⟨dk, da, dr, dq, dx, df⟩ := d
  simp only
  go_enter Tryz.func116, Tryz.ntmps116
  go_wp2
  go_ret
  exact ⟨rfl, (Kp.refl _).alloc _⟩
set_option maxHeartbeats 4000000 in
theorem idxP_any (b0 : Nat) (g : Nat → DV) (w : World) (hU : WD w b0 ((List.range 512).map g)) :
    Calls Tryz.prog 134 #[.slice (some ⟨b0, 0, none⟩) 512 512, .func (.func 116) #[] #[]] w fun e w' => (∃ r : Int, e = .returned (.int .i64 r) ∧ ((r = -1 ∧ ∀ i, i < 512 → (g i).k ≠ 3) ∨ (0 ≤ r ∧ ∃ i, i < 512 ∧ (g i).k = 3))) ∧ Kp w w' := by
  have HH : Hid (WD w b0 ((List.range 512).map g)) := hU
  clear hU
  go_enter Tryz.func134, Tryz.ntmps134
  go_wp2_with fail
  go_loopg [8] 513 (fun gg v8 wr => ∃ k : Nat, v8 = .int .i64 (k : Int) ∧ k ≤ 512 ∧ 513 - k ≤ gg ∧ Hid (Kp w wr ∧ ∀ i, i < k → (g i).k ≠ 3))
  case atStart => exact ⟨0, rfl, by omega, by omega, Kp.refl w, fun i hi => by omega⟩
  case round =>
    obtain ⟨k, rfl, hk, hg, HI⟩ := hrel
    by_cases e : k < 512
    · have U := HH.out.kp HI.out.1
      have cu := fun j y hy => U.cell (i := k) (j := j) (x := g k) (y := y) (by rw [List.getElem?_map, List.getElem?_range e]; rfl) hy
      have kc := anyP_one (g k) wr
      have z1 : (k : Int) < 512 := by omega
      have z2 : (0 : Int) ≤ k := by omega
      obtain ⟨d, hd⟩ : ∃ d, d = g k := ⟨_, rfl⟩
      rw [← hd] at kc cu
      have HD : Hid (d = g k) := hd
      clear hd U
      obtain ⟨dk, da, dr, dq, dx, df⟩ := d
      have x0 := cu 0 _ rfl
      have x1 := cu 1 _ rfl
      have x2 := cu 2 _ rfl
      have x3 := cu 3 _ rfl
      have x4 := cu 4 _ rfl
      have x5 := cu 5 _ rfl
      simp only [Nat.add_zero] at x0
      simp only at kc
      clear cu
      by_cases c : dk = 3
      · subst c
        rw [show ((3 : Int) == 3) = true from rfl] at kc
        go_wp2_with fail
        with_reducible refine kc.mono ?_
        rintro _ w1 ⟨rfl, K1⟩
        have H2 : Hid (Kp w w1 ∧ ∃ i, i < 512 ∧ (g i).k = 3) := ⟨HI.out.1.trans K1, k, e, by rw [← HD.out]⟩
        clear K1 HI kc HD x0 x1 x2 x3 x4 x5
        go_wp2
        go_ret
        exact ⟨⟨(k : Int), rfl, .inr ⟨z2, H2.out.2⟩⟩, H2.out.1⟩
      · rw [show (dk == 3) = false from beq_eq_false_iff_ne.2 c] at kc
        go_wp2_with fail
        with_reducible refine kc.mono ?_
        rintro _ w1 ⟨rfl, K1⟩
        have H2 : Hid (Kp w w1 ∧ ∀ i, i < k + 1 → (g i).k ≠ 3) := ⟨HI.out.1.trans K1, fun i hi => by
          by_cases c' : i < k
          · exact HI.out.2 i c'
          · rw [show i = k by omega, ← HD.out]; exact c⟩
        clear K1 HI kc HD x0 x1 x2 x3 x4 x5
        go_wp2_with fail
        go_roundg (513 - (k + 1))
        case measure => omega
        case rel => exact ⟨k + 1, by go_num, by omega, by omega, H2⟩
    · have ei : k = 512 := by omega
      subst ei
      go_wp2
      go_ret
      exact ⟨⟨-1, rfl, .inl ⟨rfl, HI.out.2⟩⟩, HI.out.1⟩
section
variable {W w w' : World} {X Y : Nat → Prop} {bt p pm N pool o : Nat} {M : Nat → Nat → Nat} {C : Nat → Nat} {Z : Nat → Bool} {root : Nat} {E : Nat → Nat → DV}
/-- A table's descriptors are what it says. -/
theorem entries_any (h : TS W X w bt p pm N pool o M C Z root E) {l j x : Nat} (hl : l ≤ 3) (hx : tbl root E l j = some x) :
    Calls Tryz.prog 110 #[.pointer (some ⟨bt, 0, none⟩), .int .u64 ((x * 4096 : Nat) : Int), .int .i64 (l : Int)] w fun e w' => (e = .returned (.slice (some ⟨w.heap.size, 0, none⟩) 512 512) ∧ WD w' w.heap.size ((List.range 512).map fun i => E l (512 * j + i))) ∧ Kp w w' := by
  have hn := h.fw.nums
  have hp := (h.tg.mine l j x hl hx).1
  refine (entries_low h.ft x l (by omega)).mono fun e w' ⟨⟨e1, e2⟩, e3⟩ => ⟨⟨e1, ?_⟩, e3⟩
  rw [List.map_congr_left (g := fun i => E l (512 * j + i)) (fun i hi => (h.tg.words hl hx (List.mem_range.1 hi)).2.1)] at e2
  exact e2
set_option maxHeartbeats 4000000 in
/-- A table of the last level that is not empty has a Page. -/
theorem anyPage_yes (h : TS W X w bt p pm N pool o M C Z root E) {j x : Nat} (hx : tbl root E 3 j = some x) (hn : ∃ i, i < 512 ∧ (E 3 (512 * j + i)).k ≠ 0) :
    Calls Tryz.prog 96 #[.pointer (some ⟨bt, 0, none⟩), .int .u64 ((x * 4096 : Nat) : Int)] w fun e w' => e = .returned (.bool true) ∧ Kp w w' := by
  have ke := entries_any h (l := 3) (by omega) hx
  rw [show ((3 : Nat) : Int) = 3 from rfl] at ke
  have hn3 : ∃ i, i < 512 ∧ (E 3 (512 * j + i)).k = 3 := by
    obtain ⟨i, hi, hk⟩ := hn
    refine ⟨i, hi, ?_⟩
    have h2 := (h.tg.ok 3 (512 * j + i) (by omega)).parts
    omega
  have KI : Aside (∀ v, WD v w.heap.size ((List.range 512).map fun i => E 3 (512 * j + i)) → Calls Tryz.prog 134 #[.slice (some ⟨w.heap.size, 0, none⟩) 512 512, .func (.func 116) #[] #[]] v fun e w' => (∃ r : Int, e = .returned (.int .i64 r) ∧ Hid (0 ≤ r)) ∧ Kp v w') := fun v hv => (idxP_any _ _ v hv).mono fun e w' ⟨⟨r, e1, e2⟩, e3⟩ => ⟨⟨r, e1, by
    rcases e2 with ⟨_, e2⟩ | ⟨e2, _⟩
    · obtain ⟨i, hi, hk⟩ := hn3; exact absurd hk (e2 i hi)
    · exact e2⟩, e3⟩
  have KC : Aside (∀ v, WD v w.heap.size ((List.range 512).map fun i => E 3 (512 * j + i)) → Calls Tryz.prog 115 #[.slice (some ⟨w.heap.size, 0, none⟩) 512 512, .func (.func 116) #[] #[]] v fun e w' => e = .returned (.bool true) ∧ Kp v w') := fun v hv => by
    have k1 := KI.out v hv
    clear KI hv ke h hx hn hn3
    go_enter Tryz.func115, Tryz.ntmps115
    go_wp2_with fail
    with_reducible refine k1.mono ?_
    rintro e w1 ⟨⟨r, rfl, HR⟩, K1⟩
    have hr := HR.out
    clear k1
    go_wp2
    go_ret
    exact ⟨rfl, K1⟩
  clear KI hn hn3 h hx
  generalize x * 4096 = a at *
  go_enter Tryz.func96, Tryz.ntmps96
  go_wp2_with fail
  with_reducible refine ke.mono ?_
  rintro e w1 ⟨⟨rfl, D1⟩, K1⟩
  have kc := KC.out w1 D1
  clear ke KC D1
  go_wp2_with fail
  with_reducible refine kc.mono ?_
  rintro e w2 ⟨rfl, K2⟩
  clear kc
  go_wp2
  go_ret
  exact ⟨rfl, K1.trans K2⟩
end
end Go.Proofs.YtanlcmdnhhdhaaaGreatDoor

/- stage2: place. -/
namespace Go.Proofs.YtanlcmdnhhdhaaaGreatDoor
open Go.RowKit
set_option maxRecDepth 10000

section
variable {W w w' : World} {X Y : Nat → Prop} {bt p pm N pool o : Nat} {M : Nat → Nat → Nat} {C : Nat → Nat} {Z : Nat → Bool} {root : Nat} {E : Nat → Nat → DV}
/-- A page's way, beside a descriptor's block. -/
theorem way_box (h : TS W X w bt p pm N pool o M C Z root E) (page : Nat) (d : DV) (hp : page < 268435456) (ho : o < 4000000000000000000) :
    Calls Tryz.prog 54 #[.pointer (some ⟨bt, 0, none⟩), .int .u64 (page : Int)] (w.alloc (.cells #[.int .i64 d.k, .int .u64 (d.a : Int), .bool d.r, .bool d.q, .bool d.x, .int .i64 d.f] 62)) fun e w' => e = .returned (.tuple #[.slice (some ⟨w.heap.size + 1, 0, none⟩) (lvG E page + 1) 4, .bool (decide ((enG E page).k ≠ 0))]) ∧ WL w' (w.heap.size + 1) (stps root E page) ∧ Hid (TS W (fun i => X i ∨ i = w.heap.size) w' bt p pm N pool (o + 4) M C Z root E ∧ Fr (Out W X) w w') ∧ BX w' w.heap.size d.k d.a d.r d.q d.x d.f := by
  have ka : Kp w (w.alloc (.cells #[.int .i64 d.k, .int .u64 (d.a : Int), .bool d.r, .bool d.q, .bool d.x, .int .i64 d.f] 62)) := (Kp.refl w).alloc _
  have k1 := way_any (h.more ka w.heap.size (Nat.le_refl _) (by simp)) page hp ho
  rw [show (w.alloc (.cells #[.int .i64 d.k, .int .u64 (d.a : Int), .bool d.r, .bool d.q, .bool d.x, .int .i64 d.f] 62)).heap.size = w.heap.size + 1 by simp] at k1
  have B0 : BX (w.alloc (.cells #[.int .i64 d.k, .int .u64 (d.a : Int), .bool d.r, .bool d.q, .bool d.x, .int .i64 d.f] 62)) w.heap.size d.k d.a d.r d.q d.x d.f := heap_alloc_new w _
  exact k1.mono fun e w' ⟨e1, e2, e3, e4⟩ => ⟨e1, e2, ⟨e3.less (fun _ => .inl) (.inl h.xb), (ka.fr _).trans (e4.less fun _ => .inl)⟩, (e4.block _ (by simp) (fun c => c.2 (.inr rfl))).trans B0⟩

set_option maxHeartbeats 4000000 in
/-- The page is mapped. -/
theorem place_there (h : TS W X w bt p pm N pool o M C Z root E) (page l : Nat) (d : DV) (hp : page < 268435456) (ho : o < 4000000000000000000) (hk : (enG E page).k ≠ 0) :
    Calls Tryz.prog 62 #[.pointer (some ⟨bt, 0, none⟩), .int .u64 (page : Int), .int .i64 (l : Int), dvV d] w fun e w' => e = .returned (.int .i64 22) ∧ TS W X w' bt p pm N pool (o + 4) M C Z root E ∧ Fr (Out W X) w w' := by
  have k1 := way_box h page d hp ho
  rw [decide_eq_true hk] at k1
  have HX : Hid (X bt) := h.xb
  clear h hp ho hk
  generalize stps root E page = L at *
  generalize lvG E page = lv at *
  unfold dvV
  obtain ⟨dk, da, dr, dq, dx, df⟩ := d
  simp only at *
  go_enter Tryz.func62, Tryz.ntmps62
  go_wp2_with fail
  with_reducible refine k1.mono ?_
  rintro e w1 ⟨rfl, _, H1, _⟩
  clear k1
  go_wp2
  go_ret
  exact ⟨rfl, H1.out.1.less (fun _ => .inl) HX.out, H1.out.2⟩

set_option maxHeartbeats 4000000 in
/-- Too few table pages are free. -/
theorem place_pool (h : TS W X w bt p pm N pool o M C Z root E) (page l : Nat) (d : DV) (hp : page < 268435456) (ho : o < 4000000000000000000) (hk : (enG E page).k = 0) (hl : lvG E page ≤ l) (hl3 : l ≤ 3) (hc : cnt (fT pool C) pool < l - lvG E page) :
    Calls Tryz.prog 62 #[.pointer (some ⟨bt, 0, none⟩), .int .u64 (page : Int), .int .i64 (l : Int), dvV d] w fun e w' => e = .returned (.int .i64 11) ∧ TS W X w' bt p pm N pool (o + 4) M C Z root E ∧ Fr (Out W X) w w' := by
  have k1 := way_box h page d hp ho
  rw [decide_eq_false (by simpa using hk)] at k1
  have HX : Hid (X bt) := h.xb
  have hs := stps_get (root := root) (E := E) (p := page) (Nat.le_refl _)
  have hen : (stp root E page (lvG E page)).d.k = 0 := hk
  have HS : Hid ((stps root E page)[lvG E page]? = some (stp root E page (lvG E page))) := hs
  have hsl : (stp root E page (lvG E page)).l = lvG E page := rfl
  generalize hst : stp root E page (lvG E page) = st at *
  have z1 : (lvG E page : Int) ≤ l := by omega
  have z2 : (l : Int) ≤ 3 := by omega
  have z3 : ((cnt (fT pool C) pool : Nat) : Int) < (l : Int) - (lvG E page : Int) := by omega
  have z4 : ((lvG E page : Int) == (l : Int)) = false := by rw [beq_eq_false_iff_ne]; omega
  clear h hp ho hk hst hs hc hl hl3
  obtain ⟨sl, sp, su, sk, sa, sr, sq, sx, sf⟩ := st
  simp only at hen hsl
  subst hen
  subst hsl
  generalize stps root E page = L at *
  generalize lvG E page = lv at *
  unfold dvV
  obtain ⟨dk, da, dr, dq, dx, df⟩ := d
  simp only at *
  go_enter Tryz.func62, Tryz.ntmps62
  go_wp2_with fail
  with_reducible refine k1.mono ?_
  rintro e w1 ⟨rfl, L1, H1, _⟩
  have kf := wfree_any (H1.out.1.kps ((Kp.refl w1).alloc (.cells #[.int .i64 (lv : Int), .int .u64 (sp : Int), .int .u64 (su : Int), .int .i64 0, .int .u64 (sa : Int), .bool sr, .bool sq, .bool sx, .int .i64 sf] 64))).fw
  have x0 := L1.cell HS.out (j := 0) rfl
  have x1 := L1.cell HS.out (j := 1) rfl
  have x2 := L1.cell HS.out (j := 2) rfl
  have x3 := L1.cell HS.out (j := 3) rfl
  have x4 := L1.cell HS.out (j := 4) rfl
  have x5 := L1.cell HS.out (j := 5) rfl
  have x6 := L1.cell HS.out (j := 6) rfl
  have x7 := L1.cell HS.out (j := 7) rfl
  have x8 := L1.cell HS.out (j := 8) rfl
  simp only [Nat.add_zero] at x0
  have c0 : ∀ ob, (w1.alloc ob).cell? ⟨bt, 0, none⟩ = some (.pointer (some ⟨p, 0, none⟩)) := fun ob => (H1.out.1.tx.kp ((Kp.refl w1).alloc ob)).c0
  clear k1 L1
  go_wp2_with fail
  with_reducible refine kf.mono ?_
  rintro e w2 ⟨rfl, D2⟩
  have H2 : Hid (TS W (fun i => X i ∨ i = w.heap.size) w2 bt p pm N pool (o + 4) M C Z root E ∧ Fr (Out W X) w w2) := by
    have k := ((Kp.refl w1).alloc (.cells #[.int .i64 (lv : Int), .int .u64 (sp : Int), .int .u64 (su : Int), .int .i64 0, .int .u64 (sa : Int), .bool sr, .bool sq, .bool sx, .int .i64 sf] 64)).trans D2.kp
    exact ⟨H1.out.1.kps k, H1.out.2.trans (k.fr _)⟩
  have S2 : SBk w2 w1.heap.size ⟨lv, sp, su, ⟨0, sa, sr, sq, sx, sf⟩⟩ := (SBk.made w1 ⟨lv, sp, su, ⟨0, sa, sr, sq, sx, sf⟩⟩).kp D2.kp
  have s0 := S2.c 0 rfl
  clear kf H1 D2 S2 c0 x0 x1 x2 x3 x4 x5 x6 x7 x8
  generalize cnt (fT pool C) pool = fr at *
  generalize cnt (fP pool N C) N = fp at *
  go_wp2
  go_ret
  exact ⟨rfl, H2.out.1.less (fun _ => .inl) HX.out, H2.out.2⟩
end
end Go.Proofs.YtanlcmdnhhdhaaaGreatDoor

/- stage2: place, where it goes. -/
namespace Go.Proofs.YtanlcmdnhhdhaaaGreatDoor
open Go.RowKit
set_option maxRecDepth 10000

theorem tkn_cnt {F : Nat → Bool} {hi : Nat} (h : TkR F 0 none) : cnt F hi = 0 := (cnt_zero hi).2 fun k _ => by
  cases e : F k
  · rfl
  · obtain ⟨o, ho, hr⟩ := run_of e
    exact absurd hr (h o (Nat.zero_le _) ho _)
theorem tk_there {F : Nat → Bool} {hi : Nat} (h : 0 < cnt F hi) : ∃ y, TkR F 0 (some y) := by
  obtain ⟨r, hr⟩ := tkr_ex F 0
  cases r with
  | none => have := tkn_cnt (hi := hi) hr; omega
  | some y => exact ⟨y, hr⟩
/-- Where the entry of a page's way lies. -/
def aG (root : Nat) (E : Nat → Nat → DV) (page l : Nat) : Nat := tbX root E l (qn page l / 512) * 4096 + 8 * (qn page l % 512)
section
variable {M M0 : Nat → Nat → Nat} {C C0 : Nat → Nat} {pool root page l : Nat} {Z : Nat → Bool} {E E0 : Nat → Nat → DV} {d : DV}
theorem PL.tab (P : PL root E0 E page l) (h : TG M C pool Z root E) (hp : page < 268435456) : ∃ x, tbl root E l (qn page l / 512) = some x ∧ tbX root E l (qn page l / 512) = x ∧ x < pool := h.tab hp (by rw [P.lv]; exact Nat.le_refl _)
theorem PL.none (P : PL root E0 E page l) (h : TG M C pool Z root E) (hl : l ≤ 3) : E l (qn page l) = dN := (h.ok l (qn page l) hl).none P.at
theorem TG.led (h : TG M C pool Z root E) (P : PL root E0 E page l) (hl : l ≤ 2) (hp : page < 268435456) (hpo : pool ≤ 1048576) {y : Nat} (hy : y < pool) (hC : C y = 0) :
    TG (updM (zerM M y) (tbX root E l (qn page l / 512)) (qn page l % 512) (wdD (dT y))) (putC C y 1) pool Z root (hang E l (qn page l) (dT y) (fun _ => dN)) ∧ aG root (hang E l (qn page l) (dT y) (fun _ => dN)) page (l + 1) = y * 4096 + 8 * (qn page (l + 1) % 512) ∧ Ot Z M C (updM (zerM M y) (tbX root E l (qn page l / 512)) (qn page l % 512) (wdD (dT y))) (putC C y 1) := by
  obtain ⟨x, hx, ex, lx⟩ := P.tab h hp
  have mx := h.mine l _ x (by omega) hx
  have xy : x ≠ y := fun c => by rw [c] at mx; omega
  have hZ : Z y = false := by
    cases e : Z y
    · rfl
    · exact absurd hC (h.oth y e)
  have hk := P.at
  rw [ex]
  refine ⟨h.hung hl (by rw [hk]; decide) hy hC hZ hpo (qn_lt hp (by omega)) (fun i hi => ⟨okD_none (by omega), by decide, fun c => by cases c⟩) hx ?_ ?_ ?_ ?_ ?_, ?_, ?_⟩
  · unfold putC; rw [if_pos rfl]
  · intro z hz; unfold putC; rw [if_neg hz]
  · unfold updM; rw [if_pos ⟨rfl, rfl⟩]
  · intro z i hi hz hn; unfold updM zerM; rw [if_neg hn, if_neg hz]
  · intro i hi; unfold updM zerM; rw [if_neg (fun c => xy c.1.symm), if_pos rfl]; rfl
  · unfold aG tbX
    rw [qn_up page hl, tbl_succ, hang_at, if_pos (show (dT y).k = 1 from rfl)]
    show (y * 4096 / 4096) * 4096 + _ = _
    rw [Nat.mul_div_cancel _ (by decide)]
  · intro z hz
    have zy : z ≠ y := fun c => by rw [c, hZ] at hz; cases hz
    have zx : z ≠ x := fun c => by rw [c, mx.2.2] at hz; cases hz
    exact ⟨fun i _ => by unfold updM zerM; rw [if_neg (fun c => zx c.1), if_neg zy], by unfold putC; rw [if_neg zy]⟩
theorem TG.laid (h : TG M C pool Z root E) (P : PL root E0 E page l) (hl : l ≤ 3) (hp : page < 268435456) (ok : okD l d) (hd : d.k ≠ 1) (hb : d.k = 2 → l = 2) :
    TG (updM M (tbX root E l (qn page l / 512)) (qn page l % 512) (wdD d)) C pool Z root (hang E l (qn page l) d (fun _ => dN)) ∧ Ot Z M C (updM M (tbX root E l (qn page l / 512)) (qn page l % 512) (wdD d)) C := by
  obtain ⟨x, hx, ex, lx⟩ := P.tab h hp
  have mx := h.mine l _ x (by omega) hx
  rw [ex]
  refine ⟨h.leaf hl (by rw [P.at]; decide) hd ok hb (qn_lt hp hl) hx ?_ ?_, fun z hz => ⟨fun i _ => ?_, rfl⟩⟩
  · unfold updM; rw [if_pos ⟨rfl, rfl⟩]
  · intro y i hi hn; unfold updM; rw [if_neg hn]
  · unfold updM
    rw [if_neg (fun c => by rw [c.1, mx.2.2] at hz; cases hz)]
end
/-- The loop of place: the level l is come to. -/
structure JP (W : World) (X : Nat → Prop) (w wr : World) (bt p pm N pool o : Nat) (M0 : Nat → Nat → Nat) (C0 : Nat → Nat) (Z : Nat → Bool) (root : Nat) (E0 : Nat → Nat → DV) (page lv bs bd l : Nat) (d : DV) : Prop where
  ex : ∃ M C E, TS W (fun i => (X i ∨ i = bd) ∨ i = bs) wr bt p pm N pool o M C Z root E ∧ PL root E0 E page l ∧ Ot Z M0 C0 M C ∧ cnt (fT pool C) pool + (l - lv) = cnt (fT pool C0) pool ∧ SBk wr bs ⟨l, aG root E page l, 0, dN⟩
  bx : BX wr bd d.k d.a d.r d.q d.x d.f
  fr : Fr (Out W X) w wr
section
variable {W w w' : World} {X Y : Nat → Prop} {bt p pm N pool o : Nat} {M : Nat → Nat → Nat} {C : Nat → Nat} {Z : Nat → Bool} {root : Nat} {E : Nat → Nat → DV}
theorem FT.frX (h : FT W X w bt p pm N pool o M C root) (k : Fr Y w w') (hY : ∀ i, Y i → W.heap.size ≤ i ∧ X i) (hb : ¬ Y bt) : FT W X w' bt p pm N pool o M C root := ⟨h.fw.frX k hY, h.tx.fr k hb, h.xb, h.bw⟩
theorem JP.led {M0 : Nat → Nat → Nat} {C0 : Nat → Nat} {E0 : Nat → Nat → DV} {w0 wr w3 w4 : World} {page lv bs bd l y : Nat} {d : DV} {s : SV} (bx : BX wr bd d.k d.a d.r d.q d.x d.f) (fr : Fr (Out W X) w0 wr)
    (T : TS W (fun i => (X i ∨ i = bd) ∨ i = bs) wr bt p pm N pool o M C Z root E) (P : PL root E0 E page l) (O : Ot Z M0 C0 M C) (hN : cnt (fT pool C) pool + (l - lv) = cnt (fT pool C0) pool) (hy : y < pool) (hC : C y = 0) (hl : l ≤ 2) (hlv : lv ≤ l) (hp : page < 268435456)
    (R3 : Fr (Out W (fun i => (X i ∨ i = bd) ∨ i = bs)) wr w3) (R4 : Fr (Out W (fun i => (X i ∨ i = bd) ∨ i = bs)) w3 w4) (F4 : FT W (fun i => (X i ∨ i = bd) ∨ i = bs) w4 bt p pm N pool (o + 1) (updM (zerM M y) (tbX root E l (qn page l / 512)) (qn page l % 512) (wdD (dT y))) (putC C y 1) root) (S4 : SBk w4 bs s)
    (hbs : W.heap.size ≤ bs) (hbd : bd < bs) (hX : ∀ b, X b → b < bd) (xb : X bt) :
    JP W X w0 (putS w4 bs ⟨l + 1, y * 4096 + 8 * (qn page (l + 1) % 512), 0, dN⟩) bt p pm N pool (o + 1) M0 C0 Z root E0 page lv bs bd (l + 1) d := by
  have hn := T.fw.nums
  obtain ⟨g1, g2, g3⟩ := T.tg.led P hl hp (by omega) hy hC
  have kp := Fr.putS (b := bs) (S := (· = bs)) (Fr.refl _ w4) rfl ⟨l + 1, y * 4096 + 8 * (qn page (l + 1) % 512), 0, dN⟩
  have nbt : ¬ bt = bs := fun c => by have := hX bt xb; omega
  have ct := cnt_take hy hC
  refine ⟨⟨_, _, _, (F4.frX kp (fun i c => ⟨by omega, .inr c⟩) nbt).ts g1, P.on T.tg hl y, O.trans g3, by omega, ?_⟩, ?_, ?_⟩
  · rw [g2]; exact S4.put _
  · have b3 : BX w3 bd d.k d.a d.r d.q d.x d.f := (R3.block bd bx.lt (fun c => c.2 (.inl (.inr rfl)))).trans bx
    have b4 : BX w4 bd d.k d.a d.r d.q d.x d.f := (R4.block bd b3.lt (fun c => c.2 (.inl (.inr rfl)))).trans b3
    exact (kp.block bd b4.lt (by omega)).trans b4
  · have nX : ∀ i, X i → ((X i ∨ i = bd) ∨ i = bs) := fun i c => .inl (.inl c)
    exact ((fr.trans (R3.less nX)).trans (R4.less nX)).putS ⟨hbs, fun c => by have := hX bs c; omega⟩ _
set_option maxHeartbeats 8000000 in
theorem place_deep (h : TS W X w bt p pm N pool o M C Z root E) (ne : NE root E (fun _ _ => False)) (page l : Nat) (d : DV) (hp : page < 268435456) (ho : o < 4000000000000000000) (hk : (enG E page).k = 0) (hlt : lvG E page < l) (hl3 : l ≤ 3) (hc : ¬ cnt (fT pool C) pool < l - lvG E page) (ok : okD l d) (hd : d.k ≠ 0) (hd1 : d.k ≠ 1) (hb : d.k = 2 → l = 2) :
    Calls Tryz.prog 62 #[.pointer (some ⟨bt, 0, none⟩), .int .u64 (page : Int), .int .i64 (l : Int), dvV d] w fun e w' => e = .returned (.int .i64 0) ∧ (∃ M' C' E', TS W X w' bt p pm N pool (o + 12) M' C' Z root E' ∧ NE root E' (fun _ _ => False) ∧ Ot Z M C M' C' ∧ cnt (fT pool C') pool + (l - lvG E page) = cnt (fT pool C) pool ∧ ∀ a b, a ≤ 3 → lfD E' a b = if a = l ∧ b = qn page l then d else lfD E a b) ∧ Fr (Out W X) w w' := by
  have k1 := way_box h page d hp ho
  rw [decide_eq_false (by simpa using hk)] at k1
  have hn := h.fw.nums
  have hs := stps_get (root := root) (E := E) (p := page) (Nat.le_refl _)
  have P0 : PL root E E page (lvG E page) := PL.start hk ne
  have e0 := P0.none h.tg (by omega)
  have hst : stp root E page (lvG E page) = ⟨lvG E page, aG root E page (lvG E page), 0, dN⟩ := by
    unfold stp
    rw [e0]
    rfl
  rw [hst] at hs
  have HS : Hid ((stps root E page)[lvG E page]? = some ⟨lvG E page, aG root E page (lvG E page), 0, dN⟩ ∧ PL root E E page (lvG E page)) := ⟨hs, P0⟩
  have HH : Hid (X bt ∧ W.heap.size ≤ w.heap.size ∧ (∀ b, X b → b < w.heap.size) ∧ pool ≤ 1048576 ∧ pool < N ∧ page < 268435456 ∧ o < 4000000000000000000 ∧ l ≤ 3 ∧ lvG E page ≤ l ∧ l - lvG E page ≤ cnt (fT pool C) pool ∧ okD l d ∧ d.k ≠ 0 ∧ d.k ≠ 1 ∧ (d.k = 2 → l = 2)) := ⟨h.xb, h.fw.kp.size, h.fw.xlt, by omega, by omega, hp, ho, hl3, by omega, by omega, ok, hd, hd1, hb⟩
  have z1 : (lvG E page : Int) ≤ l := by omega
  have z2 : (l : Int) ≤ 3 := by omega
  have z4 : ((lvG E page : Int) == (l : Int)) = false := by rw [beq_eq_false_iff_ne]; omega
  have z5 : (lvG E page : Int) < l := by omega
  have z3 : ¬ ((cnt (fT pool C) pool : Nat) : Int) < (l : Int) - (lvG E page : Int) := by omega
  clear h ne hp ho hk hs hc hlt hl3 hn P0 e0 hst ok hd hd1 hb
  generalize stps root E page = L at *
  generalize hlv : lvG E page = lv at *
  have HL : Hid (lvG E page = lv) := hlv
  clear hlv
  generalize haa : aG root E page lv = aa at *
  have HA : Hid (aG root E page lv = aa) := haa
  clear haa
  unfold dvV
  obtain ⟨dk, da, dr, dq, dx, df⟩ := d
  simp only at *
  go_enter Tryz.func62, Tryz.ntmps62
  go_wp2_with fail
  with_reducible refine k1.mono ?_
  rintro e w1 ⟨rfl, L1, H1, B1⟩
  have kf := wfree_any (H1.out.1.kps ((Kp.refl w1).alloc (.cells #[.int .i64 (lv : Int), .int .u64 (aa : Int), .int .u64 0, .int .i64 0, .int .u64 0, .bool false, .bool false, .bool false, .int .i64 0] 64))).fw
  have x0 := L1.cell HS.out.1 (j := 0) rfl
  have x1 := L1.cell HS.out.1 (j := 1) rfl
  have x2 := L1.cell HS.out.1 (j := 2) rfl
  have x3 := L1.cell HS.out.1 (j := 3) rfl
  have x4 := L1.cell HS.out.1 (j := 4) rfl
  have x5 := L1.cell HS.out.1 (j := 5) rfl
  have x6 := L1.cell HS.out.1 (j := 6) rfl
  have x7 := L1.cell HS.out.1 (j := 7) rfl
  have x8 := L1.cell HS.out.1 (j := 8) rfl
  simp only [Nat.add_zero, dN] at x0 x1 x2 x3 x4 x5 x6 x7 x8
  rw [show ((0 : Nat) : Int) = 0 from rfl] at x2 x4
  have c0 : ∀ ob, (w1.alloc ob).cell? ⟨bt, 0, none⟩ = some (.pointer (some ⟨p, 0, none⟩)) := fun ob => (H1.out.1.tx.kp ((Kp.refl w1).alloc ob)).c0
  have HB : Hid (BX w1 w.heap.size dk da dr dq dx df) := B1
  clear k1 L1 B1
  go_wp2_with fail
  with_reducible refine kf.mono ?_
  rintro e w2 ⟨rfl, D2⟩
  have J0 : JP W X w w2 bt p pm N pool (o + 4) M C Z root E page lv w1.heap.size w.heap.size lv ⟨dk, da, dr, dq, dx, df⟩ := by
    have k := ((Kp.refl w1).alloc (.cells #[.int .i64 (lv : Int), .int .u64 (aa : Int), .int .u64 0, .int .i64 0, .int .u64 0, .bool false, .bool false, .bool false, .int .i64 0] 64)).trans D2.kp
    refine ⟨⟨M, C, E, (H1.out.1.more k w1.heap.size (Nat.le_refl _) ?_), HS.out.2, Ot.refl _ _ _, by omega, ?_⟩, HB.out.kp k, H1.out.2.trans (k.fr _)⟩
    · have := D2.kp.size; simp at this; omega
    · rw [HA.out]
      exact (SBk.made w1 ⟨lv, aa, 0, dN⟩).kp D2.kp
  have s0 : w2.cell? ⟨w1.heap.size, 0, none⟩ = some (.int .i64 (lv : Int)) := by
    obtain ⟨⟨M1, C1, E1, _, _, _, _, S1⟩, _, _⟩ := J0
    exact S1.c 0 rfl
  have HJ : Hid (JP W X w w2 bt p pm N pool (o + 4) M C Z root E page lv w1.heap.size w.heap.size lv ⟨dk, da, dr, dq, dx, df⟩ ∧ W.heap.size ≤ w1.heap.size ∧ w.heap.size < w1.heap.size) := ⟨J0, by have := HH.out.2.1; have := H1.out.2.size; omega, by have := HB.out.lt; omega⟩
  clear kf H1 D2 c0 x0 x1 x2 x3 x4 x5 x6 x7 x8 J0 HB HA HS
  generalize w1.heap.size = bs at *
  generalize w.heap.size = bd at *
  generalize cnt (fP pool N C) N = fp at *
  go_wp2_with fail
  go_loopg [14] 5 (fun g _ wr => ∃ k : Nat, lv ≤ k ∧ k ≤ l ∧ l + 1 - k ≤ g ∧ Hid (JP W X w wr bt p pm N pool (o + 4 + (k - lv)) M C Z root E page lv bs bd k ⟨dk, da, dr, dq, dx, df⟩))
  case atStart => exact ⟨lv, by omega, by omega, by omega, by rw [Nat.sub_self]; exact HJ.out.1⟩
  case round =>
    obtain ⟨k, hk1, hk2, hg, HI⟩ := hrel
    obtain ⟨M1, C1, E1, T1, P1, O1, N1, S1⟩ := HI.out.ex
    by_cases e : k < l
    · have hcn : 0 < cnt (fT pool C1) pool := by have := HH.out.2.2.2.2.2.2.2.2.2.1; omega
      obtain ⟨y, hy⟩ := tk_there hcn
      have kt := wtable_some T1.fw y hy
      have fy := hy.free
      have c0 := T1.tx.c0
      have s1 := S1.c 0 rfl
      have y1 : (k : Int) < l := by omega
      have HI2 : Hid (TS W (fun i => (X i ∨ i = bd) ∨ i = bs) wr bt p pm N pool (o + 4 + (k - lv)) M1 C1 Z root E1 ∧ PL root E E1 page k ∧ Ot Z M C M1 C1 ∧ cnt (fT pool C1) pool + (k - lv) = cnt (fT pool C) pool ∧ SBk wr bs ⟨k, aG root E1 page k, 0, dN⟩ ∧ y < pool ∧ C1 y = 0) := ⟨T1, P1, O1, N1, S1, fy⟩
      clear T1 P1 O1 N1 S1 hcn hy fy
      go_wp2_with fail
      with_reducible refine kt.mono ?_
      rintro _ w3 ⟨rfl, F3, R3⟩
      have FT3 := HI2.out.1.ft.next F3 R3
      have S3 : SBk w3 bs ⟨k, aG root E1 page k, 0, dN⟩ := HI2.out.2.2.2.2.1.fr R3 (fun c => c.2 (.inr rfl))
      have KL : Aside (∀ v, Kp w3 v → Calls Tryz.prog 97 #[.pointer (some ⟨bt, 0, none⟩), svV ⟨k, aG root E1 page k, 0, dN⟩, .int .u64 ((y * 4096 : Nat) : Int), .int .u64 (page : Int)] v fun e w' => e = .returned (svV ⟨k + 1, y * 4096 + 8 * (qn page (k + 1) % 512), 0, dN⟩) ∧ Hid (FT W (fun i => (X i ∨ i = bd) ∨ i = bs) w' bt p pm N pool (o + 4 + (k - lv) + 1) (updM (zerM M1 y) (tbX root E1 k (qn page k / 512)) (qn page k % 512) (wdD (dT y))) (putC C1 y 1) root ∧ Fr (Out W (fun i => (X i ∨ i = bd) ∨ i = bs)) w3 w') ∧ SBk w' bs ⟨k, aG root E1 page k, 0, dN⟩) := fun v kv => by
        obtain ⟨b1, b2, b3, b4, b5, b6, b7, b8, b9, _⟩ := HH.out
        obtain ⟨x, hx, ex, lx⟩ := HI2.out.2.1.tab HI2.out.1.tg b6
        refine (lead_any (FT3.kps kv) (tbX root E1 k (qn page k / 512)) (qn page k % 512) y page ⟨k, aG root E1 page k, 0, dN⟩ rfl (by show k ≤ 2; omega) (by rw [ex]; omega) (Nat.mod_lt _ (by decide)) (by have := HI2.out.2.2.2.2.2.1; omega) b6 (by omega)).mono fun e w' ⟨e1, e2, e3⟩ => ⟨e1, ⟨e2, (kv.fr _).trans e3⟩, (S3.kp kv).fr e3 (fun c => c.2 (.inr rfl))⟩
      have ka := fun v => addrOf_any y v (by have := HI2.out.2.2.2.2.2.1; have := HH.out.2.2.2.1; omega)
      have g0 := S3.c 0 rfl
      have g1 := S3.c 1 rfl
      have g2 := S3.c 2 rfl
      have g3 := S3.c 3 rfl
      have g4 := S3.c 4 rfl
      have g5 := S3.c 5 rfl
      have g6 := S3.c 6 rfl
      have g7 := S3.c 7 rfl
      have g8 := S3.c 8 rfl
      have H3 : Hid (Fr (Out W (fun i => (X i ∨ i = bd) ∨ i = bs)) wr w3) := R3
      clear F3 R3 FT3 S3 kt c0 s1
      generalize haa2 : aG root E1 page k = a1 at *
      generalize ha2 : y * 4096 + 8 * (qn page (k + 1) % 512) = a2 at *
      have HA2 : Hid (y * 4096 + 8 * (qn page (k + 1) % 512) = a2) := ha2
      clear haa2 ha2
      generalize hya : y * 4096 = ya at *
      have HY : Hid (y * 4096 = ya) := hya
      clear hya
      simp only [dN] at g3 g4 g5 g6 g7 g8
      rw [show ((0 : Nat) : Int) = 0 from rfl] at g2 g4
      have kl := fun v kv => KL.out v kv
      simp only [svV, dN] at kl
      rw [show ((0 : Nat) : Int) = 0 from rfl] at kl
      go_wp2_with fail
      go_region_with (first | (go_at_call 29; with_reducible refine (ka _).mono ?_; rintro _ w' ⟨rfl, rfl⟩) | (go_at_call 97; with_reducible refine (kl _ (by first | exact Kp.refl _ | exact (Kp.refl _).drew | exact (Kp.refl _).drewN _)).mono ?_; rintro _ w4 ⟨rfl, H4, S4⟩; have f0 := S4.fz 0; have f1 := S4.fz 1; have f2 := S4.fz 2; have f3 := S4.fz 3; have f4 := S4.fz 4; have f5 := S4.fz 5; have f6 := S4.fz 6; have f7 := S4.fz 7; have f8 := S4.fz 8; have t0 := S4.c 0 rfl; have t1 := S4.c 1 rfl; have t2 := S4.c 2 rfl; have t3 := S4.c 3 rfl; have t4 := S4.c 4 rfl; have t5 := S4.c 5 rfl; have t6 := S4.c 6 rfl; have t7 := S4.c 7 rfl; have t8 := S4.c 8 rfl))
      all_goals
        have HJ2 : Hid (JP W X w (putS w4 bs ⟨k + 1, a2, 0, dN⟩) bt p pm N pool (o + 4 + (k + 1 - lv)) M C Z root E page lv bs bd (k + 1) ⟨dk, da, dr, dq, dx, df⟩) := by
          obtain ⟨b1, b2, b3, b4, b5, b6, b7, b8, b9, _⟩ := HH.out
          obtain ⟨q1, q2, q3, q4, q5, q6, q7⟩ := HI2.out
          have := JP.led HI.out.bx HI.out.fr q1 q2 q3 q4 q6 q7 (by omega) hk1 b6 H3.out H4.out.2 H4.out.1 S4 HJ.out.2.1 HJ.out.2.2 b3 b1
          rw [HY.out, HA2.out, show o + 4 + (k - lv) + 1 = o + 4 + (k + 1 - lv) by omega] at this
          exact this
        clear HI2 HI H3 H4 S4 f0 f1 f2 f3 f4 f5 f6 f7 f8 t0 t1 t2 t3 t4 t5 t6 t7 t8
        go_wp2_with fail
        go_roundg (l + 1 - (k + 1))
        case measure => omega
        case rel => exact ⟨k + 1, by omega, by omega, by omega, HJ2⟩
    · have ek : k = l := by omega
      subst ek
      have KR : Aside (Calls Tryz.prog 79 #[.pointer (some ⟨bt, 0, none⟩), svV ⟨k, aG root E1 page k, 0, dN⟩, dvV ⟨dk, da, dr, dq, dx, df⟩] wr fun e w' => e = .returned (.tuple #[]) ∧ Hid ((∃ M' C' E', TS W X w' bt p pm N pool (o + 12) M' C' Z root E' ∧ NE root E' (fun _ _ => False) ∧ Ot Z M C M' C' ∧ cnt (fT pool C') pool + (k - lv) = cnt (fT pool C) pool ∧ ∀ a b, a ≤ 3 → lfD E' a b = if a = k ∧ b = qn page k then ⟨dk, da, dr, dq, dx, df⟩ else lfD E a b) ∧ Fr (Out W X) w w')) := by
        obtain ⟨b1, b2, b3, b4, b5, b6, b7, b8, b9, b10, b11, b12, b13, b14⟩ := HH.out
        obtain ⟨x, hx, ex, lx⟩ := P1.tab T1.tg b6
        obtain ⟨g1, g2⟩ := T1.tg.laid P1 b8 b6 b11 b13 b14
        obtain ⟨g3, g4⟩ := P1.done (d := ⟨dk, da, dr, dq, dx, df⟩) T1.tg b8 b12 b13
        refine (replace_any T1.ft (tbX root E1 k (qn page k / 512)) (qn page k % 512) ⟨k, aG root E1 page k, 0, dN⟩ ⟨dk, da, dr, dq, dx, df⟩ rfl (fun c => by cases c) (by rw [ex]; omega) (Nat.mod_lt _ (by decide)) b11 (by omega)).mono fun e w' ⟨e1, e2, e3⟩ => ⟨e1, ⟨_, _, _, ((e2.ts g1).le (by omega)).less (fun _ c => .inl (.inl c)) b1, g3, O1.trans g2, N1, g4⟩, HI.out.fr.trans (e3.less fun _ c => .inl (.inl c))⟩
      have B := HI.out.bx
      have d0 := B.c0
      have d1 := B.c1
      have d2 := B.c2
      have d3 := B.c3
      have d4 := B.c4
      have d5 := B.c5
      have g0 := S1.c 0 rfl
      have g1 := S1.c 1 rfl
      have g2 := S1.c 2 rfl
      have g3 := S1.c 3 rfl
      have g4 := S1.c 4 rfl
      have g5 := S1.c 5 rfl
      have g6 := S1.c 6 rfl
      have g7 := S1.c 7 rfl
      have g8 := S1.c 8 rfl
      have y1 : ¬ (k : Int) < k := by omega
      clear T1 P1 O1 N1 S1 B HI
      generalize aG root E1 page k = a1 at *
      have kr := KR.out
      simp only [svV, dvV, dN] at kr
      simp only [dN] at g3 g4 g5 g6 g7 g8
      rw [show ((0 : Nat) : Int) = 0 from rfl] at kr g2 g4
      clear KR
      go_wp2_with fail
      with_reducible refine kr.mono ?_
      rintro _ w3 ⟨rfl, H3⟩
      clear kr
      go_wp2
      go_ret
      exact ⟨rfl, H3.out⟩
end
end Go.Proofs.YtanlcmdnhhdhaaaGreatDoor
