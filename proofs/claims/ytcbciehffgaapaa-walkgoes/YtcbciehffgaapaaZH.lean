/- WalkGoes: the walk. -/
import Derived.Test.YtcbciehffgaapaaZG
namespace Go.Proofs.Ytcbciehffgaapaa
open Go.RowKit
set_option linter.unusedVariables false

/-- The document's walk and what it comes to. -/
def GR (W : World) (q : Nat) (s : Int) (root u : Nat) (rd : Nat → Nat × Bool) (mm : Nat) (t : Nat) (L : List SV) (k : Int) (over : Bool) (v : Value) (w : World) : Prop :=
  RW W q s t u L k over v w ∧ ((over = false ∧ sofar s root u rd L mm t ∧ k = 4) ∨ (over = true ∧ goW s u rd 4 0 root = (L, k, mm)))

theorem GR.keep {W w w' : World} {q : Nat} {s : Int} {root u : Nat} {rd : Nat → Nat × Bool} {mm t : Nat} {L : List SV} {k : Int} {over : Bool} {v : Value} (h : GR W q s root u rd mm t L k over v w) (g : Kp w w') : GR W q s root u rd mm t L k over v w' := ⟨h.1.keep g, h.2⟩
theorem give_GR {W w : World} {q : Nat} {s : Int} {root u : Nat} {rd : Nat → Nat × Bool} {mm t : Nat} {L : List SV} {k : Int} {v : Value} (h : GR W q s root u rd mm t L k false v w) (hu : u < 18446744073709551616) (wd : ∀ p, (rd p).1 < 18446744073709551616) :
    Calls Try.prog 14 #[.pointer (some ⟨q, 0, none⟩), .int .u64 ((rd (atN t u mm)).1 : Int), .bool (rd (atN t u mm)).2] w fun e w' => e = .returned (.tuple #[]) ∧ ∃ t' L' k' o' v', GR W q s root u rd (mm + 1) t' L' k' o' v' w' := by
  obtain ⟨h1, h2⟩ := h
  rcases h2 with ⟨_, hS, hk⟩ | ⟨h3, _⟩
  · have hl := hS.1
    cases ho : (rd (atN t u mm)).2
    · refine (give_stop h1 _).mono ?_
      rintro e w1 ⟨rfl, H⟩
      exact ⟨rfl, _, _, _, _, _, H, .inr ⟨rfl, sofar_stop hS ho⟩⟩
    · by_cases hd : (dvN s mm (rd (atN t u mm)).1).k = 1
      · have hon := sofar_on hS ho hd
        refine (give_word h1 (rd (atN t u mm)).1 (wd _) hu (by rw [hl]; exact hS.2.1) (dvN s mm (rd (atN t u mm)).1).a k false (.inl ⟨by rw [hl]; exact hd, by rw [hl], rfl, ?_⟩)).mono ?_
        · rw [hl]
          symm
          exact decide_eq_false (by have := hon.2.1; omega)
        · rintro e w1 ⟨rfl, v', H⟩
          rw [hl] at H
          exact ⟨rfl, _, _, _, _, _, H, .inl ⟨rfl, hon, hk⟩⟩
      · have hen := sofar_end hS ho hd
        refine (give_word h1 (rd (atN t u mm)).1 (wd _) hu (by rw [hl]; exact hS.2.1) t _ true (.inr ⟨by rw [hl]; exact hd, rfl, rfl, rfl⟩)).mono ?_
        rintro e w1 ⟨rfl, v', H⟩
        rw [hl] at H
        exact ⟨rfl, _, _, _, _, _, H, .inr ⟨rfl, hen⟩⟩
  · cases h3

set_option maxHeartbeats 16000000 in
set_option maxRecDepth 10000 in
theorem goes_walk (stage s : Int) (m root u : Nat) (levels : Int) (stop : Bool) (naD naR : Option Addr) (nD cD nR cR : Nat) (V : Nat → DV) (fR : Nat → Int) (w : World) (HD : DS w naD nD V) (HR : NSK .u64 w naR nR fR) (p1 : bits .and .i64 stage 1 = (m : Int)) (p2 : (m : Int) ≤ 1) (p3 : 1 + (m : Int) = s) (hr : root < 18446744073709551616) (hu : u < 18446744073709551616) :
    Calls Try.prog 3 #[.int .i64 stage, .int .u64 (root : Int), .int .u64 (u : Int), .slice naD nD cD, .slice naR nR cR, .int .i64 levels, .bool stop] w fun e w' => e = .returned (.bool true) ∧ Kp w w' := by
  have hs : 1 ≤ s ∧ s ≤ 2 := by omega
  have st : Aside (∀ w, Calls Try.prog 16 #[] w fun e w' => e = .returned (.bool true) ∧ Kp w w') := fun w => wtold_any w
  have cN : Aside (∀ w, Calls Try.prog 9 #[.int .i64 s, .int .u64 (root : Int), .int .u64 (u : Int), .nilFunc] w fun e w' => e = .returned (.tuple #[.slice (some ⟨w.heap.size, 0, none⟩) 0 4, .int .i64 (-1)]) ∧ Kp w w') := fun w => walk_nil s hs root u hu w
  have hmf : ∀ (fn : Fn) (first cap : Array Value) (w : World), (Instr.makeFunc fn first cap).run Try.prog w = .ok (.func fn first cap) w := fun _ _ _ _ => rfl
  obtain ⟨w0, hw0⟩ : ∃ w0, w0 = w.alloc (.cells #[.bool stop] 4) := ⟨_, rfl⟩
  have K0 : Kp w w0 := by rw [hw0]; exact (Kp.refl _).alloc _
  have bS : w0.heap[w.heap.size]? = some (.cells #[.bool stop] 4) := by rw [hw0]; exact heap_alloc_new w _
  have cT := tables_any s hs root u hr hu levels naD naR nD cD nR cR V fR w0 (HD.kp K0) (HR.kp K0)
  have CT : Aside (Calls Try.prog 8 #[.int .i64 s, .int .u64 (root : Int), .int .u64 (u : Int), .slice naD nD cD, .slice naR nR cR, .int .i64 levels] w0 fun e w' => ∃ va vx A X, e = .returned (.agg #[va, vx]) ∧ UW w' va A ∧ UW w' vx X ∧ A.length ≤ 4 ∧ X.length ≤ 4 ∧ (∀ y ∈ X, y < 18446744073709551616) ∧ Kp w0 w') := cT
  clear cT HD HR
  go_enter Try.func3, Try.ntmps3
  go_wp2_with fail
  rw [← hw0]
  clear hw0
  with_reducible refine CT.out.mono ?_
  rintro e w1 ⟨va, vx, A, X, rfl, hA, hX, lA, lX, wx, K1⟩
  obtain ⟨na, n1, ca, rfl⟩ := hA.shape
  obtain ⟨nx, n2, cx, rfl⟩ := hX.shape
  obtain ⟨w3, hw3⟩ : ∃ w3, w3 = (w1.alloc (.cells #[.slice na n1 ca, .slice nx n2 cx] 26)).alloc (.cells #[.int .i64 stage, .int .i64 s] 3) := ⟨_, rfl⟩
  have K3 : Kp w1 w3 := by rw [hw3]; exact ((Kp.refl _).alloc _).alloc _
  have I3 : IW w1.heap.size (.slice na n1 ca) (.slice nx n2 cx) A X w3 := ⟨by rw [hw3]; exact (((Kp.refl _).alloc _).block _ (by simp)).trans (heap_alloc_new w1 _), hA.kp K3, hX.kp K3⟩
  have T3 : w3.heap[w1.heap.size + 1]? = some (.cells #[.int .i64 stage, .int .i64 s] 3) := by
    rw [hw3]
    have := heap_alloc_new (w1.alloc (.cells #[.slice na n1 ca, .slice nx n2 cx] 26)) (.cells #[.int .i64 stage, .int .i64 s] 3)
    simpa using this
  have S3 : w3.heap[w.heap.size]? = some (.cells #[.bool stop] 4) := ((K1.trans K3).block _ (lt_of_row bS)).trans bS
  have HF : Hid ((∀ y ∈ X, y < 18446744073709551616) ∧ A.length ≤ 100 ∧ X.length ≤ 100) := ⟨wx, by omega, by omega⟩
  have HKw : Hid (Kp w w3) := (K0.trans K1).trans K3
  have HI3 : Hid (IW w1.heap.size (.slice na n1 ca) (.slice nx n2 cx) A X w3) := I3
  have HT3 : Hid (w3.heap[w1.heap.size + 1]? = some (.cells #[.int .i64 stage, .int .i64 s] 3)) := T3
  have HS3 : Hid (w3.heap[w.heap.size]? = some (.cells #[.bool stop] 4)) := S3
  have HK0 : Hid (Kp w3 w3) := Kp.refl _
  clear K0 bS CT hA hX lA lX wx K1 K3 I3 T3 S3
  go_wp2_with fail
  rw [← hw3]
  clear hw3
  generalize w1.heap.size = bw at *
  generalize w.heap.size = bs at *
  go_loopg [18] 3 (fun g v18 wr => ∃ i : Nat, v18 = .int .i64 (i : Int) ∧ i ≤ 2 ∧ 3 - i ≤ g ∧ Hid (Kp w3 wr))
  case atStart => exact ⟨0, rfl, by decide, by decide, HK0⟩
  case round =>
    clear HK0
    obtain ⟨i, rfl, i1, ig, HKr⟩ := hrel
    by_cases c : i < 2
    · obtain ⟨sv, hsv⟩ : ∃ sv, wr.cell? ⟨bw + 1, i, none⟩ = some (.int .i64 sv) := by
        have h := (HKr.out.block _ (lt_of_row HT3.out)).trans HT3.out
        rcases (by omega : i = 0 ∨ i = 1) with rfl | rfl
        · exact ⟨stage, by rw [cell_of_row _ _ 0 _ _ _ h]; rfl⟩
        · exact ⟨s, by rw [cell_of_row _ _ 1 _ _ _ h]; rfl⟩
      have y1 : (i : Int) < 2 := by omega
      have y2 : (i : Int) ≤ 1 := by omega
      have hsw : ∀ o, (wr.alloc o).cell? ⟨bw + 1, i, none⟩ = some (.int .i64 sv) := fun o => by
        have h := (HKr.out.block _ (lt_of_row HT3.out)).trans HT3.out
        rw [Kp.cell ((Kp.refl wr).alloc o) (p := ⟨bw + 1, i, none⟩) (lt_of_row h)]; exact hsv
      obtain ⟨w4, hw4⟩ : ∃ w4, w4 = wr.alloc (.cells #[.int .i64 0] 3) := ⟨_, rfl⟩
      have K4 : Kp wr w4 := by rw [hw4]; exact (Kp.refl _).alloc _
      have N4 : w4.heap[wr.heap.size]? = some (.cells #[.int .i64 0] 3) := by rw [hw4]; exact heap_alloc_new wr _
      by_cases hv : 1 ≤ sv ∧ sv ≤ 2
      · have I3 := HI3.out
        have sz := HKr.out.size
        have R := readG wr.heap.size bw bs (.slice na n1 ca) (.slice nx n2 cx) A X stop HF.out.2.1 HF.out.2.2 HF.out.1 (by have := lt_of_row I3.1; omega) (by have := lt_of_row HS3.out; omega) (fun g e => by have := I3.2.1.lt e; omega) (fun g e => by have := I3.2.2.lt e; omega)
        have I4 : IG wr.heap.size bw bs (.slice na n1 ca) (.slice nx n2 cx) A X stop 0 w4 := ⟨N4, ((HKr.out.trans K4).block _ (lt_of_row HS3.out)).trans HS3.out, I3.kp (HKr.out.trans K4)⟩
        have c1 := walk_any R sv hv root u 0 hr hu (by decide) w4 I4
        have E := ends_any sv u (rdW A X stop) 4 0 root (by decide) (by decide)
        obtain ⟨⟨L, k, n⟩, hg⟩ : ∃ g, g = goW sv u (rdW A X stop) 4 0 root := ⟨_, rfl⟩
        rw [← hg] at c1 E
        have C1 : Aside (Calls Try.prog 9 #[.int .i64 sv, .int .u64 (root : Int), .int .u64 (u : Int), .func (.func 10) #[] #[.pointer (some ⟨wr.heap.size, 0, none⟩), .pointer (some ⟨bw, 0, none⟩), .pointer (some ⟨bs, 0, none⟩)]] w4 fun e w' => e = .returned (.tuple #[.slice (some ⟨w4.heap.size, 0, none⟩) L.length 4, .int .i64 k]) ∧ WL w' w4.heap.size L ∧ IG wr.heap.size bw bs (.slice na n1 ca) (.slice nx n2 cx) A X stop (0 + n) w' ∧ Fr (· = wr.heap.size) w4 w') := c1
        have HG0 : Hid ((L, k, n) = goW sv u (rdW A X stop) 4 0 root) := hg
        have HLN : Hid (L.length ≤ 4 ∧ n ≤ 4) := ⟨by have h1 := E.few; have h2 := E.le; simp only at h1 h2; omega, E.few⟩
        rw [Nat.zero_add] at C1
        clear c1 E hg R I4 I3
        go_wp2_with fail
        rw [← hw4]
        with_reducible refine C1.out.mono ?_
        rintro e w5 ⟨rfl, L5, I5, F5⟩
        have K5 : Kp wr w5 := F5.kp K4 (fun i e => by omega)
        have hs5 : w5.cell? ⟨bw + 1, i, none⟩ = some (.int .i64 sv) := by
          have h := (HKr.out.block _ (lt_of_row HT3.out)).trans HT3.out
          rw [Kp.cell K5 (p := ⟨bw + 1, i, none⟩) (lt_of_row h)]; exact hsv
        have HK5 : Hid (Kp w3 w5) := HKr.out.trans K5
        have HL5 : Hid (WL w5 w4.heap.size L) := L5
        have HI5 : Hid (IG wr.heap.size bw bs (.slice na n1 ca) (.slice nx n2 cx) A X stop n w5) := I5
        have cB := begin_any sv root u w5
        rw [decide_eq_false (fun h => h hv)] at cB
        generalize wr.heap.size = bn at *
        generalize w4.heap.size = bl at *
        clear C1 L5 I5 F5 K5 K4 N4 hw4 hsw hsv HKr
        obtain ⟨ll, hll⟩ : ∃ ll, L.length = ll := ⟨_, rfl⟩
        have HLL : Hid (L.length = ll) := hll
        rw [hll]
        clear hll
        go_wp2_with fail
        with_reducible refine cB.mono ?_
        rintro e w6 ⟨rfl, R6⟩
        have HG6 : Hid (GR w5 w5.heap.size sv root u (rdW A X stop) 0 root [] 4 false (.slice none 0 0) w6) := ⟨R6, .inl ⟨rfl, ⟨rfl, by decide, hr, by simp⟩, rfl⟩⟩
        clear R6 cB hs5
        generalize w5.heap.size = q at *
        go_wp2_with fail
        go_loopg [20] 6 (fun g v20 wi => ∃ (mm t : Nat) (L' : List SV) (k' : Int) (over : Bool) (v' : Value), v20 = .int .i64 (mm : Int) ∧ mm ≤ 5 ∧ 6 - mm ≤ g ∧ Hid (GR w5 q sv root u (rdW A X stop) mm t L' k' over v' wi))
        case atStart => exact ⟨0, _, _, _, _, _, rfl, by decide, by decide, HG6⟩
        case round =>
          clear HG6
          obtain ⟨mm, t, L', k', over, v', rfl, m1, mg, HG⟩ := hrel
          cases over
          · have hm3 : mm ≤ 3 ∧ L'.length = mm := by
              rcases HG.out.2 with ⟨_, h, _⟩ | ⟨h, _⟩
              · exact ⟨h.2.1, h.1⟩
              · cases h
            have z1 : (mm : Int) ≤ 3 := by omega
            have kw : Kp w5 wr := HG.out.1.kp
            have Iw := HI5.out.2.2.kp kw
            have Sw := (kw.block _ (lt_of_row HI5.out.2.1)).trans HI5.out.2.1
            obtain ⟨P, hP⟩ : ∃ P, P = atN t u mm := ⟨_, rfl⟩
            have hAt : Aside (∀ p : KeptBy wr, Calls Try.prog 13 #[.pointer (some ⟨q, 0, none⟩)] p.v fun e w' => e = .returned (.int .u64 (P : Int)) ∧ Kp p.v w') := fun p => by
              have h := at_any (HG.out.1.keep p.k) hu
              rw [hm3.2, ← hP] at h
              exact h
            have hRd : Aside (∀ p : KeptBy wr, Calls Try.prog 11 #[.agg #[.slice na n1 ca, .slice nx n2 cx], .int .u64 (P : Int), .bool stop] p.v fun e w' => e = .returned (.tuple #[.int .u64 ((rdW A X stop P).1 : Int), .bool (rdW A X stop P).2]) ∧ Kp p.v w') := fun p => read_any (Iw.kp p.k).2.1 (Iw.kp p.k).2.2 P stop HF.out.2.1 HF.out.2.2
            have kb : Nonempty (KeptBy wr) := KeptBy.some
            have k0 : ∀ p : KeptBy wr, p.v.cell? ⟨bw, 0, none⟩ = some (.slice na n1 ca) := fun p => (Iw.kp p.k).cells.1
            have k1 : ∀ p : KeptBy wr, p.v.cell? ⟨bw, 1, none⟩ = some (.slice nx n2 cx) := fun p => (Iw.kp p.k).cells.2
            have k2 : ∀ p : KeptBy wr, p.v.cell? ⟨bs, 0, none⟩ = some (.bool stop) := fun p => cell_one ((p.k.block _ (lt_of_row Sw)).trans Sw)
            have c5 := HG.out.1.c5
            have cG := fun w7 (g : Kp wr w7) => give_GR (HG.out.keep g) hu (fun p => rdW_word HF.out.1 stop p)
            rw [← hP] at cG
            obtain ⟨xw, hxw⟩ : ∃ xw, xw = (rdW A X stop P).1 := ⟨_, rfl⟩
            obtain ⟨okw, hok⟩ : ∃ okw, okw = (rdW A X stop P).2 := ⟨_, rfl⟩
            rw [← hxw, ← hok] at hRd cG
            have CG : Aside (∀ w7, Kp wr w7 → Calls Try.prog 14 #[.pointer (some ⟨q, 0, none⟩), .int .u64 (xw : Int), .bool okw] w7 fun e w' => e = .returned (.tuple #[]) ∧ ∃ t' L' k' o' v', GR w5 q sv root u (rdW A X stop) (mm + 1) t' L' k' o' v' w') := cG
            clear cG hxw hok kw Iw Sw hP
            go_wp2_with fail
            clear c5
            refine wp_region_kept mixed (by kernel_rfl) ?_
            repeat (go_big_quiet_step (first | exact rfl | (go_at_call 13; with_reducible refine Calls.kept_of (hAt.out _)) | (go_at_call 11; with_reducible refine Calls.kept_of (hRd.out _))))
            refine wpQuiet_nil ?_
            intro w7 hw'
            have kq : Kp wr w7 := by obtain ⟨p, rfl⟩ := hw'; exact p.k
            have cg := CG.out w7 kq
            clear hw' kq hAt hRd CG k0 k1 k2 kb HG
            go_wp2_with fail
            with_reducible refine cg.mono ?_
            rintro e w8 ⟨rfl, t2, L2, k2, o2, v2, G2⟩
            have HG2 : Hid (GR w5 q sv root u (rdW A X stop) (mm + 1) t2 L2 k2 o2 v2 w8) := G2
            clear cg G2
            go_wp2
            go_roundg (6 - (mm + 1))
            case measure => omega
            case rel => exact ⟨mm + 1, t2, L2, k2, o2, v2, by go_num, by omega, by omega, HG2⟩
          · have hgo : L' = L ∧ k' = k ∧ mm = n := by
              rcases HG.out.2 with ⟨h, _⟩ | ⟨_, h⟩
              · cases h
              · rw [← HG0.out] at h
                cases h
                exact ⟨rfl, rfl, rfl⟩
            obtain ⟨rfl, rfl, rfl⟩ := hgo
            have kw : Kp w5 wr := HG.out.1.kp
            have c3 := HG.out.1.c3
            have c4 := HG.out.1.c4
            have c5 := HG.out.1.c5
            have hW := HL5.out.kp kw
            have cs := same_any (va := .slice (some ⟨bl, 0, none⟩) L'.length 4) hW HG.out.1.own (by have := HLN.out.1; omega)
            rw [HLL.out] at cs
            obtain ⟨nv, cv, hv2⟩ := HG.out.1.shape
            subst hv2
            have cn : wr.cell? ⟨bn, 0, none⟩ = some (.int .i64 (mm : Int)) := cell_one ((kw.block _ (lt_of_row HI5.out.1)).trans HI5.out.1)
            have HKx : Hid (Kp w3 wr) := HK5.out.trans kw
            have lq := lt_of_row HG.out.1.row
            have lbn := lt_of_row ((kw.block _ (lt_of_row HI5.out.1)).trans HI5.out.1)
            clear hW kw
            go_wp2_with fail
            with_reducible refine cs.mono ?_
            rintro e w9 ⟨rfl, K9⟩
            have d4 : w9.cell? ⟨q, 4, none⟩ = some (.int .i64 k') := (Kp.cell K9 (p := ⟨q, 4, none⟩) lq).trans c4
            have dn : w9.cell? ⟨bn, 0, none⟩ = some (.int .i64 (mm : Int)) := (Kp.cell K9 (p := ⟨bn, 0, none⟩) lbn).trans cn
            have HK9 : Hid (Kp w3 w9) := HKx.out.trans K9
            have zk : (k' != k') = false := by simp
            have zn : ((mm : Int) != (mm : Int)) = false := by simp
            clear K9 cs c3 c4 c5 cn HKx HG
            go_wp2
            go_roundg (3 - (i + 1))
            case measure => omega
            case rel => exact ⟨i + 1, by go_num, by omega, by omega, HK9⟩
      · have cW := fun v w => walk_bad sv hv (root : Int) (u : Int) v w
        have cB := begin_any sv root u w4
        rw [decide_eq_true hv] at cB
        have hs4 : w4.cell? ⟨bw + 1, i, none⟩ = some (.int .i64 sv) := by rw [hw4]; exact hsw _
        have HK4 : Hid (Kp w3 w4) := HKr.out.trans K4
        have HN4 : Hid (w4.heap[wr.heap.size]? = some (.cells #[.int .i64 0] 3)) := N4
        clear hsv HKr K4 N4
        go_wp2_with fail
        rw [← hw4]
        with_reducible refine (cW _ _).mono ?_
        rintro e w5 ⟨rfl, rfl⟩
        generalize wr.heap.size = bn at *
        clear hsw hw4 cW
        go_wp2_with fail
        with_reducible refine cB.mono ?_
        rintro e w6 ⟨rfl, R6⟩
        have HR6 : Hid (RW w5 w5.heap.size sv root u [] 4 true (.slice none 0 0) w6) := R6
        clear R6 cB hs4
        generalize w5.heap.size = q at *
        go_wp2_with fail
        go_loopg [20] 1 (fun g v20 wi => v20 = .int .i64 0 ∧ 1 ≤ g ∧ wi = w6)
        case atStart => exact ⟨rfl, by decide, rfl⟩
        case round =>
          obtain ⟨rfl, mg, rfl⟩ := hrel
          have kw := HR6.out.kp
          have c3 := HR6.out.c3
          have c4 := HR6.out.c4
          have c5 := HR6.out.c5
          have cs := same_any (va := .slice none 0 0) (OL.nil _ wr) HR6.out.own (by decide)
          have cn : wr.cell? ⟨bn, 0, none⟩ = some (.int .i64 0) := cell_one ((kw.block _ (lt_of_row HN4.out)).trans HN4.out)
          have HKx : Hid (Kp w3 wr) := HK4.out.trans kw
          have lq := lt_of_row HR6.out.row
          have lbn := lt_of_row ((kw.block _ (lt_of_row HN4.out)).trans HN4.out)
          clear kw
          go_wp2_with fail
          with_reducible refine cs.mono ?_
          rintro e w9 ⟨rfl, K9⟩
          have d4 : w9.cell? ⟨q, 4, none⟩ = some (.int .i64 4) := (Kp.cell K9 (p := ⟨q, 4, none⟩) lq).trans c4
          have dn : w9.cell? ⟨bn, 0, none⟩ = some (.int .i64 0) := (Kp.cell K9 (p := ⟨bn, 0, none⟩) lbn).trans cn
          have HK9 : Hid (Kp w3 w9) := HKx.out.trans K9
          clear K9 cs c3 c4 c5 cn HKx HR6
          go_wp2
          go_roundg (3 - (i + 1))
          case measure => omega
          case rel => exact ⟨i + 1, by go_num, by omega, by omega, HK9⟩
    · have y1 : ¬ (i : Int) < 2 := by omega
      have HKx : Hid (Kp w wr) := HKw.out.trans HKr.out
      go_wp2_with fail
      with_reducible refine (cN.out _).mono ?_
      rintro e w5 ⟨rfl, K5⟩
      have HK5 : Hid (Kp w w5) := HKx.out.trans K5
      clear K5 HKx
      go_wp2_with fail
      with_reducible refine (st.out _).mono ?_
      rintro e w6 ⟨rfl, K6⟩
      have HK6 : Hid (Kp w w6) := HK5.out.trans K6
      clear K6 HK5
      go_wp2
      go_ret
      exact ⟨rfl, HK6.out⟩

theorem goes_law (stage root u levels : Int) (stop : Bool) (naD naR : Option Addr) (nD cD nR cR : Nat) (V : Nat → DV) (fR : Nat → Int) (w : World) (HD : DS w naD nD V) (HR : NSK .u64 w naR nR fR) (hr : (Lit.int .u64 root).wf = true) (hu : (Lit.int .u64 u).wf = true) :
    Calls Try.prog 3 #[.int .i64 stage, .int .u64 root, .int .u64 u, .slice naD nD cD, .slice naR nR cR, .int .i64 levels, .bool stop] w fun e w' => e = .returned (.bool true) ∧ Kp w w' := by
  have b1 := wf_word hr
  have b2 := wf_word hu
  obtain ⟨root, rfl⟩ : ∃ n : Nat, root = n := ⟨root.toNat, by omega⟩
  obtain ⟨u, rfl⟩ : ∃ n : Nat, u = n := ⟨u.toNat, by omega⟩
  obtain ⟨m, hm, hm'⟩ := and_lim stage 1 (by decide)
  exact goes_walk stage _ m root u levels stop naD naR nD cD nR cR V fR w HD HR hm (by omega) rfl (by omega) (by omega)

end Go.Proofs.Ytcbciehffgaapaa
