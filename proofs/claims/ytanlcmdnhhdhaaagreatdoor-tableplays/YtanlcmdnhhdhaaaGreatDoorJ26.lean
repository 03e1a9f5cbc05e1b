/- Joined: R40, R41. -/
import Derived.Test.YtanlcmdnhhdhaaaGreatDoorJ25
/- stage2: blockOf. -/
namespace Go.Proofs.YtanlcmdnhhdhaaaGreatDoor
open Go.RowKit
set_option maxRecDepth 10000

/-- The Block that begins as a Page does. -/
def bkD (d : DV) : DV := ⟨2, d.a, d.r, d.q, d.x, d.f⟩
/-- These are the Pages of a Block. -/
def whB (g : Nat → DV) : Prop := ∀ i, i < 512 → g i = pgOf (bkD (g 0)) i
theorem eqd_iff (d e : DV) : ((d.k == e.k) && ((d.a : Int) == (e.a : Int)) && ((d.r == e.r) && (d.q == e.q) && (d.x == e.x)) && (d.f == e.f)) = true ↔ d = e := by
  constructor
  · intro h
    simp at h
    obtain ⟨⟨⟨h1, h2⟩, ⟨h3, h4⟩, h5⟩, h6⟩ := h
    exact dv_eq h1 (by omega) h3 h4 h5 h6
  · rintro rfl
    simp
section
variable {W w w' : World} {X Y : Nat → Prop} {bt p pm N pool o : Nat} {M : Nat → Nat → Nat} {C : Nat → Nat} {Z : Nat → Bool} {root : Nat} {E : Nat → Nat → DV}
set_option maxHeartbeats 4000000 in
theorem blockOf_low (w : World) (bt xa : Nat) (g : Nat → DV) (ga : ∀ i, i < 512 → (g i).a < 4294967296)
    (ke : ∀ ob, Calls Tryz.prog 110 #[.pointer (some ⟨bt, 0, none⟩), .int .u64 (xa : Int), .int .i64 3] (w.alloc ob) fun e w' => (e = .returned (.slice (some ⟨w.heap.size + 1, 0, none⟩) 512 512) ∧ WD w' (w.heap.size + 1) ((List.range 512).map g)) ∧ Kp (w.alloc ob) w') :
    Calls Tryz.prog 78 #[.pointer (some ⟨bt, 0, none⟩), .int .u64 (xa : Int)] w fun e w' => (∃ D t, e = .returned (.tuple #[dvV D, .bool t]) ∧ (t = true ↔ (whB g ∧ okD 2 (bkD (g 0)))) ∧ (t = true → D = bkD (g 0))) ∧ Kp w w' := by
  have kpg : Aside (∀ (i : Nat) (v : World), i < 512 → Calls Tryz.prog 109 #[dvV (bkD (g 0)), .int .i64 (i : Int)] v fun e w' => e = .returned (dvV (pgOf (bkD (g 0)) i)) ∧ Kp v w') := fun i v hi => pageOf_any (bkD (g 0)) i v (ga 0 (by omega)) hi
  have kch : Aside (∀ v, Calls Tryz.prog 111 #[.int .i64 2, .int .i64 2, dvV (bkD (g 0))] v fun e w' => e = .returned (.int .i64 (dchk 2 2 2 (g 0).a (g 0).r (g 0).q (g 0).x (g 0).f)) ∧ Kp v w') := fun v => dcheck_any 2 2 2 (g 0).a (g 0).r (g 0).q (g 0).x (g 0).f v
  have hok : okD 2 (bkD (g 0)) ↔ dchk 2 2 2 (g 0).a (g 0).r (g 0).q (g 0).x (g 0).f = 0 := Iff.rfl
  generalize dchk 2 2 2 (g 0).a (g 0).r (g 0).q (g 0).x (g 0).f = ck at *
  have hg0 : ∀ v b, WD v b ((List.range 512).map g) → ∀ j y, (encD (g 0))[j]? = some y → v.cell? ⟨b, j, none⟩ = some y := fun v b hv j y hy => by
    have := hv.cell (i := 0) (j := j) (x := g 0) (by rfl) hy
    simpa using this
  have HG : Hid (okD 2 (bkD (g 0)) ↔ ck = 0) := hok
  clear ga hok
  obtain ⟨d0, hd0⟩ : ∃ d, d = g 0 := ⟨_, rfl⟩
  have HD0 : Hid (d0 = g 0) := hd0
  rw [← hd0] at hg0
  have hb0 : bkD (g 0) = bkD d0 := by rw [hd0]
  rw [hb0] at kpg
  rw [hb0] at kch
  clear hd0 hb0
  obtain ⟨zk, za, zr, zq, zx, zf⟩ := d0
  have KP : Aside (∀ (i : Nat) (v : World), i < 512 → Calls Tryz.prog 109 #[.agg #[.int .i64 2, .int .u64 (za : Int), .bool zr, .bool zq, .bool zx, .int .i64 zf], .int .i64 (i : Int)] v fun e w' => e = .returned (.agg #[.int .i64 3, .int .u64 ((za + i * 4096 : Nat) : Int), .bool zr, .bool zq, .bool zx, .int .i64 zf]) ∧ Kp v w') := kpg
  have KC : Aside (∀ v, Calls Tryz.prog 111 #[.int .i64 2, .int .i64 2, .agg #[.int .i64 2, .int .u64 (za : Int), .bool zr, .bool zq, .bool zx, .int .i64 zf]] v fun e w' => e = .returned (.int .i64 ck) ∧ Kp v w') := kch
  clear kpg kch
  go_enter Tryz.func78, Tryz.ntmps78
  go_wp2_with fail
  with_reducible refine (ke _).mono ?_
  rintro e w1 ⟨⟨rfl, D1⟩, K1⟩
  have B1 : BX w1 w.heap.size 0 0 false false false 0 := (BX.made w 0 0 false false false 0).kp K1
  have x0 := hg0 w1 _ D1 0 _ rfl
  have x1 := hg0 w1 _ D1 1 _ rfl
  have x2 := hg0 w1 _ D1 2 _ rfl
  have x3 := hg0 w1 _ D1 3 _ rfl
  have x4 := hg0 w1 _ D1 4 _ rfl
  have x5 := hg0 w1 _ D1 5 _ rfl
  have H1 : Hid (WD w1 (w.heap.size + 1) ((List.range 512).map g) ∧ BX w1 w.heap.size 0 0 false false false 0 ∧ Kp w w1) := ⟨D1, B1, ((Kp.refl w).alloc _).trans K1⟩
  clear ke D1 B1 K1 hg0
  go_wp2_with fail
  have B7 : BX (w1.alloc (.cells #[.int .i64 2, .int .u64 (za : Int), .bool zr, .bool zq, .bool zx, .int .i64 zf] 62)) w1.heap.size 2 za zr zq zx zf := heap_alloc_new w1 _
  have H2 : Hid (WD (w1.alloc (.cells #[.int .i64 2, .int .u64 (za : Int), .bool zr, .bool zq, .bool zx, .int .i64 zf] 62)) (w.heap.size + 1) ((List.range 512).map g) ∧ BX (w1.alloc (.cells #[.int .i64 2, .int .u64 (za : Int), .bool zr, .bool zq, .bool zx, .int .i64 zf] 62)) w.heap.size 0 0 false false false 0 ∧ Kp w (w1.alloc (.cells #[.int .i64 2, .int .u64 (za : Int), .bool zr, .bool zq, .bool zx, .int .i64 zf] 62)) ∧ BX (w1.alloc (.cells #[.int .i64 2, .int .u64 (za : Int), .bool zr, .bool zq, .bool zx, .int .i64 zf] 62)) w1.heap.size 2 za zr zq zx zf) := ⟨H1.out.1.kp ((Kp.refl _).alloc _), H1.out.2.1.kp ((Kp.refl _).alloc _), H1.out.2.2.alloc _, B7⟩
  clear x0 x1 x2 x3 x4 x5 B7 H1
  generalize w1.heap.size = b7 at *
  go_loopg [19] 514 (fun gg v19 wr => ∃ k : Nat, v19 = .int .i64 (k : Int) ∧ k ≤ 512 ∧ 513 - k ≤ gg ∧ Hid ((WD wr (w.heap.size + 1) ((List.range 512).map g) ∧ BX wr w.heap.size 0 0 false false false 0 ∧ Kp w wr ∧ BX wr b7 2 za zr zq zx zf) ∧ ∀ i, i < k → g i = pgOf (bkD ⟨zk, za, zr, zq, zx, zf⟩) i))
  case atStart => exact ⟨0, rfl, by omega, by omega, H2.out, fun i hi => by omega⟩
  case round =>
    obtain ⟨k, rfl, hk, hg, HI⟩ := hrel
    by_cases ek : k < 512
    · have z1 : (k : Int) < 512 := by omega
      have kp := fun v => KP.out k v ek
      have cu := fun j y hy => HI.out.1.1.cell (i := k) (j := j) (x := g k) (y := y) (by rw [List.getElem?_map, List.getElem?_range ek]; rfl) hy
      obtain ⟨d, hd⟩ : ∃ d, d = g k := ⟨_, rfl⟩
      rw [← hd] at cu
      have HQ : Hid (((d.k == 3) && ((d.a : Int) == ((za + k * 4096 : Nat) : Int)) && ((d.r == zr) && (d.q == zq) && (d.x == zx)) && (d.f == zf)) = true ↔ g k = pgOf (bkD ⟨zk, za, zr, zq, zx, zf⟩) k) := by rw [← hd]; exact eqd_iff d (pgOf (bkD ⟨zk, za, zr, zq, zx, zf⟩) k)
      clear hd
      obtain ⟨dk, da, dr, dq, dx, df⟩ := d
      have x0 := cu 0 _ rfl
      have x1 := cu 1 _ rfl
      have x2 := cu 2 _ rfl
      have x3 := cu 3 _ rfl
      have x4 := cu 4 _ rfl
      have x5 := cu 5 _ rfl
      simp only [Nat.add_zero] at x0
      have hq := eq_desc dk (da : Int) 3 ((za + k * 4096 : Nat) : Int) df zf dr dq dx zr zq zx
      simp only at HQ
      generalize za + k * 4096 = pa at *
      generalize ((dk == 3) && ((da : Int) == (pa : Int)) && ((dr == zr) && (dq == zq) && (dx == zx)) && (df == zf)) = D at *
      have HS : Aside (∀ v, Kp (wr.alloc (.cells #[.int .i64 dk, .int .u64 (da : Int), .bool dr, .bool dq, .bool dx, .int .i64 df] 62)) v → v.cell? ⟨wr.heap.size, 0, none⟩ = some (.int .i64 dk) ∧ v.cell? ⟨wr.heap.size, 1, none⟩ = some (.int .u64 (da : Int)) ∧ v.cell? ⟨wr.heap.size, 2, none⟩ = some (.bool dr) ∧ v.cell? ⟨wr.heap.size, 3, none⟩ = some (.bool dq) ∧ v.cell? ⟨wr.heap.size, 4, none⟩ = some (.bool dx) ∧ v.cell? ⟨wr.heap.size, 5, none⟩ = some (.int .i64 df) ∧ v.cell? ⟨b7, 0, none⟩ = some (.int .i64 2) ∧ v.cell? ⟨b7, 1, none⟩ = some (.int .u64 (za : Int)) ∧ v.cell? ⟨b7, 2, none⟩ = some (.bool zr) ∧ v.cell? ⟨b7, 3, none⟩ = some (.bool zq) ∧ v.cell? ⟨b7, 4, none⟩ = some (.bool zx) ∧ v.cell? ⟨b7, 5, none⟩ = some (.int .i64 zf)) := fun v kv => by
        have b9 : BX (wr.alloc (.cells #[.int .i64 dk, .int .u64 (da : Int), .bool dr, .bool dq, .bool dx, .int .i64 df] 62)) wr.heap.size dk da dr dq dx df := heap_alloc_new wr _
        have c9 := b9.kp kv
        have c7 := (HI.out.1.2.2.2.kp ((Kp.refl wr).alloc _)).kp kv
        exact ⟨c9.c0, c9.c1, c9.c2, c9.c3, c9.c4, c9.c5, c7.c0, c7.c1, c7.c2, c7.c3, c7.c4, c7.c5⟩
      have S0 := HS.out _ (Kp.refl _)
      clear KC KP cu
      go_wp2_with fail
      clear x0 x1 x2 x3 x4 x5
      go_region_held3 (fun v => v.cell? ⟨wr.heap.size, 0, none⟩ = some (.int .i64 dk) ∧ v.cell? ⟨wr.heap.size, 1, none⟩ = some (.int .u64 (da : Int)) ∧ v.cell? ⟨wr.heap.size, 2, none⟩ = some (.bool dr) ∧ v.cell? ⟨wr.heap.size, 3, none⟩ = some (.bool dq) ∧ v.cell? ⟨wr.heap.size, 4, none⟩ = some (.bool dx) ∧ v.cell? ⟨wr.heap.size, 5, none⟩ = some (.int .i64 df) ∧ v.cell? ⟨b7, 0, none⟩ = some (.int .i64 2) ∧ v.cell? ⟨b7, 1, none⟩ = some (.int .u64 (za : Int)) ∧ v.cell? ⟨b7, 2, none⟩ = some (.bool zr) ∧ v.cell? ⟨b7, 3, none⟩ = some (.bool zq) ∧ v.cell? ⟨b7, 4, none⟩ = some (.bool zx) ∧ v.cell? ⟨b7, 5, none⟩ = some (.int .i64 zf)) (first | exact S0 | exact S4 | go_keep)
        (first | (go_at_call 109; with_reducible refine (kp _).mono ?_; rintro _ w4 ⟨rfl, K4⟩; have K5 : Kp (wr.alloc (.cells #[.int .i64 dk, .int .u64 (da : Int), .bool dr, .bool dq, .bool dx, .int .i64 df] 62)) w4 := Kp.trans (by first | exact Kp.refl _ | exact (Kp.refl _).drew | exact (Kp.refl _).drewN _) K4; have S4 := HS.out w4 K5))
      have H4 : Hid (WD w4 (w.heap.size + 1) ((List.range 512).map g) ∧ BX w4 w.heap.size 0 0 false false false 0 ∧ Kp w w4 ∧ BX w4 b7 2 za zr zq zx zf) := by
        have kk := ((Kp.refl wr).alloc _).trans K5
        exact ⟨HI.out.1.1.kp kk, HI.out.1.2.1.kp kk, HI.out.1.2.2.1.trans kk, HI.out.1.2.2.2.kp kk⟩
      have HI2 : Hid (∀ i, i < k → g i = pgOf (bkD ⟨zk, za, zr, zq, zx, zf⟩) i) := HI.out.2
      clear kp HS S0 S4 K4 K5 hq HI
      cases D
      · have B4 := H4.out.2.1
        have c0 := B4.c0
        have c1 := B4.c1
        have c2 := B4.c2
        have c3 := B4.c3
        have c4 := B4.c4
        have c5 := B4.c5
        have f0 := B4.fz 0
        have f1 := B4.fz 1
        have f2 := B4.fz 2
        have f3 := B4.fz 3
        have f4 := B4.fz 4
        have f5 := B4.fz 5
        clear B4
        go_wp2
        refine bodyPost_ret (res_d2 rfl rfl (BX.put H4.out.2.1 0 0 false false false 0)) rfl ⟨⟨dN, false, rfl, ⟨fun c => (by cases c), fun c => ?_⟩, fun c => (by cases c)⟩, H4.out.2.2.1.putD (Nat.le_refl _)⟩
        have := HQ.out.2 (by rw [HD0.out]; exact c.1 k ek)
        cases this
      · go_wp2_with fail
        go_roundg (513 - (k + 1))
        case measure => omega
        case rel => exact ⟨k + 1, by go_num, by omega, by omega, H4.out, fun i hi => by
          rcases (by omega : i < k ∨ i = k) with c | rfl
          · exact HI2.out i c
          · first | exact HQ.out.1 rfl | exact HQ.out.1 trivial⟩
    · have ei : k = 512 := by omega
      subst ei
      have HW : Hid (whB g) := fun i hi => by rw [← HD0.out]; exact HI.out.2 i hi
      have kc := fun v => KC.out v
      have c0 := HI.out.1.2.2.2.c0
      have c1 := HI.out.1.2.2.2.c1
      have c2 := HI.out.1.2.2.2.c2
      have c3 := HI.out.1.2.2.2.c3
      have c4 := HI.out.1.2.2.2.c4
      have c5 := HI.out.1.2.2.2.c5
      have HB : Aside (∀ v, Kp wr v → v.cell? ⟨w.heap.size, 0, none⟩ = some (.int .i64 0) ∧ v.cell? ⟨w.heap.size, 1, none⟩ = some (.int .u64 0) ∧ v.cell? ⟨w.heap.size, 2, none⟩ = some (.bool false) ∧ v.cell? ⟨w.heap.size, 3, none⟩ = some (.bool false) ∧ v.cell? ⟨w.heap.size, 4, none⟩ = some (.bool false) ∧ v.cell? ⟨w.heap.size, 5, none⟩ = some (.int .i64 0) ∧ v.frozen? ⟨w.heap.size, 0, none⟩ = false ∧ v.frozen? ⟨w.heap.size, 1, none⟩ = false ∧ v.frozen? ⟨w.heap.size, 2, none⟩ = false ∧ v.frozen? ⟨w.heap.size, 3, none⟩ = false ∧ v.frozen? ⟨w.heap.size, 4, none⟩ = false ∧ v.frozen? ⟨w.heap.size, 5, none⟩ = false ∧ v.cell? ⟨b7, 0, none⟩ = some (.int .i64 2) ∧ v.cell? ⟨b7, 1, none⟩ = some (.int .u64 (za : Int)) ∧ v.cell? ⟨b7, 2, none⟩ = some (.bool zr) ∧ v.cell? ⟨b7, 3, none⟩ = some (.bool zq) ∧ v.cell? ⟨b7, 4, none⟩ = some (.bool zx) ∧ v.cell? ⟨b7, 5, none⟩ = some (.int .i64 zf) ∧ Hid (BX v w.heap.size 0 0 false false false 0 ∧ Kp w v)) := fun v kv => by
        have b4 := HI.out.1.2.1.kp kv
        have b8 := HI.out.1.2.2.2.kp kv
        exact ⟨b4.c0, b4.c1, b4.c2, b4.c3, b4.c4, b4.c5, b4.fz 0, b4.fz 1, b4.fz 2, b4.fz 3, b4.fz 4, b4.fz 5, b8.c0, b8.c1, b8.c2, b8.c3, b8.c4, b8.c5, b4, HI.out.1.2.2.1.trans kv⟩
      clear KC KP HI H2
      go_wp2_with fail
      go_region_with (first | (go_at_call 111; with_reducible refine (kc _).mono ?_; rintro _ w5 ⟨rfl, K5⟩; obtain ⟨y0, y1, y2, y3, y4, y5, f0, f1, f2, f3, f4, f5, x0, x1, x2, x3, x4, x5, H6⟩ := HB.out w5 (Kp.trans (by first | exact Kp.refl _ | exact (Kp.refl _).drew | exact (Kp.refl _).drewN _) K5)))
      all_goals
        go_wp2
        refine bodyPost_ret (res_d2 (b := w.heap.size) rfl rfl (BX.put (H6.out.1.kp (by first | exact Kp.refl _ | exact (Kp.refl _).drew | exact (Kp.refl _).drewN _)) 2 za zr zq zx zf)) rfl ⟨⟨⟨2, za, zr, zq, zx, zf⟩, (ck == 0), rfl, ⟨fun c => ⟨HW.out, HG.out.2 (by simpa using c)⟩, fun c => (by simpa using HG.out.1 c.2)⟩, fun _ => (by rw [← HD0.out]; rfl)⟩, (H6.out.2.trans (by first | exact Kp.refl _ | exact (Kp.refl _).drew | exact (Kp.refl _).drewN _)).putD (Nat.le_refl _)⟩
theorem blockOf_any (h : TS W X w bt p pm N pool o M C Z root E) {j x : Nat} (hx : tbl root E 3 j = some x) :
    Calls Tryz.prog 78 #[.pointer (some ⟨bt, 0, none⟩), .int .u64 ((x * 4096 : Nat) : Int)] w fun e w' => (∃ D t, e = .returned (.tuple #[dvV D, .bool t]) ∧ (t = true ↔ (whB (fun i => E 3 (512 * j + i)) ∧ okD 2 (bkD (E 3 (512 * j))))) ∧ (t = true → D = bkD (E 3 (512 * j)))) ∧ Kp w w' := by
  refine blockOf_low w bt (x * 4096) (fun i => E 3 (512 * j + i)) (fun i _ => (h.tg.ok 3 _ (by omega)).parts.2.2.2.2.2.2.1) fun ob => ?_
  have := entries_any (h.kps ((Kp.refl w).alloc ob)) (l := 3) (by omega) hx
  rw [show (w.alloc ob).heap.size = w.heap.size + 1 by simp] at this
  exact this
end
end Go.Proofs.YtanlcmdnhhdhaaaGreatDoor

/- stage2: Join. -/
namespace Go.Proofs.YtanlcmdnhhdhaaaGreatDoor
open Go.RowKit
set_option maxRecDepth 10000

/-- What a join makes of the leaves. -/
def JnL (E E' : Nat → Nat → DV) (j : Nat) (d : DV) : Prop := ∀ a b, a ≤ 3 → lfD E' a b = if a = 2 ∧ b = j then d else if a = 3 ∧ b / 512 = j then dN else lfD E a b
section
variable {M : Nat → Nat → Nat} {C : Nat → Nat} {pool root : Nat} {Z : Nat → Bool} {E : Nat → Nat → DV}
theorem TG.join (h : TG M C pool Z root E) {j x y : Nat} {d : DV} (hx : tbl root E 2 (j / 512) = some x) (hk1 : (E 2 j).k = 1) (hy : (E 2 j).a / 4096 = y) (ok : okD 2 d) (hd : d.k = 2) :
    TG (repM M x (j % 512) (E 2 j) d) (repC C (E 2 j)) pool Z root (hang E 2 j d (fun _ => dN)) ∧ Ot Z M C (repM M x (j % 512) (E 2 j) d) (repC C (E 2 j)) ∧ (NE root E (fun _ _ => False) → NE root (hang E 2 j d (fun _ => dN)) (fun _ _ => False)) ∧ JnL E (hang E 2 j d (fun _ => dN)) j d ∧ cnt (fT pool (repC C (E 2 j))) pool = cnt (fT pool C) pool + 1 ∧ y < pool ∧ C y = 1 := by
  have ht : tbl root E 3 j = some y := by rw [tbl_succ, if_pos hk1, hy]
  have my := h.mine 3 j y (by omega) ht
  have mx := h.mine 2 _ x (by omega) hx
  have xy : x ≠ y := fun c => by
    subst c
    have := h.one 2 _ 3 _ x (by omega) (by omega) hx ht
    omega
  have d1 : d.k ≠ 1 := by rw [hd]; decide
  have hE : ∀ i, i < 512 → (E 3 (512 * j + i)).k ≠ 1 := fun i _ c => by have := (h.ok 3 (512 * j + i) (by omega)).parts.2.2.2.2.2.2.2.1 c; omega
  have out : ∀ z i, z ≠ y → ¬ (z = x ∧ i = j % 512) → repM M x (j % 512) (E 2 j) d z i = M z i := fun z i a b => by
    unfold repM zerM updM
    rw [if_pos hk1, hy, if_neg a, if_neg b]
  have cc : repC C (E 2 j) = putC C y 0 := by unfold repC; rw [if_pos hk1, hy]
  refine ⟨h.off (by omega) ht hE d1 ok (fun _ => rfl) hx (by rw [cc]; unfold putC; rw [if_pos rfl]) (fun z hz => by rw [cc]; unfold putC; rw [if_neg hz]) ?_ (fun z i _ a b => out z i a b), fun z hz => ?_, fun ne => ?_, fun a b ha => ?_, by rw [cc]; exact cnt_give my.1 (by omega), my.1, my.2.1⟩
  · unfold repM zerM updM
    rw [if_pos hk1, hy, if_neg xy, if_pos ⟨rfl, rfl⟩]
  · have n1 : z ≠ y := fun c => by subst c; rw [my.2.2] at hz; cases hz
    have n2 : z ≠ x := fun c => by subst c; rw [mx.2.2] at hz; cases hz
    exact ⟨fun i _ => out z i n1 (fun c => n2 c.1), by rw [cc]; unfold putC; rw [if_neg n1]⟩
  · exact (NE.hang (l := 2) (j := j) (d := d) (ds := fun _ => dN) (ne.weak fun _ _ c => c.elim) (fun _ _ => by decide) hE (by rw [hd]; decide)).leafed (by rw [hang_at]; exact d1)
  · unfold lfD
    by_cases c1 : a = 2 ∧ b = j
    · rw [if_pos c1]
      obtain ⟨rfl, rfl⟩ := c1
      rw [hang_at, if_neg d1]
    · rw [if_neg c1]
      by_cases c2 : a = 3 ∧ b / 512 = j
      · rw [if_pos c2]
        obtain ⟨rfl, c2⟩ := c2
        have e : b = 512 * j + b % 512 := by omega
        have e2 : hang E 2 j d (fun _ => dN) 3 b = dN := by
          have := hang_in E 2 j d (fun _ => dN) (i := b % 512) (Nat.mod_lt _ (by decide))
          rw [← e] at this
          exact this
        rw [e2]
        rfl
      · rw [if_neg c2, hang_out _ _ _ _ _ c1 c2]
end
theorem field_l (s : SV) (w : World) : (Instr.field 64 (svV s) 0).run Tryz.prog w = .ok (.int .i64 (s.l : Int)) w := by unfold svV; kernel_rfl
section
variable {W w w' : World} {X Y : Nat → Prop} {bt p pm N pool o : Nat} {M : Nat → Nat → Nat} {C : Nat → Nat} {Z : Nat → Bool} {root : Nat} {E : Nat → Nat → DV}
/-- The Pages of a page's table are those of a Block that may be. -/
def joinB (E : Nat → Nat → DV) (page : Nat) : Prop := whB (fun i => E 3 (512 * (page / 512) + i)) ∧ okD 2 (bkD (E 3 (512 * (page / 512))))
set_option maxHeartbeats 4000000 in
theorem join_three (h : TS W X w bt p pm N pool o M C Z root E) (ne : NE root E (fun _ _ => False)) (page : Nat) (hp : page < 268435456) (ho : o < 2000000000000000000) (hk : (enG E page).k = 3) :
    Calls Tryz.prog 38 #[.pointer (some ⟨bt, 0, none⟩), .int .u64 (page : Int)] w fun e w' => (∃ t : Bool, e = .returned (.int .i64 (if t then 0 else 20)) ∧ (t = true ↔ joinB E page) ∧ ∃ C' E', AC W X w w' bt p pm N pool (o + 5) M C Z root C' E' ∧ (t = false → C' = C ∧ E' = E) ∧ (t = true → cnt (fT pool C') pool = cnt (fT pool C) pool + 1 ∧ JnL E E' (page / 512) (bkD (E 3 (512 * (page / 512)))))) := by
  have hl := h.tg.three3 hk
  have k1 := way_any h page hp (by omega)
  rw [decide_eq_true (by rw [hk]; decide), hl] at k1
  have hn := h.fw.nums
  have hs3 : (stps root E page)[3]? = some (stp root E page 3) := stps_get (by omega)
  have hs2 : (stps root E page)[2]? = some (stp root E page 2) := stps_get (by omega)
  have h2 : (E 2 (page / 512)).k = 1 := lvG_on (p := page) (l := 2) (by omega)
  obtain ⟨x, hx, ex, lx⟩ := h.tg.tab hp (l := 2) (by omega)
  have hx' : tbl root E 2 (page / 512 / 512) = some x := hx
  obtain ⟨y, hy⟩ : ∃ y, (E 2 (page / 512)).a = y * 4096 := ⟨(E 2 (page / 512)).a / 4096, by have := (h.tg.ok 2 (page / 512) (by omega)).parts.2.2.2.2.2.1; omega⟩
  have hy' : (E 2 (page / 512)).a / 4096 = y := by rw [hy]; omega
  have ht : tbl root E 3 (page / 512) = some y := by rw [tbl_succ, if_pos h2, hy']
  have KB : Aside (∀ v, TS W (fun i => X i ∨ i = w.heap.size) v bt p pm N pool (o + 4) M C Z root E → Calls Tryz.prog 78 #[.pointer (some ⟨bt, 0, none⟩), .int .u64 ((y * 4096 : Nat) : Int)] v fun e w' => (∃ D t, e = .returned (.tuple #[dvV D, .bool t]) ∧ Hid ((t = true ↔ joinB E page) ∧ (t = true → D = bkD (E 3 (512 * (page / 512)))))) ∧ Kp v w') := fun v hv => (blockOf_any hv ht).mono fun e w' ⟨⟨D, t, a1, a2, a3⟩, a4⟩ => ⟨⟨D, t, a1, a2, a3⟩, a4⟩
  have xb := h.xb
  have KR : Aside (∀ v, joinB E page → TS W (fun i => X i ∨ i = w.heap.size) v bt p pm N pool (o + 4) M C Z root E → Fr (Out W X) w v → Calls Tryz.prog 79 #[.pointer (some ⟨bt, 0, none⟩), svV (stp root E page 2), dvV (bkD (E 3 (512 * (page / 512))))] v fun e w' => e = .returned (.tuple #[]) ∧ Hid (∃ C' E', AC W X w w' bt p pm N pool (o + 5) M C Z root C' E' ∧ (cnt (fT pool C') pool = cnt (fT pool C) pool + 1 ∧ JnL E E' (page / 512) (bkD (E 3 (512 * (page / 512))))))) := fun v jb hv fv => by
    obtain ⟨g1, g2, g3, g4, g5, g6, g7⟩ := hv.tg.join (d := bkD (E 3 (512 * (page / 512)))) hx' h2 hy' jb.2 rfl
    have hp4 : (stp root E page 2).p = x * 4096 + 8 * (page / 512 % 512) := by rw [← ex]; rfl
    exact (replace_any hv.ft x (page / 512 % 512) (stp root E page 2) (bkD (E 3 (512 * (page / 512)))) hp4 (fun _ => ⟨by show (E 2 (page / 512)).a < _; rw [hy]; omega, by show (E 2 (page / 512)).a / 4096 < pool; rw [hy']; exact g6, by show C ((E 2 (page / 512)).a / 4096) = 1; rw [hy']; exact g7⟩) (by omega) (Nat.mod_lt _ (by decide)) jb.2 (by omega)).mono fun e w' ⟨e1, e2, e3⟩ => ⟨e1, _, _, ⟨⟨_, (e2.ts g1).less (fun _ => .inl) xb, g2⟩, g3 ne, fv.trans (e3.less fun _ => .inl)⟩, g5, g4⟩
  have HN : Hid (NE root E (fun _ _ => False) ∧ X bt) := ⟨ne, xb⟩
  have hst : (stp root E page 2).l = 2 ∧ (stp root E page 2).d.k = 1 ∧ (stp root E page 2).d.a = y * 4096 := ⟨rfl, h2, hy⟩
  have h3l : (stp root E page 3).l = 3 := rfl
  have HS : Hid ((stps root E page)[3]? = some (stp root E page 3) ∧ (stps root E page)[2]? = some (stp root E page 2)) := ⟨hs3, hs2⟩
  have K1 : Aside (Calls Tryz.prog 54 #[.pointer (some ⟨bt, 0, none⟩), .int .u64 (page : Int)] w fun e w' => e = .returned (.tuple #[.slice (some ⟨w.heap.size, 0, none⟩) 4 4, .bool true]) ∧ Hid (WL w' w.heap.size (stps root E page) ∧ TS W (fun i => X i ∨ i = w.heap.size) w' bt p pm N pool (o + 4) M C Z root E ∧ Fr (Out W X) w w')) := k1
  have f1 := field_l (stp root E page 3)
  rw [h3l] at f1
  clear h ne hp ho hk hl k1 hn hs3 hs2 h2 hx hx' ex lx hy hy' ht xb h3l
  generalize stp root E page 3 = st3 at *
  generalize stp root E page 2 = st at *
  generalize stps root E page = L at *
  obtain ⟨sl, sp, su, sk, sa, sr, sq, sx, sf⟩ := st
  obtain ⟨e1, e2, e3⟩ := hst
  simp only at e1 e2 e3
  subst e1
  subst e2
  subst e3
  generalize y * 4096 = ya at *
  rw [show ((3 : Nat) : Int) = 3 from rfl] at f1
  go_enter Tryz.func38, Tryz.ntmps38
  go_wp2_with fail
  with_reducible refine K1.out.mono ?_
  rintro e w1 ⟨rfl, H1⟩
  have k2 := last_any H1.out.1 (by omega) HS.out.1
  clear K1
  go_wp2_with fail
  with_reducible refine k2.mono ?_
  rintro e w2 ⟨rfl, k3⟩
  have H2 : Hid (WL w2 w.heap.size L ∧ TS W (fun i => X i ∨ i = w.heap.size) w2 bt p pm N pool (o + 4) M C Z root E ∧ Fr (Out W X) w w2) := ⟨H1.out.1.kp k3, H1.out.2.1.kps k3, H1.out.2.2.trans (k3.fr _)⟩
  have x0 := H2.out.1.cell HS.out.2 (j := 0) rfl
  have x1 := H2.out.1.cell HS.out.2 (j := 1) rfl
  have x2 := H2.out.1.cell HS.out.2 (j := 2) rfl
  have x3 := H2.out.1.cell HS.out.2 (j := 3) rfl
  have x4 := H2.out.1.cell HS.out.2 (j := 4) rfl
  have x5 := H2.out.1.cell HS.out.2 (j := 5) rfl
  have x6 := H2.out.1.cell HS.out.2 (j := 6) rfl
  have x7 := H2.out.1.cell HS.out.2 (j := 7) rfl
  have x8 := H2.out.1.cell HS.out.2 (j := 8) rfl
  rw [show ((2 : Nat) : Int) = 2 from rfl] at x0
  have kb := fun ob => KB.out (w2.alloc ob) (H2.out.2.1.kps ((Kp.refl w2).alloc ob))
  clear k2 k3 H1 KB HS
  generalize svV st3 = sv3 at *
  go_wp2_with fail
  with_reducible refine (kb _).mono ?_
  rintro e w3 ⟨⟨D, t, rfl, HT⟩, K3⟩
  have S3 : SBk w3 w2.heap.size ⟨2, sp, su, 1, ya, sr, sq, sx, sf⟩ := (SBk.made w2 ⟨2, sp, su, 1, ya, sr, sq, sx, sf⟩).kp K3
  have H3 : Hid (TS W (fun i => X i ∨ i = w.heap.size) w3 bt p pm N pool (o + 4) M C Z root E ∧ Fr (Out W X) w w3) := ⟨H2.out.2.1.kps (((Kp.refl w2).alloc _).trans K3), H2.out.2.2.trans ((((Kp.refl w2).alloc _).trans K3).fr _)⟩
  clear kb K3 H2 x0 x1 x2 x3 x4 x5 x6 x7 x8 f1
  have g0 := fun ob => (S3.kp ((Kp.refl w3).alloc ob)).c 0 rfl
  have g1 := fun ob => (S3.kp ((Kp.refl w3).alloc ob)).c 1 rfl
  have g2 := fun ob => (S3.kp ((Kp.refl w3).alloc ob)).c 2 rfl
  have g3 := fun ob => (S3.kp ((Kp.refl w3).alloc ob)).c 3 rfl
  have g4 := fun ob => (S3.kp ((Kp.refl w3).alloc ob)).c 4 rfl
  have g5 := fun ob => (S3.kp ((Kp.refl w3).alloc ob)).c 5 rfl
  have g6 := fun ob => (S3.kp ((Kp.refl w3).alloc ob)).c 6 rfl
  have g7 := fun ob => (S3.kp ((Kp.refl w3).alloc ob)).c 7 rfl
  have g8 := fun ob => (S3.kp ((Kp.refl w3).alloc ob)).c 8 rfl
  simp only [show ((2 : Nat) : Int) = 2 from rfl] at g0
  clear S3
  generalize w2.heap.size = bs at *
  cases t
  · obtain ⟨Dk, Da, Dr, Dq, Dx, Df⟩ := D
    clear KR g0 g1 g2 g3 g4 g5 g6 g7 g8
    simp only [dvV]
    go_wp2
    go_ret
    exact ⟨false, rfl, HT.out.1, C, E, AC.same HN.out.1 ((H3.out.1.kps ((Kp.refl w3).alloc _)).less (fun _ => .inl) HN.out.2) (by omega) (H3.out.2.trans (((Kp.refl w3).alloc _).fr _)), fun _ => ⟨rfl, rfl⟩, fun c => by cases c⟩
  · have hD := HT.out.2 rfl
    have kr := fun ob => KR.out (w3.alloc ob) (HT.out.1.1 rfl) (H3.out.1.kps ((Kp.refl w3).alloc ob)) (H3.out.2.trans (((Kp.refl w3).alloc ob).fr _))
    have HJ : Hid (true = true ↔ joinB E page) := HT.out.1
    clear KR HT H3
    rw [← hD] at kr
    have HD : Hid (D = bkD (E 3 (512 * (page / 512)))) := hD
    clear hD
    obtain ⟨Dk, Da, Dr, Dq, Dx, Df⟩ := D
    simp only [svV, dvV, show ((2 : Nat) : Int) = 2 from rfl] at kr
    simp only [dvV]
    go_wp2_with fail
    with_reducible refine (kr _).mono ?_
    rintro e w4 ⟨rfl, H4⟩
    clear kr g0 g1 g2 g3 g4 g5 g6 g7 g8
    go_wp2
    go_ret
    obtain ⟨C', E', a1, a2⟩ := H4.out
    rw [HD.out] at a2
    exact ⟨true, rfl, by simpa using HJ.out, C', E', a1, fun c => (by cases c), fun _ => a2⟩
end
end Go.Proofs.YtanlcmdnhhdhaaaGreatDoor
