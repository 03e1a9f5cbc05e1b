/- Joined: R4, R5, R6. -/
import Derived.Test.YtanlcmdnhhdhaaaGreatDoorJ18
import Derived.Deep.RegionHeld3
/- stage2: the small ones; a page's way. -/
namespace Go.Proofs.YtanlcmdnhhdhaaaGreatDoor
open Go.RowKit
set_option maxRecDepth 10000

theorem addrOf_any (x : Nat) (w : World) (hx : x < 1099511627776) : Calls Tryz.prog 29 #[.int .i64 (x : Int)] w fun e w' => e = .returned (.int .u64 ((x * 4096 : Nat) : Int)) ∧ w' = w := by
  have z1 : (x : Int) < 1099511627776 := by omega
  have z2 : ((x * 4096 : Nat) : Int) = (x : Int) * 4096 := by omega
  rw [z2]
  clear z2 hx
  go_enter Tryz.func29, Tryz.ntmps29
  go_wp2
  go_ret
  exact ⟨rfl, rfl⟩
theorem frameOf_any (a : Nat) (w : World) (ha : a < 18446744073709551616) : Calls Tryz.prog 65 #[.int .u64 (a : Int)] w fun e w' => e = .returned (.int .i64 ((a / 4096 : Nat) : Int)) ∧ w' = w := by
  have z1 : (a : Int) / 4096 < 4503599627370496 := by omega
  have z2 : ((a / 4096 : Nat) : Int) = (a : Int) / 4096 := by omega
  rw [z2]
  clear z2 ha
  go_enter Tryz.func65, Tryz.ntmps65
  go_wp2
  go_ret
  exact ⟨rfl, rfl⟩
theorem entryAt_any (x i : Nat) (w : World) (hx : x < 1048576) (hi : i < 512) : Calls Tryz.prog 108 #[.int .u64 ((x * 4096 : Nat) : Int), .int .i64 (i : Int)] w fun e w' => e = .returned (.int .u64 ((x * 4096 + 8 * i : Nat) : Int)) ∧ w' = w := by
  obtain ⟨a, ha⟩ : ∃ a, a = x * 4096 := ⟨_, rfl⟩
  have z1 : (a : Int) < 4294967296 := by omega
  have z2 : (i : Int) < 512 := by omega
  have z3 : ((x * 4096 + 8 * i : Nat) : Int) = (a : Int) + (i : Int) * 8 := by omega
  rw [z3, ← ha]
  clear z3 ha hx hi
  go_enter Tryz.func108, Tryz.ntmps108
  go_wp2
  go_ret
  exact ⟨rfl, rfl⟩
theorem troot_any {w : World} {bt p root : Nat} (h : TX w bt p root) : Calls Tryz.prog 15 #[.pointer (some ⟨bt, 0, none⟩)] w fun e w' => e = .returned (.int .u64 ((root * 4096 : Nat) : Int)) ∧ w' = w := by
  have c1 := h.c1
  clear h
  generalize root * 4096 = a at *
  go_enter Tryz.func15, Tryz.ntmps15
  go_wp2
  go_ret
  exact ⟨rfl, rfl⟩
/-- A leaf may have these. -/
def canB (r q : Bool) (s : Int) : Bool := (r || !q) && decide (0 ≤ s) && decide (s ≤ 15)
theorem canBe_any (r q x : Bool) (s : Int) (w : World) : Calls Tryz.prog 61 #[.agg #[.bool r, .bool q, .bool x], .int .i64 s] w fun e w' => e = .returned (.bool (canB r q s)) ∧ Kp w w' := by
  unfold canB
  cases r <;> cases q
  all_goals
    by_cases c1 : 0 ≤ s
    · by_cases c2 : s ≤ 15
      · go_enter Tryz.func61, Tryz.ntmps61
        go_wp2
        go_ret
        exact ⟨by simp; try omega, (Kp.refl _).alloc _⟩
      · go_enter Tryz.func61, Tryz.ntmps61
        go_wp2
        go_ret
        exact ⟨by simp; try omega, (Kp.refl _).alloc _⟩
    · go_enter Tryz.func61, Tryz.ntmps61
      go_wp2
      go_ret
      exact ⟨by simp; try omega, (Kp.refl _).alloc _⟩
def svV (s : SV) : Value := .agg #[.int .i64 (s.l : Int), .int .u64 (s.p : Int), .int .u64 (s.u : Int), .int .i64 s.d.k, .int .u64 (s.d.a : Int), .bool s.d.r, .bool s.d.q, .bool s.d.x, .int .i64 s.d.f]
def dvV (d : DV) : Value := .agg #[.int .i64 d.k, .int .u64 (d.a : Int), .bool d.r, .bool d.q, .bool d.x, .int .i64 d.f]
/-- A step's block. -/
def SBk (w : World) (b : Nat) (s : SV) : Prop := w.heap[b]? = some (.cells #[.int .i64 (s.l : Int), .int .u64 (s.p : Int), .int .u64 (s.u : Int), .int .i64 s.d.k, .int .u64 (s.d.a : Int), .bool s.d.r, .bool s.d.q, .bool s.d.x, .int .i64 s.d.f] 64)
section
variable {w w' : World} {b : Nat} {s : SV}
theorem SBk.lt (h : SBk w b s) : b < w.heap.size := (Array.getElem?_eq_some_iff.1 h).1
theorem SBk.kp (h : SBk w b s) (g : Kp w w') : SBk w' b s := (g.block b h.lt).trans h
theorem SBk.fr {S : Nat → Prop} (h : SBk w b s) (g : Fr S w w') (hS : ¬ S b) : SBk w' b s := (g.block b h.lt hS).trans h
theorem SBk.load (h : SBk w b s) : (loadVar 64 ⟨b, 0, none⟩).run Tryz.prog w = .ok (svV s) w :=
  run_loadVar_row w b _ 64 _ _ _ h Tryz.underlying64 rfl (by kernel_rfl)
theorem SBk.c (h : SBk w b s) (j : Nat) {y : Value} (hy : (encS s)[j]? = some y) : w.cell? ⟨b, j, none⟩ = some y := by
  rw [cell_of_row w b j _ _ _ h]; simpa [encS] using hy
theorem res_s {fn : Func} {c : Tmp} {tmps : Array Value} (hf : fn.results = #[.cell c 64]) (hc : tmps.getD c undef = .pointer (some ⟨b, 0, none⟩)) (B : SBk w b s) :
    (results fn tmps).run Tryz.prog w = .ok (svV s) w := by
  have hc' : tmps[c]?.getD undef = .pointer (some ⟨b, 0, none⟩) := by simpa using hc
  simp [results, hf, hc', asAddr, B.load]
end
set_option maxHeartbeats 4000000 in
theorem last_any {w : World} {b n : Nat} {L : List SV} {s : SV} (h : WL w b L) (h4 : n ≤ 3) (hs : L[n]? = some s) :
    Calls Tryz.prog 56 #[.slice (some ⟨b, 0, none⟩) (n + 1) 4] w fun e w' => e = .returned (svV s) ∧ Kp w w' := by
  have cc : ∀ (o : Obj) (j : Nat) (y : Value), (encS s)[j]? = some y → (w.alloc o).cell? ⟨b, n * 9 + j, none⟩ = some y := fun o j y hy => (h.kp ((Kp.refl w).alloc o)).cell hs hy
  obtain ⟨l, pp, u, k, a, r, q, x, f⟩ := s
  have x0 := fun o => cc o 0 _ rfl
  have x1 := fun o => cc o 1 _ rfl
  have x2 := fun o => cc o 2 _ rfl
  have x3 := fun o => cc o 3 _ rfl
  have x4 := fun o => cc o 4 _ rfl
  have x5 := fun o => cc o 5 _ rfl
  have x6 := fun o => cc o 6 _ rfl
  have x7 := fun o => cc o 7 _ rfl
  have x8 := fun o => cc o 8 _ rfl
  simp only [Nat.add_zero] at x0
  have z1 : (n : Int) ≤ 3 := by omega
  clear cc h hs
  go_enter Tryz.func56, Tryz.ntmps56
  go_wp2
  exact bodyPost_ret (res_s (s := ⟨l, pp, u, ⟨k, a, r, q, x, f⟩⟩) rfl rfl (heap_alloc_new w _)) rfl ⟨rfl, (Kp.refl _).alloc _⟩

/-! ### a table's state -/
structure TS (W : World) (X : Nat → Prop) (w : World) (bt p pm N pool o : Nat) (M : Nat → Nat → Nat) (C : Nat → Nat) (Z : Nat → Bool) (root : Nat) (E : Nat → Nat → DV) : Prop where
  fw : FW W X w p pm N pool o M C
  tx : TX w bt p root
  xb : X bt
  bw : W.heap.size ≤ bt
  tg : TG M C pool Z root E
section
variable {W w w' : World} {X Y : Nat → Prop} {bt p pm N pool o : Nat} {M : Nat → Nat → Nat} {C : Nat → Nat} {Z : Nat → Bool} {root : Nat} {E : Nat → Nat → DV}
theorem TS.kps (h : TS W X w bt p pm N pool o M C Z root E) (k : Kp w w') : TS W X w' bt p pm N pool o M C Z root E := ⟨h.fw.kps k, h.tx.kp k, h.xb, h.bw, h.tg⟩
theorem TS.le (h : TS W X w bt p pm N pool o M C Z root E) {o' : Nat} (ho : o ≤ o') : TS W X w bt p pm N pool o' M C Z root E := ⟨h.fw.le ho, h.tx, h.xb, h.bw, h.tg⟩
theorem TS.more (h : TS W X w bt p pm N pool o M C Z root E) (k : Kp w w') (b : Nat) (hb : w.heap.size ≤ b) (hl : b < w'.heap.size) : TS W (fun i => X i ∨ i = b) w' bt p pm N pool o M C Z root E := ⟨h.fw.more k b hb hl, h.tx.kp k, .inl h.xb, h.bw, h.tg⟩
theorem TS.less (h : TS W Y w bt p pm N pool o M C Z root E) (hY : ∀ i, X i → Y i) (hb : X bt) : TS W X w bt p pm N pool o M C Z root E := ⟨h.fw.less hY, h.tx, hb, h.bw, h.tg⟩
theorem TS.frX (h : TS W X w bt p pm N pool o M C Z root E) (k : Fr Y w w') (hY : ∀ i, Y i → W.heap.size ≤ i ∧ X i) (hb : ¬ Y bt) : TS W X w' bt p pm N pool o M C Z root E := ⟨h.fw.frX k hY, h.tx.fr k hb, h.xb, h.bw, h.tg⟩
theorem stps_len (root : Nat) (E : Nat → Nat → DV) (p : Nat) : (stps root E p).length = lvG E p + 1 := by unfold stps; simp
theorem stps_get {root : Nat} {E : Nat → Nat → DV} {p l : Nat} (h : l ≤ lvG E p) : (stps root E p)[l]? = some (stp root E p l) := by
  unfold stps
  rw [List.getElem?_map, List.getElem?_range (by omega)]
  rfl
set_option maxHeartbeats 4000000 in
theorem way_any (h : TS W X w bt p pm N pool o M C Z root E) (page : Nat) (hp : page < 268435456) (ho : o < 4000000000000000000) :
    Calls Tryz.prog 54 #[.pointer (some ⟨bt, 0, none⟩), .int .u64 (page : Int)] w fun e w' => e = .returned (.tuple #[.slice (some ⟨w.heap.size, 0, none⟩) (lvG E page + 1) 4, .bool (decide ((enG E page).k ≠ 0))]) ∧ WL w' w.heap.size (stps root E page) ∧ TS W (fun i => X i ∨ i = w.heap.size) w' bt p pm N pool (o + 4) M C Z root E ∧ Fr (Out W X) w w' := by
  obtain ⟨⟨ops, B, h1, rfl, S, fb⟩, tx, xb, bw, tg⟩ := h
  have hn := fb.fs.nums
  have hg : goW 2 (page * 4096) (rdB N B) 4 0 (root * 4096) = _ := goW_way tg hp (by omega) (fun x i hx hi => rdB_at (by omega) hi)
  have rl := (tg.mine 0 0 root (by omega) rfl).1
  have k1 := walk_any (readS fb tx xb (by omega)) 2 (by decide) (root * 4096) (page * 4096) 0 (by omega) (by omega) (by omega) w ⟨⟨ops, Nat.le_refl _, fb⟩, tx, Nat.le_refl _⟩
  rw [hg] at k1
  simp only [stps_len] at k1
  have k2 : Calls Tryz.prog 14 #[.int .i64 2, .int .u64 ((root * 4096 : Nat) : Int), .int .u64 ((page * 4096 : Nat) : Int), .func (.func 92) #[.pointer (some ⟨bt, 0, none⟩)] #[]] w fun e w' => e = .returned (.tuple #[.slice (some ⟨w.heap.size, 0, none⟩) (lvG E page + 1) 4, .int .i64 (if (enG E page).k = 0 then 1 else 0)]) ∧ Hid (WL w' w.heap.size (stps root E page) ∧ TS W (fun i => X i ∨ i = w.heap.size) w' bt p pm N pool (o + 4) (wM B) C Z root E ∧ Fr (Out W X) w w') := k1.mono fun e w' ⟨e1, e2, e3, e4⟩ => ⟨e1, e2, (by
    obtain ⟨⟨o2, a1, a2⟩, a3, a4⟩ := e3
    have := lvG_le E page
    refine ⟨⟨o2, B, by omega, rfl, S, a2.fs, a2.kp, fun k hk => ⟨(a2.out k hk).1, fun c => c.elim (a2.out k hk).2 (fun c => by have := fb.fs.own k hk; omega)⟩, fun i hi => hi.elim (a2.lt i) (fun c => by have := e2.lt; omega), a2.t0⟩, a3, .inl xb, bw, tg⟩), e4.mono fun i _ hi => fb.out i hi⟩
  have c0 := tx.c0
  have c1 := tx.c1
  obtain ⟨u, hu⟩ : ∃ u, u = page * 4096 := ⟨_, rfl⟩
  have z1 : IntKind.u64.wrap ((page : Int) * 4096) = (u : Int) := by simp [IntKind.wrap, IntKind.bits, IntKind.signed]; omega
  have g1 : decide ((268435456 : Int) ≤ (page : Int)) = false := decide_eq_false (by omega)
  have g2 : decide (268435456 ≤ page) = false := decide_eq_false (by omega)
  have hb : decide ((enG E page).k ≠ 0) = ((if (enG E page).k = 0 then (1 : Int) else 0) == 0) := by
    by_cases c : (enG E page).k = 0
    · rw [if_pos c]; simp [c]
    · rw [if_neg c]; simp [c]
  rw [hb]
  rw [← hu] at k2
  clear h1 fb tx bw tg hn hg rl k1 hb hu hp
  generalize (if (enG E page).k = 0 then (1 : Int) else 0) = kd at *
  generalize root * 4096 = ra at *
  have KW : Aside (Calls Tryz.prog 14 #[.int .i64 2, .int .u64 (ra : Int), .int .u64 (u : Int), .func (.func 92) #[.pointer (some ⟨bt, 0, none⟩)] #[]] w fun e w' => e = .returned (.tuple #[.slice (some ⟨w.heap.size, 0, none⟩) (lvG E page + 1) 4, .int .i64 kd]) ∧ Hid (WL w' w.heap.size (stps root E page) ∧ TS W (fun i => X i ∨ i = w.heap.size) w' bt p pm N pool (o + 4) (wM B) C Z root E ∧ Fr (Out W X) w w')) := k2
  have hmf : ∀ (fn : Fn) (first cap : Array Value) (w : World), (Instr.makeFunc fn first cap).run Tryz.prog w = .ok (.func fn first cap) w := fun _ _ _ _ => rfl
  clear k2
  go_enter Tryz.func54, Tryz.ntmps54
  go_wp2_with fail
  with_reducible refine KW.out.mono ?_
  rintro e w1 ⟨rfl, H1⟩
  clear KW
  go_wp2
  go_ret2
  exact ⟨rfl, H1.out⟩
end
end Go.Proofs.YtanlcmdnhhdhaaaGreatDoor

/- stage2: put, lead, replace. -/
namespace Go.Proofs.YtanlcmdnhhdhaaaGreatDoor
open Go.RowKit
set_option maxRecDepth 10000

/-- The frames and the table's own block. -/
structure FT (W : World) (X : Nat → Prop) (w : World) (bt p pm N pool o : Nat) (M : Nat → Nat → Nat) (C : Nat → Nat) (root : Nat) : Prop where
  fw : FW W X w p pm N pool o M C
  tx : TX w bt p root
  xb : X bt
  bw : W.heap.size ≤ bt
section
variable {W w w' : World} {X Y : Nat → Prop} {bt p pm N pool o : Nat} {M M' : Nat → Nat → Nat} {C C' : Nat → Nat} {Z : Nat → Bool} {root : Nat} {E : Nat → Nat → DV}
theorem TS.ft (h : TS W X w bt p pm N pool o M C Z root E) : FT W X w bt p pm N pool o M C root := ⟨h.fw, h.tx, h.xb, h.bw⟩
theorem FT.ts (h : FT W X w bt p pm N pool o M C root) (g : TG M C pool Z root E) : TS W X w bt p pm N pool o M C Z root E := ⟨h.fw, h.tx, h.xb, h.bw, g⟩
theorem FT.kps (h : FT W X w bt p pm N pool o M C root) (k : Kp w w') : FT W X w' bt p pm N pool o M C root := ⟨h.fw.kps k, h.tx.kp k, h.xb, h.bw⟩
theorem FT.le (h : FT W X w bt p pm N pool o M C root) {o' : Nat} (ho : o ≤ o') : FT W X w bt p pm N pool o' M C root := ⟨h.fw.le ho, h.tx, h.xb, h.bw⟩
theorem FT.more (h : FT W X w bt p pm N pool o M C root) (k : Kp w w') (b : Nat) (hb : w.heap.size ≤ b) (hl : b < w'.heap.size) : FT W (fun i => X i ∨ i = b) w' bt p pm N pool o M C root := ⟨h.fw.more k b hb hl, h.tx.kp k, .inl h.xb, h.bw⟩
theorem FT.less (h : FT W Y w bt p pm N pool o M C root) (hY : ∀ i, X i → Y i) (hb : X bt) : FT W X w bt p pm N pool o M C root := ⟨h.fw.less hY, h.tx, hb, h.bw⟩
theorem FT.next (h : FT W X w bt p pm N pool o M C root) {o' : Nat} (f : FW W X w' p pm N pool o' M' C') (k : Fr (Out W X) w w') : FT W X w' bt p pm N pool o' M' C' root := ⟨f, h.tx.fr k (fun c => c.2 h.xb), h.xb, h.bw⟩
set_option maxHeartbeats 4000000 in
theorem put_any (h : FT W X w bt p pm N pool o M C root) (x i l : Nat) (d : DV) (hx : x < N) (hi : i < 512) (ok : okD l d) (ho : o < 4611686018427387904) :
    Calls Tryz.prog 75 #[.pointer (some ⟨bt, 0, none⟩), .int .u64 ((x * 4096 + 8 * i : Nat) : Int), .int .i64 (l : Int), dvV d] w fun e w' => e = .returned (.tuple #[]) ∧ FT W X w' bt p pm N pool (o + 1) (updM M x i (wdD d)) C root ∧ Fr (Out W X) w w' := by
  have hw := ok.back.2.2
  unfold dvV
  have k1 : ∀ v, Kp w v → Calls Tryz.prog 106 #[.int .i64 2, .int .i64 (l : Int), .agg #[.int .i64 d.k, .int .u64 (d.a : Int), .bool d.r, .bool d.q, .bool d.x, .int .i64 d.f]] v fun e w' => e = .returned (.tuple #[.int .u64 (wdD d : Nat), .int .i64 0]) ∧ Kp v w' := fun v k => by
    have := encode_any 2 (l : Int) d.k d.a d.r d.q d.x d.f v
    have ok' : dchk 2 (l : Int) d.k d.a d.r d.q d.x d.f = 0 := ok
    unfold dencN at this
    rw [if_pos ok', ok'] at this
    exact this
  have K1 : Aside (∀ v, Kp w v → Calls Tryz.prog 106 #[.int .i64 2, .int .i64 (l : Int), .agg #[.int .i64 d.k, .int .u64 (d.a : Int), .bool d.r, .bool d.q, .bool d.x, .int .i64 d.f]] v fun e w' => e = .returned (.tuple #[.int .u64 (wdD d : Nat), .int .i64 0]) ∧ Kp v w') := k1
  have K2 : Aside (∀ v, Kp w v → Calls Tryz.prog 95 #[.pointer (some ⟨p, 0, none⟩)] v fun e w' => e = .returned (.pointer (some ⟨pm, 0, none⟩)) ∧ w' = v) := fun v k => wmem_any (h.fw.kps k)
  have K3 : Aside (∀ v, Kp w v → Calls Tryz.prog 107 #[.pointer (some ⟨pm, 0, none⟩), .int .u64 ((x * 4096 + 8 * i : Nat) : Int), .int .i64 8, .int .u64 (wdD d : Nat)] v fun e w' => e = .returned (.int .i64 0) ∧ Hid (FT W X w' bt p pm N pool (o + 1) (updM M x i (wdD d)) C root ∧ Fr (Out W X) w w')) := fun v k => (wwrite_ok (h.fw.kps k) x i (wdD d) hx hi hw ho).mono fun e w' ⟨e1, e2, e3⟩ => ⟨e1, (h.kps k).next e2 e3, (k.fr _).trans e3⟩
  have K0 : Aside (∀ v, Kp w v → v.cell? ⟨bt, 0, none⟩ = some (.pointer (some ⟨p, 0, none⟩))) := fun v k => (h.tx.kp k).c0
  clear h k1 hw ok ho hx hi
  generalize wdD d = u at *
  generalize x * 4096 + 8 * i = a at *
  obtain ⟨dk, da, dr, dq, dx, df⟩ := d
  go_enter Tryz.func75, Tryz.ntmps75
  go_wp2_with fail
  with_reducible refine (K1.out _ ((Kp.refl w).alloc _)).mono ?_
  rintro e w1 ⟨rfl, k1⟩
  have kw : Kp w w1 := ((Kp.refl w).alloc _).trans k1
  have c0 := K0.out w1 kw
  have k2 := K2.out w1 kw
  have k3 := K3.out w1 kw
  clear kw k1 K0 K1 K2 K3
  go_wp2_with (go_at_call 95; with_reducible refine k2.mono ?_; rintro e w' ⟨rfl, rfl⟩)
  with_reducible refine k3.mono ?_
  rintro e w2 ⟨rfl, H2⟩
  clear k2 k3
  go_wp2
  go_end0
  exact ⟨rfl, H2.out⟩

theorem SBk.made (w : World) (s : SV) : SBk (w.alloc (.cells #[.int .i64 (s.l : Int), .int .u64 (s.p : Int), .int .u64 (s.u : Int), .int .i64 s.d.k, .int .u64 (s.d.a : Int), .bool s.d.r, .bool s.d.q, .bool s.d.x, .int .i64 s.d.f] 64)) w.heap.size s := heap_alloc_new w _
/-- What replace leaves: the words and the counts, where the entry led to a table. -/
def repM (M : Nat → Nat → Nat) (x i : Nat) (s d : DV) : Nat → Nat → Nat := if s.k = 1 then zerM (updM M x i (wdD d)) (s.a / 4096) else updM M x i (wdD d)
def repC (C : Nat → Nat) (s : DV) : Nat → Nat := if s.k = 1 then putC C (s.a / 4096) 0 else C
set_option maxHeartbeats 4000000 in
theorem replace_any (h : FT W X w bt p pm N pool o M C root) (x i : Nat) (s : SV) (d : DV) (hs : s.p = x * 4096 + 8 * i) (hk : s.d.k = 1 → s.d.a < 18446744073709551616 ∧ s.d.a / 4096 < pool ∧ C (s.d.a / 4096) = 1) (hx : x < N) (hi : i < 512) (ok : okD s.l d) (ho : o < 4611686018427387904) :
    Calls Tryz.prog 79 #[.pointer (some ⟨bt, 0, none⟩), svV s, dvV d] w fun e w' => e = .returned (.tuple #[]) ∧ FT W X w' bt p pm N pool (o + 1) (repM M x i s.d d) (repC C s.d) root ∧ Fr (Out W X) w w' := by
  have K1 : Aside (∀ v, Kp w v → w.heap.size < v.heap.size → SBk v w.heap.size s → Calls Tryz.prog 75 #[.pointer (some ⟨bt, 0, none⟩), .int .u64 (s.p : Int), .int .i64 (s.l : Int), dvV d] v fun e w' => e = .returned (.tuple #[]) ∧ (FT W (fun i => X i ∨ i = w.heap.size) w' bt p pm N pool (o + 1) (updM M x i (wdD d)) C root ∧ Fr (Out W X) w w') ∧ SBk w' w.heap.size s) := fun v k hl sb => by
    rw [hs]
    exact (put_any (h.more k w.heap.size (Nat.le_refl _) hl) x i s.l d hx hi ok ho).mono fun e w' ⟨e1, e2, e3⟩ => ⟨e1, ⟨e2, (k.fr _).trans (e3.less fun _ => .inl)⟩, sb.fr e3 (fun c => c.2 (.inr rfl))⟩
  have xb := h.xb
  have KD : Aside (∀ v, s.d.k = 1 → FT W (fun i => X i ∨ i = w.heap.size) v bt p pm N pool (o + 1) (updM M x i (wdD d)) C root → Fr (Out W X) w v → SBk v w.heap.size s → Calls Tryz.prog 67 #[.pointer (some ⟨p, 0, none⟩), .int .i64 ((s.d.a / 4096 : Nat) : Int)] v fun e w' => e = .returned (.tuple #[.int .i64 0, .int .i64 0]) ∧ w'.cell? ⟨bt, 0, none⟩ = some (.pointer (some ⟨p, 0, none⟩)) ∧ w'.cell? ⟨w.heap.size, 4, none⟩ = some (.int .u64 (s.d.a : Int)) ∧ Hid (FT W X w' bt p pm N pool (o + 1) (repM M x i s.d d) (repC C s.d) root ∧ Fr (Out W X) w w')) := fun v hk1 ft fr sb => by
    obtain ⟨_, h1, h2⟩ := hk hk1
    unfold repM repC
    rw [if_pos hk1, if_pos hk1]
    exact (wdrop_one ft.fw _ h1 h2).mono fun e w' ⟨e1, e2, e3⟩ => ⟨e1, (ft.next e2 e3).tx.c0, (sb.fr e3 (fun c => c.2 (.inr rfl))).c 4 rfl, (ft.next e2 e3).less (fun _ => .inl) xb, fr.trans (e3.less fun _ => .inl)⟩
  have KF : Aside (∀ v, s.d.k = 1 → Calls Tryz.prog 65 #[.int .u64 (s.d.a : Int)] v fun e w' => e = .returned (.int .i64 ((s.d.a / 4096 : Nat) : Int)) ∧ w' = v) := fun v hk1 => frameOf_any s.d.a v (hk hk1).1
  have KN : Aside (s.d.k ≠ 1 → repM M x i s.d d = updM M x i (wdD d) ∧ repC C s.d = C) := fun c => ⟨if_neg c, if_neg c⟩
  clear h hk hs hx hi ok ho
  generalize repM M x i s.d d = M2 at *
  generalize repC C s.d = C2 at *
  generalize updM M x i (wdD d) = M1 at *
  obtain ⟨l, pp, u, k, a, r, q, e, f⟩ := s
  unfold svV
  unfold dvV at *
  simp only at *
  generalize a / 4096 = y at *
  go_enter Tryz.func79, Tryz.ntmps79
  go_wp2_with fail
  with_reducible refine (K1.out _ (((Kp.refl w).alloc _).alloc _) (by simp; omega) ((SBk.made w ⟨l, pp, u, k, a, r, q, e, f⟩).kp ((Kp.refl _).alloc _))).mono ?_
  rintro _ w1 ⟨rfl, ⟨F1, R1⟩, S1⟩
  have c0 := F1.tx.c0
  have c3 := S1.c 3 rfl
  have c4 := S1.c 4 rfl
  clear K1
  by_cases ck : k = 1
  · subst ck
    have kd := fun v (kv : Kp w1 v) => KD.out v rfl (F1.kps kv) (R1.trans (kv.fr _)) (S1.kp kv)
    have kf := fun v => KF.out v rfl
    clear KD KF KN F1 R1 S1
    go_wp2_with fail
    go_region_held3 (fun v => v.cell? ⟨bt, 0, none⟩ = some (.pointer (some ⟨p, 0, none⟩)) ∧ v.cell? ⟨w.heap.size, 4, none⟩ = some (.int .u64 (a : Int))) (first | exact ⟨c0, c4⟩ | exact ⟨d0, d4⟩ | go_keep)
      (first | (go_at_call 65; with_reducible refine (kf _).mono ?_; rintro _ w' ⟨rfl, rfl⟩) | (go_at_call 67; with_reducible refine (kd _ (by first | exact Kp.refl _ | exact (Kp.refl _).drew | exact (Kp.refl _).drewN _)).mono ?_; rintro _ w2 ⟨rfl, d0, d4, H2⟩))
    go_wp2
    go_end0
    exact ⟨rfl, H2.out⟩
  · have ck' : (k == 1) = false := by rw [beq_eq_false_iff_ne]; exact ck
    obtain ⟨e1, e2⟩ := KN.out ck
    have H2 : Hid (FT W X w1 bt p pm N pool (o + 1) M2 C2 root ∧ Fr (Out W X) w w1) := by rw [e1, e2]; exact ⟨F1.less (fun _ => .inl) xb, R1⟩
    clear KD KF KN F1 R1 S1 e1 e2
    go_wp2
    go_end0
    exact ⟨rfl, H2.out⟩
end
end Go.Proofs.YtanlcmdnhhdhaaaGreatDoor

/- stage2: lead; tell, Get, Need. -/
namespace Go.Proofs.YtanlcmdnhhdhaaaGreatDoor
open Go.RowKit
set_option maxRecDepth 10000

/-- The world behind a store of a whole step. -/
def putS (w : World) (b : Nat) (s : SV) : World :=
  ((((((((w.setCell ⟨b, 0, none⟩ (.int .i64 (s.l : Int))).setCell ⟨b, 1, none⟩ (.int .u64 (s.p : Int))).setCell ⟨b, 2, none⟩ (.int .u64 (s.u : Int))).setCell ⟨b, 3, none⟩ (.int .i64 s.d.k)).setCell ⟨b, 4, none⟩ (.int .u64 (s.d.a : Int))).setCell ⟨b, 5, none⟩ (.bool s.d.r)).setCell ⟨b, 6, none⟩ (.bool s.d.q)).setCell ⟨b, 7, none⟩ (.bool s.d.x)).setCell ⟨b, 8, none⟩ (.int .i64 s.d.f)
section
variable {W w w' : World} {b : Nat} {s t : SV}
theorem SBk.fz (h : SBk w b s) (j : Nat) : w.frozen? ⟨b, j, none⟩ = false := frozen_of_row w b j _ _ h
theorem row_nine {w : World} {b : Nat} {t : TypeId} {a0 a1 a2 a3 a4 a5 a6 a7 a8 : Value} (c0 c1 c2 c3 c4 c5 c6 c7 c8 : Value) (h : w.heap[b]? = some (.cells #[a0, a1, a2, a3, a4, a5, a6, a7, a8] t (0, 0))) : (((((((((w.setCell ⟨b, 0, none⟩ c0).setCell ⟨b, 1, none⟩ c1).setCell ⟨b, 2, none⟩ c2).setCell ⟨b, 3, none⟩ c3).setCell ⟨b, 4, none⟩ c4).setCell ⟨b, 5, none⟩ c5).setCell ⟨b, 6, none⟩ c6).setCell ⟨b, 7, none⟩ c7).setCell ⟨b, 8, none⟩ c8).heap[b]? = some (.cells #[c0, c1, c2, c3, c4, c5, c6, c7, c8] t (0, 0)) := by
  have h0 : (w.setCell ⟨b, 0, none⟩ c0).heap[b]? = some (.cells #[c0, a1, a2, a3, a4, a5, a6, a7, a8] t (0, 0)) := heap_setCell_same _ b 0 _ _ c0 h
  have h1 : ((w.setCell ⟨b, 0, none⟩ c0).setCell ⟨b, 1, none⟩ c1).heap[b]? = some (.cells #[c0, c1, a2, a3, a4, a5, a6, a7, a8] t (0, 0)) := heap_setCell_same _ b 1 _ _ c1 h0
  have h2 : (((w.setCell ⟨b, 0, none⟩ c0).setCell ⟨b, 1, none⟩ c1).setCell ⟨b, 2, none⟩ c2).heap[b]? = some (.cells #[c0, c1, c2, a3, a4, a5, a6, a7, a8] t (0, 0)) := heap_setCell_same _ b 2 _ _ c2 h1
  have h3 : ((((w.setCell ⟨b, 0, none⟩ c0).setCell ⟨b, 1, none⟩ c1).setCell ⟨b, 2, none⟩ c2).setCell ⟨b, 3, none⟩ c3).heap[b]? = some (.cells #[c0, c1, c2, c3, a4, a5, a6, a7, a8] t (0, 0)) := heap_setCell_same _ b 3 _ _ c3 h2
  have h4 : (((((w.setCell ⟨b, 0, none⟩ c0).setCell ⟨b, 1, none⟩ c1).setCell ⟨b, 2, none⟩ c2).setCell ⟨b, 3, none⟩ c3).setCell ⟨b, 4, none⟩ c4).heap[b]? = some (.cells #[c0, c1, c2, c3, c4, a5, a6, a7, a8] t (0, 0)) := heap_setCell_same _ b 4 _ _ c4 h3
  have h5 : ((((((w.setCell ⟨b, 0, none⟩ c0).setCell ⟨b, 1, none⟩ c1).setCell ⟨b, 2, none⟩ c2).setCell ⟨b, 3, none⟩ c3).setCell ⟨b, 4, none⟩ c4).setCell ⟨b, 5, none⟩ c5).heap[b]? = some (.cells #[c0, c1, c2, c3, c4, c5, a6, a7, a8] t (0, 0)) := heap_setCell_same _ b 5 _ _ c5 h4
  have h6 : (((((((w.setCell ⟨b, 0, none⟩ c0).setCell ⟨b, 1, none⟩ c1).setCell ⟨b, 2, none⟩ c2).setCell ⟨b, 3, none⟩ c3).setCell ⟨b, 4, none⟩ c4).setCell ⟨b, 5, none⟩ c5).setCell ⟨b, 6, none⟩ c6).heap[b]? = some (.cells #[c0, c1, c2, c3, c4, c5, c6, a7, a8] t (0, 0)) := heap_setCell_same _ b 6 _ _ c6 h5
  have h7 : ((((((((w.setCell ⟨b, 0, none⟩ c0).setCell ⟨b, 1, none⟩ c1).setCell ⟨b, 2, none⟩ c2).setCell ⟨b, 3, none⟩ c3).setCell ⟨b, 4, none⟩ c4).setCell ⟨b, 5, none⟩ c5).setCell ⟨b, 6, none⟩ c6).setCell ⟨b, 7, none⟩ c7).heap[b]? = some (.cells #[c0, c1, c2, c3, c4, c5, c6, c7, a8] t (0, 0)) := heap_setCell_same _ b 7 _ _ c7 h6
  have h8 : (((((((((w.setCell ⟨b, 0, none⟩ c0).setCell ⟨b, 1, none⟩ c1).setCell ⟨b, 2, none⟩ c2).setCell ⟨b, 3, none⟩ c3).setCell ⟨b, 4, none⟩ c4).setCell ⟨b, 5, none⟩ c5).setCell ⟨b, 6, none⟩ c6).setCell ⟨b, 7, none⟩ c7).setCell ⟨b, 8, none⟩ c8).heap[b]? = some (.cells #[c0, c1, c2, c3, c4, c5, c6, c7, c8] t (0, 0)) := heap_setCell_same _ b 8 _ _ c8 h7
  exact h8
theorem SBk.put (h : SBk w b s) (t : SV) : SBk (putS w b t) b t := row_nine _ _ _ _ _ _ _ _ _ h
theorem Fr.putS {S : Nat → Prop} (h : Fr S w w') (hb : S b) (s : SV) : Fr S w (putS w' b s) :=
  ((((((((h.set _ _ hb).set _ _ hb).set _ _ hb).set _ _ hb).set _ _ hb).set _ _ hb).set _ _ hb).set _ _ hb).set _ _ hb
end
section
variable {W w w' : World} {X Y : Nat → Prop} {bt p pm N pool o : Nat} {M M' : Nat → Nat → Nat} {C C' : Nat → Nat} {Z : Nat → Bool} {root : Nat} {E : Nat → Nat → DV}
set_option maxHeartbeats 4000000 in
theorem lead_any (h : FT W X w bt p pm N pool o M C root) (x i y page : Nat) (s : SV) (hs : s.p = x * 4096 + 8 * i) (hl : s.l ≤ 2) (hx : x < N) (hi : i < 512) (hy : y < 1048576) (hp : page < 268435456) (ho : o < 4611686018427387904) :
    Calls Tryz.prog 97 #[.pointer (some ⟨bt, 0, none⟩), svV s, .int .u64 ((y * 4096 : Nat) : Int), .int .u64 (page : Int)] w fun e w' => e = .returned (svV ⟨s.l + 1, y * 4096 + 8 * (qn page (s.l + 1) % 512), 0, dN⟩) ∧ FT W X w' bt p pm N pool (o + 1) (updM M x i (wdD (dT y))) C root ∧ Fr (Out W X) w w' := by
  have K1 : Aside (∀ v, Kp w v → w.heap.size + 1 < v.heap.size → SBk v w.heap.size s → SBk v (w.heap.size + 1) ⟨0, 0, 0, dN⟩ → Calls Tryz.prog 75 #[.pointer (some ⟨bt, 0, none⟩), .int .u64 (s.p : Int), .int .i64 (s.l : Int), .agg #[.int .i64 1, .int .u64 ((y * 4096 : Nat) : Int), .bool false, .bool false, .bool false, .int .i64 0]] v fun e w' => e = .returned (.tuple #[]) ∧ (FT W (fun j => (X j ∨ j = w.heap.size) ∨ j = w.heap.size + 1) w' bt p pm N pool (o + 1) (updM M x i (wdD (dT y))) C root ∧ Fr (Out W X) w w') ∧ SBk w' w.heap.size s ∧ SBk w' (w.heap.size + 1) ⟨0, 0, 0, dN⟩) := fun v k hz sb sc => by
    rw [hs]
    have f1 : FT W (fun j => (X j ∨ j = w.heap.size) ∨ j = w.heap.size + 1) v bt p pm N pool o M C root :=
      ⟨by obtain ⟨ops, B, h1, h2, S, h3⟩ := h.fw
          exact ⟨ops, B, h1, h2, S, h3.fs.kp k, h3.kp.trans k, fun i hi => ⟨(h3.out i hi).1, fun c => by
            have := h3.fs.own i hi
            rcases c with (c | c) | c
            · exact (h3.out i hi).2 c
            · omega
            · omega⟩, fun i hi => by
            rcases hi with (hi | hi) | hi
            · have := h3.lt i hi; have := k.size; omega
            · omega
            · omega, h3.t0⟩, h.tx.kp k, .inl (.inl h.xb), h.bw⟩
    exact (put_any f1 x i s.l (dT y) hx hi (okD_table hl hy) ho).mono fun e w' ⟨e1, e2, e3⟩ => ⟨e1, ⟨e2, (k.fr _).trans (e3.less fun _ c => .inl (.inl c))⟩, sb.fr e3 (fun c => c.2 (.inl (.inr rfl))), sc.fr e3 (fun c => c.2 (.inr rfl))⟩
  have K2 : Aside (∀ v, Calls Tryz.prog 47 #[.int .u64 ((page * 4096 : Nat) : Int), .int .i64 ((s.l : Int) + 1)] v fun e w' => e = .returned (.int .i64 ((qn page (s.l + 1) % 512 : Nat) : Int)) ∧ Dr v w') := fun v => by
    have := index_any (page * 4096) ((s.l + 1 : Nat) : Int) v (by omega)
    rw [idx_qn (by omega)] at this
    exact this
  have K3 : Aside (∀ v, Calls Tryz.prog 108 #[.int .u64 ((y * 4096 : Nat) : Int), .int .i64 ((qn page (s.l + 1) % 512 : Nat) : Int)] v fun e w' => e = .returned (.int .u64 ((y * 4096 + 8 * (qn page (s.l + 1) % 512) : Nat) : Int)) ∧ w' = v) := fun v => entryAt_any y _ v hy (Nat.mod_lt _ (by decide))
  have xl := h.fw.xlt
  have XL : Aside (∀ b, X b → b < w.heap.size) := xl
  obtain ⟨u, hu⟩ : ∃ u, u = page * 4096 := ⟨_, rfl⟩
  have z1 : IntKind.u64.wrap ((page : Int) * 4096) = (u : Int) := by simp [IntKind.wrap, IntKind.bits, IntKind.signed]; omega
  have z2 : (s.l : Int) ≤ 2 := by omega
  have HB : Hid (X bt ∧ W.heap.size ≤ w.heap.size) := ⟨h.xb, h.fw.kp.size⟩
  rw [← hu] at K2
  clear h hs hx hi hy hp ho hu hl xl
  generalize updM M x i (wdD (dT y)) = M1 at *
  generalize y * 4096 + 8 * (qn page (s.l + 1) % 512) = a2 at *
  generalize qn page (s.l + 1) % 512 = i2 at *
  generalize y * 4096 = ya at *
  obtain ⟨l, pp, u', k, a, r, q, e, f⟩ := s
  unfold svV
  simp only at *
  go_enter Tryz.func97, Tryz.ntmps97
  go_wp2_with fail
  with_reducible refine (K1.out _ (((Kp.refl w).alloc _).alloc _) (by simp) ((SBk.made w ⟨l, pp, u', k, a, r, q, e, f⟩).kp ((Kp.refl _).alloc _)) (by have := SBk.made (w.alloc (.cells #[.int .i64 (l : Int), .int .u64 (pp : Int), .int .u64 (u' : Int), .int .i64 k, .int .u64 (a : Int), .bool r, .bool q, .bool e, .int .i64 f] 64)) ⟨0, 0, 0, dN⟩; simpa [dN] using this)).mono ?_
  rintro _ w1 ⟨rfl, H1, S1, S2⟩
  have c0 := S1.c 0 rfl
  have HH : Hid ((FT W (fun j => (X j ∨ j = w.heap.size) ∨ j = w.heap.size + 1) w1 bt p pm N pool (o + 1) M1 C root ∧ Fr (Out W X) w w1) ∧ SBk w1 (w.heap.size + 1) ⟨0, 0, 0, dN⟩) := ⟨H1, S2⟩
  clear K1 H1 S1 S2
  go_wp2_with fail
  with_reducible refine (K2.out _).mono ?_
  rintro _ w2 ⟨rfl, D2⟩
  have H2 : Hid ((FT W (fun j => (X j ∨ j = w.heap.size) ∨ j = w.heap.size + 1) w2 bt p pm N pool (o + 1) M1 C root ∧ Fr (Out W X) w w2) ∧ SBk w2 (w.heap.size + 1) ⟨0, 0, 0, dN⟩) := by
    obtain ⟨⟨a1, a2⟩, a3⟩ := HH.out
    exact ⟨⟨a1.kps D2.kp, a2.trans (D2.kp.fr _)⟩, a3.kp D2.kp⟩
  have s2 := H2.out.2
  have f0 := s2.fz 0
  have f1 := s2.fz 1
  have f2 := s2.fz 2
  have f3 := s2.fz 3
  have f4 := s2.fz 4
  have f5 := s2.fz 5
  have f6 := s2.fz 6
  have f7 := s2.fz 7
  have f8 := s2.fz 8
  have t0 := s2.c 0 rfl
  have t1 := s2.c 1 rfl
  have t2 := s2.c 2 rfl
  have t3 := s2.c 3 rfl
  have t4 := s2.c 4 rfl
  have t5 := s2.c 5 rfl
  have t6 := s2.c 6 rfl
  have t7 := s2.c 7 rfl
  have t8 := s2.c 8 rfl
  clear HH K2 D2 s2 c0
  go_wp2_with (go_at_call 108; with_reducible refine (K3.out _).mono ?_; rintro _ w' ⟨rfl, rfl⟩)
  obtain ⟨⟨g1, g2⟩, g3⟩ := H2.out
  obtain ⟨xb, hz⟩ := HB.out
  have bb : ¬ bt = w.heap.size + 1 := fun c => by have := XL.out bt xb; omega
  refine bodyPost_ret (res_s (b := w.heap.size + 1) (s := ⟨l + 1, a2, 0, dN⟩) rfl rfl (g3.put ⟨l + 1, a2, 0, dN⟩)) rfl ⟨rfl, ?_, g2.putS (b := w.heap.size + 1) ⟨by omega, fun c => by have := XL.out _ c; omega⟩ ⟨l + 1, a2, 0, dN⟩⟩
  have k := Fr.putS (S := (· = w.heap.size + 1)) (Fr.refl _ w') rfl ⟨l + 1, a2, 0, dN⟩
  exact FT.less (Y := fun j => (X j ∨ j = w.heap.size) ∨ j = w.heap.size + 1) ⟨g1.fw.frX k (fun j c => ⟨by omega, .inr c⟩), g1.tx.fr k bb, g1.xb, g1.bw⟩ (fun _ c => .inl (.inl c)) xb
end
end Go.Proofs.YtanlcmdnhhdhaaaGreatDoor
