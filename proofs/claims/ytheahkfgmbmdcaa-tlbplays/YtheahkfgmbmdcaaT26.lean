/- demesnelaw15: lose: both TLBs at once. -/
import Derived.Test.YtheahkfgmbmdcaaT23
import Derived.Test.YtheahkfgmbmdcaaT25
import Derived.Deep.RegionHeld3
namespace Go.Proofs.Ytheahkfgmbmdcaa
open Go.RowKit
set_option maxRecDepth 10000

/-- Both TLBs beside one another, behind W: the program's has T, the document's R. -/
structure BT (W w : World) (b g br gr s k : Nat) (T R : Nat → PC) : Prop where
  tp : TP w b g s k T
  tr : TR w br gr s k R
  k : Kp W w
  hg : W.heap.size ≤ g
  hr : W.heap.size ≤ gr
  n1 : b ≠ gr
  n2 : g ≠ gr
  n3 : br ≠ g
section
variable {W w w' : World} {b g br gr s k : Nat} {T R T' R' : Nat → PC}
theorem BT.kp (h : BT W w b g br gr s k T R) (f : Kp w w') : BT W w' b g br gr s k T R := ⟨h.tp.kp f, h.tr.kp f, h.k.trans f, h.hg, h.hr, h.n1, h.n2, h.n3⟩
theorem BT.ps (h : BT W w b g br gr s k T R) (t : TP w' b g s k T') (f : Fr (· = g) w w') : BT W w' b g br gr s k T' R :=
  ⟨t, h.tr.fr f h.n3 (fun e => h.n2 e.symm), f.kp h.k (fun i hi => by have := h.hg; omega), h.hg, h.hr, h.n1, h.n2, h.n3⟩
theorem BT.rs (h : BT W w b g br gr s k T R) (t : TR w' br gr s k R') (f : Fr (· = gr) w w') : BT W w' b g br gr s k T R' :=
  ⟨h.tp.fr f h.n1 h.n2, t, f.kp h.k (fun i hi => by have := h.hr; omega), h.hg, h.hr, h.n1, h.n2, h.n3⟩
end
/-- Which lines a losing step takes. -/
def prK (kd : Int) (l : LN) : LN → Bool := if kd = 6 then suB false false false false false zL else if kd = 7 then suB true false false false false l else if kd = 8 then suB true true false false false l else if kd = 9 then suB true true true false false l else if kd = 10 then suB true false false true false l else suB false false false false true l

set_option maxHeartbeats 8000000 in
theorem llose_any {w0 w : World} {b g br gr s k : Nat} {T : Nat → PC} (h : BT w0 w b g br gr s k T T) (kd : Int) (l : LN) (k6 : 6 ≤ kd) (k11 : kd ≤ 11) :
    Calls Try.prog 13 #[.pointer (some ⟨b, 0, none⟩), .pointer (some ⟨br, 0, none⟩), .int .i64 kd, lnV l] w fun e w' => e = .returned (.tuple #[.int .i64 (losN T (prK kd l) (s * k) : Nat), .int .i64 (losN T (prK kd l) (s * k) : Nat)]) ∧ BT w0 w' b g br gr s k (losT T (prK kd l) (s * k)) (losT T (prK kd l) (s * k)) ∧ Fr (fun x => x = g ∨ x = gr) w w' := by
  rw [show lnV l = .agg #[.int .i64 l.i, .int .i64 l.a, .int .u64 (l.v : Int), .int .u64 (l.p : Int), .int .i64 l.f, .bool l.r, .bool l.q, .bool l.x, .bool l.r2, .bool l.q2, .bool l.x2] from rfl]
  obtain ⟨w1, hw1⟩ : ∃ w1, w1 = w.alloc (.cells #[.int .i64 l.i, .int .i64 l.a, .int .u64 (l.v : Int), .int .u64 (l.p : Int), .int .i64 l.f, .bool l.r, .bool l.q, .bool l.x, .bool l.r2, .bool l.q2, .bool l.x2] 34) := ⟨_, rfl⟩
  have HB : Hid (BT w0 w1 b g br gr s k T T ∧ RX w1 w.heap.size 34 (encL l) ∧ Kp w w1) := ⟨by rw [hw1]; exact h.kp ((Kp.refl w).alloc _), by rw [hw1]; exact RX.made w _ _, by rw [hw1]; exact (Kp.refl w).alloc _⟩
  have HG : Hid (g < w.heap.size ∧ gr < w.heap.size) := ⟨h.tp.row.lt, h.tr.row.lt⟩
  clear h
  rcases (by omega : kd = 6 ∨ kd = 7 ∨ kd = 8 ∨ kd = 9 ∨ kd = 10 ∨ kd = 11) with rfl | rfl | rfl | rfl | rfl | rfl
  · have cP : ∀ w', BT w0 w' b g br gr s k T T → Calls Try.prog 23 #[.pointer (some ⟨b, 0, none⟩)] w' fun e w'' => e = .returned (.int .i64 (losN T (prK 6 l) (s * k) : Nat)) ∧ TP w'' b g s k (losT T (prK 6 l) (s * k)) ∧ Fr (· = g) w' w'' := fun w' h => all_any h.tp zL
    have cR : ∀ w', TR w' br gr s k T → Calls Try.prog 33 #[.pointer (some ⟨br, 0, none⟩), .agg #[.bool false, .bool false, .bool false, .bool false, .bool false, .int .i64 0, .int .i64 0, .int .u64 0, .int .u64 0, .int .i64 0, .bool false, .bool false, .bool false, .bool false, .bool false, .bool false]] w' fun e w'' => e = .returned (.int .i64 (losN T (prK 6 l) (s * k) : Nat)) ∧ TR w'' br gr s k (losT T (prK 6 l) (s * k)) ∧ Fr (· = gr) w' w'' := fun w' h => rlose_any h false false false false false zL _ (fun x w => is_all zL x w)
    obtain ⟨nl, hnl⟩ : ∃ nl, losN T (prK 6 l) (s * k) = nl := ⟨_, rfl⟩
    rw [hnl] at cP cR ⊢
    obtain ⟨T', hT'⟩ : ∃ T', losT T (prK 6 l) (s * k) = T' := ⟨_, rfl⟩
    rw [hT'] at cP cR ⊢
    clear hnl hT' 
    go_enter Try.func13, Try.ntmps13
    go_upto_region 3 with fail
    rw [show w.alloc (.cells #[.int .i64 l.i, .int .i64 l.a, .int .u64 (l.v : Int), .int .u64 (l.p : Int), .int .i64 l.f, .bool l.r, .bool l.q, .bool l.x, .bool l.r2, .bool l.q2, .bool l.x2] 34) = w1 from hw1.symm]
    clear hw1
    have c1 := cP _ HB.out.1
    go_wp2_with fail
    with_reducible refine c1.mono ?_
    rintro e w2 ⟨rfl, T2, F2⟩
    have B2 := HB.out.1.ps T2 F2
    have c2 := cR _ B2.tr
    have HB2 : Hid (BT w0 w2 b g br gr s k T' T ∧ Fr (fun x => x = g ∨ x = gr) w w2) := ⟨B2, (HB.out.2.2.fr _).trans (F2.mono fun _ _ h => .inl h)⟩
    clear cP cR c1 T2 F2 B2
    go_wp2_with fail
    with_reducible refine c2.mono ?_
    rintro e w3 ⟨rfl, T3, F3⟩
    have HB3 : Hid (BT w0 w3 b g br gr s k T' T' ∧ Fr (fun x => x = g ∨ x = gr) w w3) := ⟨HB2.out.1.rs T3 F3, HB2.out.2.trans (F3.mono fun _ _ h => .inr h)⟩
    clear c2 T3 F3 HB2
    go_wp2
    go_ret2
    exact ⟨rfl, HB3.out⟩
  · have cP : ∀ w', BT w0 w' b g br gr s k T T → Calls Try.prog 20 #[.pointer (some ⟨b, 0, none⟩), .int .i64 l.i] w' fun e w'' => e = .returned (.int .i64 (losN T (prK 7 l) (s * k) : Nat)) ∧ TP w'' b g s k (losT T (prK 7 l) (s * k)) ∧ Fr (· = g) w' w'' := fun w' h => id_any h.tp l
    have cR : ∀ w', TR w' br gr s k T → Calls Try.prog 33 #[.pointer (some ⟨br, 0, none⟩), .agg #[.bool true, .bool false, .bool false, .bool false, .bool false, .int .i64 l.i, .int .i64 l.a, .int .u64 (l.v : Int), .int .u64 (l.p : Int), .int .i64 l.f, .bool l.r, .bool l.q, .bool l.x, .bool l.r2, .bool l.q2, .bool l.x2]] w' fun e w'' => e = .returned (.int .i64 (losN T (prK 7 l) (s * k) : Nat)) ∧ TR w'' br gr s k (losT T (prK 7 l) (s * k)) ∧ Fr (· = gr) w' w'' := fun w' h => rlose_any h true false false false false l _ (fun x w => is_id l x w)
    obtain ⟨nl, hnl⟩ : ∃ nl, losN T (prK 7 l) (s * k) = nl := ⟨_, rfl⟩
    rw [hnl] at cP cR ⊢
    obtain ⟨T', hT'⟩ : ∃ T', losT T (prK 7 l) (s * k) = T' := ⟨_, rfl⟩
    rw [hT'] at cP cR ⊢
    clear hnl hT' 
    have CP : Aside (∀ w', BT w0 w' b g br gr s k T T → Calls Try.prog 20 #[.pointer (some ⟨b, 0, none⟩), .int .i64 l.i] w' fun e w'' => e = .returned (.int .i64 (nl : Nat)) ∧ TP w'' b g s k T' ∧ Fr (· = g) w' w'') := cP
    have CR : Aside (∀ w', TR w' br gr s k T → Calls Try.prog 33 #[.pointer (some ⟨br, 0, none⟩), .agg #[.bool true, .bool false, .bool false, .bool false, .bool false, .int .i64 l.i, .int .i64 l.a, .int .u64 (l.v : Int), .int .u64 (l.p : Int), .int .i64 l.f, .bool l.r, .bool l.q, .bool l.x, .bool l.r2, .bool l.q2, .bool l.x2]] w' fun e w'' => e = .returned (.int .i64 (nl : Nat)) ∧ TR w'' br gr s k T' ∧ Fr (· = gr) w' w'') := cR
    clear cP cR
    go_enter Try.func13, Try.ntmps13
    go_upto_region 5 with fail
    obtain ⟨cb, hcb⟩ : ∃ cb, cb = w.heap.size := ⟨_, rfl⟩
    rw [show w.alloc (.cells #[.int .i64 l.i, .int .i64 l.a, .int .u64 (l.v : Int), .int .u64 (l.p : Int), .int .i64 l.f, .bool l.r, .bool l.q, .bool l.x, .bool l.r2, .bool l.q2, .bool l.x2] 34) = w1 from hw1.symm, ← hcb]
    have X1 := HB.out.2.1
    have HKW : Hid (Kp w w1) := HB.out.2.2
    rw [← hcb] at X1
    have ng : cb ≠ g := by have := HG.out; omega
    have nr : cb ≠ gr := by have := HG.out; omega
    have XS : Hid (∀ v, RX v cb 34 (encL l) → v.cell? ⟨cb, 0, none⟩ = some (.int .i64 l.i) ∧ v.cell? ⟨cb, 1, none⟩ = some (.int .i64 l.a) ∧ v.cell? ⟨cb, 2, none⟩ = some (.int .u64 (l.v : Int)) ∧ v.cell? ⟨cb, 3, none⟩ = some (.int .u64 (l.p : Int)) ∧ v.cell? ⟨cb, 4, none⟩ = some (.int .i64 l.f) ∧ v.cell? ⟨cb, 5, none⟩ = some (.bool l.r) ∧ v.cell? ⟨cb, 6, none⟩ = some (.bool l.q) ∧ v.cell? ⟨cb, 7, none⟩ = some (.bool l.x) ∧ v.cell? ⟨cb, 8, none⟩ = some (.bool l.r2) ∧ v.cell? ⟨cb, 9, none⟩ = some (.bool l.q2) ∧ v.cell? ⟨cb, 10, none⟩ = some (.bool l.x2)) := fun v X => ⟨X.cell (j := 0) rfl, X.cell (j := 1) rfl, X.cell (j := 2) rfl, X.cell (j := 3) rfl, X.cell (j := 4) rfl, X.cell (j := 5) rfl, X.cell (j := 6) rfl, X.cell (j := 7) rfl, X.cell (j := 8) rfl, X.cell (j := 9) rfl, X.cell (j := 10) rfl⟩
    have B1 := HB.out.1.kp (Kp.refl w1).drew
    have X1d := X1.kp (Kp.refl w1).drew
    have o0 := X1.cell (j := 0) rfl
    have o1 := X1.cell (j := 1) rfl
    have o2 := X1.cell (j := 2) rfl
    have o3 := X1.cell (j := 3) rfl
    have o4 := X1.cell (j := 4) rfl
    have o5 := X1.cell (j := 5) rfl
    have o6 := X1.cell (j := 6) rfl
    have o7 := X1.cell (j := 7) rfl
    have o8 := X1.cell (j := 8) rfl
    have o9 := X1.cell (j := 9) rfl
    have o10 := X1.cell (j := 10) rfl
    clear hw1 hcb X1 HG HB
    go_region_held3 (fun v => v.cell? ⟨cb, 0, none⟩ = some (.int .i64 l.i) ∧ v.cell? ⟨cb, 1, none⟩ = some (.int .i64 l.a) ∧ v.cell? ⟨cb, 2, none⟩ = some (.int .u64 (l.v : Int)) ∧ v.cell? ⟨cb, 3, none⟩ = some (.int .u64 (l.p : Int)) ∧ v.cell? ⟨cb, 4, none⟩ = some (.int .i64 l.f) ∧ v.cell? ⟨cb, 5, none⟩ = some (.bool l.r) ∧ v.cell? ⟨cb, 6, none⟩ = some (.bool l.q) ∧ v.cell? ⟨cb, 7, none⟩ = some (.bool l.x) ∧ v.cell? ⟨cb, 8, none⟩ = some (.bool l.r2) ∧ v.cell? ⟨cb, 9, none⟩ = some (.bool l.q2) ∧ v.cell? ⟨cb, 10, none⟩ = some (.bool l.x2))
      (first | go_keep | exact XS.out _ X3 | exact XS.out _ X2)
      (first | (go_at_call 20; with_reducible refine (CP.out _ B1).mono ?_; rintro e w2 ⟨rfl, T2, F2⟩; have B2 := B1.ps T2 F2; have X2 := X1d.fr F2 ng) | (go_at_call 33; with_reducible refine (CR.out _ B2.tr).mono ?_; rintro e w3 ⟨rfl, T3, F3⟩; have B3 := B2.rs T3 F3; have X3 := X2.fr F3 nr))
    have HB3 : Hid (BT w0 w3 b g br gr s k T' T' ∧ Fr (fun x => x = g ∨ x = gr) w w3) := ⟨B3, (((HKW.out.drew).fr _).trans (F2.mono fun _ _ h => .inl h)).trans (F3.mono fun _ _ h => .inr h)⟩
    clear XS B1 X1d CP CR T2 F2 B2 X2 T3 F3 B3 X3 o0 o1 o2 o3 o4 o5 o6 o7 o8 o9 o10
    go_wp2
    go_ret2
    exact ⟨rfl, HB3.out⟩
  · have cP : ∀ w', BT w0 w' b g br gr s k T T → Calls Try.prog 24 #[.pointer (some ⟨b, 0, none⟩), .int .i64 l.i, .int .i64 l.a] w' fun e w'' => e = .returned (.int .i64 (losN T (prK 8 l) (s * k) : Nat)) ∧ TP w'' b g s k (losT T (prK 8 l) (s * k)) ∧ Fr (· = g) w' w'' := fun w' h => asid_any h.tp l
    have cR : ∀ w', TR w' br gr s k T → Calls Try.prog 33 #[.pointer (some ⟨br, 0, none⟩), .agg #[.bool true, .bool true, .bool false, .bool false, .bool false, .int .i64 l.i, .int .i64 l.a, .int .u64 (l.v : Int), .int .u64 (l.p : Int), .int .i64 l.f, .bool l.r, .bool l.q, .bool l.x, .bool l.r2, .bool l.q2, .bool l.x2]] w' fun e w'' => e = .returned (.int .i64 (losN T (prK 8 l) (s * k) : Nat)) ∧ TR w'' br gr s k (losT T (prK 8 l) (s * k)) ∧ Fr (· = gr) w' w'' := fun w' h => rlose_any h true true false false false l _ (fun x w => is_asid l x w)
    obtain ⟨nl, hnl⟩ : ∃ nl, losN T (prK 8 l) (s * k) = nl := ⟨_, rfl⟩
    rw [hnl] at cP cR ⊢
    obtain ⟨T', hT'⟩ : ∃ T', losT T (prK 8 l) (s * k) = T' := ⟨_, rfl⟩
    rw [hT'] at cP cR ⊢
    clear hnl hT' 
    have CP : Aside (∀ w', BT w0 w' b g br gr s k T T → Calls Try.prog 24 #[.pointer (some ⟨b, 0, none⟩), .int .i64 l.i, .int .i64 l.a] w' fun e w'' => e = .returned (.int .i64 (nl : Nat)) ∧ TP w'' b g s k T' ∧ Fr (· = g) w' w'') := cP
    have CR : Aside (∀ w', TR w' br gr s k T → Calls Try.prog 33 #[.pointer (some ⟨br, 0, none⟩), .agg #[.bool true, .bool true, .bool false, .bool false, .bool false, .int .i64 l.i, .int .i64 l.a, .int .u64 (l.v : Int), .int .u64 (l.p : Int), .int .i64 l.f, .bool l.r, .bool l.q, .bool l.x, .bool l.r2, .bool l.q2, .bool l.x2]] w' fun e w'' => e = .returned (.int .i64 (nl : Nat)) ∧ TR w'' br gr s k T' ∧ Fr (· = gr) w' w'') := cR
    clear cP cR
    go_enter Try.func13, Try.ntmps13
    go_upto_region 7 with fail
    obtain ⟨cb, hcb⟩ : ∃ cb, cb = w.heap.size := ⟨_, rfl⟩
    rw [show w.alloc (.cells #[.int .i64 l.i, .int .i64 l.a, .int .u64 (l.v : Int), .int .u64 (l.p : Int), .int .i64 l.f, .bool l.r, .bool l.q, .bool l.x, .bool l.r2, .bool l.q2, .bool l.x2] 34) = w1 from hw1.symm, ← hcb]
    have X1 := HB.out.2.1
    have HKW : Hid (Kp w w1) := HB.out.2.2
    rw [← hcb] at X1
    have ng : cb ≠ g := by have := HG.out; omega
    have nr : cb ≠ gr := by have := HG.out; omega
    have XS : Hid (∀ v, RX v cb 34 (encL l) → v.cell? ⟨cb, 0, none⟩ = some (.int .i64 l.i) ∧ v.cell? ⟨cb, 1, none⟩ = some (.int .i64 l.a) ∧ v.cell? ⟨cb, 2, none⟩ = some (.int .u64 (l.v : Int)) ∧ v.cell? ⟨cb, 3, none⟩ = some (.int .u64 (l.p : Int)) ∧ v.cell? ⟨cb, 4, none⟩ = some (.int .i64 l.f) ∧ v.cell? ⟨cb, 5, none⟩ = some (.bool l.r) ∧ v.cell? ⟨cb, 6, none⟩ = some (.bool l.q) ∧ v.cell? ⟨cb, 7, none⟩ = some (.bool l.x) ∧ v.cell? ⟨cb, 8, none⟩ = some (.bool l.r2) ∧ v.cell? ⟨cb, 9, none⟩ = some (.bool l.q2) ∧ v.cell? ⟨cb, 10, none⟩ = some (.bool l.x2)) := fun v X => ⟨X.cell (j := 0) rfl, X.cell (j := 1) rfl, X.cell (j := 2) rfl, X.cell (j := 3) rfl, X.cell (j := 4) rfl, X.cell (j := 5) rfl, X.cell (j := 6) rfl, X.cell (j := 7) rfl, X.cell (j := 8) rfl, X.cell (j := 9) rfl, X.cell (j := 10) rfl⟩
    have B1 := HB.out.1.kp (Kp.refl w1).drew
    have X1d := X1.kp (Kp.refl w1).drew
    have o0 := X1.cell (j := 0) rfl
    have o1 := X1.cell (j := 1) rfl
    have o2 := X1.cell (j := 2) rfl
    have o3 := X1.cell (j := 3) rfl
    have o4 := X1.cell (j := 4) rfl
    have o5 := X1.cell (j := 5) rfl
    have o6 := X1.cell (j := 6) rfl
    have o7 := X1.cell (j := 7) rfl
    have o8 := X1.cell (j := 8) rfl
    have o9 := X1.cell (j := 9) rfl
    have o10 := X1.cell (j := 10) rfl
    clear hw1 hcb X1 HG HB
    go_region_held3 (fun v => v.cell? ⟨cb, 0, none⟩ = some (.int .i64 l.i) ∧ v.cell? ⟨cb, 1, none⟩ = some (.int .i64 l.a) ∧ v.cell? ⟨cb, 2, none⟩ = some (.int .u64 (l.v : Int)) ∧ v.cell? ⟨cb, 3, none⟩ = some (.int .u64 (l.p : Int)) ∧ v.cell? ⟨cb, 4, none⟩ = some (.int .i64 l.f) ∧ v.cell? ⟨cb, 5, none⟩ = some (.bool l.r) ∧ v.cell? ⟨cb, 6, none⟩ = some (.bool l.q) ∧ v.cell? ⟨cb, 7, none⟩ = some (.bool l.x) ∧ v.cell? ⟨cb, 8, none⟩ = some (.bool l.r2) ∧ v.cell? ⟨cb, 9, none⟩ = some (.bool l.q2) ∧ v.cell? ⟨cb, 10, none⟩ = some (.bool l.x2))
      (first | go_keep | exact XS.out _ X3 | exact XS.out _ X2)
      (first | (go_at_call 24; with_reducible refine (CP.out _ B1).mono ?_; rintro e w2 ⟨rfl, T2, F2⟩; have B2 := B1.ps T2 F2; have X2 := X1d.fr F2 ng) | (go_at_call 33; with_reducible refine (CR.out _ B2.tr).mono ?_; rintro e w3 ⟨rfl, T3, F3⟩; have B3 := B2.rs T3 F3; have X3 := X2.fr F3 nr))
    have HB3 : Hid (BT w0 w3 b g br gr s k T' T' ∧ Fr (fun x => x = g ∨ x = gr) w w3) := ⟨B3, (((HKW.out.drew).fr _).trans (F2.mono fun _ _ h => .inl h)).trans (F3.mono fun _ _ h => .inr h)⟩
    clear XS B1 X1d CP CR T2 F2 B2 X2 T3 F3 B3 X3 o0 o1 o2 o3 o4 o5 o6 o7 o8 o9 o10
    go_wp2
    go_ret2
    exact ⟨rfl, HB3.out⟩
  · have cP : ∀ w', BT w0 w' b g br gr s k T T → Calls Try.prog 34 #[.pointer (some ⟨b, 0, none⟩), .int .i64 l.i, .int .i64 l.a, .int .u64 (l.v : Int)] w' fun e w'' => e = .returned (.int .i64 (losN T (prK 9 l) (s * k) : Nat)) ∧ TP w'' b g s k (losT T (prK 9 l) (s * k)) ∧ Fr (· = g) w' w'' := fun w' h => va_any h.tp l
    have cR : ∀ w', TR w' br gr s k T → Calls Try.prog 33 #[.pointer (some ⟨br, 0, none⟩), .agg #[.bool true, .bool true, .bool true, .bool false, .bool false, .int .i64 l.i, .int .i64 l.a, .int .u64 (l.v : Int), .int .u64 (l.p : Int), .int .i64 l.f, .bool l.r, .bool l.q, .bool l.x, .bool l.r2, .bool l.q2, .bool l.x2]] w' fun e w'' => e = .returned (.int .i64 (losN T (prK 9 l) (s * k) : Nat)) ∧ TR w'' br gr s k (losT T (prK 9 l) (s * k)) ∧ Fr (· = gr) w' w'' := fun w' h => rlose_any h true true true false false l _ (fun x w => is_va l x w)
    obtain ⟨nl, hnl⟩ : ∃ nl, losN T (prK 9 l) (s * k) = nl := ⟨_, rfl⟩
    rw [hnl] at cP cR ⊢
    obtain ⟨T', hT'⟩ : ∃ T', losT T (prK 9 l) (s * k) = T' := ⟨_, rfl⟩
    rw [hT'] at cP cR ⊢
    clear hnl hT' 
    have CP : Aside (∀ w', BT w0 w' b g br gr s k T T → Calls Try.prog 34 #[.pointer (some ⟨b, 0, none⟩), .int .i64 l.i, .int .i64 l.a, .int .u64 (l.v : Int)] w' fun e w'' => e = .returned (.int .i64 (nl : Nat)) ∧ TP w'' b g s k T' ∧ Fr (· = g) w' w'') := cP
    have CR : Aside (∀ w', TR w' br gr s k T → Calls Try.prog 33 #[.pointer (some ⟨br, 0, none⟩), .agg #[.bool true, .bool true, .bool true, .bool false, .bool false, .int .i64 l.i, .int .i64 l.a, .int .u64 (l.v : Int), .int .u64 (l.p : Int), .int .i64 l.f, .bool l.r, .bool l.q, .bool l.x, .bool l.r2, .bool l.q2, .bool l.x2]] w' fun e w'' => e = .returned (.int .i64 (nl : Nat)) ∧ TR w'' br gr s k T' ∧ Fr (· = gr) w' w'') := cR
    clear cP cR
    go_enter Try.func13, Try.ntmps13
    go_upto_region 9 with fail
    obtain ⟨cb, hcb⟩ : ∃ cb, cb = w.heap.size := ⟨_, rfl⟩
    rw [show w.alloc (.cells #[.int .i64 l.i, .int .i64 l.a, .int .u64 (l.v : Int), .int .u64 (l.p : Int), .int .i64 l.f, .bool l.r, .bool l.q, .bool l.x, .bool l.r2, .bool l.q2, .bool l.x2] 34) = w1 from hw1.symm, ← hcb]
    have X1 := HB.out.2.1
    have HKW : Hid (Kp w w1) := HB.out.2.2
    rw [← hcb] at X1
    have ng : cb ≠ g := by have := HG.out; omega
    have nr : cb ≠ gr := by have := HG.out; omega
    have XS : Hid (∀ v, RX v cb 34 (encL l) → v.cell? ⟨cb, 0, none⟩ = some (.int .i64 l.i) ∧ v.cell? ⟨cb, 1, none⟩ = some (.int .i64 l.a) ∧ v.cell? ⟨cb, 2, none⟩ = some (.int .u64 (l.v : Int)) ∧ v.cell? ⟨cb, 3, none⟩ = some (.int .u64 (l.p : Int)) ∧ v.cell? ⟨cb, 4, none⟩ = some (.int .i64 l.f) ∧ v.cell? ⟨cb, 5, none⟩ = some (.bool l.r) ∧ v.cell? ⟨cb, 6, none⟩ = some (.bool l.q) ∧ v.cell? ⟨cb, 7, none⟩ = some (.bool l.x) ∧ v.cell? ⟨cb, 8, none⟩ = some (.bool l.r2) ∧ v.cell? ⟨cb, 9, none⟩ = some (.bool l.q2) ∧ v.cell? ⟨cb, 10, none⟩ = some (.bool l.x2)) := fun v X => ⟨X.cell (j := 0) rfl, X.cell (j := 1) rfl, X.cell (j := 2) rfl, X.cell (j := 3) rfl, X.cell (j := 4) rfl, X.cell (j := 5) rfl, X.cell (j := 6) rfl, X.cell (j := 7) rfl, X.cell (j := 8) rfl, X.cell (j := 9) rfl, X.cell (j := 10) rfl⟩
    have B1 := HB.out.1.kp (Kp.refl w1).drew
    have X1d := X1.kp (Kp.refl w1).drew
    have o0 := X1.cell (j := 0) rfl
    have o1 := X1.cell (j := 1) rfl
    have o2 := X1.cell (j := 2) rfl
    have o3 := X1.cell (j := 3) rfl
    have o4 := X1.cell (j := 4) rfl
    have o5 := X1.cell (j := 5) rfl
    have o6 := X1.cell (j := 6) rfl
    have o7 := X1.cell (j := 7) rfl
    have o8 := X1.cell (j := 8) rfl
    have o9 := X1.cell (j := 9) rfl
    have o10 := X1.cell (j := 10) rfl
    clear hw1 hcb X1 HG HB
    go_region_held3 (fun v => v.cell? ⟨cb, 0, none⟩ = some (.int .i64 l.i) ∧ v.cell? ⟨cb, 1, none⟩ = some (.int .i64 l.a) ∧ v.cell? ⟨cb, 2, none⟩ = some (.int .u64 (l.v : Int)) ∧ v.cell? ⟨cb, 3, none⟩ = some (.int .u64 (l.p : Int)) ∧ v.cell? ⟨cb, 4, none⟩ = some (.int .i64 l.f) ∧ v.cell? ⟨cb, 5, none⟩ = some (.bool l.r) ∧ v.cell? ⟨cb, 6, none⟩ = some (.bool l.q) ∧ v.cell? ⟨cb, 7, none⟩ = some (.bool l.x) ∧ v.cell? ⟨cb, 8, none⟩ = some (.bool l.r2) ∧ v.cell? ⟨cb, 9, none⟩ = some (.bool l.q2) ∧ v.cell? ⟨cb, 10, none⟩ = some (.bool l.x2))
      (first | go_keep | exact XS.out _ X3 | exact XS.out _ X2)
      (first | (go_at_call 34; with_reducible refine (CP.out _ B1).mono ?_; rintro e w2 ⟨rfl, T2, F2⟩; have B2 := B1.ps T2 F2; have X2 := X1d.fr F2 ng) | (go_at_call 33; with_reducible refine (CR.out _ B2.tr).mono ?_; rintro e w3 ⟨rfl, T3, F3⟩; have B3 := B2.rs T3 F3; have X3 := X2.fr F3 nr))
    have HB3 : Hid (BT w0 w3 b g br gr s k T' T' ∧ Fr (fun x => x = g ∨ x = gr) w w3) := ⟨B3, (((HKW.out.drew).fr _).trans (F2.mono fun _ _ h => .inl h)).trans (F3.mono fun _ _ h => .inr h)⟩
    clear XS B1 X1d CP CR T2 F2 B2 X2 T3 F3 B3 X3 o0 o1 o2 o3 o4 o5 o6 o7 o8 o9 o10
    go_wp2
    go_ret2
    exact ⟨rfl, HB3.out⟩
  · have cP : ∀ w', BT w0 w' b g br gr s k T T → Calls Try.prog 21 #[.pointer (some ⟨b, 0, none⟩), .int .i64 l.i, .int .u64 (l.p : Int)] w' fun e w'' => e = .returned (.int .i64 (losN T (prK 10 l) (s * k) : Nat)) ∧ TP w'' b g s k (losT T (prK 10 l) (s * k)) ∧ Fr (· = g) w' w'' := fun w' h => page_any h.tp l
    have cR : ∀ w', TR w' br gr s k T → Calls Try.prog 33 #[.pointer (some ⟨br, 0, none⟩), .agg #[.bool true, .bool false, .bool false, .bool true, .bool false, .int .i64 l.i, .int .i64 l.a, .int .u64 (l.v : Int), .int .u64 (l.p : Int), .int .i64 l.f, .bool l.r, .bool l.q, .bool l.x, .bool l.r2, .bool l.q2, .bool l.x2]] w' fun e w'' => e = .returned (.int .i64 (losN T (prK 10 l) (s * k) : Nat)) ∧ TR w'' br gr s k (losT T (prK 10 l) (s * k)) ∧ Fr (· = gr) w' w'' := fun w' h => rlose_any h true false false true false l _ (fun x w => is_page l x w)
    obtain ⟨nl, hnl⟩ : ∃ nl, losN T (prK 10 l) (s * k) = nl := ⟨_, rfl⟩
    rw [hnl] at cP cR ⊢
    obtain ⟨T', hT'⟩ : ∃ T', losT T (prK 10 l) (s * k) = T' := ⟨_, rfl⟩
    rw [hT'] at cP cR ⊢
    clear hnl hT' 
    have CP : Aside (∀ w', BT w0 w' b g br gr s k T T → Calls Try.prog 21 #[.pointer (some ⟨b, 0, none⟩), .int .i64 l.i, .int .u64 (l.p : Int)] w' fun e w'' => e = .returned (.int .i64 (nl : Nat)) ∧ TP w'' b g s k T' ∧ Fr (· = g) w' w'') := cP
    have CR : Aside (∀ w', TR w' br gr s k T → Calls Try.prog 33 #[.pointer (some ⟨br, 0, none⟩), .agg #[.bool true, .bool false, .bool false, .bool true, .bool false, .int .i64 l.i, .int .i64 l.a, .int .u64 (l.v : Int), .int .u64 (l.p : Int), .int .i64 l.f, .bool l.r, .bool l.q, .bool l.x, .bool l.r2, .bool l.q2, .bool l.x2]] w' fun e w'' => e = .returned (.int .i64 (nl : Nat)) ∧ TR w'' br gr s k T' ∧ Fr (· = gr) w' w'') := cR
    clear cP cR
    go_enter Try.func13, Try.ntmps13
    go_upto_region 11 with fail
    obtain ⟨cb, hcb⟩ : ∃ cb, cb = w.heap.size := ⟨_, rfl⟩
    rw [show w.alloc (.cells #[.int .i64 l.i, .int .i64 l.a, .int .u64 (l.v : Int), .int .u64 (l.p : Int), .int .i64 l.f, .bool l.r, .bool l.q, .bool l.x, .bool l.r2, .bool l.q2, .bool l.x2] 34) = w1 from hw1.symm, ← hcb]
    have X1 := HB.out.2.1
    have HKW : Hid (Kp w w1) := HB.out.2.2
    rw [← hcb] at X1
    have ng : cb ≠ g := by have := HG.out; omega
    have nr : cb ≠ gr := by have := HG.out; omega
    have XS : Hid (∀ v, RX v cb 34 (encL l) → v.cell? ⟨cb, 0, none⟩ = some (.int .i64 l.i) ∧ v.cell? ⟨cb, 1, none⟩ = some (.int .i64 l.a) ∧ v.cell? ⟨cb, 2, none⟩ = some (.int .u64 (l.v : Int)) ∧ v.cell? ⟨cb, 3, none⟩ = some (.int .u64 (l.p : Int)) ∧ v.cell? ⟨cb, 4, none⟩ = some (.int .i64 l.f) ∧ v.cell? ⟨cb, 5, none⟩ = some (.bool l.r) ∧ v.cell? ⟨cb, 6, none⟩ = some (.bool l.q) ∧ v.cell? ⟨cb, 7, none⟩ = some (.bool l.x) ∧ v.cell? ⟨cb, 8, none⟩ = some (.bool l.r2) ∧ v.cell? ⟨cb, 9, none⟩ = some (.bool l.q2) ∧ v.cell? ⟨cb, 10, none⟩ = some (.bool l.x2)) := fun v X => ⟨X.cell (j := 0) rfl, X.cell (j := 1) rfl, X.cell (j := 2) rfl, X.cell (j := 3) rfl, X.cell (j := 4) rfl, X.cell (j := 5) rfl, X.cell (j := 6) rfl, X.cell (j := 7) rfl, X.cell (j := 8) rfl, X.cell (j := 9) rfl, X.cell (j := 10) rfl⟩
    have B1 := HB.out.1.kp (Kp.refl w1).drew
    have X1d := X1.kp (Kp.refl w1).drew
    have o0 := X1.cell (j := 0) rfl
    have o1 := X1.cell (j := 1) rfl
    have o2 := X1.cell (j := 2) rfl
    have o3 := X1.cell (j := 3) rfl
    have o4 := X1.cell (j := 4) rfl
    have o5 := X1.cell (j := 5) rfl
    have o6 := X1.cell (j := 6) rfl
    have o7 := X1.cell (j := 7) rfl
    have o8 := X1.cell (j := 8) rfl
    have o9 := X1.cell (j := 9) rfl
    have o10 := X1.cell (j := 10) rfl
    clear hw1 hcb X1 HG HB
    go_region_held3 (fun v => v.cell? ⟨cb, 0, none⟩ = some (.int .i64 l.i) ∧ v.cell? ⟨cb, 1, none⟩ = some (.int .i64 l.a) ∧ v.cell? ⟨cb, 2, none⟩ = some (.int .u64 (l.v : Int)) ∧ v.cell? ⟨cb, 3, none⟩ = some (.int .u64 (l.p : Int)) ∧ v.cell? ⟨cb, 4, none⟩ = some (.int .i64 l.f) ∧ v.cell? ⟨cb, 5, none⟩ = some (.bool l.r) ∧ v.cell? ⟨cb, 6, none⟩ = some (.bool l.q) ∧ v.cell? ⟨cb, 7, none⟩ = some (.bool l.x) ∧ v.cell? ⟨cb, 8, none⟩ = some (.bool l.r2) ∧ v.cell? ⟨cb, 9, none⟩ = some (.bool l.q2) ∧ v.cell? ⟨cb, 10, none⟩ = some (.bool l.x2))
      (first | go_keep | exact XS.out _ X3 | exact XS.out _ X2)
      (first | (go_at_call 21; with_reducible refine (CP.out _ B1).mono ?_; rintro e w2 ⟨rfl, T2, F2⟩; have B2 := B1.ps T2 F2; have X2 := X1d.fr F2 ng) | (go_at_call 33; with_reducible refine (CR.out _ B2.tr).mono ?_; rintro e w3 ⟨rfl, T3, F3⟩; have B3 := B2.rs T3 F3; have X3 := X2.fr F3 nr))
    have HB3 : Hid (BT w0 w3 b g br gr s k T' T' ∧ Fr (fun x => x = g ∨ x = gr) w w3) := ⟨B3, (((HKW.out.drew).fr _).trans (F2.mono fun _ _ h => .inl h)).trans (F3.mono fun _ _ h => .inr h)⟩
    clear XS B1 X1d CP CR T2 F2 B2 X2 T3 F3 B3 X3 o0 o1 o2 o3 o4 o5 o6 o7 o8 o9 o10
    go_wp2
    go_ret2
    exact ⟨rfl, HB3.out⟩
  · have cP : ∀ w', BT w0 w' b g br gr s k T T → Calls Try.prog 22 #[.pointer (some ⟨b, 0, none⟩), .int .i64 l.f] w' fun e w'' => e = .returned (.int .i64 (losN T (prK 11 l) (s * k) : Nat)) ∧ TP w'' b g s k (losT T (prK 11 l) (s * k)) ∧ Fr (· = g) w' w'' := fun w' h => frame_any h.tp l
    have cR : ∀ w', TR w' br gr s k T → Calls Try.prog 33 #[.pointer (some ⟨br, 0, none⟩), .agg #[.bool false, .bool false, .bool false, .bool false, .bool true, .int .i64 l.i, .int .i64 l.a, .int .u64 (l.v : Int), .int .u64 (l.p : Int), .int .i64 l.f, .bool l.r, .bool l.q, .bool l.x, .bool l.r2, .bool l.q2, .bool l.x2]] w' fun e w'' => e = .returned (.int .i64 (losN T (prK 11 l) (s * k) : Nat)) ∧ TR w'' br gr s k (losT T (prK 11 l) (s * k)) ∧ Fr (· = gr) w' w'' := fun w' h => rlose_any h false false false false true l _ (fun x w => is_frame l x w)
    obtain ⟨nl, hnl⟩ : ∃ nl, losN T (prK 11 l) (s * k) = nl := ⟨_, rfl⟩
    rw [hnl] at cP cR ⊢
    obtain ⟨T', hT'⟩ : ∃ T', losT T (prK 11 l) (s * k) = T' := ⟨_, rfl⟩
    rw [hT'] at cP cR ⊢
    clear hnl hT' 
    have CP : Aside (∀ w', BT w0 w' b g br gr s k T T → Calls Try.prog 22 #[.pointer (some ⟨b, 0, none⟩), .int .i64 l.f] w' fun e w'' => e = .returned (.int .i64 (nl : Nat)) ∧ TP w'' b g s k T' ∧ Fr (· = g) w' w'') := cP
    have CR : Aside (∀ w', TR w' br gr s k T → Calls Try.prog 33 #[.pointer (some ⟨br, 0, none⟩), .agg #[.bool false, .bool false, .bool false, .bool false, .bool true, .int .i64 l.i, .int .i64 l.a, .int .u64 (l.v : Int), .int .u64 (l.p : Int), .int .i64 l.f, .bool l.r, .bool l.q, .bool l.x, .bool l.r2, .bool l.q2, .bool l.x2]] w' fun e w'' => e = .returned (.int .i64 (nl : Nat)) ∧ TR w'' br gr s k T' ∧ Fr (· = gr) w' w'') := cR
    clear cP cR
    go_enter Try.func13, Try.ntmps13
    go_upto_region 12 with fail
    obtain ⟨cb, hcb⟩ : ∃ cb, cb = w.heap.size := ⟨_, rfl⟩
    rw [show w.alloc (.cells #[.int .i64 l.i, .int .i64 l.a, .int .u64 (l.v : Int), .int .u64 (l.p : Int), .int .i64 l.f, .bool l.r, .bool l.q, .bool l.x, .bool l.r2, .bool l.q2, .bool l.x2] 34) = w1 from hw1.symm, ← hcb]
    have X1 := HB.out.2.1
    have HKW : Hid (Kp w w1) := HB.out.2.2
    rw [← hcb] at X1
    have ng : cb ≠ g := by have := HG.out; omega
    have nr : cb ≠ gr := by have := HG.out; omega
    have XS : Hid (∀ v, RX v cb 34 (encL l) → v.cell? ⟨cb, 0, none⟩ = some (.int .i64 l.i) ∧ v.cell? ⟨cb, 1, none⟩ = some (.int .i64 l.a) ∧ v.cell? ⟨cb, 2, none⟩ = some (.int .u64 (l.v : Int)) ∧ v.cell? ⟨cb, 3, none⟩ = some (.int .u64 (l.p : Int)) ∧ v.cell? ⟨cb, 4, none⟩ = some (.int .i64 l.f) ∧ v.cell? ⟨cb, 5, none⟩ = some (.bool l.r) ∧ v.cell? ⟨cb, 6, none⟩ = some (.bool l.q) ∧ v.cell? ⟨cb, 7, none⟩ = some (.bool l.x) ∧ v.cell? ⟨cb, 8, none⟩ = some (.bool l.r2) ∧ v.cell? ⟨cb, 9, none⟩ = some (.bool l.q2) ∧ v.cell? ⟨cb, 10, none⟩ = some (.bool l.x2)) := fun v X => ⟨X.cell (j := 0) rfl, X.cell (j := 1) rfl, X.cell (j := 2) rfl, X.cell (j := 3) rfl, X.cell (j := 4) rfl, X.cell (j := 5) rfl, X.cell (j := 6) rfl, X.cell (j := 7) rfl, X.cell (j := 8) rfl, X.cell (j := 9) rfl, X.cell (j := 10) rfl⟩
    have B1 := HB.out.1.kp (Kp.refl w1).drew
    have X1d := X1.kp (Kp.refl w1).drew
    have o0 := X1.cell (j := 0) rfl
    have o1 := X1.cell (j := 1) rfl
    have o2 := X1.cell (j := 2) rfl
    have o3 := X1.cell (j := 3) rfl
    have o4 := X1.cell (j := 4) rfl
    have o5 := X1.cell (j := 5) rfl
    have o6 := X1.cell (j := 6) rfl
    have o7 := X1.cell (j := 7) rfl
    have o8 := X1.cell (j := 8) rfl
    have o9 := X1.cell (j := 9) rfl
    have o10 := X1.cell (j := 10) rfl
    clear hw1 hcb X1 HG HB
    go_region_held3 (fun v => v.cell? ⟨cb, 0, none⟩ = some (.int .i64 l.i) ∧ v.cell? ⟨cb, 1, none⟩ = some (.int .i64 l.a) ∧ v.cell? ⟨cb, 2, none⟩ = some (.int .u64 (l.v : Int)) ∧ v.cell? ⟨cb, 3, none⟩ = some (.int .u64 (l.p : Int)) ∧ v.cell? ⟨cb, 4, none⟩ = some (.int .i64 l.f) ∧ v.cell? ⟨cb, 5, none⟩ = some (.bool l.r) ∧ v.cell? ⟨cb, 6, none⟩ = some (.bool l.q) ∧ v.cell? ⟨cb, 7, none⟩ = some (.bool l.x) ∧ v.cell? ⟨cb, 8, none⟩ = some (.bool l.r2) ∧ v.cell? ⟨cb, 9, none⟩ = some (.bool l.q2) ∧ v.cell? ⟨cb, 10, none⟩ = some (.bool l.x2))
      (first | go_keep | exact XS.out _ X3 | exact XS.out _ X2)
      (first | (go_at_call 22; with_reducible refine (CP.out _ B1).mono ?_; rintro e w2 ⟨rfl, T2, F2⟩; have B2 := B1.ps T2 F2; have X2 := X1d.fr F2 ng) | (go_at_call 33; with_reducible refine (CR.out _ B2.tr).mono ?_; rintro e w3 ⟨rfl, T3, F3⟩; have B3 := B2.rs T3 F3; have X3 := X2.fr F3 nr))
    have HB3 : Hid (BT w0 w3 b g br gr s k T' T' ∧ Fr (fun x => x = g ∨ x = gr) w w3) := ⟨B3, (((HKW.out.drew).fr _).trans (F2.mono fun _ _ h => .inl h)).trans (F3.mono fun _ _ h => .inr h)⟩
    clear XS B1 X1d CP CR T2 F2 B2 X2 T3 F3 B3 X3 o0 o1 o2 o3 o4 o5 o6 o7 o8 o9 o10
    go_wp2
    go_ret2
    exact ⟨rfl, HB3.out⟩

end Go.Proofs.Ytheahkfgmbmdcaa
