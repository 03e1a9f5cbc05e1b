/- nested: Second. -/
import Derived.Test.YtclcickhgoiooaaND
import Derived.Deep.RegionWith
namespace Go.Proofs.Ytclcickhgoiooaa
open Go.RowKit
set_option maxRecDepth 10000

/-- Where an access comes to. -/
structure OV where
  f : Int
  i : Nat
  a : Bool
  b : Bool
  c : Bool
  r : Bool
  q : Bool
  x : Bool
/-- A fault. -/
structure FV where
  s : Int
  k : Int
  l : Int
  a : Nat
  t : Bool
def encO (o : OV) : List Value := [.int .i64 o.f, .int .u64 (o.i : Int), .bool o.a, .bool o.b, .bool o.c, .bool o.r, .bool o.q, .bool o.x]
def encF (f : FV) : List Value := [.int .i64 f.s, .int .i64 f.k, .int .i64 f.l, .int .u64 (f.a : Int), .bool f.t]
def ouV (o : OV) : Value := .agg #[.int .i64 o.f, .int .u64 (o.i : Int), .bool o.a, .bool o.b, .bool o.c, .bool o.r, .bool o.q, .bool o.x]
def faV (f : FV) : Value := .agg #[.int .i64 f.s, .int .i64 f.k, .int .i64 f.l, .int .u64 (f.a : Int), .bool f.t]
def zO : OV := ⟨0, 0, false, false, false, false, false, false⟩
def zF : FV := ⟨0, 0, 0, 0, false⟩
theorem putR_eight (w : World) (b : Nat) (c0 c1 c2 c3 c4 c5 c6 c7 : Value) : putR w b 0 [c0, c1, c2, c3, c4, c5, c6, c7] = ((((((((w.setCell ⟨b, 0, none⟩ c0).setCell ⟨b, 1, none⟩ c1).setCell ⟨b, 2, none⟩ c2).setCell ⟨b, 3, none⟩ c3).setCell ⟨b, 4, none⟩ c4).setCell ⟨b, 5, none⟩ c5).setCell ⟨b, 6, none⟩ c6).setCell ⟨b, 7, none⟩ c7) := rfl
theorem putR_five (w : World) (b : Nat) (c0 c1 c2 c3 c4 : Value) : putR w b 0 [c0, c1, c2, c3, c4] = (((((w.setCell ⟨b, 0, none⟩ c0).setCell ⟨b, 1, none⟩ c1).setCell ⟨b, 2, none⟩ c2).setCell ⟨b, 3, none⟩ c3).setCell ⟨b, 4, none⟩ c4) := rfl
theorem load_out {w : World} {b : Nat} (s : OV) (h : RX w b 33 (encO s)) : (loadVar 33 ⟨b, 0, none⟩).run Try.prog w = .ok (ouV s) w :=
  run_loadVar_row w b _ 33 _ _ _ h Try.underlying33 rfl (by kernel_rfl)
theorem load_fault {w : World} {b : Nat} (s : FV) (h : RX w b 35 (encF s)) : (loadVar 35 ⟨b, 0, none⟩).run Try.prog w = .ok (faV s) w :=
  run_loadVar_row w b _ 35 _ _ _ h Try.underlying35 rfl (by kernel_rfl)
theorem res_of {w : World} {a b : Nat} {fn : Func} {c d e : Tmp} {tmps : Array Value} {s : OV} {f : FV} (hf : fn.results = #[.cell c 33, .cell d 35, .tmp e]) (hc : tmps.getD c undef = .pointer (some ⟨a, 0, none⟩)) (hd : tmps.getD d undef = .pointer (some ⟨b, 0, none⟩)) (A : RX w a 33 (encO s)) (B : RX w b 35 (encF f)) :
    (results fn tmps).run Try.prog w = .ok (.tuple #[ouV s, faV f, tmps.getD e undef]) w := by
  have hc' : tmps[c]?.getD undef = .pointer (some ⟨a, 0, none⟩) := by simpa using hc
  have hd' : tmps[d]?.getD undef = .pointer (some ⟨b, 0, none⟩) := by simpa using hd
  simp [results, hf, hc', hd', asAddr, load_out s A, load_fault f B]

/-- The kind of Second's fault. -/
def seK (rd : Nat → Nat × Bool) (two u : Nat) (acc : Int) : Int := if slK rd two u = 0 ∧ alP (slL rd two u).d.r (slL rd two u).d.q (slL rd two u).d.x acc = false then 2 else slK rd two u
def seO (rd : Nat → Nat × Bool) (two u : Nat) (acc : Int) : OV := if seK rd two u acc = 0 then ⟨((outN u (slL rd two u).l (slL rd two u).d.k (slL rd two u).d.a / 4096 : Nat) : Int), u / 4096, true, true, true, (slL rd two u).d.r, (slL rd two u).d.q, (slL rd two u).d.x⟩ else zO
def seF (rd : Nat → Nat × Bool) (two u : Nat) (acc : Int) : FV := if seK rd two u acc = 0 then zF else ⟨2, seK rd two u acc, -1, u, acc == 2⟩
theorem out_lt (u : Nat) (l k : Int) (a : Nat) : outN u l k a < 18446744073709551616 := by
  unfold outN
  split
  · exact Nat.mod_lt _ (by decide)
  · decide

theorem secondLeaf_nil (two u : Int) (w : World) :
    Calls Try.prog 60 #[.pointer none, .int .u64 two, .int .u64 u] w fun e w' => e = .returned (.tuple #[stV zS, .int .i64 4, .int .i64 0]) ∧ Kp w w' := by
  obtain ⟨w2, hw2⟩ : ∃ w2, w2 = (w.alloc (.cells #[.pointer none] 24)).alloc (.cells #[.int .i64 0, .int .u64 0, .int .u64 0, .int .i64 0, .int .u64 0, .bool false, .bool false, .bool false, .int .i64 0] 80) := ⟨_, rfl⟩
  have k2 : Kp w w2 := by rw [hw2]; exact ((Kp.refl w).alloc _).alloc _
  have D2 : RX w2 (w.heap.size + 1) 80 (encS zS) := by
    rw [hw2]
    have := RX.made (w.alloc (.cells #[.pointer none] 24)) 80 (encS zS)
    rw [show (w.alloc (.cells #[.pointer none] 24)).heap.size = w.heap.size + 1 by simp] at this
    exact this
  have HE : Hid (Kp w w2 ∧ RX w2 (w.heap.size + 1) 80 (encS zS)) := ⟨k2, D2⟩
  clear k2 D2
  go_enter Try.func60, Try.ntmps60
  go_wp2_with fail
  rw [← hw2]
  exact bodyPost_ret (res_s3 (s := zS) rfl rfl HE.out.2) rfl ⟨rfl, HE.out.1⟩

/-- The two blocks of the results. -/
def made2 (w : World) : World := (w.alloc (.cells #[.int .i64 0, .int .u64 0, .bool false, .bool false, .bool false, .bool false, .bool false, .bool false] 33)).alloc (.cells #[.int .i64 0, .int .i64 0, .int .i64 0, .int .u64 0, .bool false] 35)
theorem made2_kp (w : World) : Kp w (made2 w) := ((Kp.refl w).alloc _).alloc _
theorem made2_size (w : World) : (made2 w).heap.size = w.heap.size + 2 := by simp [made2]
theorem made2_o (w : World) : RX (made2 w) w.heap.size 33 (encO zO) := (RX.made w 33 (encO zO)).kp ((Kp.refl _).alloc _)
theorem made2_f (w : World) : RX (made2 w) (w.heap.size + 1) 35 (encF zF) := by
  have := RX.made (w.alloc (.cells #[.int .i64 0, .int .u64 0, .bool false, .bool false, .bool false, .bool false, .bool false, .bool false] 33)) 35 (encF zF)
  rw [show (w.alloc (.cells #[.int .i64 0, .int .u64 0, .bool false, .bool false, .bool false, .bool false, .bool false, .bool false] 33)).heap.size = w.heap.size + 1 by simp] at this
  exact this
/-- What is stored there. -/
def put2 (w : World) (a b : Nat) (o : OV) (f : FV) : World := putR (putR w a 0 (encO o)) b 0 (encF f)
theorem put2_fr (w : World) (a b : Nat) (o : OV) (f : FV) : Fr (fun i => i = a ∨ i = b) w (put2 w a b o f) := ((putR_fr w a 0 (encO o)).mono (fun _ _ e => .inl e)).trans ((putR_fr _ b 0 (encF f)).mono (fun _ _ e => .inr e))
theorem put2_o {w : World} {a b : Nat} {o o' : OV} {f : FV} (h : RX w a 33 (encO o')) (hab : a ≠ b) : RX (put2 w a b o f) a 33 (encO o) := (h.put (U := encO o) rfl).fr (putR_fr _ b 0 (encF f)) hab
theorem put2_f {w : World} {a b : Nat} {o : OV} {f f' : FV} (h : RX w b 35 (encF f')) (hab : b ≠ a) : RX (put2 w a b o f) b 35 (encF f) := (h.fr (putR_fr w a 0 (encO o)) hab).put (U := encF f) rfl


section
variable (v : Value) (two u : Nat) (acc : Int) (w : World) (S : Nat → Prop) (P : World → Prop) (l pp uu k : Int) (a : Nat) (r q x : Bool) (f K : Int) (n : Nat)
set_option maxHeartbeats 4000000 in
theorem second_low (hu : u < 18446744073709551616) (hS : ∀ i, S i → i < w.heap.size) (hP : ∀ v v', P v → Fr (fun i => w.heap.size ≤ i) v v' → P v')
    (kl : ∀ w2, Kp w w2 → Calls Try.prog 60 #[v, .int .u64 (two : Int), .int .u64 (u : Int)] w2 fun e w' => e = .returned (.tuple #[.agg #[.int .i64 l, .int .u64 pp, .int .u64 uu, .int .i64 k, .int .u64 (a : Int), .bool r, .bool q, .bool x, .int .i64 f], .int .i64 K, .int .i64 (n : Int)]) ∧ P w' ∧ Fr S w2 w')
    (o : OV) (fv : FV) (hr : (K ≠ 0 ∧ o = zO ∧ fv = ⟨2, K, -1, u, acc == 2⟩) ∨ (K = 0 ∧ alP r q x acc = false ∧ o = zO ∧ fv = ⟨2, 2, -1, u, acc == 2⟩) ∨ (K = 0 ∧ alP r q x acc = true ∧ o = ⟨((outN u l k a / 4096 : Nat) : Int), u / 4096, true, true, true, r, q, x⟩ ∧ fv = zF)) :
    Calls Try.prog 28 #[v, .int .u64 (two : Int), .int .u64 (u : Int), .int .i64 acc] w fun e w' => e = .returned (.tuple #[ouV o, faV fv, .int .i64 (n : Int)]) ∧ P w' ∧ Fr S w w' := by
  obtain ⟨w2, hw2⟩ : ∃ w2, w2 = made2 w := ⟨_, rfl⟩
  have k2 : Kp w w2 := by rw [hw2]; exact made2_kp w
  have z2 : w2.heap.size = w.heap.size + 2 := by rw [hw2]; exact made2_size w
  have A2 : RX w2 w.heap.size 33 (encO zO) := by rw [hw2]; exact made2_o w
  have B2 : RX w2 (w.heap.size + 1) 35 (encF zF) := by rw [hw2]; exact made2_f w
  have kl2 := kl w2 k2
  have HH : Hid (∀ w3, Fr S w2 w3 → w.heap.size + 2 ≤ w3.heap.size ∧ (∀ o, RX (w3.alloc o) w.heap.size 33 (encO zO)) ∧ (∀ o, RX (w3.alloc o) (w.heap.size + 1) 35 (encF zF))) := fun w3 F => by
    have := F.size
    exact ⟨by omega, fun o => (A2.fr F (fun c => by have := hS _ c; omega)).kp ((Kp.refl w3).alloc o), fun o => (B2.fr F (fun c => by have := hS _ c; omega)).kp ((Kp.refl w3).alloc o)⟩
  have HF : Hid (∀ w3 w4 o f, P w3 → Fr S w2 w3 → Kp w3 w4 → P (put2 w4 w.heap.size (w.heap.size + 1) o f) ∧ Fr S w (put2 w4 w.heap.size (w.heap.size + 1) o f)) := fun w3 w4 o f P3 F K => by
    have := put2_fr w4 w.heap.size (w.heap.size + 1) o f
    refine ⟨hP _ _ P3 ((K.fr _).trans (this.mono (fun i _ e => by omega))), (((k2.fr S).trans F).trans (K.fr S)).trans2 this (fun i hi e => by omega)⟩
  have HG : Hid (∀ w3 w4, P w3 → Fr S w2 w3 → Kp w3 w4 → P w4 ∧ Fr S w w4) := fun w3 w4 P3 F K => ⟨hP _ _ P3 (K.fr _), ((k2.fr S).trans F).trans (K.fr S)⟩
  unfold made2 at hw2
  obtain ⟨st, hst⟩ : ∃ st, (acc == 2) = st := ⟨_, rfl⟩
  rw [hst] at hr
  clear k2 z2 A2 B2 kl hP hS
  rcases hr with ⟨c1, rfl, rfl⟩ | ⟨rfl, c2, rfl, rfl⟩ | ⟨rfl, c2, rfl, rfl⟩
  · have y1 : (K == 0) = false := by rw [beq_eq_false_iff_ne]; exact c1
    have y2 : (K != 0) = true := by rw [bne_iff_ne]; exact c1
    go_enter Try.func28, Try.ntmps28
    go_wp2_with fail
    rw [← hw2]
    with_reducible refine kl2.mono ?_
    rintro e w3 ⟨rfl, P3, F3⟩
    obtain ⟨z3, A3, B3⟩ := HH.out w3 F3
    have a0 := fun o => (A3 o).cell (j := 0) rfl; have a1 := fun o => (A3 o).cell (j := 1) rfl; have a2 := fun o => (A3 o).cell (j := 2) rfl; have a3 := fun o => (A3 o).cell (j := 3) rfl; have a4 := fun o => (A3 o).cell (j := 4) rfl; have a5 := fun o => (A3 o).cell (j := 5) rfl; have a6 := fun o => (A3 o).cell (j := 6) rfl; have a7 := fun o => (A3 o).cell (j := 7) rfl; have fa := fun o j => (A3 o).fz j
    have b0 := fun o => (B3 o).cell (j := 0) rfl; have b1 := fun o => (B3 o).cell (j := 1) rfl; have b2 := fun o => (B3 o).cell (j := 2) rfl; have b3 := fun o => (B3 o).cell (j := 3) rfl; have b4 := fun o => (B3 o).cell (j := 4) rfl; have fb := fun o j => (B3 o).fz j
    have HA := A3 (.cells #[.int .i64 l, .int .u64 pp, .int .u64 uu, .int .i64 k, .int .u64 (a : Int), .bool r, .bool q, .bool x, .int .i64 f] 80)
    have HB := B3 (.cells #[.int .i64 l, .int .u64 pp, .int .u64 uu, .int .i64 k, .int .u64 (a : Int), .bool r, .bool q, .bool x, .int .i64 f] 80)
    have HE := HF.out w3 (w3.alloc (.cells #[.int .i64 l, .int .u64 pp, .int .u64 uu, .int .i64 k, .int .u64 (a : Int), .bool r, .bool q, .bool x, .int .i64 f] 80)) zO ⟨2, K, -1, u, st⟩ P3 F3 ((Kp.refl w3).alloc _)
    have HE : Hid _ := And.intro HE (And.intro HA HB)
    clear A3 B3 HF HG HH kl2 P3 F3 HA HB hw2
    go_wp2
    rw [← putR_five, ← putR_eight]
    have R1 := put2_o (o := zO) (f := ⟨2, K, -1, u, st⟩) HE.out.2.1 (show w.heap.size ≠ w.heap.size + 1 by omega)
    have R2 := put2_f (o := zO) (f := ⟨2, K, -1, u, st⟩) HE.out.2.2 (show w.heap.size + 1 ≠ w.heap.size by omega)
    have R3 := HE.out.1
    change bodyPost _ _ _ _ _ (put2 _ _ _ zO ⟨2, K, -1, u, st⟩)
    exact bodyPost_ret (res_of rfl rfl rfl R1 R2) rfl ⟨rfl, R3⟩
  · have kr := fun w => refuses_any r q x acc w
    rw [c2] at kr
    clear c2
    go_enter Try.func28, Try.ntmps28
    go_wp2_with fail
    rw [← hw2]
    with_reducible refine kl2.mono ?_
    rintro e w3 ⟨rfl, P3, F3⟩
    obtain ⟨z3, A3, B3⟩ := HH.out w3 F3
    clear kl2 HG HH
    go_wp2_with fail
    with_reducible refine (kr _).mono ?_
    rintro e w5 ⟨rfl, K5⟩
    have A5 := (A3 _).kp K5
    have B5 := (B3 _).kp K5
    have HE := HF.out w3 w5 zO ⟨2, 2, -1, u, st⟩ P3 F3 (((Kp.refl w3).alloc _).trans K5)
    have HE : Hid _ := And.intro HE (And.intro A5 B5)
    have a0 := A5.cell (j := 0) rfl; have a1 := A5.cell (j := 1) rfl; have a2 := A5.cell (j := 2) rfl; have a3 := A5.cell (j := 3) rfl; have a4 := A5.cell (j := 4) rfl; have a5 := A5.cell (j := 5) rfl; have a6 := A5.cell (j := 6) rfl; have a7 := A5.cell (j := 7) rfl; have fa := A5.fz
    have b0 := B5.cell (j := 0) rfl; have b1 := B5.cell (j := 1) rfl; have b2 := B5.cell (j := 2) rfl; have b3 := B5.cell (j := 3) rfl; have b4 := B5.cell (j := 4) rfl; have fb := B5.fz
    clear A3 B3 HF P3 F3 hw2 kr K5 A5 B5
    go_wp2
    rw [← putR_five, ← putR_eight]
    have R1 := put2_o (o := zO) (f := ⟨2, 2, -1, u, st⟩) HE.out.2.1 (show w.heap.size ≠ w.heap.size + 1 by omega)
    have R2 := put2_f (o := zO) (f := ⟨2, 2, -1, u, st⟩) HE.out.2.2 (show w.heap.size + 1 ≠ w.heap.size by omega)
    have R3 := HE.out.1
    change bodyPost _ _ _ _ _ (put2 _ _ _ zO ⟨2, 2, -1, u, st⟩)
    exact bodyPost_ret (res_of rfl rfl rfl R1 R2) rfl ⟨rfl, R3⟩
  · have kr := fun w => refuses_any r q x acc w
    rw [c2] at kr
    have ko := fun w => out_any u a l pp uu k r q x f w
    have hz := out_lt u l k a
    generalize outN u l k a = Z at *
    have y1 : IntKind.u64.wrap ((Z : Int) / 4096) = ((Z / 4096 : Nat) : Int) := by simp [IntKind.wrap, IntKind.bits, IntKind.signed]; omega
    have y2 : IntKind.i64.wrap ((Z / 4096 : Nat) : Int) = ((Z / 4096 : Nat) : Int) := by rw [IntKind.wrap_i64]; omega
    have y3 : IntKind.u64.wrap ((u : Int) / 4096) = ((u / 4096 : Nat) : Int) := by simp [IntKind.wrap, IntKind.bits, IntKind.signed]; omega
    generalize Z / 4096 = Zq at *
    generalize u / 4096 = uq at *
    clear c2 hz
    go_enter Try.func28, Try.ntmps28
    go_wp2_with fail
    rw [← hw2]
    with_reducible refine kl2.mono ?_
    rintro e w3 ⟨rfl, P3, F3⟩
    obtain ⟨z3, A3, B3⟩ := HH.out w3 F3
    clear kl2 HG HH
    go_wp2_with fail
    with_reducible refine (kr _).mono ?_
    rintro e w5 ⟨rfl, K5⟩
    have HB : Aside (∀ v, Kp w5 v → v.cell? ⟨w.heap.size, 0, none⟩ = some (.int .i64 0) ∧ v.cell? ⟨w.heap.size, 1, none⟩ = some (.int .u64 0) ∧ v.cell? ⟨w.heap.size, 2, none⟩ = some (.bool false) ∧ v.cell? ⟨w.heap.size, 3, none⟩ = some (.bool false) ∧ v.cell? ⟨w.heap.size, 4, none⟩ = some (.bool false) ∧ v.cell? ⟨w.heap.size, 5, none⟩ = some (.bool false) ∧ v.cell? ⟨w.heap.size, 6, none⟩ = some (.bool false) ∧ v.cell? ⟨w.heap.size, 7, none⟩ = some (.bool false) ∧ v.cell? ⟨w.heap.size + 1, 0, none⟩ = some (.int .i64 0) ∧ v.cell? ⟨w.heap.size + 1, 1, none⟩ = some (.int .i64 0) ∧ v.cell? ⟨w.heap.size + 1, 2, none⟩ = some (.int .i64 0) ∧ v.cell? ⟨w.heap.size + 1, 3, none⟩ = some (.int .u64 0) ∧ v.cell? ⟨w.heap.size + 1, 4, none⟩ = some (.bool false) ∧ v.cell? ⟨w3.heap.size, 0, none⟩ = some (.int .i64 l) ∧ v.cell? ⟨w3.heap.size, 1, none⟩ = some (.int .u64 pp) ∧ v.cell? ⟨w3.heap.size, 2, none⟩ = some (.int .u64 uu) ∧ v.cell? ⟨w3.heap.size, 3, none⟩ = some (.int .i64 k) ∧ v.cell? ⟨w3.heap.size, 4, none⟩ = some (.int .u64 (a : Int)) ∧ v.cell? ⟨w3.heap.size, 5, none⟩ = some (.bool r) ∧ v.cell? ⟨w3.heap.size, 6, none⟩ = some (.bool q) ∧ v.cell? ⟨w3.heap.size, 7, none⟩ = some (.bool x) ∧ v.cell? ⟨w3.heap.size, 8, none⟩ = some (.int .i64 f) ∧ (∀ j, v.frozen? ⟨w.heap.size, j, none⟩ = false) ∧ (∀ j, v.frozen? ⟨w.heap.size + 1, j, none⟩ = false) ∧ Hid (RX v w.heap.size 33 (encO zO) ∧ RX v (w.heap.size + 1) 35 (encF zF) ∧ Kp w3 v)) := fun v kv => by
      have A5 := ((A3 _).kp K5).kp kv
      have B5 := ((B3 _).kp K5).kp kv
      have S5 := ((RX.made w3 80 [.int .i64 l, .int .u64 pp, .int .u64 uu, .int .i64 k, .int .u64 (a : Int), .bool r, .bool q, .bool x, .int .i64 f]).kp K5).kp kv
      have K5 := (((Kp.refl w3).alloc _).trans K5).trans kv
      exact ⟨A5.cell (j := 0) rfl, A5.cell (j := 1) rfl, A5.cell (j := 2) rfl, A5.cell (j := 3) rfl, A5.cell (j := 4) rfl, A5.cell (j := 5) rfl, A5.cell (j := 6) rfl, A5.cell (j := 7) rfl, B5.cell (j := 0) rfl, B5.cell (j := 1) rfl, B5.cell (j := 2) rfl, B5.cell (j := 3) rfl, B5.cell (j := 4) rfl, S5.cell (j := 0) rfl, S5.cell (j := 1) rfl, S5.cell (j := 2) rfl, S5.cell (j := 3) rfl, S5.cell (j := 4) rfl, S5.cell (j := 5) rfl, S5.cell (j := 6) rfl, S5.cell (j := 7) rfl, S5.cell (j := 8) rfl, A5.fz, B5.fz, ⟨A5, B5, K5⟩⟩
    obtain ⟨a0, a1, a2, a3, a4, a5, a6, a7, b0, b1, b2, b3, b4, s0, s1, s2, s3, s4, s5, s6, s7, s8, fa, fb, H6⟩ := HB.out w5 (Kp.refl w5)
    have HE := fun w4 => HF.out w3 w4 ⟨(Zq : Int), uq, true, true, true, r, q, x⟩ zF P3 F3
    have HE : Aside _ := HE
    clear A3 B3 HF P3 F3 hw2 kr K5 H6 hu
    go_wp2_with fail
    go_region_with (go_at_call 31; with_reducible refine (ko _).mono ?_; rintro _ w6 ⟨rfl, K6⟩; obtain ⟨a0, a1, a2, a3, a4, a5, a6, a7, b0, b1, b2, b3, b4, s0, s1, s2, s3, s4, s5, s6, s7, s8, fa, fb, H6⟩ := HB.out w6 (Kp.trans (by first | exact Kp.refl _ | exact (Kp.refl _).drew | exact (Kp.refl _).drewN _) K6))
    all_goals
      go_wp2
      rw [← putR_five, ← putR_eight]
      have R1 := put2_o (o := ⟨(Zq : Int), uq, true, true, true, r, q, x⟩) (f := zF) H6.out.1 (show w.heap.size ≠ w.heap.size + 1 by omega)
      have R2 := put2_f (o := ⟨(Zq : Int), uq, true, true, true, r, q, x⟩) (f := zF) H6.out.2.1 (show w.heap.size + 1 ≠ w.heap.size by omega)
      have R3 := HE.out w6 H6.out.2.2
      change bodyPost _ _ _ _ _ (put2 _ _ _ ⟨(Zq : Int), uq, true, true, true, r, q, x⟩ zF)
      exact bodyPost_ret (res_of rfl rfl rfl R1 R2) rfl ⟨rfl, R3⟩
end

end Go.Proofs.Ytclcickhgoiooaa
