/- PhysPlays: the walk. -/
import Derived.Test.YtndlkkacnpjlmaaP22
import Derived.Deep.RegionHeld3
import Derived.Deep.CutRange
import Derived.Deep.DeepCutAuto
namespace Go.Proofs.Ytndlkkacnpjlmaa
open Go.RowKit Go.Maps

/-- The step's own copy. -/
def oRow (o : OpV) : Obj := .cells #[.int .i64 o.kind, .int .i64 o.size, .int .i64 o.frame, .int .u64 (o.addr : Nat), .int .u64 (o.v : Nat), .slice o.naA o.mA o.cA, .slice o.naB o.mB o.cB, .bool o.other] 34 (0, 0)
/-- What holds of a round: the two memories are alike; the step lies in block B. -/
structure Round (w wr : World) (p q N ops : Nat) (F : Nat → Nat → Nat) (o : OpV) (B : Nat) : Prop where
  two : Two (fun k => w.heap.size ≤ k ∧ k ≠ B) wr p q N ops F ops F
  kp : Kp w wr
  ok : o.Ok w
  row : wr.heap[B]? = some (oRow o)
  up : w.heap.size ≤ B
section
variable {w wr : World} {p q N ops : Nat} {F : Nat → Nat → Nat} {o : OpV} {B : Nat}
theorem Round.lt (h : Round w wr p q N ops F o B) : B < wr.heap.size := (Array.getElem?_eq_some_iff.1 h.row).1
theorem Round.e0 (h : Round w wr p q N ops F o B) : wr.cell? ⟨B, 0, none⟩ = some (.int .i64 o.kind) := by rw [cell_of_row wr B 0 _ _ _ h.row]; rfl
theorem Round.e1 (h : Round w wr p q N ops F o B) : wr.cell? ⟨B, 1, none⟩ = some (.int .i64 o.size) := by rw [cell_of_row wr B 1 _ _ _ h.row]; rfl
theorem Round.e2 (h : Round w wr p q N ops F o B) : wr.cell? ⟨B, 2, none⟩ = some (.int .i64 o.frame) := by rw [cell_of_row wr B 2 _ _ _ h.row]; rfl
theorem Round.e3 (h : Round w wr p q N ops F o B) : wr.cell? ⟨B, 3, none⟩ = some (.int .u64 (o.addr : Nat)) := by rw [cell_of_row wr B 3 _ _ _ h.row]; rfl
theorem Round.e4 (h : Round w wr p q N ops F o B) : wr.cell? ⟨B, 4, none⟩ = some (.int .u64 (o.v : Nat)) := by rw [cell_of_row wr B 4 _ _ _ h.row]; rfl
theorem Round.e5 (h : Round w wr p q N ops F o B) : wr.cell? ⟨B, 5, none⟩ = some (.slice o.naA o.mA o.cA) := by rw [cell_of_row wr B 5 _ _ _ h.row]; rfl
theorem Round.e6 (h : Round w wr p q N ops F o B) : wr.cell? ⟨B, 6, none⟩ = some (.slice o.naB o.mB o.cB) := by rw [cell_of_row wr B 6 _ _ _ h.row]; rfl
theorem Round.e7 (h : Round w wr p q N ops F o B) : wr.cell? ⟨B, 7, none⟩ = some (.bool o.other) := by rw [cell_of_row wr B 7 _ _ _ h.row]; rfl
theorem Round.free (h : Round w wr p q N ops F o B) : Free (fun k => w.heap.size ≤ k ∧ k ≠ B) wr := fun k hk => ⟨Nat.le_trans h.kp.size hk, by have := h.lt; omega⟩
end
theorem Round.kp' {w wr wr' : World} {p q N ops : Nat} {F : Nat → Nat → Nat} {o : OpV} {B : Nat} (h : Round w wr p q N ops F o B) (k : Kp wr wr') : Round w wr' p q N ops F o B :=
  ⟨h.two.kp k, h.kp.trans k, h.ok, (k.block B h.lt).trans h.row, h.up⟩
/-- What is asked of both behind each step. -/
theorem Round.tail {w wr : World} {p q N ops : Nat} {F : Nat → Nat → Nat} {o : OpV} {B : Nat} (h : Round w wr p q N ops F o B) (x y : Int) :
    ∃ c s : Bool, (∀ P : KeptBy wr, Calls Try.prog 20 #[.pointer (some ⟨p, 0, none⟩), .int .i64 o.frame] P.v fun e w' => e = .returned (.bool c) ∧ Kp P.v w') ∧
      (∀ P : KeptBy wr, Calls Try.prog 21 #[.pointer (some ⟨q, 0, none⟩), .int .i64 o.frame] P.v fun e w' => e = .returned (.bool c) ∧ Kp P.v w') ∧
      (∀ P : KeptBy wr, Calls Try.prog 22 #[.pointer (some ⟨p, 0, none⟩), .int .i64 x, .int .i64 y] P.v fun e w' => e = .returned (.bool s) ∧ Kp P.v w') ∧
      (∀ P : KeptBy wr, Calls Try.prog 23 #[.pointer (some ⟨q, 0, none⟩), .int .i64 x, .int .i64 y] P.v fun e w' => e = .returned (.bool s) ∧ Kp P.v w') ∧
      (∀ P : KeptBy wr, Calls Try.prog 24 #[.pointer (some ⟨p, 0, none⟩)] P.v fun e w' => e = .returned (.int .i64 (ops : Nat)) ∧ Kp P.v w') ∧
      (∀ P : KeptBy wr, Calls Try.prog 25 #[.pointer (some ⟨p, 0, none⟩)] P.v fun e w' => e = .returned (.int .i64 (N : Nat)) ∧ Kp P.v w') ∧
      (∀ P : KeptBy wr, P.v.cell? ⟨B, 2, none⟩ = some (.int .i64 o.frame)) ∧ (∀ P : KeptBy wr, P.v.cell? ⟨q, 2, none⟩ = some (.int .i64 (ops : Nat))) ∧ ∀ P : KeptBy wr, P.v.cell? ⟨q, 0, none⟩ = some (.int .i64 (N : Nat)) := by
  have hb := h.two.byte
  obtain ⟨S, T, h1, h2, _⟩ := h.two
  have hq : ∀ P : KeptBy wr, ∃ na cap L, RMat P.v T q N ops na cap L := fun P => by obtain ⟨na, cap, L, g, _⟩ := h2.kp P.k; exact ⟨na, cap, L, g⟩
  refine ⟨clearF N F o.frame, sameF N F x y, fun P => (pclear_any (h1.kp P.k) o.frame h.ok.f).mono fun e w' ⟨a, b⟩ => ⟨a, by rw [b]; exact Kp.refl _⟩, fun P => (rclear_any (h2.kp P.k) o.frame h.ok.f).mono fun e w' ⟨a, b⟩ => ⟨a, by rw [b]; exact Kp.refl _⟩,
    fun P => (psame_any (h1.kp P.k) x y).mono fun e w' ⟨a, b⟩ => ⟨a, b.kp⟩, fun P => rsame_any (h2.kp P.k) hb x y, fun P => (pops_any (h1.kp P.k)).mono fun e w' ⟨a, b⟩ => ⟨a, by rw [b]; exact Kp.refl _⟩, fun P => (pframes_any (h1.kp P.k)).mono fun e w' ⟨a, b⟩ => ⟨a, by rw [b]; exact Kp.refl _⟩,
    fun P => (h.kp' P.k).e2, fun P => by obtain ⟨na, cap, L, g⟩ := hq P; exact g.c2, fun P => by obtain ⟨na, cap, L, g⟩ := hq P; exact g.c0⟩
theorem Fr.cell {U : Nat → Prop} {w w' : World} (h : Fr U w w') {a : Addr} (hl : a.block < w.heap.size) (hu : ¬ U a.block) : w'.cell? a = w.cell? a := World.cell?_of_block (h.block a.block hl hu)
/-- Behind a change of the memories alone. -/
theorem Round.next {w wr w' : World} {p q N ops ops' : Nat} {F F' : Nat → Nat → Nat} {o : OpV} {B : Nat} (h : Round w wr p q N ops F o B) (t : Two (fun k => w.heap.size ≤ k ∧ k ≠ B) w' p q N ops' F' ops' F') (k : Fr (fun k => w.heap.size ≤ k ∧ k ≠ B) wr w') : Round w w' p q N ops' F' o B := by
  exact ⟨t, k.kp h.kp (fun i hi => hi.1), h.ok, (k.block B h.lt (fun x => x.2 rfl)).trans h.row, h.up⟩

/-- A block that was made since is written. -/
theorem Round.poke {w wr w1 w' : World} {p q N ops : Nat} {F : Nat → Nat → Nat} {o : OpV} {B b : Nat} (h : Round w wr p q N ops F o B) (k : Kp wr w1) (hb : wr.heap.size ≤ b) (f : Fr (fun i => i = b) w1 w') : Round w w' p q N ops F o B := by
  obtain ⟨S, T, h1, h2, h3, h4, h5⟩ := h.two
  have hS : ∀ i, S i → ¬ i = b := fun i hi e => by have := h1.own i hi; omega
  have hT : ∀ i, T i → ¬ i = b := fun i hi e => by have := h2.own i hi; omega
  have hs := k.size
  refine ⟨⟨S, T, (h1.kp k).fr f hS, (h2.kp k).fr f hT, h3, h4, h5⟩, f.kp (h.kp.trans k) (fun i hi => by have := h.kp.size; omega), h.ok, ?_, h.up⟩
  have hl := h.lt
  exact (f.block B (by omega) (fun e => by omega)).trans ((k.block B hl).trans h.row)
/-- Bytes of one's own, or none, as a string. -/
theorem str_of {w : World} {na : Option Addr} {n cap B : Nat} {f : Nat → Nat} (hz : na = none ↔ n = 0) (hs : 0 < n → na = some ⟨B, 0, none⟩ ∧ BS w B 0 n f) : (convert 32 9 (.slice na n cap)).run Try.prog w = .ok (.string (strOf f n)) w := by
  by_cases c : 0 < n
  · obtain ⟨rfl, b⟩ := hs c
    exact string_any w B 0 n cap f b.cells
  · have e : n = 0 := by omega
    subst e
    rw [hz.2 rfl]
    exact string_none w cap

theorem Two.out {U X : Nat → Prop} {w w' : World} {p q N o1 o2 : Nat} {F1 F2 : Nat → Nat → Nat} (h : Two U w p q N o1 F1 o2 F2) (k : Fr X w w') (hX : ∀ i, U i → ¬ X i) : Two U w' p q N o1 F1 o2 F2 := by
  obtain ⟨S, T, h1, h2, h3, h4, h5⟩ := h
  exact ⟨S, T, h1.fr k (fun i hi => hX i (h4 i hi)), h2.fr k (fun i hi => hX i (h5 i hi)), h3, h4, h5⟩
/-- All but what came in, the step, the page and its copy. -/
def U2 (w : World) (B b g : Nat) : Nat → Prop := fun k => (w.heap.size ≤ k ∧ k ≠ B) ∧ k ≠ b ∧ k ≠ g
theorem Round.two2 {w W1 W : World} {p q N ops : Nat} {F : Nat → Nat → Nat} {o : OpV} {B : Nat} (h : Round w W1 p q N ops F o B) (k : Kp W1 W) {b g : Nat} (hb : W1.heap.size ≤ b) (hg : W1.heap.size ≤ g) (lb : b < W.heap.size) (lg : g < W.heap.size) : Two (U2 w B b g) W p q N ops F ops F ∧ Free (U2 w B b g) W := by
  refine ⟨(h.two.cut (fun i hi hu => ⟨hu, by omega, by omega⟩)).kp k, fun i hi => ⟨⟨?_, ?_⟩, by omega, by omega⟩⟩
  · have := h.kp.size; have := k.size; omega
  · have := h.lt; have := k.size; omega
/-- Where a copy's bytes lie, as a Set takes them. -/
theorem OP.src {W : World} {base g n cap v : Nat} {f : Nat → Nat} (h : OP W base g (n + 1) cap (upd f n v)) (hf : Bytes f) : BS W g 0 n f := (h.bs.less (Nat.le_succ n)).like (fun i hi => (upd_other f n v i (by omega)).symm) hf
theorem OP.end_ {W : World} {base g n cap v : Nat} {f : Nat → Nat} (h : OP W base g (n + 1) cap (upd f n v)) : W.cell? ⟨g, n, none⟩ = some (.int .u8 (v : Nat)) := by
  have := h.bs.cell n (by omega)
  rwa [Nat.zero_add, upd_same] at this

/-- The bytes that were handed in, behind the Set. -/
def InSt (w wq : World) (p q N ops : Nat) (F : Nat → Nat → Nat) (o : OpV) (B b g n : Nat) : Prop := Two (U2 w B b g) wq p q N ops F ops F ∧ Kp w wq ∧ wq.heap[B]? = some (oRow o) ∧ ∃ f, BS wq g 0 n f
theorem InSt.dot {w wq : World} {p q N ops : Nat} {F : Nat → Nat → Nat} {o : OpV} {B b g n : Nat} (h : InSt w wq p q N ops F o B b g n) (k : Nat) (hk : k < n) (h1 : w.heap.size ≤ g) (h2 : B ≠ g) :
    (∃ v : Nat, wq.cell? ⟨g, k, none⟩ = some (.int .u8 (v : Nat))) ∧ wq.frozen? ⟨g, k, none⟩ = false ∧ Hid (InSt w (wq.setCell ⟨g, k, none⟩ (.int .u8 238)) p q N ops F o B b g n) := by
  obtain ⟨T, kp, row, f, hf⟩ := h
  have c1 := hf.cell k hk
  have c2 := hf.frz k hk
  have c3 := hf.set k 238 hk (by decide)
  rw [Nat.zero_add] at c1 c2 c3
  exact ⟨⟨_, c1⟩, c2, ⟨T.out ((Fr.refl (fun z => z = g) wq).set ⟨g, k, none⟩ (.int .u8 238) rfl) (fun i hi e => hi.2.2 e), kp.set _ _ h1, (heap_setCell_other wq ⟨g, k, none⟩ B _ h2).trans row, _, c3⟩⟩
theorem InSt.round {w wq : World} {p q N ops : Nat} {F : Nat → Nat → Nat} {o : OpV} {B b g n : Nat} (h : InSt w wq p q N ops F o B b g n) (ok : o.Ok w) (up : w.heap.size ≤ B) : Round w wq p q N ops F o B := ⟨h.1.cut (fun _ _ h => h.1), h.2.1, ok, h.2.2.1, up⟩

set_option maxHeartbeats 16000000 in
set_option maxRecDepth 100000 in
theorem plays_main (N : Nat) (na : Option Addr) (m cap : Nat) (V : Nat → OpV) (x y : Int) (w : World) (h1 : 1 ≤ N) (h2 : N ≤ 1048576) (St : Steps w na m V) (hm : m ≤ 9223372036854775807):
    Calls Try.prog 3 #[.int .i64 (N : Int), .slice na m cap, .int .i64 x, .int .i64 y] w fun e w' => e = .returned (.bool true) ∧ Kp w w' := by
  have k1 := new_ok N w h1 h2
  have k2 := fun w => rnew_ok N w h1 h2
  have ST : Aside (Steps w na m V) := St
  have z1 : (m : Int) ≤ 9223372036854775807 := by omega
  clear St
  go_enter Try.func3, Try.ntmps3
  go_wp2_with fail
  with_reducible refine k1.mono ?_
  rintro e w1 ⟨p, S, rfl, P1, K1, H1⟩
  have HP1 : Hid (PM w1 S p N 0 (fun _ => z0) ∧ Kp w w1 ∧ ∀ k, S k → w.heap.size ≤ k) := ⟨P1, K1, H1⟩
  clear P1 K1 H1 k1
  go_wp2_with fail
  with_reducible refine (k2 _).mono ?_
  rintro e w2 ⟨q, T, rfl, Q2, K2, H2⟩
  have T0 : Hid (Two (fun k => w.heap.size ≤ k) w2 p q N 0 (fun _ => z0) 0 (fun _ => z0) ∧ Kp w w2) := by
    have hs := HP1.out.2.1.size
    refine ⟨⟨S, T, HP1.out.1.kp K2, Q2, fun i hi ht => ?_, HP1.out.2.2, fun i hi => Nat.le_trans hs (H2 i hi)⟩, HP1.out.2.1.trans K2⟩
    have a := HP1.out.1.own i hi
    have b := H2 i ht
    omega
  clear Q2 K2 H2 k2 HP1
  go_wp2_with fail
  go_loopg [13] 41 (fun g v13 wr => ∃ (i ops : Nat) (F : Nat → Nat → Nat), v13 = .int .i64 (i : Int) ∧ i ≤ 40 ∧ ops ≤ i ∧ 41 - i ≤ g ∧ Hid (Two (fun k => w.heap.size ≤ k) wr p q N ops F ops F ∧ Kp w wr))
  case atStart => exact ⟨0, 0, _, rfl, by omega, by omega, by omega, T0⟩
  case round =>
    clear T0
    obtain ⟨i, ops, F, rfl, i1, i2, ig, T1⟩ := hrel
    by_cases hlt : i < m ∧ i < 40
    · have y1 : (i : Int) < m := by omega
      have y2 : (i : Int) < 40 := by omega
      obtain ⟨⟨b0, o0, rfl, hb0, hc⟩, hok⟩ := ST.out i hlt.1
      have kw := T1.out.2
      have cc : ∀ j u, (V i).cells[j]? = some u → wr.cell? ⟨b0, o0 + i * 8 + j, none⟩ = some u := fun j u hu => by
        rw [kw.cell (p := ⟨b0, o0 + i * 8 + j, none⟩) hb0, Nat.add_assoc]; exact hc j u hu
      have d0 := cc 0 _ rfl
      have d1 := cc 1 _ rfl
      have d2 := cc 2 _ rfl
      have d3 := cc 3 _ rfl
      have d4 := cc 4 _ rfl
      have d5 := cc 5 _ rfl
      have d6 := cc 6 _ rfl
      have d7 := cc 7 _ rfl
      rw [Nat.add_zero] at d0
      have OK : Hid ((V i).Ok w) := hok
      clear cc hc hok kw
      generalize V i = o at *
      go_upto_region 10 with fail
      obtain ⟨Bo, hBo⟩ : ∃ Bo, Bo = wr.heap.size := ⟨_, rfl⟩
      obtain ⟨W1, hW1⟩ : ∃ W1, W1 = wr.alloc (.cells #[.int .i64 o.kind, .int .i64 o.size, .int .i64 o.frame, .int .u64 (o.addr : Nat), .int .u64 (o.v : Nat), .slice o.naA o.mA o.cA, .slice o.naB o.mB o.cB, .bool o.other] 34) := ⟨_, rfl⟩
      have hK : Kp wr W1 := by rw [hW1]; exact (Kp.refl wr).alloc _
      have R1 : Round w W1 p q N ops F o Bo := ⟨(T1.out.1.cut (fun k hk hu => ⟨hu, by omega⟩)).kp hK, T1.out.2.trans hK, OK.out, by rw [hW1, hBo]; exact heap_alloc_new wr _, by rw [hBo]; exact T1.out.2.size⟩
      have e0 := R1.e0
      have HR : Hid (Round w W1 p q N ops F o Bo) := R1
      rw [← hW1, ← hBo]
      clear hW1 hBo hK R1 T1 OK d0 d1 d2 d3 d4 d5 d6 d7
      obtain ⟨t, κ, g1, g2, g3, g4, g5⟩ := place_of o.kind 7 (by decide)
      rw [show ((7 : Nat) : Int) = 7 from rfl] at g1 g2 g3 g4
      iterate 19 (first | go_values | go_skip | go_guarded | go_step | go_upon | go_back)
      go_cut [15, 16] (fun s15 s16 wc => ∃ (r : Int) (ops' : Nat) (F' : Nat → Nat → Nat), s15 = .int .i64 r ∧ s16 = .int .i64 r ∧ ops' ≤ ops + 1 ∧ Hid (Round w wc p q N ops' F' o Bo))
      case first =>
        have FU : Hid (∀ w', W1.heap.size ≤ w'.heap.size → Free (fun k => w.heap.size ≤ k ∧ k ≠ Bo) w') := (show ∀ w' : World, W1.heap.size ≤ w'.heap.size → Free (fun k => w.heap.size ≤ k ∧ k ≠ Bo) w' from fun w' hs => HR.out.free.kp hs)
        have hops : ops < 4611686018427387904 := by omega
        have wv := HR.out.ok.v
        have wa := HR.out.ok.a
        have cs : κ = 0 ∨ κ = 1 ∨ κ = 2 ∨ κ = 3 ∨ κ = 4 ∨ κ = 5 ∨ κ = 6 := by omega
        have kd : Kp W1 W1.drew := (Kp.refl W1).drew
        rcases cs with rfl | rfl | rfl | rfl | rfl | rfl | rfl
        · as_aux_lemma =>
            have k1 := two_pwrite (HR.out.two.kp kd) (FU.out _ kd.size) o.addr o.size o.v wa wv hops
            have KS : Aside (∀ w', Fr (fun k => w.heap.size ≤ k ∧ k ≠ Bo) W1.drew w' → w'.cell? ⟨Bo, 3, none⟩ = some (.int .u64 (o.addr : Nat)) ∧ w'.cell? ⟨Bo, 1, none⟩ = some (.int .i64 o.size) ∧ w'.cell? ⟨Bo, 4, none⟩ = some (.int .u64 (o.v : Nat))) := fun w' k =>
              ⟨(k.cell (a := ⟨Bo, 3, none⟩) HR.out.lt (fun x => x.2 rfl)).trans HR.out.e3, (k.cell (a := ⟨Bo, 1, none⟩) HR.out.lt (fun x => x.2 rfl)).trans HR.out.e1, (k.cell (a := ⟨Bo, 4, none⟩) HR.out.lt (fun x => x.2 rfl)).trans HR.out.e4⟩
            have e1 := HR.out.e1
            have e3 := HR.out.e3
            have e4 := HR.out.e4
            go_wp2_with fail
            go_region_held3 (fun w' => w'.cell? ⟨Bo, 3, none⟩ = some (.int .u64 (o.addr : Nat)) ∧ w'.cell? ⟨Bo, 1, none⟩ = some (.int .i64 o.size) ∧ w'.cell? ⟨Bo, 4, none⟩ = some (.int .u64 (o.v : Nat)))
              (first | go_keep | exact KS.out _ (F1.trans F2) | exact KS.out _ F1)
              (first | (go_at_call 9; refine k1.mono ?_; rintro e w3 ⟨rfl, T3, F1⟩) | (go_at_call 10; refine (two_qwrite T3 (FU.out _ (Nat.le_trans kd.size F1.size)) o.addr o.size o.v wv hops).mono ?_; rintro e w4 ⟨rfl, T4, F2⟩))
            have HN : Hid (Round w w4 p q N (inc ops (chkP N o.addr o.size)) (wrF N F o.addr o.size o.v) o Bo) := HR.out.next T4 ((kd.fr _).trans (F1.trans F2))
            clear KS k1 T3 T4 F1 F2 e1 e3 e4
            go_wp2_with fail
            go_meet
            case rel => exact ⟨_, _, _, rfl, rfl, inc_le _ _, HN⟩
        · as_aux_lemma =>
            have k1 := two_pwrite (HR.out.two.kp kd) (FU.out _ kd.size) o.addr o.size o.v wa wv hops
            have KS : Aside (∀ w', Fr (fun k => w.heap.size ≤ k ∧ k ≠ Bo) W1.drew w' → w'.cell? ⟨Bo, 3, none⟩ = some (.int .u64 (o.addr : Nat)) ∧ w'.cell? ⟨Bo, 1, none⟩ = some (.int .i64 o.size) ∧ w'.cell? ⟨Bo, 4, none⟩ = some (.int .u64 (o.v : Nat))) := fun w' k =>
              ⟨(k.cell (a := ⟨Bo, 3, none⟩) HR.out.lt (fun x => x.2 rfl)).trans HR.out.e3, (k.cell (a := ⟨Bo, 1, none⟩) HR.out.lt (fun x => x.2 rfl)).trans HR.out.e1, (k.cell (a := ⟨Bo, 4, none⟩) HR.out.lt (fun x => x.2 rfl)).trans HR.out.e4⟩
            have e1 := HR.out.e1
            have e3 := HR.out.e3
            have e4 := HR.out.e4
            go_wp2_with fail
            go_region_held3 (fun w' => w'.cell? ⟨Bo, 3, none⟩ = some (.int .u64 (o.addr : Nat)) ∧ w'.cell? ⟨Bo, 1, none⟩ = some (.int .i64 o.size) ∧ w'.cell? ⟨Bo, 4, none⟩ = some (.int .u64 (o.v : Nat)))
              (first | go_keep | exact KS.out _ (F1.trans F2) | exact KS.out _ F1)
              (first | (go_at_call 9; refine k1.mono ?_; rintro e w3 ⟨rfl, T3, F1⟩) | (go_at_call 10; refine (two_qwrite T3 (FU.out _ (Nat.le_trans kd.size F1.size)) o.addr o.size o.v wv hops).mono ?_; rintro e w4 ⟨rfl, T4, F2⟩))
            have HN : Hid (Round w w4 p q N (inc ops (chkP N o.addr o.size)) (wrF N F o.addr o.size o.v) o Bo) := HR.out.next T4 ((kd.fr _).trans (F1.trans F2))
            clear KS k1 T3 T4 F1 F2 e1 e3 e4
            go_wp2_with fail
            go_meet
            case rel => exact ⟨_, _, _, rfl, rfl, inc_le _ _, HN⟩
        · as_aux_lemma =>
            have k1 := two_pread HR.out.two (FU.out _ (Nat.le_refl _)) o.addr o.size wa hops
            have e1 := HR.out.e1
            have e3 := HR.out.e3
            go_wp2_with fail
            with_reducible refine k1.mono ?_
            rintro e w3 ⟨rfl, T3, F1⟩
            clear k1 e1 e3
            have k2 := two_qread T3 (FU.out _ F1.size) o.addr o.size hops
            have e1 := (F1.cell (a := ⟨Bo, 1, none⟩) HR.out.lt (fun x => x.2 rfl)).trans HR.out.e1
            have e3 := (F1.cell (a := ⟨Bo, 3, none⟩) HR.out.lt (fun x => x.2 rfl)).trans HR.out.e3
            have H3 : Hid (Fr (fun k => w.heap.size ≤ k ∧ k ≠ Bo) W1 w3) := F1
            clear T3 F1
            go_wp2_with fail
            with_reducible refine k2.mono ?_
            rintro e w4 ⟨rfl, T4, F2⟩
            have HN : Hid (Round w w4 p q N (inc ops (chkP N o.addr o.size)) F o Bo) := HR.out.next T4 (H3.out.trans F2)
            clear k2 T4 F2 e1 e3 H3
            go_wp2_with fail
            go_meet
            case rel => exact ⟨_, _, _, rfl, rfl, inc_le _ _, HN⟩
        · as_aux_lemma =>
            have k1 := two_pread HR.out.two (FU.out _ (Nat.le_refl _)) o.addr o.size wa hops
            have e1 := HR.out.e1
            have e3 := HR.out.e3
            go_wp2_with fail
            with_reducible refine k1.mono ?_
            rintro e w3 ⟨rfl, T3, F1⟩
            clear k1 e1 e3
            have k2 := two_qread T3 (FU.out _ F1.size) o.addr o.size hops
            have e1 := (F1.cell (a := ⟨Bo, 1, none⟩) HR.out.lt (fun x => x.2 rfl)).trans HR.out.e1
            have e3 := (F1.cell (a := ⟨Bo, 3, none⟩) HR.out.lt (fun x => x.2 rfl)).trans HR.out.e3
            have H3 : Hid (Fr (fun k => w.heap.size ≤ k ∧ k ≠ Bo) W1 w3) := F1
            clear T3 F1
            go_wp2_with fail
            with_reducible refine k2.mono ?_
            rintro e w4 ⟨rfl, T4, F2⟩
            have HN : Hid (Round w w4 p q N (inc ops (chkP N o.addr o.size)) F o Bo) := HR.out.next T4 (H3.out.trans F2)
            clear k2 T4 F2 e1 e3 H3
            go_wp2_with fail
            go_meet
            case rel => exact ⟨_, _, _, rfl, rfl, inc_le _ _, HN⟩
        · have okr := HR.out.ok.kp HR.out.kp
          have k1 := page_any o.naA o.naB o.mA o.cA o.mB o.cB o.fA o.fB W1 okr.nA okr.nB
          have HO : Hid (o.Ok W1) := okr
          have e5 := HR.out.e5
          have e6 := HR.out.e6
          clear okr
          go_wp2_with fail
          with_reducible refine k1.mono ?_
          rintro e w3 ⟨rfl, ⟨f0, B3⟩, Z3, K3⟩
          clear k1 e5 e6
          have R3 : Hid (Round w w3 p q N ops F o Bo ∧ Kp W1 w3 ∧ BS w3 W1.heap.size 0 4096 f0 ∧ w3.heap.size = W1.heap.size + 1) := ⟨HR.out.kp' K3, K3, B3, Z3⟩
          have e6 := R3.out.1.e6
          have e7 := R3.out.1.e7
          clear B3 Z3 K3
          cases hb : o.other
          · as_aux_lemma =>
              rw [hb] at e7
              obtain ⟨g1, c1, W4, r1, O4, K4⟩ := copy_any w3 W1.heap.size 0 4096 4096 f0 R3.out.2.2.1.lt R3.out.2.2.1.cells R3.out.2.2.1.byte (by omega)
              have hf := R3.out.2.2.1.byte
              obtain ⟨g2, c2, W5, r2, O5, K5'⟩ := snoc_165 W4 w3.heap.size g1 4096 c1 f0 O4 K4.size (by omega)
              have K5 : Kp w3 W5 := K5' w3 (Nat.le_refl _) K4
              have hg1 : W1.heap.size ≤ g2 := by have := O5.facts.1; have := R3.out.2.1.size; omega
              have hg2 : g2 < W5.heap.size := O5.facts.2.1
              have hcp : 4096 + 1 ≤ c2 := O5.facts.2.2
              have hb1 : W1.heap.size ≤ W1.heap.size := Nat.le_refl _
              have hb2 : W1.heap.size < W5.heap.size := by have := R3.out.2.2.1.lt; have := K5.size; omega
              have kd5 : Kp W5 W5.drew := (Kp.refl W5).drew
              obtain ⟨T5, FR5⟩ := HR.out.two2 ((R3.out.2.1.trans K5).trans kd5) hb1 hg1 hb2 hg2
              have S5 := (O5.src hf).kp kd5
              have E5 := (kd5.cell (p := ⟨g2, 4096, none⟩) hg2).trans O5.end_
              have k4 := two_pset T5 FR5 o.frame (some ⟨g2, 0, none⟩) 4096 c2 f0 hf (fun _ => ⟨g2, 0, rfl, hg2, S5.cells⟩)
              have K5q : Aside (∀ w5, Two (U2 w Bo W1.heap.size g2) w5 p q N ops (stF N F o.frame 4096 f0) ops F → Fr (U2 w Bo W1.heap.size g2) W5.drew w5 → Calls Try.prog 15 #[.pointer (some ⟨q, 0, none⟩), .int .i64 o.frame, .slice (some ⟨W1.heap.size, 0, none⟩) 4096 4096] w5 fun e w' => e = .returned (.int .i64 (stR N o.frame 4096)) ∧ Two (U2 w Bo W1.heap.size g2) w' p q N ops (stF N F o.frame 4096 f0) ops (stF N F o.frame 4096 f0) ∧ Fr (U2 w Bo W1.heap.size g2) w5 w') := fun w5 t k =>
                two_qset t (FR5.kp k.size) o.frame (some ⟨W1.heap.size, 0, none⟩) 4096 4096 f0 hf (fun _ => ⟨W1.heap.size, 0, rfl, Nat.lt_of_lt_of_le hb2 k.size, fun i hi => by rw [k.cell (a := ⟨W1.heap.size, 0 + i, none⟩) hb2 (fun x => x.2.1 rfl)]; exact (R3.out.2.2.1.kp (K5.trans kd5)).cell i hi⟩)
              have hBl : Bo < W5.drew.heap.size := Nat.lt_of_lt_of_le R3.out.1.lt K5.size
              have KS : Aside (∀ w', Fr (U2 w Bo W1.heap.size g2) W5.drew w' → w'.cell? ⟨Bo, 2, none⟩ = some (.int .i64 o.frame)) := fun w' k =>
                (k.cell (a := ⟨Bo, 2, none⟩) hBl (fun x => x.1.2 rfl)).trans (R3.out.1.kp' (K5.trans kd5)).e2
              have e2 := (R3.out.1.kp' K5).e2
              have y4 : 4096 + 1 ≤ (c2 : Int) := by omega
              have y5 : 4096 ≤ (c2 : Int) := by omega
              have y6 : (0 : Int) ≤ 4096 + 1 := by omega
              have O5h : Hid (OP W5 w3.heap.size g2 (4096 + 1) c2 (upd f0 4096 165)) := O5
              clear O4 K4 K5' O5
              repeat' (first | ((with_reducible refine wp_append_of r1 (.tmp 163) (.tmp 164) ?_ ?_ ?_ ?_ ?_); rfl; rfl; rfl; rfl) | ((with_reducible refine wp_append_of r2 (.tmp 165) (.tmp 166) ?_ ?_ ?_ ?_ ?_); rfl; rfl; rfl; rfl) | go_values | go_skip | go_guarded | go_step | go_upon | go_back | (simp only []) | (go_values <;> (try go_simp)) | (go_ite <;> go_prune <;> (try go_simp)))
              clear r1 r2
              go_region_held3 (fun w' => w'.cell? ⟨Bo, 2, none⟩ = some (.int .i64 o.frame))
                (first | go_keep | exact KS.out _ (F1.trans F2) | exact KS.out _ F1)
                (first | (go_at_call 14; refine k4.mono ?_; rintro e w6 ⟨rfl, T6, F1⟩) | (go_at_call 15; refine (K5q.out _ T6 F1).mono ?_; rintro e w7 ⟨rfl, T7, F2⟩))
              have F3 := F1.trans F2
              have s1 := string_any w7 g2 0 4096 c2 f0 (fun i hi => by rw [F3.cell (a := ⟨g2, 0 + i, none⟩) hg2 (fun x => x.2.2 rfl)]; exact S5.cell i hi)
              have s2 := string_any w7 W1.heap.size 0 4096 4096 f0 (fun i hi => by rw [(F1.trans F2).cell (a := ⟨W1.heap.size, 0 + i, none⟩) hb2 (fun x => x.2.1 rfl)]; exact (R3.out.2.2.1.kp (K5.trans kd5)).cell i hi)
              have c3 : w7.cell? ⟨g2, 4096, none⟩ = some (.int .u8 165) := (F3.cell (a := ⟨g2, 4096, none⟩) hg2 (fun x => x.2.2 rfl)).trans E5
              have hBw : w.heap.size ≤ Bo := HR.out.up
              have I0 : Hid (InSt w w7 p q N ops (stF N F o.frame 4096 f0) o Bo W1.heap.size g2 4096) :=
                ⟨T7, F3.kp (((HR.out.kp.trans R3.out.2.1).trans K5).trans kd5) (fun i hi => hi.1.1), (F3.block Bo hBl (fun x => x.1.2 rfl)).trans (R3.out.1.kp' (K5.trans kd5)).row, f0, S5.fr F3 (fun x => x.2.2 rfl)⟩
              have HG : Hid (w.heap.size ≤ g2 ∧ Bo ≠ g2) := ⟨by have := HR.out.kp.size; omega, by have := HR.out.lt; omega⟩
              clear T5 FR5 S5 E5 k4 K5q KS T6 T7 F1 F2 F3 K5 kd5 O5h
              generalize strOf f0 4096 = st at *
              generalize stF N F o.frame 4096 f0 = F' at *
              go_wp2_with fail
              go_loopg [23] (4096 + 1) (fun g v23 wq => ∃ k : Nat, v23 = .int .i64 (k : Int) ∧ k ≤ 4096 ∧ 4096 + 1 - k ≤ g ∧ Hid (InSt w wq p q N ops F' o Bo W1.heap.size g2 4096))
              case atStart => exact ⟨0, rfl, by omega, by omega, I0⟩
              case round =>
                obtain ⟨k, rfl, k1, kg, HQ⟩ := hrel
                clear s1 s2 c3 I0
                by_cases hk : k < 4096
                · have z5 : (k : Int) < 4096 := by omega
                  obtain ⟨⟨vb, q1⟩, q2, HQ2⟩ := HQ.out.dot k hk HG.out.1 HG.out.2
                  clear HQ
                  go_wp2
                  go_roundg (4096 + 1 - (k + 1))
                  case measure => omega
                  case rel => exact ⟨k + 1, by go_num, by omega, by omega, HQ2⟩
                · have z5 : ¬ (k : Int) < 4096 := by omega
                  have HN : Hid (Round w wr p q N ops F' o Bo) := HQ.out.round HR.out.ok HR.out.up
                  clear HQ
                  go_wp2_with fail
                  go_meet
                  case rel => exact ⟨_, _, _, rfl, rfl, by omega, HN⟩
          · rw [hb] at e7
            by_cases hm1 : o.mB ≤ 100
            · as_aux_lemma =>
                skip
                obtain ⟨g1, c1, W4, r1, O4, K4⟩ := copy_in w3 o.naB o.mB o.mB o.cB o.fB (HO.out.nB.kp R3.out.2.1) (by omega) HO.out.cB (by omega)
                have hf := fb_byte o.fB
                obtain ⟨g2, c2, W5, r2, O5, K5'⟩ := snoc_165 W4 w3.heap.size g1 o.mB c1 (fb o.fB) O4 K4.size (by omega)
                have K5 : Kp w3 W5 := K5' w3 (Nat.le_refl _) K4
                have hg1 : W1.heap.size ≤ g2 := by have := O5.facts.1; have := R3.out.2.1.size; omega
                have hg2 : g2 < W5.heap.size := O5.facts.2.1
                have hcp : o.mB + 1 ≤ c2 := O5.facts.2.2
                have hb1 : W1.heap.size ≤ g2 := hg1
                have hb2 : g2 < W5.heap.size := hg2
                have kd5 : Kp W5 W5.drew := (Kp.refl W5).drew
                obtain ⟨T5, FR5⟩ := HR.out.two2 ((R3.out.2.1.trans K5).trans kd5) hb1 hg1 hb2 hg2
                have S5 := (O5.src hf).kp kd5
                have E5 := (kd5.cell (p := ⟨g2, o.mB, none⟩) hg2).trans O5.end_
                have k4 := two_pset T5 FR5 o.frame (some ⟨g2, 0, none⟩) o.mB c2 (fb o.fB) hf (fun _ => ⟨g2, 0, rfl, hg2, S5.cells⟩)
                have K5q : Aside (∀ w5, Two (U2 w Bo g2 g2) w5 p q N ops (stF N F o.frame o.mB (fb o.fB)) ops F → Fr (U2 w Bo g2 g2) W5.drew w5 → Calls Try.prog 15 #[.pointer (some ⟨q, 0, none⟩), .int .i64 o.frame, .slice o.naB o.mB o.cB] w5 fun e w' => e = .returned (.int .i64 (stR N o.frame o.mB)) ∧ Two (U2 w Bo g2 g2) w' p q N ops (stF N F o.frame o.mB (fb o.fB)) ops (stF N F o.frame o.mB (fb o.fB)) ∧ Fr (U2 w Bo g2 g2) w5 w') := fun w5 t k =>
                  two_qset t (FR5.kp k.size) o.frame o.naB o.mB o.cB (fb o.fB) hf (fun h0 => by
                    obtain ⟨c0, o0, q1, q2, q3⟩ := nsk_cells (HR.out.ok.nB) h0 (show o.mB ≤ o.mB by omega)
                    have kk : Kp w w5 := k.kp (((HR.out.kp.trans R3.out.2.1).trans K5).trans kd5) (fun i hi => hi.1.1)
                    exact ⟨c0, o0, q1, Nat.lt_of_lt_of_le q2 kk.size, fun i hi => by rw [kk.cell (p := ⟨c0, o0 + i, none⟩) q2]; exact q3 i hi⟩)
                have hBl : Bo < W5.drew.heap.size := Nat.lt_of_lt_of_le R3.out.1.lt K5.size
                have KS : Aside (∀ w', Fr (U2 w Bo g2 g2) W5.drew w' → w'.cell? ⟨Bo, 2, none⟩ = some (.int .i64 o.frame)) := fun w' k =>
                  (k.cell (a := ⟨Bo, 2, none⟩) hBl (fun x => x.1.2 rfl)).trans (R3.out.1.kp' (K5.trans kd5)).e2
                have e2 := (R3.out.1.kp' K5).e2
                have y8 : (o.mB : Int) ≤ 100 := by omega
                have y9 : (o.mB : Int) ≤ o.cB := by have := HO.out.lB; omega
                have y4 : (o.mB : Int) + 1 ≤ (c2 : Int) := by omega
                have y5 : (o.mB : Int) ≤ (c2 : Int) := by omega
                have y6 : (0 : Int) ≤ (o.mB : Int) + 1 := by omega
                have O5h : Hid (OP W5 w3.heap.size g2 (o.mB + 1) c2 (upd (fb o.fB) o.mB 165)) := O5
                clear O4 K4 K5' O5
                repeat' (first | ((with_reducible refine wp_append_of r1 (.tmp 163) (.tmp 164) ?_ ?_ ?_ ?_ ?_); rfl; rfl; rfl; rfl) | ((with_reducible refine wp_append_of r2 (.tmp 165) (.tmp 166) ?_ ?_ ?_ ?_ ?_); rfl; rfl; rfl; rfl) | go_values | go_skip | go_guarded | go_step | go_upon | go_back | (simp only []) | (go_values <;> (try go_simp)) | (go_ite <;> go_prune <;> (try go_simp)))
                clear r1 r2
                go_region_held3 (fun w' => w'.cell? ⟨Bo, 2, none⟩ = some (.int .i64 o.frame))
                  (first | go_keep | exact KS.out _ (F1.trans F2) | exact KS.out _ F1)
                  (first | (go_at_call 14; refine k4.mono ?_; rintro e w6 ⟨rfl, T6, F1⟩) | (go_at_call 15; refine (K5q.out _ T6 F1).mono ?_; rintro e w7 ⟨rfl, T7, F2⟩))
                have F3 := F1.trans F2
                have s1 := string_any w7 g2 0 o.mB c2 (fb o.fB) (fun i hi => by rw [F3.cell (a := ⟨g2, 0 + i, none⟩) hg2 (fun x => x.2.2 rfl)]; exact S5.cell i hi)
                have s2 := string_in w7 o.naB o.mB o.mB o.cB o.fB (HR.out.ok.nB.kp (((F1.trans F2)).kp (((HR.out.kp.trans R3.out.2.1).trans K5).trans kd5) (fun i hi => hi.1.1))) (by omega)
                have c3 : w7.cell? ⟨g2, o.mB, none⟩ = some (.int .u8 165) := (F3.cell (a := ⟨g2, o.mB, none⟩) hg2 (fun x => x.2.2 rfl)).trans E5
                have hBw : w.heap.size ≤ Bo := HR.out.up
                have I0 : Hid (InSt w w7 p q N ops (stF N F o.frame o.mB (fb o.fB)) o Bo g2 g2 o.mB) :=
                  ⟨T7, F3.kp (((HR.out.kp.trans R3.out.2.1).trans K5).trans kd5) (fun i hi => hi.1.1), (F3.block Bo hBl (fun x => x.1.2 rfl)).trans (R3.out.1.kp' (K5.trans kd5)).row, (fb o.fB), S5.fr F3 (fun x => x.2.2 rfl)⟩
                have HG : Hid (w.heap.size ≤ g2 ∧ Bo ≠ g2) := ⟨by have := HR.out.kp.size; omega, by have := HR.out.lt; omega⟩
                clear T5 FR5 S5 E5 k4 K5q KS T6 T7 F1 F2 F3 K5 kd5 O5h
                generalize strOf (fb o.fB) o.mB = st at *
                generalize stF N F o.frame o.mB (fb o.fB) = F' at *
                go_wp2_with fail
                go_loopg [23] (o.mB + 1) (fun g v23 wq => ∃ k : Nat, v23 = .int .i64 (k : Int) ∧ k ≤ o.mB ∧ o.mB + 1 - k ≤ g ∧ Hid (InSt w wq p q N ops F' o Bo g2 g2 o.mB))
                case atStart => exact ⟨0, rfl, by omega, by omega, I0⟩
                case round =>
                  obtain ⟨k, rfl, k1, kg, HQ⟩ := hrel
                  clear s1 s2 c3 I0
                  by_cases hk : k < o.mB
                  · have z5 : (k : Int) < (o.mB : Int) := by omega
                    obtain ⟨⟨vb, q1⟩, q2, HQ2⟩ := HQ.out.dot k hk HG.out.1 HG.out.2
                    clear HQ
                    go_wp2
                    go_roundg (o.mB + 1 - (k + 1))
                    case measure => omega
                    case rel => exact ⟨k + 1, by go_num, by omega, by omega, HQ2⟩
                  · have z5 : ¬ (k : Int) < (o.mB : Int) := by omega
                    have HN : Hid (Round w wr p q N ops F' o Bo) := HQ.out.round HR.out.ok HR.out.up
                    clear HQ
                    go_wp2_with fail
                    go_meet
                    case rel => exact ⟨_, _, _, rfl, rfl, by omega, HN⟩
            · as_aux_lemma =>
                skip
                obtain ⟨g1, c1, W4, r1, O4, K4⟩ := copy_in w3 o.naB o.mB 100 o.cB o.fB (HO.out.nB.kp R3.out.2.1) (by omega) HO.out.cB (by omega)
                have hf := fb_byte o.fB
                obtain ⟨g2, c2, W5, r2, O5, K5'⟩ := snoc_165 W4 w3.heap.size g1 100 c1 (fb o.fB) O4 K4.size (by omega)
                have K5 : Kp w3 W5 := K5' w3 (Nat.le_refl _) K4
                have hg1 : W1.heap.size ≤ g2 := by have := O5.facts.1; have := R3.out.2.1.size; omega
                have hg2 : g2 < W5.heap.size := O5.facts.2.1
                have hcp : 100 + 1 ≤ c2 := O5.facts.2.2
                have hb1 : W1.heap.size ≤ g2 := hg1
                have hb2 : g2 < W5.heap.size := hg2
                have kd5 : Kp W5 W5.drew := (Kp.refl W5).drew
                obtain ⟨T5, FR5⟩ := HR.out.two2 ((R3.out.2.1.trans K5).trans kd5) hb1 hg1 hb2 hg2
                have S5 := (O5.src hf).kp kd5
                have E5 := (kd5.cell (p := ⟨g2, 100, none⟩) hg2).trans O5.end_
                have k4 := two_pset T5 FR5 o.frame (some ⟨g2, 0, none⟩) 100 c2 (fb o.fB) hf (fun _ => ⟨g2, 0, rfl, hg2, S5.cells⟩)
                have K5q : Aside (∀ w5, Two (U2 w Bo g2 g2) w5 p q N ops (stF N F o.frame 100 (fb o.fB)) ops F → Fr (U2 w Bo g2 g2) W5.drew w5 → Calls Try.prog 15 #[.pointer (some ⟨q, 0, none⟩), .int .i64 o.frame, .slice o.naB 100 o.cB] w5 fun e w' => e = .returned (.int .i64 (stR N o.frame 100)) ∧ Two (U2 w Bo g2 g2) w' p q N ops (stF N F o.frame 100 (fb o.fB)) ops (stF N F o.frame 100 (fb o.fB)) ∧ Fr (U2 w Bo g2 g2) w5 w') := fun w5 t k =>
                  two_qset t (FR5.kp k.size) o.frame o.naB 100 o.cB (fb o.fB) hf (fun h0 => by
                    obtain ⟨c0, o0, q1, q2, q3⟩ := nsk_cells (HR.out.ok.nB) h0 (show 100 ≤ o.mB by omega)
                    have kk : Kp w w5 := k.kp (((HR.out.kp.trans R3.out.2.1).trans K5).trans kd5) (fun i hi => hi.1.1)
                    exact ⟨c0, o0, q1, Nat.lt_of_lt_of_le q2 kk.size, fun i hi => by rw [kk.cell (p := ⟨c0, o0 + i, none⟩) q2]; exact q3 i hi⟩)
                have hBl : Bo < W5.drew.heap.size := Nat.lt_of_lt_of_le R3.out.1.lt K5.size
                have KS : Aside (∀ w', Fr (U2 w Bo g2 g2) W5.drew w' → w'.cell? ⟨Bo, 2, none⟩ = some (.int .i64 o.frame)) := fun w' k =>
                  (k.cell (a := ⟨Bo, 2, none⟩) hBl (fun x => x.1.2 rfl)).trans (R3.out.1.kp' (K5.trans kd5)).e2
                have e2 := (R3.out.1.kp' K5).e2
                have y7 : ¬ (o.mB : Int) ≤ 100 := by omega
                have y8 : (100 : Int) ≤ o.mB := by omega
                have y9 : (100 : Int) ≤ o.cB := by have := HO.out.lB; omega
                have y4 : 100 + 1 ≤ (c2 : Int) := by omega
                have y5 : 100 ≤ (c2 : Int) := by omega
                have y6 : (0 : Int) ≤ 100 + 1 := by omega
                have O5h : Hid (OP W5 w3.heap.size g2 (100 + 1) c2 (upd (fb o.fB) 100 165)) := O5
                clear O4 K4 K5' O5
                repeat' (first | ((with_reducible refine wp_append_of r1 (.tmp 163) (.tmp 164) ?_ ?_ ?_ ?_ ?_); rfl; rfl; rfl; rfl) | ((with_reducible refine wp_append_of r2 (.tmp 165) (.tmp 166) ?_ ?_ ?_ ?_ ?_); rfl; rfl; rfl; rfl) | go_values | go_skip | go_guarded | go_step | go_upon | go_back | (simp only []) | (go_values <;> (try go_simp)) | (go_ite <;> go_prune <;> (try go_simp)))
                clear r1 r2
                go_region_held3 (fun w' => w'.cell? ⟨Bo, 2, none⟩ = some (.int .i64 o.frame))
                  (first | go_keep | exact KS.out _ (F1.trans F2) | exact KS.out _ F1)
                  (first | (go_at_call 14; refine k4.mono ?_; rintro e w6 ⟨rfl, T6, F1⟩) | (go_at_call 15; refine (K5q.out _ T6 F1).mono ?_; rintro e w7 ⟨rfl, T7, F2⟩))
                have F3 := F1.trans F2
                have s1 := string_any w7 g2 0 100 c2 (fb o.fB) (fun i hi => by rw [F3.cell (a := ⟨g2, 0 + i, none⟩) hg2 (fun x => x.2.2 rfl)]; exact S5.cell i hi)
                have s2 := string_in w7 o.naB o.mB 100 o.cB o.fB (HR.out.ok.nB.kp (((F1.trans F2)).kp (((HR.out.kp.trans R3.out.2.1).trans K5).trans kd5) (fun i hi => hi.1.1))) (by omega)
                have c3 : w7.cell? ⟨g2, 100, none⟩ = some (.int .u8 165) := (F3.cell (a := ⟨g2, 100, none⟩) hg2 (fun x => x.2.2 rfl)).trans E5
                have hBw : w.heap.size ≤ Bo := HR.out.up
                have I0 : Hid (InSt w w7 p q N ops (stF N F o.frame 100 (fb o.fB)) o Bo g2 g2 100) :=
                  ⟨T7, F3.kp (((HR.out.kp.trans R3.out.2.1).trans K5).trans kd5) (fun i hi => hi.1.1), (F3.block Bo hBl (fun x => x.1.2 rfl)).trans (R3.out.1.kp' (K5.trans kd5)).row, (fb o.fB), S5.fr F3 (fun x => x.2.2 rfl)⟩
                have HG : Hid (w.heap.size ≤ g2 ∧ Bo ≠ g2) := ⟨by have := HR.out.kp.size; omega, by have := HR.out.lt; omega⟩
                clear T5 FR5 S5 E5 k4 K5q KS T6 T7 F1 F2 F3 K5 kd5 O5h
                generalize strOf (fb o.fB) 100 = st at *
                generalize stF N F o.frame 100 (fb o.fB) = F' at *
                go_wp2_with fail
                go_loopg [23] (100 + 1) (fun g v23 wq => ∃ k : Nat, v23 = .int .i64 (k : Int) ∧ k ≤ 100 ∧ 100 + 1 - k ≤ g ∧ Hid (InSt w wq p q N ops F' o Bo g2 g2 100))
                case atStart => exact ⟨0, rfl, by omega, by omega, I0⟩
                case round =>
                  obtain ⟨k, rfl, k1, kg, HQ⟩ := hrel
                  clear s1 s2 c3 I0
                  by_cases hk : k < 100
                  · have z5 : (k : Int) < 100 := by omega
                    obtain ⟨⟨vb, q1⟩, q2, HQ2⟩ := HQ.out.dot k hk HG.out.1 HG.out.2
                    clear HQ
                    go_wp2
                    go_roundg (100 + 1 - (k + 1))
                    case measure => omega
                    case rel => exact ⟨k + 1, by go_num, by omega, by omega, HQ2⟩
                  · have z5 : ¬ (k : Int) < 100 := by omega
                    have HN : Hid (Round w wr p q N ops F' o Bo) := HQ.out.round HR.out.ok HR.out.up
                    clear HQ
                    go_wp2_with fail
                    go_meet
                    case rel => exact ⟨_, _, _, rfl, rfl, by omega, HN⟩
        · as_aux_lemma =>
            have k1 := two_pzero (HR.out.two.kp kd) (FU.out _ kd.size) o.frame
            have KS : Aside (∀ w', Fr (fun k => w.heap.size ≤ k ∧ k ≠ Bo) W1.drew w' → w'.cell? ⟨Bo, 2, none⟩ = some (.int .i64 o.frame)) := fun w' k =>
              (k.cell (a := ⟨Bo, 2, none⟩) HR.out.lt (fun x => x.2 rfl)).trans HR.out.e2
            have e2 := HR.out.e2
            go_wp2_with fail
            go_region_held3 (fun w' => w'.cell? ⟨Bo, 2, none⟩ = some (.int .i64 o.frame))
              (first | go_keep | exact KS.out _ (F1.trans F2) | exact KS.out _ F1)
              (first | (go_at_call 16; refine k1.mono ?_; rintro e w3 ⟨rfl, T3, F1⟩) | (go_at_call 17; refine (two_qzero T3 (FU.out _ (Nat.le_trans kd.size F1.size)) o.frame).mono ?_; rintro e w4 ⟨rfl, T4, F2⟩))
            have HN : Hid (Round w w4 p q N ops (stF N F o.frame 4096 z0) o Bo) := HR.out.next T4 ((kd.fr _).trans (F1.trans F2))
            clear KS k1 T3 T4 F1 F2 e2
            go_wp2_with fail
            go_meet
            case rel => exact ⟨_, _, _, rfl, rfl, by omega, HN⟩
        · as_aux_lemma =>
            have k1 := two_pget HR.out.two o.frame
            have e2 := HR.out.e2
            go_wp2_with fail
            with_reducible refine k1.mono ?_
            rintro e w3 ⟨na1, rfl, z3, s3, K3⟩
            clear k1 e2
            have e2 := (K3.cell (p := ⟨Bo, 2, none⟩) HR.out.lt).trans HR.out.e2
            have k2 := two_qget (HR.out.two.kp K3) o.frame
            have H3 : Hid ((na1 = none ↔ gtN N o.frame = 0) ∧ (0 < gtN N o.frame → na1 = some ⟨W1.heap.size, 0, none⟩ ∧ BS w3 W1.heap.size 0 (gtN N o.frame) (F o.frame.toNat)) ∧ Kp W1 w3) := ⟨z3, s3, K3⟩
            clear z3 s3 K3
            go_wp2_with fail
            with_reducible refine k2.mono ?_
            rintro e w4 ⟨na2, rfl, z4, s4, K4⟩
            have b4 : 0 < gtN N o.frame → na1 = some ⟨W1.heap.size, 0, none⟩ ∧ BS w4 W1.heap.size 0 (gtN N o.frame) (F o.frame.toNat) := fun h => ⟨(H3.out.2.1 h).1, (H3.out.2.1 h).2.kp K4⟩
            have s1 := str_of (cap := gtN N o.frame) H3.out.1 b4
            have s2 := str_of (cap := gtN N o.frame) z4 s4
            have hn : gtN N o.frame ≤ 4096 := by unfold gtN; split <;> omega
            have H4 : Hid ((0 < gtN N o.frame → na1 = some ⟨W1.heap.size, 0, none⟩) ∧ (0 < gtN N o.frame → ∃ f, BS w4 W1.heap.size 0 (gtN N o.frame) f) ∧ Kp W1 w4) := ⟨fun h => (b4 h).1, fun h => ⟨_, (b4 h).2⟩, H3.out.2.2.trans K4⟩
            clear z4 s4 K4 k2 b4 H3 e2
            generalize strOf (F o.frame.toNat) (gtN N o.frame) = st at *
            generalize gtN N o.frame = n at *
            have y4 : (n : Int) ≤ 4096 := by omega
            go_wp2_with fail
            go_loopg [28] (n + 1) (fun g v28 wq => ∃ k : Nat, v28 = .int .i64 (k : Int) ∧ k ≤ n ∧ n + 1 - k ≤ g ∧ Hid (Fr (fun z => z = W1.heap.size) w4 wq ∧ (0 < n → ∃ f, BS wq W1.heap.size 0 n f)))
            case atStart => exact ⟨0, rfl, by omega, by omega, ⟨Fr.refl _ _, H4.out.2.1⟩⟩
            case round =>
              obtain ⟨k, rfl, k1, kg, HQ⟩ := hrel
              by_cases hk : k < n
              · obtain rfl := H4.out.1 (by omega)
                obtain ⟨f, hf⟩ := HQ.out.2 (by omega)
                have y5 : (k : Int) < n := by omega
                have c1 := hf.cell k hk
                have c2 := hf.frz k hk
                have HQ2 : Hid (Fr (fun z => z = W1.heap.size) w4 (wr.setCell ⟨W1.heap.size, 0 + k, none⟩ (.int .u8 (221 : Nat))) ∧ (0 < n → ∃ f, BS (wr.setCell ⟨W1.heap.size, 0 + k, none⟩ (.int .u8 (221 : Nat))) W1.heap.size 0 n f)) := ⟨HQ.out.1.set _ _ rfl, fun _ => ⟨_, hf.set k 221 hk (by decide)⟩⟩
                rw [Nat.zero_add] at c1 c2 HQ2
                rw [show (((221 : Nat)) : Int) = 221 from rfl] at HQ2
                generalize f k = b at c1
                clear hf HQ
                go_wp2
                go_roundg (n + 1 - (k + 1))
                case measure => omega
                case rel => exact ⟨k + 1, by go_num, by omega, by omega, HQ2⟩
              · have y5 : ¬ (k : Int) < n := by omega
                have HN : Hid (Round w wr p q N ops F o Bo) := HR.out.poke H4.out.2.2 (Nat.le_refl _) HQ.out.1
                clear HQ H4
                go_wp2_with fail
                go_meet
                case rel => exact ⟨_, _, _, rfl, rfl, by omega, HN⟩
      case rest =>
        as_aux_lemma =>
          obtain ⟨r, ops', F', rfl, rfl, o1, HR2⟩ := hcut
          clear HR e0 g1 g2 g3 g4 g5
          obtain ⟨cc, sc, cP, cQ, sP, sQ, oP, fP, ce, cO, cN⟩ := HR2.out.tail x y
          have hne : Nonempty (KeptBy wc) := KeptBy.some
          go_wp2_with fail
          refine wp_region_kept mixed (by kernel_rfl) ?_
          repeat (go_big_quiet_step (first | (go_at_call 20; refine Calls.kept_of (cP _)) | (go_at_call 21; refine Calls.kept_of (cQ _)) | (go_at_call 22; refine Calls.kept_of (sP _)) | (go_at_call 23; refine Calls.kept_of (sQ _)) | (go_at_call 24; refine Calls.kept_of (oP _)) | (go_at_call 25; refine Calls.kept_of (fP _))))
          refine wpQuiet_nil ?_
          intro _ hw'
          obtain ⟨⟨wq, kq⟩, hw''⟩ := hw'
          subst hw''
          have HT : Hid (Two (fun k => w.heap.size ≤ k) _ p q N ops' F' ops' F' ∧ Kp w _) := ⟨(HR2.out.two.kp kq).cut (fun _ _ h => h.1), HR2.out.kp.trans kq⟩
          clear HR2 cP cQ sP sQ oP fP ce cO cN kq hne
          go_wp2
          go_roundg (41 - (i + 1))
          case measure => omega
          case rel => exact ⟨i + 1, ops', F', by go_num, by omega, by omega, by omega, HT⟩
    · as_aux_lemma =>
        have NLT : Hid (¬ (i < m ∧ i < 40)) := hlt
        clear hlt
        by_cases hlt : (i : Int) < m
        · have y2 : ¬ (i : Int) < 40 := by have := NLT.out; omega
          go_wp2_with fail
          with_reducible refine (ptold_any _).mono ?_
          rintro e w9 ⟨rfl, K9⟩
          have HK9 : Hid (Kp w w9) := T1.out.2.trans K9
          clear K9 T1
          go_wp2
          go_ret
          exact ⟨rfl, HK9.out⟩
        · go_wp2_with fail
          with_reducible refine (ptold_any _).mono ?_
          rintro e w9 ⟨rfl, K9⟩
          have HK9 : Hid (Kp w w9) := T1.out.2.trans K9
          clear K9 T1
          go_wp2
          go_ret
          exact ⟨rfl, HK9.out⟩

end Go.Proofs.Ytndlkkacnpjlmaa
