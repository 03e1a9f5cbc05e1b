/- nested: Second as it is meant; entry. -/
import Derived.Test.YtclcickhgoiooaaNE
namespace Go.Proofs.Ytclcickhgoiooaa
open Go.RowKit
set_option maxRecDepth 10000

theorem seK_cases (rd : Nat → Nat × Bool) (two u : Nat) (acc : Int) :
    (slK rd two u ≠ 0 ∧ seK rd two u acc = slK rd two u ∧ seO rd two u acc = zO ∧ seF rd two u acc = ⟨2, slK rd two u, -1, u, acc == 2⟩) ∨ (slK rd two u = 0 ∧ alP (slL rd two u).d.r (slL rd two u).d.q (slL rd two u).d.x acc = false ∧ seK rd two u acc = 2 ∧ seO rd two u acc = zO ∧ seF rd two u acc = ⟨2, 2, -1, u, acc == 2⟩) ∨
    (slK rd two u = 0 ∧ alP (slL rd two u).d.r (slL rd two u).d.q (slL rd two u).d.x acc = true ∧ seK rd two u acc = 0 ∧ seO rd two u acc = ⟨((outN u (slL rd two u).l (slL rd two u).d.k (slL rd two u).d.a / 4096 : Nat) : Int), u / 4096, true, true, true, (slL rd two u).d.r, (slL rd two u).d.q, (slL rd two u).d.x⟩ ∧ seF rd two u acc = zF) := by
  by_cases c1 : slK rd two u = 0
  · cases c2 : alP (slL rd two u).d.r (slL rd two u).d.q (slL rd two u).d.x acc
    · have e : seK rd two u acc = 2 := if_pos ⟨c1, c2⟩
      refine .inr (.inl ⟨c1, rfl, e, ?_, ?_⟩)
      · unfold seO; rw [e]; rfl
      · unfold seF; rw [e]; rfl
    · have e : seK rd two u acc = 0 := by unfold seK; rw [if_neg (by rw [c2]; simp)]; exact c1
      refine .inr (.inr ⟨c1, rfl, e, ?_, ?_⟩)
      · unfold seO; rw [if_pos e]
      · unfold seF; rw [if_pos e]
  · have e : seK rd two u acc = slK rd two u := if_neg (fun h => c1 h.1)
    refine .inl ⟨c1, e, ?_, ?_⟩
    · unfold seO; rw [if_neg (by rw [e]; exact c1)]
    · unfold seF; rw [if_neg (by rw [e]; exact c1), e]

theorem second_any {w : World} {S : Nat → Prop} {p N o : Nat} {B : Nat → Nat → Nat} (h : PMo w S p N o B) (two u : Nat) (acc : Int) (ht : two < 18446744073709551616) (hu : u < 18446744073709551616) (ho : o < 3000000000000000000) :
    Calls Try.prog 28 #[.pointer (some ⟨p, 0, none⟩), .int .u64 (two : Int), .int .u64 (u : Int), .int .i64 acc] w fun e w' => e = .returned (.tuple #[ouV (seO (rdB N B) two u acc), faV (seF (rdB N B) two u acc), .int .i64 (slN (rdB N B) two u : Nat)]) ∧ PMo w' S p N (o + 4) B ∧ Fr S w w' := by
  refine second_low (.pointer (some ⟨p, 0, none⟩)) two u acc w S (fun w' => PMo w' S p N (o + 4) B) _ _ _ _ _ _ _ _ _ _ _ hu h.own (fun v v' H k => H.fr k (fun i hi c => by have := h.own i hi; omega)) (fun w2 k2 => secondLeaf_any (h.kp k2) two u ht hu ho) _ _ ?_
  rcases seK_cases (rdB N B) two u acc with ⟨c1, _, c2, c3⟩ | ⟨c1, c2, _, c3, c4⟩ | ⟨c1, c2, _, c3, c4⟩
  · exact .inl ⟨c1, c2, c3⟩
  · exact .inr (.inl ⟨c1, c2, c3, c4⟩)
  · exact .inr (.inr ⟨c1, c2, c3, c4⟩)
theorem second_nil (two u : Nat) (acc : Int) (hu : u < 18446744073709551616) (w : World) :
    Calls Try.prog 28 #[.pointer none, .int .u64 (two : Int), .int .u64 (u : Int), .int .i64 acc] w fun e w' => e = .returned (.tuple #[ouV zO, faV ⟨2, 4, -1, u, acc == 2⟩, .int .i64 ((0 : Nat) : Int)]) ∧ Kp w w' := by
  refine (second_low (.pointer none) two u acc w (fun _ => False) (fun _ => True) _ _ _ _ _ _ _ _ _ 4 0 hu (fun _ h => h.elim) (fun _ _ _ _ => trivial) (fun w2 k2 => (secondLeaf_nil (two : Int) (u : Int) w2).mono fun e w' ⟨e1, e2⟩ => ⟨e1, trivial, e2.fr _⟩) _ _ (.inl ⟨by decide, rfl, rfl⟩)).mono fun e w' ⟨e1, _, e3⟩ => ⟨e1, e3.kp (Kp.refl w) (fun _ h => h.elim)⟩

/-! ### entry -/
/-- Where the first stage's word lies in the memory; the word; the fault; how many words were read. -/
def enA (rd : Nat → Nat × Bool) (two u : Nat) : Nat := outN u (slL rd two u).l (slL rd two u).d.k (slL rd two u).d.a / 4096 * 4096 + u % 4096
def enW (rd : Nat → Nat × Bool) (two u : Nat) : Nat := if seK rd two u 1 = 0 then (rd (enA rd two u)).1 else 0
def enF (rd : Nat → Nat × Bool) (two u : Nat) : FV := if seK rd two u 1 = 0 then (if (rd (enA rd two u)).2 = true then zF else ⟨2, 4, 0, u, false⟩) else ⟨2, seK rd two u 1, -1, u, false⟩
def enN (rd : Nat → Nat × Bool) (two u : Nat) : Nat := if seK rd two u 1 = 0 ∧ (rd (enA rd two u)).2 = true then slN rd two u + 1 else slN rd two u
theorem enA_lt (rd : Nat → Nat × Bool) (two u : Nat) : enA rd two u < 18446744073709551616 := by
  have := out_lt u (slL rd two u).l (slL rd two u).d.k (slL rd two u).d.a
  unfold enA
  omega
theorem slN_le (rd : Nat → Nat × Bool) (two u : Nat) : slN rd two u ≤ 4 := by
  unfold slN
  split
  · omega
  · exact goW_len _ _ _ _ _ _
theorem rdB_no {N : Nat} {B : Nat → Nat → Nat} {a : Nat} (h : (rdB N B a).2 = false) : (rdB N B a).1 = 0 := by
  unfold rdB at *
  split at h
  · cases h
  · rename_i c; rw [if_neg c]
theorem res_ef {w : World} {b : Nat} {fn : Func} {c d e : Tmp} {tmps : Array Value} {f : FV} (hf : fn.results = #[.tmp c, .cell d 35, .tmp e]) (hd : tmps.getD d undef = .pointer (some ⟨b, 0, none⟩)) (B : RX w b 35 (encF f)) :
    (results fn tmps).run Try.prog w = .ok (.tuple #[tmps.getD c undef, faV f, tmps.getD e undef]) w := by
  have hd' : tmps[d]?.getD undef = .pointer (some ⟨b, 0, none⟩) := by simpa using hd
  simp [results, hf, hd', asAddr, load_fault f B]

set_option maxHeartbeats 4000000 in
theorem entry_any {w : World} {S : Nat → Prop} {p N o : Nat} {B : Nat → Nat → Nat} (h : PMo w S p N o B) (two u : Nat) (ht : two < 18446744073709551616) (hu : u < 18446744073709551616) (ho : o < 2000000000000000000) :
    Calls Try.prog 62 #[.pointer (some ⟨p, 0, none⟩), .int .u64 (two : Int), .int .u64 (u : Int)] w fun e w' => e = .returned (.tuple #[.int .u64 (enW (rdB N B) two u : Nat), faV (enF (rdB N B) two u), .int .i64 (enN (rdB N B) two u : Nat)]) ∧ PMo w' S p N (o + 5) B ∧ Fr S w w' := by
  have X1 : RX (w.alloc (.cells (encF zF).toArray 35)) w.heap.size 35 (encF zF) := RX.made w _ _
  have h1 := h.kp ((Kp.refl w).alloc (.cells (encF zF).toArray 35))
  have hS : ¬ S w.heap.size := fun c => by have := h.own _ c; omega
  have ks := second_any h1 two u 1 ht hu (by omega)
  obtain ⟨w2, hw2⟩ : ∃ w2, w2 = w.alloc (.cells #[.int .i64 0, .int .i64 0, .int .i64 0, .int .u64 0, .bool false] 35) := ⟨_, rfl⟩
  have k2 : Kp w w2 := by rw [hw2]; exact (Kp.refl w).alloc _
  replace X1 : RX w2 w.heap.size 35 (encF zF) := by rw [hw2]; exact X1
  have en := slN_le (rdB N B) two u
  by_cases c1 : seK (rdB N B) two u 1 = 0
  · have e1 : enW (rdB N B) two u = (rdB N B (enA (rdB N B) two u)).1 := if_pos c1
    have e2 : enF (rdB N B) two u = if (rdB N B (enA (rdB N B) two u)).2 = true then zF else ⟨2, 4, 0, u, false⟩ := if_pos c1
    have e3 : enN (rdB N B) two u = if (rdB N B (enA (rdB N B) two u)).2 = true then slN (rdB N B) two u + 1 else slN (rdB N B) two u := by unfold enN; simp only [c1, true_and]
    have e4 : seO (rdB N B) two u 1 = ⟨((outN u (slL (rdB N B) two u).l (slL (rdB N B) two u).d.k (slL (rdB N B) two u).d.a / 4096 : Nat) : Int), u / 4096, true, true, true, (slL (rdB N B) two u).d.r, (slL (rdB N B) two u).d.q, (slL (rdB N B) two u).d.x⟩ := if_pos c1
    have e5 : seF (rdB N B) two u 1 = zF := if_pos c1
    have hz := out_lt u (slL (rdB N B) two u).l (slL (rdB N B) two u).d.k (slL (rdB N B) two u).d.a
    have hA : enA (rdB N B) two u = outN u (slL (rdB N B) two u).l (slL (rdB N B) two u).d.k (slL (rdB N B) two u).d.a / 4096 * 4096 + u % 4096 := rfl
    rw [e1, e2, e3]
    rw [e4, e5] at ks
    generalize outN u (slL (rdB N B) two u).l (slL (rdB N B) two u).d.k (slL (rdB N B) two u).d.a = Z at *
    generalize (slL (rdB N B) two u).d.r = zr at *
    generalize (slL (rdB N B) two u).d.q = zq at *
    generalize (slL (rdB N B) two u).d.x = zx at *
    generalize enA (rdB N B) two u = A at *
    have ks : Calls Try.prog 28 #[.pointer (some ⟨p, 0, none⟩), .int .u64 (two : Int), .int .u64 (u : Int), .int .i64 1] w2 fun e w' => e = .returned (.tuple #[.agg #[.int .i64 ((Z / 4096 : Nat) : Int), .int .u64 ((u / 4096 : Nat) : Int), .bool true, .bool true, .bool true, .bool zr, .bool zq, .bool zx], .agg #[.int .i64 0, .int .i64 0, .int .i64 0, .int .u64 0, .bool false], .int .i64 (slN (rdB N B) two u : Nat)]) ∧ PMo w' S p N (o + 4) B ∧ Fr S w2 w' := by rw [hw2]; exact ks
    generalize slN (rdB N B) two u = n at *
    have hA2 : A < 18446744073709551616 := by omega
    have y1 : IntKind.u64.wrap ((Z / 4096 : Nat) : Int) = ((Z / 4096 : Nat) : Int) := by simp [IntKind.wrap, IntKind.bits, IntKind.signed]; omega
    have y2 : IntKind.u64.wrap (((Z / 4096 : Nat) : Int) * 4096) = ((Z / 4096 * 4096 : Nat) : Int) := by simp [IntKind.wrap, IntKind.bits, IntKind.signed]; omega
    have y3 : (u : Int) % 4096 = ((u % 4096 : Nat) : Int) := by simp
    have y4 : IntKind.u64.wrap (((Z / 4096 * 4096 : Nat) : Int) + ((u % 4096 : Nat) : Int)) = (A : Int) := by rw [hA]; simp [IntKind.wrap, IntKind.bits, IntKind.signed]; omega
    generalize Z / 4096 * 4096 = Zm at *
    generalize Z / 4096 = Zq at *
    generalize u / 4096 = uq at *
    generalize u % 4096 = ur at *
    have HH : Hid (RX w2 w.heap.size 35 (encF zF) ∧ ¬ S w.heap.size ∧ Kp w w2 ∧ A < 18446744073709551616 ∧ o < 2000000000000000000) := ⟨X1, hS, k2, hA2, ho⟩
    clear h1 hS X1 e1 e2 e3 e4 e5 c1 ht hu h k2 hA hz hA2 ho
    cases ho : (rdB N B A).2
    · rw [rdB_no ho, if_neg (by decide), if_neg (by decide)]
      go_enter Try.func62, Try.ntmps62
      go_wp2_with fail
      rw [← hw2]
      with_reducible refine ks.mono ?_
      rintro e w3 ⟨rfl, M3, F3⟩
      go_wp2_with fail
      obtain ⟨w4, hw4⟩ : ∃ w4, w4 = (w3.alloc (.cells #[.int .i64 (Zq : Int), .int .u64 (uq : Int), .bool true, .bool true, .bool true, .bool zr, .bool zq, .bool zx] 33)).alloc (.cells #[.int .i64 0, .int .i64 0, .int .i64 0, .int .u64 0, .bool false] 35) := ⟨_, rfl⟩
      have k4 : Kp w3 w4 := by rw [hw4]; exact ((Kp.refl w3).alloc _).alloc _
      rw [← hw4]
      have kr := preads_any (M3.kp k4) A HH.out.2.2.2.1 (by have := HH.out.2.2.2.2; omega)
      with_reducible refine kr.mono ?_
      rintro e w5 ⟨⟨r, rfl, hr⟩, M5, F5⟩
      have B3 : RX w5 w.heap.size 35 (encF zF) := ((HH.out.1.fr F3 HH.out.2.1).kp k4).fr F5 HH.out.2.1
      have HE : Hid (RX w5 w.heap.size 35 (encF zF) ∧ PMo w5 S p N (o + 5) B ∧ Fr S w w5 ∧ ¬ S w.heap.size) := ⟨B3, M5, (((HH.out.2.2.1.fr S).trans F3).trans (k4.fr S)).trans F5, HH.out.2.1⟩
      rw [ho] at hr
      have y5 : (r != 0) = true := by rw [bne, ← hr]; rfl
      have b0 := B3.cell (j := 0) rfl; have b1 := B3.cell (j := 1) rfl; have b2 := B3.cell (j := 2) rfl; have b3 := B3.cell (j := 3) rfl; have b4 := B3.cell (j := 4) rfl; have fb := B3.fz
      clear hr
      clear HH hw4 k4 B3 M3 F3 ks hw2 M5 F5 kr y1 y2 y3 y4
      go_wp2
      first
        | rw [← putR_five]
      have R1 := HE.out.1.put (U := encF ⟨2, 4, 0, u, false⟩) rfl
      have F1 := putR_fr w5 w.heap.size 0 (encF ⟨2, 4, 0, u, false⟩)
      change bodyPost _ _ _ _ _ (putR _ _ _ (encF ⟨2, 4, 0, u, false⟩))
      exact bodyPost_ret (res_ef rfl rfl R1) rfl ⟨rfl, HE.out.2.1.fr F1 (fun i hi e => HE.out.2.2.2 (e ▸ hi)), HE.out.2.2.1.trans2 F1 (fun i hi e => by omega)⟩
    · rw [if_pos rfl, if_pos rfl]
      obtain ⟨x, hx⟩ : ∃ x, (rdB N B A).1 = x := ⟨_, rfl⟩
      rw [hx]
      go_enter Try.func62, Try.ntmps62
      go_wp2_with fail
      rw [← hw2]
      with_reducible refine ks.mono ?_
      rintro e w3 ⟨rfl, M3, F3⟩
      go_wp2_with fail
      obtain ⟨w4, hw4⟩ : ∃ w4, w4 = (w3.alloc (.cells #[.int .i64 (Zq : Int), .int .u64 (uq : Int), .bool true, .bool true, .bool true, .bool zr, .bool zq, .bool zx] 33)).alloc (.cells #[.int .i64 0, .int .i64 0, .int .i64 0, .int .u64 0, .bool false] 35) := ⟨_, rfl⟩
      have k4 : Kp w3 w4 := by rw [hw4]; exact ((Kp.refl w3).alloc _).alloc _
      rw [← hw4]
      have kr := preads_any (M3.kp k4) A HH.out.2.2.2.1 (by have := HH.out.2.2.2.2; omega)
      with_reducible refine kr.mono ?_
      rintro e w5 ⟨⟨r, rfl, hr⟩, M5, F5⟩
      have B3 : RX w5 w.heap.size 35 (encF zF) := ((HH.out.1.fr F3 HH.out.2.1).kp k4).fr F5 HH.out.2.1
      have HE : Hid (RX w5 w.heap.size 35 (encF zF) ∧ PMo w5 S p N (o + 5) B ∧ Fr S w w5 ∧ ¬ S w.heap.size) := ⟨B3, M5, (((HH.out.2.2.1.fr S).trans F3).trans (k4.fr S)).trans F5, HH.out.2.1⟩
      rw [ho] at hr
      rw [hx]
      have y5 : (r != 0) = false := by rw [bne, ← hr]; rfl
      have b0 := B3.cell (j := 0) rfl; have b1 := B3.cell (j := 1) rfl; have b2 := B3.cell (j := 2) rfl; have b3 := B3.cell (j := 3) rfl; have b4 := B3.cell (j := 4) rfl; have fb := B3.fz
      clear hr
      have y6 : (n : Int) ≤ 4 := by omega
      clear HH hw4 k4 B3 M3 F3 ks hw2 M5 F5 kr y1 y2 y3 y4
      go_wp2
      first
        | rw [← putR_five]
      have R1 := HE.out.1.put (U := encF zF) rfl
      have F1 := putR_fr w5 w.heap.size 0 (encF zF)
      change bodyPost _ _ _ _ _ (putR _ _ _ (encF zF))
      exact bodyPost_ret (res_ef rfl rfl R1) rfl ⟨rfl, HE.out.2.1.fr F1 (fun i hi e => HE.out.2.2.2 (e ▸ hi)), HE.out.2.2.1.trans2 F1 (fun i hi e => by omega)⟩
  · have e1 : enW (rdB N B) two u = 0 := if_neg c1
    have e2 : enF (rdB N B) two u = ⟨2, seK (rdB N B) two u 1, -1, u, false⟩ := if_neg c1
    have e3 : enN (rdB N B) two u = slN (rdB N B) two u := if_neg (fun h => c1 h.1)
    have e4 : seO (rdB N B) two u 1 = zO := if_neg c1
    have e5 : seF (rdB N B) two u 1 = ⟨2, seK (rdB N B) two u 1, -1, u, false⟩ := if_neg c1
    rw [e1, e2, e3]
    rw [e4, e5] at ks
    have ks : Calls Try.prog 28 #[.pointer (some ⟨p, 0, none⟩), .int .u64 (two : Int), .int .u64 (u : Int), .int .i64 1] w2 fun e w' => e = .returned (.tuple #[.agg #[.int .i64 0, .int .u64 0, .bool false, .bool false, .bool false, .bool false, .bool false, .bool false], .agg #[.int .i64 2, .int .i64 (seK (rdB N B) two u 1), .int .i64 (-1), .int .u64 (u : Int), .bool false], .int .i64 (slN (rdB N B) two u : Nat)]) ∧ PMo w' S p N (o + 4) B ∧ Fr S w2 w' := by rw [hw2]; exact ks
    have y1 : (seK (rdB N B) two u 1 != 0) = true := by rw [bne_iff_ne]; exact c1
    generalize seK (rdB N B) two u 1 = K at *
    generalize slN (rdB N B) two u = n at *
    have HH : Hid (RX w2 w.heap.size 35 (encF zF) ∧ ¬ S w.heap.size ∧ Kp w w2) := ⟨X1, hS, k2⟩
    clear h1 hS X1 e1 e2 e3 e4 e5 c1 ht hu ho h k2
    go_enter Try.func62, Try.ntmps62
    go_wp2_with fail
    rw [← hw2]
    with_reducible refine ks.mono ?_
    rintro e w3 ⟨rfl, M3, F3⟩
    go_wp2_with fail
    obtain ⟨w4, hw4⟩ : ∃ w4, w4 = (w3.alloc (.cells #[.int .i64 0, .int .u64 0, .bool false, .bool false, .bool false, .bool false, .bool false, .bool false] 33)).alloc (.cells #[.int .i64 2, .int .i64 K, .int .i64 (-1), .int .u64 (u : Int), .bool false] 35) := ⟨_, rfl⟩
    have k4 : Kp w3 w4 := by rw [hw4]; exact ((Kp.refl w3).alloc _).alloc _
    have B3 : RX w4 w.heap.size 35 (encF zF) := (HH.out.1.fr F3 HH.out.2.1).kp k4
    have C4 : RX w4 (w3.heap.size + 1) 35 (encF ⟨2, K, -1, u, false⟩) := by
      rw [hw4]
      have := RX.made (w3.alloc (.cells #[.int .i64 0, .int .u64 0, .bool false, .bool false, .bool false, .bool false, .bool false, .bool false] 33)) 35 (encF ⟨2, K, -1, u, false⟩)
      rw [show (w3.alloc (.cells #[.int .i64 0, .int .u64 0, .bool false, .bool false, .bool false, .bool false, .bool false, .bool false] 33)).heap.size = w3.heap.size + 1 by simp] at this
      exact this
    have HE : Hid (RX w4 w.heap.size 35 (encF zF) ∧ PMo w4 S p N (o + 4) B ∧ Fr S w w4 ∧ ¬ S w.heap.size) := ⟨B3, M3.kp k4, ((HH.out.2.2.fr S).trans F3).trans (k4.fr S), HH.out.2.1⟩
    rw [← hw4]
    have b0 := B3.cell (j := 0) rfl; have b1 := B3.cell (j := 1) rfl; have b2 := B3.cell (j := 2) rfl; have b3 := B3.cell (j := 3) rfl; have b4 := B3.cell (j := 4) rfl; have fb := B3.fz
    have c0 : w4.cell? ⟨w3.heap.size + 1, 0, none⟩ = some (.int .i64 2) := C4.cell (j := 0) rfl
    have c1 : w4.cell? ⟨w3.heap.size + 1, 1, none⟩ = some (.int .i64 K) := C4.cell (j := 1) rfl
    have c2 : w4.cell? ⟨w3.heap.size + 1, 2, none⟩ = some (.int .i64 (-1)) := C4.cell (j := 2) rfl
    have c3 : w4.cell? ⟨w3.heap.size + 1, 3, none⟩ = some (.int .u64 (u : Int)) := C4.cell (j := 3) rfl
    have c4 : w4.cell? ⟨w3.heap.size + 1, 4, none⟩ = some (.bool false) := C4.cell (j := 4) rfl
    clear HH hw4 k4 B3 C4 M3 F3 ks hw2
    go_region
    all_goals
      go_wp2
      rw [← putR_five]
      have R1 := HE.out.1.put (U := encF ⟨2, K, -1, u, false⟩) rfl
      have F1 := putR_fr w4 w.heap.size 0 (encF ⟨2, K, -1, u, false⟩)
      change bodyPost _ _ _ _ _ (putR _ _ _ (encF ⟨2, K, -1, u, false⟩)).drew
      replace R1 := R1.kp (Kp.refl _).drew
      replace F1 := F1.trans ((Kp.refl _).drew.fr _)
      exact bodyPost_ret (res_ef rfl rfl R1) rfl ⟨rfl, (HE.out.2.1.fr F1 (fun i hi e => HE.out.2.2.2 (e ▸ hi))).le (by omega), HE.out.2.2.1.trans2 F1 (fun i hi e => by omega)⟩

end Go.Proofs.Ytclcickhgoiooaa
