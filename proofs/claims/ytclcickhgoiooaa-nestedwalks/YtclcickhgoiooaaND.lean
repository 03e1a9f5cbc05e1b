/- nested: secondLeaf. -/
import Derived.Test.YtclcickhgoiooaaNC
namespace Go.Proofs.Ytclcickhgoiooaa
open Go.RowKit
set_option maxRecDepth 10000

def stV (s : SV) : Value := .agg #[.int .i64 (s.l : Int), .int .u64 (s.p : Int), .int .u64 (s.u : Int), .int .i64 s.d.k, .int .u64 (s.d.a : Int), .bool s.d.r, .bool s.d.q, .bool s.d.x, .int .i64 s.d.f]
def zS : SV := ⟨0, 0, 0, ⟨0, 0, false, false, false, 0⟩⟩
/-- The kind of the second stage's fault, how many words were read, its leaf. -/
def slK (rd : Nat → Nat × Bool) (two u : Nat) : Int := if 1099511627776 ≤ u then 3 else if (goW 2 u rd 4 0 two).2.1 = -1 then 4 else (goW 2 u rd 4 0 two).2.1
def slN (rd : Nat → Nat × Bool) (two u : Nat) : Nat := if 1099511627776 ≤ u then 0 else (goW 2 u rd 4 0 two).1.length
def slL (rd : Nat → Nat × Bool) (two u : Nat) : SV := if 1099511627776 ≤ u then zS else if (goW 2 u rd 4 0 two).2.1 = 0 then (goW 2 u rd 4 0 two).1.getLastD zS else zS

theorem putR_nine (w : World) (b : Nat) (c0 c1 c2 c3 c4 c5 c6 c7 c8 : Value) : putR w b 0 [c0, c1, c2, c3, c4, c5, c6, c7, c8] = (((((((((w.setCell ⟨b, 0, none⟩ c0).setCell ⟨b, 1, none⟩ c1).setCell ⟨b, 2, none⟩ c2).setCell ⟨b, 3, none⟩ c3).setCell ⟨b, 4, none⟩ c4).setCell ⟨b, 5, none⟩ c5).setCell ⟨b, 6, none⟩ c6).setCell ⟨b, 7, none⟩ c7).setCell ⟨b, 8, none⟩ c8) := rfl
theorem load_step {w : World} {b : Nat} (s : SV) (h : RX w b 80 (encS s)) : (loadVar 80 ⟨b, 0, none⟩).run Try.prog w = .ok (stV s) w :=
  run_loadVar_row w b _ 80 _ _ _ h Try.underlying80 rfl (by kernel_rfl)
theorem res_s3 {w : World} {b : Nat} {fn : Func} {c d e : Tmp} {tmps : Array Value} {s : SV} (hf : fn.results = #[.cell c 80, .tmp d, .tmp e]) (hc : tmps.getD c undef = .pointer (some ⟨b, 0, none⟩)) (B : RX w b 80 (encS s)) :
    (results fn tmps).run Try.prog w = .ok (.tuple #[stV s, tmps.getD d undef, tmps.getD e undef]) w := by
  have hc' : tmps[c]?.getD undef = .pointer (some ⟨b, 0, none⟩) := by simpa using hc
  simp [results, hf, hc', asAddr, load_step s B]

set_option maxHeartbeats 4000000 in
theorem secondLeaf_any {w : World} {S : Nat → Prop} {p N o : Nat} {B : Nat → Nat → Nat} (h : PMo w S p N o B) (two u : Nat) (ht : two < 18446744073709551616) (hu : u < 18446744073709551616) (ho : o < 3000000000000000000) :
    Calls Try.prog 60 #[.pointer (some ⟨p, 0, none⟩), .int .u64 (two : Int), .int .u64 (u : Int)] w fun e w' => e = .returned (.tuple #[stV (slL (rdB N B) two u), .int .i64 (slK (rdB N B) two u), .int .i64 (slN (rdB N B) two u : Nat)]) ∧ PMo w' S p N (o + 4) B ∧ Fr S w w' := by
  obtain ⟨w2, hw2⟩ : ∃ w2, w2 = (w.alloc (.cells #[.pointer (some ⟨p, 0, none⟩)] 24)).alloc (.cells #[.int .i64 0, .int .u64 0, .int .u64 0, .int .i64 0, .int .u64 0, .bool false, .bool false, .bool false, .int .i64 0] 80) := ⟨_, rfl⟩
  have k2 : Kp w w2 := by rw [hw2]; exact ((Kp.refl w).alloc _).alloc _
  have z2 : w2.heap.size = w.heap.size + 2 := by rw [hw2]; simp
  have X2 : RX w2 w.heap.size 24 [.pointer (some ⟨p, 0, none⟩)] := by rw [hw2]; exact (RX.made w _ _).kp ((Kp.refl _).alloc _)
  have D2 : RX w2 (w.heap.size + 1) 80 (encS zS) := by
    rw [hw2]
    have := RX.made (w.alloc (.cells #[.pointer (some ⟨p, 0, none⟩)] 24)) 80 (encS zS)
    rw [show (w.alloc (.cells #[.pointer (some ⟨p, 0, none⟩)] 24)).heap.size = w.heap.size + 1 by simp] at this
    exact this
  have h2 := h.kp k2
  have hc : ¬ S w.heap.size := fun c => by have := h.own _ c; omega
  have hd : ¬ S (w.heap.size + 1) := fun c => by have := h.own _ c; omega
  by_cases c : 1099511627776 ≤ u
  · have y1 : (1099511627776 : Int) ≤ (u : Int) := by omega
    have d1 : decide ((1099511627776 : Int) ≤ (u : Int)) = true := decide_eq_true y1
    have d2 : decide (1099511627776 ≤ u) = true := decide_eq_true c
    rw [show slL (rdB N B) two u = zS from if_pos c, show slK (rdB N B) two u = 3 from if_pos c, show slN (rdB N B) two u = 0 from if_pos c]
    have HE : Hid (PMo w2 S p N (o + 4) B ∧ Fr S w w2 ∧ RX w2 (w.heap.size + 1) 80 (encS zS)) := ⟨h2.le (by omega), k2.fr S, D2⟩
    clear k2 z2 X2 D2 h2 hc hd h ho ht hu y1 c
    go_enter Try.func60, Try.ntmps60
    go_wp2_with fail
    rw [← hw2]
    exact bodyPost_ret (res_s3 (s := zS) rfl rfl HE.out.2.2) rfl ⟨rfl, HE.out.1, HE.out.2.1⟩
  · have d1 : decide ((1099511627776 : Int) ≤ (u : Int)) = false := decide_eq_false (by omega)
    have d2 : decide (1099511627776 ≤ u) = false := decide_eq_false c
    rw [show slL (rdB N B) two u = if (goW 2 u (rdB N B) 4 0 two).2.1 = 0 then (goW 2 u (rdB N B) 4 0 two).1.getLastD zS else zS from if_neg c, show slK (rdB N B) two u = if (goW 2 u (rdB N B) 4 0 two).2.1 = -1 then 4 else (goW 2 u (rdB N B) 4 0 two).2.1 from if_neg c, show slN (rdB N B) two u = (goW 2 u (rdB N B) 4 0 two).1.length from if_neg c]
    have kw := walk_any (readM h2 X2 hc (by omega)) 2 (by decide) two u 0 ht hu (by decide) w2 ⟨h2, X2, Nat.le_refl _⟩
    have g1 := goW_len 2 u (rdB N B) 4 0 two
    have g2 := goW_reads 2 u (rdB N B) 4 0 two
    have g3 := @goW_leaf 2 u (rdB N B) two
    obtain ⟨L, hL⟩ : ∃ L, (goW 2 u (rdB N B) 4 0 two).1 = L := ⟨_, rfl⟩
    obtain ⟨k, hk⟩ : ∃ k, (goW 2 u (rdB N B) 4 0 two).2.1 = k := ⟨_, rfl⟩
    rw [hL, hk] at g3
    rw [hL] at g1
    rw [hL, hk] at kw
    rw [hL, hk]
    have HH : Hid (Kp w w2 ∧ RX w2 (w.heap.size + 1) 80 (encS zS) ∧ ¬ S (w.heap.size + 1) ∧ w2.heap.size = w.heap.size + 2 ∧ (∀ i, S i → i < w.heap.size)) := ⟨k2, D2, hd, z2, h.own⟩
    clear k2 z2 X2 D2 h2 hc hd h ho ht hu c
    by_cases k0 : k = 0
    · subst k0
      obtain ⟨I, x, rfl, i3, hl, _⟩ := g3 rfl
      rw [if_pos rfl, if_neg (by decide), List.length_append, List.length_singleton, show (I ++ [x]).getLastD zS = x from by simp]
      rw [List.length_append, List.length_singleton] at kw
      obtain ⟨n, hn⟩ : ∃ n, I.length = n := ⟨_, rfl⟩
      rw [hn] at kw hl i3 ⊢
      go_enter Try.func60, Try.ntmps60
      go_wp2_with fail
      rw [← hw2]
      with_reducible refine kw.mono ?_
      rintro e w3 ⟨rfl, L3, I3, F3⟩
      obtain ⟨k2, D2, hd, z2, hS⟩ := HH.out
      have D3 := D2.fr F3 hd
      have HE : Hid (PMo w3 S p N (o + 4) B ∧ Fr S w w3) := ⟨I3.mem.le (by omega), (k2.fr S).trans F3⟩
      clear HH k2 D2 kw I3 F3 hw2 hL hk d1 d2 g2 z2 hS
      have cc : ∀ (j : Nat) (y : Value), (encS x)[j]? = some y → w3.cell? ⟨w2.heap.size, n * 9 + j, none⟩ = some y := fun j y hy => L3.cell (by rw [← hn]; simp) hy
      obtain ⟨xl, xp, xu, xk, xa, xr, xq, xx, xf⟩ := x
      replace hl : xl = n := hl
      subst hl
      have x0 := cc 0 _ rfl
      have x1 := cc 1 _ rfl
      have x2 := cc 2 _ rfl
      have x3 := cc 3 _ rfl
      have x4 := cc 4 _ rfl
      have x5 := cc 5 _ rfl
      have x6 := cc 6 _ rfl
      have x7 := cc 7 _ rfl
      have x8 := cc 8 _ rfl
      simp only [Nat.add_zero] at x0
      have fz := D3.fz
      have e0 := D3.cell (j := 0) rfl; have e1 := D3.cell (j := 1) rfl; have e2 := D3.cell (j := 2) rfl; have e3 := D3.cell (j := 3) rfl; have e4 := D3.cell (j := 4) rfl; have e5 := D3.cell (j := 5) rfl; have e6 := D3.cell (j := 6) rfl; have e7 := D3.cell (j := 7) rfl; have e8 := D3.cell (j := 8) rfl
      have HD : Hid (RX w3 (w.heap.size + 1) 80 (encS zS)) := D3
      clear cc L3 g3 g1 D3
      have z1 : (xl : Int) ≤ 3 := by omega
      clear hn i3
      go_wp2
      rw [← putR_nine, ← putR_nine]
      have R1 : RX (putR (putR w3 (w.heap.size + 1) 0 (encS ⟨xl, xp, xu, ⟨xk, xa, xr, xq, xx, xf⟩⟩)) (w.heap.size + 1) 0 (encS ⟨xl, xp, xu, ⟨xk, xa, xr, xq, xx, xf⟩⟩)) (w.heap.size + 1) 80 (encS ⟨xl, xp, xu, ⟨xk, xa, xr, xq, xx, xf⟩⟩) := (HD.out.put (U := encS ⟨xl, xp, xu, ⟨xk, xa, xr, xq, xx, xf⟩⟩) rfl).put (U := encS ⟨xl, xp, xu, ⟨xk, xa, xr, xq, xx, xf⟩⟩) rfl
      have F1 : Fr (· = w.heap.size + 1) w3 (putR (putR w3 (w.heap.size + 1) 0 (encS ⟨xl, xp, xu, ⟨xk, xa, xr, xq, xx, xf⟩⟩)) (w.heap.size + 1) 0 (encS ⟨xl, xp, xu, ⟨xk, xa, xr, xq, xx, xf⟩⟩)) := (putR_fr _ _ _ _).trans (putR_fr _ _ _ _)
      exact bodyPost_ret (res_s3 rfl rfl R1) rfl ⟨rfl, HE.out.1.fr F1 (fun i hi e => hd (e ▸ hi)), HE.out.2.trans2 F1 (fun i hi e => by omega)⟩
    · rw [if_neg k0]
      have b0 : (k == 0) = false := by rw [beq_eq_false_iff_ne]; exact k0
      by_cases k1 : k = -1
      · subst k1
        rw [if_pos rfl]
        clear g3 k0 b0
        go_enter Try.func60, Try.ntmps60
        go_wp2_with fail
        rw [← hw2]
        with_reducible refine kw.mono ?_
        rintro e w3 ⟨rfl, L3, I3, F3⟩
        obtain ⟨k2, D2, hd, z2, hS⟩ := HH.out
        have D3 := D2.fr F3 hd
        have HE : Hid (PMo w3 S p N (o + 4) B ∧ Fr S w w3) := ⟨I3.mem.le (by omega), (k2.fr S).trans F3⟩
        clear HH k2 D2 kw I3 F3 hw2 hL hk d1 d2 g2 z2 hS
        have fz := D3.fz
        have e0 := D3.cell (j := 0) rfl; have e1 := D3.cell (j := 1) rfl; have e2 := D3.cell (j := 2) rfl; have e3 := D3.cell (j := 3) rfl; have e4 := D3.cell (j := 4) rfl; have e5 := D3.cell (j := 5) rfl; have e6 := D3.cell (j := 6) rfl; have e7 := D3.cell (j := 7) rfl; have e8 := D3.cell (j := 8) rfl
        have HD : Hid (RX w3 (w.heap.size + 1) 80 (encS zS)) := D3
        clear L3 g1 D3
        go_wp2
        rw [← putR_nine]
        have R1 : RX (putR w3 (w.heap.size + 1) 0 (encS zS)) (w.heap.size + 1) 80 (encS zS) := HD.out.put (U := encS zS) rfl
        have F1 : Fr (· = w.heap.size + 1) w3 (putR w3 (w.heap.size + 1) 0 (encS zS)) := putR_fr _ _ _ _
        exact bodyPost_ret (res_s3 rfl rfl R1) rfl ⟨rfl, HE.out.1.fr F1 (fun i hi e => hd (e ▸ hi)), HE.out.2.trans2 F1 (fun i hi e => by omega)⟩
      · rw [if_neg k1]
        have b1 : (k == -1) = false := by rw [beq_eq_false_iff_ne]; exact k1
        clear g3 k0 k1
        go_enter Try.func60, Try.ntmps60
        go_wp2_with fail
        rw [← hw2]
        with_reducible refine kw.mono ?_
        rintro e w3 ⟨rfl, L3, I3, F3⟩
        obtain ⟨k2, D2, hd, z2, hS⟩ := HH.out
        have D3 := D2.fr F3 hd
        have HE : Hid (PMo w3 S p N (o + 4) B ∧ Fr S w w3) := ⟨I3.mem.le (by omega), (k2.fr S).trans F3⟩
        clear HH k2 D2 kw I3 F3 hw2 hL hk d1 d2 g2 z2 hS
        have fz := D3.fz
        have e0 := D3.cell (j := 0) rfl; have e1 := D3.cell (j := 1) rfl; have e2 := D3.cell (j := 2) rfl; have e3 := D3.cell (j := 3) rfl; have e4 := D3.cell (j := 4) rfl; have e5 := D3.cell (j := 5) rfl; have e6 := D3.cell (j := 6) rfl; have e7 := D3.cell (j := 7) rfl; have e8 := D3.cell (j := 8) rfl
        have HD : Hid (RX w3 (w.heap.size + 1) 80 (encS zS)) := D3
        clear L3 g1 D3
        go_wp2
        rw [← putR_nine]
        have R1 : RX (putR w3 (w.heap.size + 1) 0 (encS zS)) (w.heap.size + 1) 80 (encS zS) := HD.out.put (U := encS zS) rfl
        have F1 : Fr (· = w.heap.size + 1) w3 (putR w3 (w.heap.size + 1) 0 (encS zS)) := putR_fr _ _ _ _
        exact bodyPost_ret (res_s3 rfl rfl R1) rfl ⟨rfl, HE.out.1.fr F1 (fun i hi e => hd (e ▸ hi)), HE.out.2.trans2 F1 (fun i hi e => by omega)⟩

end Go.Proofs.Ytclcickhgoiooaa
