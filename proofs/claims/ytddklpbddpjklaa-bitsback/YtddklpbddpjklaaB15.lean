/- BitsBytes: the walk. -/
import Derived.Test.YtddklpbddpjklaaB14
namespace Go.Proofs.Ytddklpbddpjklaa
open Go.RowKit

theorem NSK.at {w w' : World} {na : Option Addr} {m : Nat} {f : Nat → Int} (N : NSK .u8 w na m f) (k : Kp w w') (n cap : Nat) (hn : n ≤ m) :
    (convert 22 9 (.slice na n cap)).run Try.prog w' = .ok (.string (strOf (fb f) n)) w' := string_in w' na m n cap f (N.kp k) hn

set_option maxHeartbeats 8000000 in
set_option maxRecDepth 100000 in
theorem bytes_some (na : Option Addr) (m cap n p s v : Nat) (f : Nat → Int) (w : World) (N : NSK .u8 w na m f) (hm : m ≤ cap) (hn : n ≤ 200) (hnm : n ≤ m) (hs : s ≤ 8) (hs1 : 1 ≤ s) (hp : p + s ≤ n) (hc : chk n p s = 0) (hv : v < 18446744073709551616)
    (C0 : Calls Try.prog 9 #[.slice na m cap] w fun e w' => ∃ g cap', e = .returned (.slice (some ⟨g, 0, none⟩) n cap') ∧ OP w' w.heap.size g (n + 1) cap' (upd (fb f) n 165) ∧ Kp w w') :
    Calls Try.prog 3 #[.slice na m cap, .int .i64 (p : Int), .int .i64 (s : Int), .int .u64 (v : Int)] w fun e w' => e = .returned (.bool true) ∧ Kp w w' := by
  have mixed : Try.prog.follows .mixedOrders = true := by kernel_rfl
  have NN : Aside (NSK .u8 w na m f) := N
  clear N
  go_enter Try.func3, Try.ntmps3
  go_wp2_with fail
  with_reducible refine C0.mono ?_
  rintro e w1 ⟨g, cap1, rfl, O1, K1⟩
  have HO1 : Aside (OP w1 w.heap.size g (n + 1) cap1 (upd (fb f) n 165)) := O1
  have HK1 : Aside (Kp w w1) := K1
  have z1 := O1.facts
  have z2 : (n : Int) + 1 ≤ cap1 := by omega
  have B1 : BS w1 g 0 n (upd (fb f) n 165) := O1.bs.less (by omega)
  have c1 := get_some g n cap1 p s _ w1 B1 (by omega) (by omega) hs hs1 hp hc
  have c2 := rget_some g n cap1 p s _ w1 B1 (by omega) hs hp hc
  have c3 := put_some g n cap1 p s v _ w1 B1 (by omega) hs hp hv hc
  have c4 := fun w2 (k : Kp w1 w2) => rput_some g n cap1 p s v _ w2 (B1.kp k) (by omega) hs hp hv hc
  have C4 : Aside (∀ w2 (k : Kp w1 w2), Calls Try.prog 13 #[.slice (some ⟨g, 0, none⟩) n cap1, .int .i64 (p : Int), .int .i64 (s : Int), .int .u64 (v : Int)] w2 fun e w' => ∃ g' cap', e = .returned (.tuple #[.slice (some ⟨g', 0, none⟩) n cap', .int .i64 0]) ∧ OP w' w2.heap.size g' n cap' (putF (upd (fb f) n 165) p s v) ∧ Kp w2 w') := c4
  clear C0 O1 K1 c4 B1 hc
  generalize numb (upd (fb f) n 165) p s = x at *
  go_wp2_with fail
  with_reducible refine c1.mono ?_
  rintro e w1 ⟨rfl, rfl⟩
  clear c1
  go_wp2_with fail
  with_reducible refine c2.mono ?_
  rintro e w1 ⟨rfl, rfl⟩
  clear c2
  go_wp2_with fail
  with_reducible refine c3.mono ?_
  rintro e w2 ⟨g2, cap2, rfl, O2, K2⟩
  clear c3
  have c5 := C4.out w2 K2
  have HO2 : Aside (OP w2 w1.heap.size g2 n cap2 (putF (upd (fb f) n 165) p s v)) := O2
  have HK2 : Aside (Kp w1 w2) := K2
  clear O2 K2 C4
  go_wp2_with fail
  with_reducible refine c5.mono ?_
  rintro e w3 ⟨g3, cap3, rfl, O3, K3⟩
  have q1 := string_any w3 g2 0 n cap2 _ (HO2.out.kp K3).bs.cells
  have q2 := string_any w3 g3 0 n cap3 _ O3.bs.cells
  have HO3 : Aside (OP w3 w1.heap.size g2 n cap2 (putF (upd (fb f) n 165) p s v)) := HO2.out.kp K3
  have HK3 : Aside (Kp w1 w3) := HK2.out.trans K3
  clear c5 O3 K3 HO2 HK2
  generalize strOf (putF (upd (fb f) n 165) p s v) n = st at *
  go_wp2_with fail
  go_loopg [18] n (fun gg v18 wr => ∃ (i : Nat) (F : Nat → Nat), v18 = .int .i64 i ∧ i ≤ n ∧ n - i ≤ gg ∧ Aside (OP wr w1.heap.size g2 n cap2 F) ∧ Aside (Kp w1 wr))
  case atStart => exact ⟨0, _, rfl, by omega, by omega, HO3, HK3⟩
  case round =>
    clear HO3 HK3 q1 q2
    obtain ⟨i, F, rfl, hi, hg, HO, HK⟩ := hrel
    by_cases hlt : i < n
    · have y1 : (i : Int) < n := by omega
      have c2 := HO.out.bs.cell i hlt
      have c3 := HO.out.bs.frz i hlt
      rw [Nat.zero_add] at c2 c3
      have b2 := HO.out.byte i
      have q : bits .xor .u8 IntKind.u8.max (F i : Nat) = ((255 - F i : Nat) : Int) := u8_not (F i) b2
      have A2 : Aside (OP (wr.setCell ⟨g2, i, none⟩ (.int .u8 ((255 - F i : Nat) : Int))) w1.heap.size g2 n cap2 (upd F i (255 - F i))) := HO.out.set i (255 - F i) (by omega)
      have B2 : Aside (Kp w1 (wr.setCell ⟨g2, i, none⟩ (.int .u8 ((255 - F i : Nat) : Int)))) := HK.out.set ⟨g2, i, none⟩ _ HO.out.facts.1
      generalize 255 - F i = d at *
      generalize F i = c at *
      clear HO HK b2
      go_wp2
      go_roundg (n - (i + 1))
      case measure => omega
      case rel => exact ⟨i + 1, _, by go_num, by omega, by omega, A2, B2⟩
    · have e : i = n := by omega
      subst e
      obtain ⟨g4, cap4, W4, r4, K4⟩ := snoc_1 wr w1.heap.size g2 i cap2 F HO.out HK.out.size (by omega)
      have K5 : Aside (Kp w1 W4) := K4 w1 (Nat.le_refl _) HK.out
      clear HO HK K4
      repeat' (first | ((with_reducible refine wp_append_of r4 (.tmp 85) (.tmp 86) ?_ ?_ ?_ ?_ ?_); rfl; rfl; rfl; rfl) | go_values | go_skip | go_guarded | go_step | go_upon | go_back | (simp only []) | (go_values <;> (try go_simp)) | (go_ite <;> go_prune <;> (try go_simp)))
      have k9 : ∀ P : KeptBy W4, Kp w1 P.v := fun P => K5.out.trans P.k
      have o9 : ∀ P : KeptBy W4, OP P.v w.heap.size g (i + 1) cap1 (upd (fb f) i 165) := fun P => HO1.out.kp (k9 P)
      have q1 : ∀ P : KeptBy W4, (convert 22 9 (.slice (some ⟨g, 0, none⟩) i cap1)).run Try.prog P.v = .ok (.string (strOf (fb f) i)) P.v := fun P => by
        have := string_any P.v g 0 i cap1 _ ((o9 P).bs.less (n := i) (by omega)).cells
        rwa [strOf_like (f := upd (fb f) i 165) (g := fb f) (fun j hj => upd_other _ _ _ _ (by omega))] at this
      have q2 : ∀ P : KeptBy W4, (convert 22 9 (.slice na i cap)).run Try.prog P.v = .ok (.string (strOf (fb f) i)) P.v := fun P => NN.out.at (HK1.out.trans (k9 P)) i cap hnm
      have q3 : ∀ P : KeptBy W4, P.v.cell? ⟨g, i, none⟩ = some (.int .u8 165) := fun P => by
        have := (o9 P).bs.cell i (by omega)
        rw [Nat.zero_add, upd_same] at this
        exact this
      have y1 : (i : Int) ≤ cap := by omega
      have y2 : (i : Int) ≤ 200 := by omega
      have HK9 : Aside (Kp w W4) := HK1.out.trans K5.out
      clear k9 o9 K5 NN HO1 HK1
      generalize strOf (fb f) i = st at *
      have ne : Nonempty (KeptBy W4) := KeptBy.some
      refine wp_region_kept mixed (by kernel_rfl) ?_
      repeat (go_big_quiet_step (first | (go_at_call 14; refine Calls.kept_of (told_any _))))
      refine wpQuiet_nil ?_
      intro _ hw'
      obtain ⟨⟨wq, kq⟩, hw''⟩ := hw'
      subst hw''
      go_wp2
      go_ret
      exact ⟨rfl, HK9.out.trans kq⟩

set_option maxHeartbeats 8000000 in
set_option maxRecDepth 100000 in
theorem bytes_none (na : Option Addr) (m cap n : Nat) (p s v r : Int) (f : Nat → Int) (w : World) (N : NSK .u8 w na m f) (hm : m ≤ cap) (hn : n ≤ 200) (hnm : n ≤ m) (h3 : -9223372036854775808 ≤ p) (h4 : p ≤ 9223372036854775807) (hc : chk n p s = r) (hr : r ≠ 0)
    (C0 : Calls Try.prog 9 #[.slice na m cap] w fun e w' => ∃ g cap', e = .returned (.slice (some ⟨g, 0, none⟩) n cap') ∧ OP w' w.heap.size g (n + 1) cap' (upd (fb f) n 165) ∧ Kp w w') :
    Calls Try.prog 3 #[.slice na m cap, .int .i64 p, .int .i64 s, .int .u64 v] w fun e w' => e = .returned (.bool true) ∧ Kp w w' := by
  have mixed : Try.prog.follows .mixedOrders = true := by kernel_rfl
  have NN : Aside (NSK .u8 w na m f) := N
  have c1 := fun a c w => get_none a n c p s r w (by omega) h3 h4 hc hr
  have c2 := fun a c w => rget_none a n c p s r w (by omega) h3 h4 hc hr
  have c3 := fun a c w => put_none a n c p s r v w (by omega) h3 h4 hc hr
  have c4 := fun a c w => rput_none a n c p s r v w (by omega) h3 h4 hc hr
  have s0 := fun w => string_none w 0
  clear N hc hr h3 h4
  go_enter Try.func3, Try.ntmps3
  go_wp2_with fail
  with_reducible refine C0.mono ?_
  rintro e w1 ⟨g, cap1, rfl, O1, K1⟩
  have HO1 : Aside (OP w1 w.heap.size g (n + 1) cap1 (upd (fb f) n 165)) := O1
  have HK1 : Aside (Kp w w1) := K1
  have z1 := O1.facts
  have z2 : (n : Int) + 1 ≤ cap1 := by omega
  clear C0 O1 K1
  go_wp2_with fail
  with_reducible refine (c1 _ _ _).mono ?_
  rintro e w1 ⟨rfl, rfl⟩
  clear c1
  go_wp2_with fail
  with_reducible refine (c2 _ _ _).mono ?_
  rintro e w1 ⟨rfl, rfl⟩
  clear c2
  go_wp2_with fail
  with_reducible refine (c3 _ _ _).mono ?_
  rintro e w1 ⟨rfl, rfl⟩
  clear c3
  go_wp2_with fail
  with_reducible refine (c4 _ _ _).mono ?_
  rintro e w1 ⟨rfl, rfl⟩
  clear c4
  obtain ⟨v4, W4, r4, K4⟩ := snoc_nil w1
  have K5 : Aside (Kp w1 W4) := K4
  clear K4
  go_wp2_with fail
  refine wp_loop_rounds 1 ?_
  rw [rounds_succ]
  repeat' (first | ((with_reducible refine wp_append_of r4 (.tmp 85) (.tmp 86) ?_ ?_ ?_ ?_ ?_); rfl; rfl; rfl; rfl) | go_values | go_skip | go_guarded | go_step | go_upon | go_back | (simp only []) | (go_values <;> (try go_simp)) | (go_ite <;> go_prune <;> (try go_simp)))
  have k9 : ∀ P : KeptBy W4, Kp w1 P.v := fun P => K5.out.trans P.k
  have o9 : ∀ P : KeptBy W4, OP P.v w.heap.size g (n + 1) cap1 (upd (fb f) n 165) := fun P => HO1.out.kp (k9 P)
  have q1 : ∀ P : KeptBy W4, (convert 22 9 (.slice (some ⟨g, 0, none⟩) n cap1)).run Try.prog P.v = .ok (.string (strOf (fb f) n)) P.v := fun P => by
    have := string_any P.v g 0 n cap1 _ ((o9 P).bs.less (n := n) (by omega)).cells
    rwa [strOf_like (f := upd (fb f) n 165) (g := fb f) (fun j hj => upd_other _ _ _ _ (by omega))] at this
  have q2 : ∀ P : KeptBy W4, (convert 22 9 (.slice na n cap)).run Try.prog P.v = .ok (.string (strOf (fb f) n)) P.v := fun P => NN.out.at (HK1.out.trans (k9 P)) n cap hnm
  have q3 : ∀ P : KeptBy W4, P.v.cell? ⟨g, n, none⟩ = some (.int .u8 165) := fun P => by
    have := (o9 P).bs.cell n (by omega)
    rw [Nat.zero_add, upd_same] at this
    exact this
  have y1 : (n : Int) ≤ cap := by omega
  have y2 : (n : Int) ≤ 200 := by omega
  have HK9 : Aside (Kp w W4) := HK1.out.trans K5.out
  clear k9 o9 K5 NN HO1 HK1 s0
  generalize strOf (fb f) n = st at *
  have ne : Nonempty (KeptBy W4) := KeptBy.some
  refine wp_region_kept mixed (by kernel_rfl) ?_
  repeat (go_big_quiet_step (first | (go_at_call 14; refine Calls.kept_of (told_any _))))
  refine wpQuiet_nil ?_
  intro _ hw'
  obtain ⟨⟨wq, kq⟩, hw''⟩ := hw'
  subst hw''
  go_wp2
  go_ret
  exact ⟨rfl, HK9.out.trans kq⟩

theorem bytes_law (na : Option Addr) (m cap : Nat) (f : Nat → Int) (p s v : Int) (w : World) (N : NSK .u8 w na m f) (hm : m ≤ cap ∧ (na = none → cap = 0)) (h2 : m ≤ maxLen) (hp : (Lit.int .i64 p).wf = true) (hv : (Lit.int .u64 v).wf = true) :
    Calls Try.prog 3 #[.slice na m cap, .int .i64 p, .int .i64 s, .int .u64 v] w fun e w' => e = .returned (.bool true) ∧ Kp w w' := by
  have h1 := wf_int hp
  have h3 := wf_word hv
  obtain ⟨n, n1, n2, C0⟩ := few_any w na m cap f N hm.1 hm.2 (by simpa [maxLen] using h2)
  by_cases c : chk n p s = 0
  · have h := chk_zero c
    obtain ⟨p, rfl⟩ : ∃ k : Nat, p = k := ⟨p.toNat, by omega⟩
    obtain ⟨s, rfl⟩ : ∃ k : Nat, s = k := ⟨s.toNat, by omega⟩
    obtain ⟨v, rfl⟩ : ∃ k : Nat, v = k := ⟨v.toNat, by omega⟩
    exact bytes_some na m cap n p s v f w N hm.1 n1 n2 (by omega) (by omega) (by omega) c (by omega) C0
  · exact bytes_none na m cap n p s v _ f w N hm.1 n1 n2 h1.1 h1.2 rfl c C0

end Go.Proofs.Ytddklpbddpjklaa
