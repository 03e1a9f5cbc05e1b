/- slices.symMergeCmpFunc: the general case, and the whole by its size. -/
import Derived.Test.YtpiekhiamdknjaaM4
import Derived.Test.YtpiekhiamdknjaaM5
import Derived.Test.YtpiekhiamdknjaaM6
import Derived.Deep.DeepCutAuto
namespace Go.Proofs.Ytpiekhiamdknjaa
open Go.RowKit Go.Sort Go.Shelf Go.Lib

/-- Elements of two parts, each of the left one ahead of each of the right one by place. -/
def Crs (a m b : Nat) (d : Array Nat) : Prop := ∀ p q, a ≤ p → p < m → m ≤ q → q < b → d[p]! < d[q]!

/-- What a merge of fewer than K places gives. -/
def SymC (g : Nat) (cb : Array Value) (enc : Nat → Value) (cf : Nat → Nat → Int) (blk off : Nat) (d0 : Array Nat) (w0 : World) (cap K : Nat) : Prop :=
  ∀ (a m b : Nat) (d : Array Nat) (w : World), b - a < K → a < m → m < b → b ≤ d0.size → d.size = d0.size → SW enc w0 blk off d w → SortedIn (T (ltOf cf)) a m d → SortedIn (T (ltOf cf)) m b d → Crs a m b d →
    Calls Try.prog 35 #[.slice (some ⟨blk, off, none⟩) d0.size cap, .int .i64 a, .int .i64 m, .int .i64 b, .func (.func g) #[] cb] w fun e w' => e = .returned (.tuple #[]) ∧ ∃ d', SW enc w0 blk off d' w' ∧ PermIn a b d d' ∧ SortedIn (T (ltOf cf)) a b d'

/-- Between which two places the search goes. -/
structure Sr (a m b mid s0 r0 : Nat) : Prop where
  l1 : a ≤ s0
  l2 : s0 ≤ r0
  l3 : r0 ≤ m
  l4 : r0 ≤ mid
  l5 : mid + m ≤ b + s0
  l6 : s0 = a ∨ s0 + b = mid + m
  l7 : r0 = mid ∨ r0 = m

set_option maxHeartbeats 16000000 in
set_option maxRecDepth 1000000 in
theorem sym3a {g : Nat} {cb : Array Value} {enc : Nat → Value} {cf : Nat → Nat → Int} {blk off : Nat} {d0 : Array Nat} {w0 : World} (M : MC g cb enc cf blk off d0 w0) (cap K a m b : Nat) (d : Array Nat) (w : World) (IH : SymC g cb enc cf blk off d0 w0 cap K)
    (hK : b - a < K + 1) (ham : a + 1 < m) (hmb : m + 1 < b) (hb : b ≤ d0.size) (hs : d.size = d0.size) (S : SW enc w0 blk off d w) (hL : SortedIn (T (ltOf cf)) a m d) (hR : SortedIn (T (ltOf cf)) m b d) (hC : Crs a m b d) (hmm : (a + b) / 2 < m) :
    Calls Try.prog 35 #[.slice (some ⟨blk, off, none⟩) d0.size cap, .int .i64 a, .int .i64 m, .int .i64 b, .func (.func g) #[] cb] w fun e w' => e = .returned (.tuple #[]) ∧ ∃ d', SW enc w0 blk off d' w' ∧ PermIn a b d d' ∧ SortedIn (T (ltOf cf)) a b d' := by
  have mixed : Try.prog.follows .mixedOrders = true := by kernel_rfl
  have eg := M.eg
  have R := M.row
  have hsz : d0.size < 1000 := M.small
  have HC : Aside _ := M.cmp
  have HT : Aside (SWO (T (ltOf cf))) := T_swo M.swo
  have S0 : Aside (SW enc w0 blk off d w) := S
  have X1 : Aside (SortedIn (T (ltOf cf)) a m d) := hL
  have X2 : Aside (SortedIn (T (ltOf cf)) m b d) := hR
  have X3 : Aside (Crs a m b d) := hC
  have XI : Aside (SymC g cb enc cf blk off d0 w0 cap K) := IH
  have HS : Hid (d.size = d0.size) := hs
  obtain ⟨mid, hmid⟩ : ∃ mid, mid = (a + b) / 2 := ⟨_, rfl⟩
  have emid : ((a : Int) + (b : Int)) / 2 = (mid : Int) := by omega
  obtain ⟨nn, hnn⟩ : ∃ nn, nn = mid + m := ⟨_, rfl⟩
  have enn : (mid : Int) + (m : Int) = (nn : Int) := by omega
  have HM : Hid (mid = (a + b) / 2) := hmid
  have HN : Hid (nn = mid + m) := hnn
  clear S hL hR hC hs IH M hmid hnn
  have ymm : (mid : Int) < (m : Int) := by have := HM.out; omega
  obtain ⟨s0, hs00⟩ : ∃ s0, s0 = nn - b := ⟨_, rfl⟩
  have es0 : (nn : Int) - (b : Int) = (s0 : Int) := by have := HM.out; have := HN.out; omega
  have SR : Aside (Sr a m b mid s0 mid) := by
    have := HM.out; have := HN.out
    exact ⟨by omega, by omega, by omega, by omega, by omega, .inr (by omega), .inl rfl⟩
  clear hs00
  obtain ⟨pp, hpp⟩ : ∃ pp, pp + 1 = nn := ⟨nn - 1, Nat.sub_add_cancel (by rw [HN.out]; exact Nat.le_trans (show 1 ≤ m from Nat.le_trans (Nat.succ_le_succ (Nat.zero_le _)) ham) (Nat.le_add_left _ _))⟩
  have epp : (nn : Int) - 1 = (pp : Int) := by omega
  have HP : Hid (pp + 1 = nn) := hpp
  have bpp : (pp : Int) ≤ 4000 := by have := HM.out; have := HN.out; omega
  clear hpp
  have n0 : ¬ ((m : Int) - (a : Int) = 1) := by omega
  have n1 : ¬ ((b : Int) - (m : Int) = 1) := by omega
  have b0 : ((m : Int) - (a : Int) == 1) = false := beq_eq_false_iff_ne.2 n0
  have b1 : ((b : Int) - (m : Int) == 1) = false := beq_eq_false_iff_ne.2 n1
  have BS0 : Hid ((s0 : Int) ≤ 4000) := by have := HM.out; have := HN.out; show _ ≤ _; omega
  have bs0 : (s0 : Int) ≤ 4000 := BS0.out
  go_enter Try.func35, Try.ntmps35
  go_wp2_with fail
  clear epp n0 n1 b0 b1 emid enn hmm ymm es0
  go_loopg [20, 21] (mid - s0) (fun g1 v20 v21 wr => ∃ (s r : Nat), v20 = .int .i64 s ∧ v21 = .int .i64 r ∧ s0 ≤ s ∧ s ≤ r ∧ r ≤ mid ∧ r - s ≤ g1 ∧ Aside (SW enc w0 blk off d wr) ∧ Aside (s = s0 ∨ ltOf cf d[pp - (s - 1)]! d[s - 1]! = false) ∧ Aside (r = mid ∨ ltOf cf d[pp - r]! d[r]! = true))
  case atStart => exact ⟨s0, mid, rfl, rfl, Nat.le_refl _, SR.out.l2, Nat.le_refl _, Nat.le_refl _, S0, (show Aside _ from Or.inl rfl), (show Aside _ from Or.inl rfl)⟩
  case round =>
    clear S0
    obtain ⟨s, r, rfl, rfl, hs0, hsr, hr0, hg, S1, L, Rr⟩ := hrel
    have hsd := HS.out
    have hmid := HM.out
    have hnn := HN.out
    have hpp := HP.out
    have q1 := SR.out.l1
    have q2 := SR.out.l2
    have q3 := SR.out.l3
    have q4 := SR.out.l4
    have q5 := SR.out.l5
    by_cases hlt : s < r
    · have y1 : (s : Int) < (r : Int) := by omega
      obtain ⟨c, hc0⟩ : ∃ c, c = (s + r) / 2 := ⟨_, rfl⟩
      obtain ⟨q, hq⟩ : ∃ q, q = pp - c := ⟨_, rfl⟩
      have e1 : ((s : Int) + (r : Int)) / 2 = (c : Int) := by omega
      have e2 : (c : Int).toNat = c := by omega
      have e3 : (pp : Int) - (c : Int) = (q : Int) := by omega
      have e4 : (q : Int).toNat = q := by omega
      have b1 : (c : Int) < (d0.size : Int) := by omega
      have b2 : (q : Int) < (d0.size : Int) := by omega
      have b3 : s ≤ c := by omega
      have b4 : c < r := by omega
      have b5 : (s : Int) ≤ 1000 := by omega
      have b6 : (r : Int) ≤ 1000 := by omega
      obtain ⟨x, hx⟩ : ∃ x, x = d[q]! := ⟨_, rfl⟩
      obtain ⟨y, hy⟩ : ∃ y, y = d[c]! := ⟨_, rfl⟩
      have l1 := S1.out.cl R hsd q (by omega)
      have l2 := S1.out.cl R hsd c (by omega)
      rw [← hx] at l1
      rw [← hy] at l2
      have hc := S1.out.cmp HC.out hsd x y
      have hcut : ltOf cf d[pp - c]! d[c]! = decide (cf x y < 0) := by rw [hx, hy, hq]; rfl
      have CUT : Hid _ := hcut
      have e5 : Hid (IntKind.i64.wrap (q : Int) = (q : Int)) := by show _ = _; rw [IntKind.wrap_i64]; omega
      have e6 : Hid (IntKind.i64.wrap ((pp : Int) - (c : Int)) = (q : Int)) := by show _ = _; rw [IntKind.wrap_i64]; omega
      clear hx hy hc0 hq hcut hsd hmid hnn hpp q1 q2 q3 q4 q5
      by_cases hv : cf x y < 0
      · have hd : decide (cf x y < 0) = true := decide_eq_true hv
        have R2 : Aside (c = mid ∨ ltOf cf d[pp - c]! d[c]! = true) := Or.inr (by rw [CUT.out]; exact hd)
        go_wp2_with fail
        have z5 := e5.out
        have z6 := e6.out
        go_quiet_grown (first | (go_at_fn g; refine Calls.grown_of (hc _ _)))
        clear z5 z6 e5 e6
        have S2 : Aside (SW enc w0 blk off d (grow (wr.drewN nq) osq)) := S1.out.grown nq osq
        clear l1 l2 hc S1
        generalize grow (wr.drewN nq) osq = w2 at S2 ⊢
        go_wp2
        go_roundg (c - s)
        case measure => omega
        case rel => exact ⟨s, c, rfl, rfl, hs0, b3, by omega, Nat.le_refl _, S2, L, R2⟩
      · have hd : decide (cf x y < 0) = false := decide_eq_false hv
        have L2 : Aside (c + 1 = s0 ∨ ltOf cf d[pp - (c + 1 - 1)]! d[c + 1 - 1]! = false) := Or.inr (by rw [Nat.add_sub_cancel, CUT.out]; exact hd)
        go_wp2_with fail
        have z5 := e5.out
        have z6 := e6.out
        go_quiet_grown (first | (go_at_fn g; refine Calls.grown_of (hc _ _)))
        clear z5 z6 e5 e6
        have S2 : Aside (SW enc w0 blk off d (grow (wr.drewN nq) osq)) := S1.out.grown nq osq
        clear l1 l2 hc S1
        generalize grow (wr.drewN nq) osq = w2 at S2 ⊢
        go_wp2
        go_roundg (r - (c + 1))
        case measure => omega
        case rel => exact ⟨c + 1, r, by go_num, rfl, by omega, by omega, hr0, Nat.le_refl _, S2, L2, Rr⟩
    · have y1 : ¬ (s : Int) < (r : Int) := by omega
      obtain rfl : s = r := by omega
      obtain ⟨e, he⟩ : ∃ e, e = nn - s := ⟨_, rfl⟩
      have ee : (nn : Int) - (s : Int) = (e : Int) := by omega
      have q6 := SR.out.l6
      have q7 := SR.out.l7
      have B1 : Aside (a < s → e < b → T (ltOf cf) d[e]! d[s - 1]! = false) := fun z1 z2 => by
        have k := L.out.resolve_left (by omega)
        rw [T_of_gt (Nat.le_of_lt (X3.out (s - 1) e (by omega) (by omega) (by omega) z2))]
        rw [show pp - (s - 1) = e by omega] at k
        exact k
      have B2 : Aside (s < m → m < e → T (ltOf cf) d[e - 1]! d[s]! = true) := fun z1 z2 => by
        have k := Rr.out.resolve_left (by omega)
        rw [T_of_gt (Nat.le_of_lt (X3.out s (e - 1) (by omega) (by omega) (by omega) (by omega)))]
        rw [show pp - s = e - 1 by omega] at k
        exact k
      have E1 : Hid (a ≤ s ∧ s ≤ m ∧ m ≤ e ∧ e ≤ b ∧ s + e = mid + m ∧ s ≤ mid ∧ mid ≤ e ∧ a < mid ∧ mid < b) := ⟨by omega, by omega, by omega, by omega, by omega, by omega, by omega, by omega, by omega⟩
      clear L Rr he hsd hmid hnn hpp q1 q2 q3 q4 q5 q6 q7 hs0 hsr hr0 hg SR HM HN HP
      obtain ⟨g1, g2, g3, g4, g5, g6, g7, g8, g9⟩ := E1.out
      have hsd := HS.out
      by_cases p1 : s = m
      · by_cases p2 : m < mid
        · have y2 : ¬ (s : Int) < (m : Int) := by omega
          have y4 : (a : Int) < (s : Int) := by omega
          have y5 : (s : Int) < (mid : Int) := by omega
          have y6 : ¬ (mid : Int) < (e : Int) := by omega
          have TN : Aside (Tn d d a s m e b mid) := Tn.none g1 g2 g3 g4 g5 g6 g7 (by omega)
          have W1 : Hid (mid - a < K ∧ a < s ∧ s < mid ∧ mid ≤ d0.size) := ⟨by omega, by omega, by omega, by omega⟩
          have W2 : Hid (¬ (mid < e ∧ e < b)) := by show ¬ _; omega
          have we0 : (e : Int) ≤ 1000 := by omega
          clear g1 g2 g3 g4 g5 g6 g7 g8 g9 hsd p1 p2
          have ra := XI.out a s mid d wr W1.out.1 W1.out.2.1 W1.out.2.2.1 W1.out.2.2.2 HS.out S1.out (TN.out.s1 X1.out) (TN.out.s2 X2.out) (TN.out.x1 X3.out)
          go_wp2_with (go_at_call 35; with_reducible refine ra.mono ?_; rintro e2 w2 ⟨rfl, d2, hW2, hP2, hT2⟩)
          go_end0
          exact ⟨rfl, d2, hW2, TN.out.join (by rw [HS.out]; exact hb) (TN.out.sep HT.out X1.out X2.out B1.out B2.out) hP2 hT2 (permIn_refl d2 mid b) (TN.out.half2 X1.out X2.out hP2 W2.out)⟩
        · have y2 : ¬ (s : Int) < (m : Int) := by omega
          have y4 : (a : Int) < (s : Int) := by omega
          have y5 : ¬ (s : Int) < (mid : Int) := by omega
          have y6 : ¬ (mid : Int) < (e : Int) := by omega
          have TN : Aside (Tn d d a s m e b mid) := Tn.none g1 g2 g3 g4 g5 g6 g7 (by omega)
          have W1 : Hid (¬ (a < s ∧ s < mid)) := by show ¬ _; omega
          have W2 : Hid (¬ (mid < e ∧ e < b)) := by show ¬ _; omega
          have we0 : (e : Int) ≤ 1000 := by omega
          clear g1 g2 g3 g4 g5 g6 g7 g8 g9 hsd p1 p2
          go_wp2_with fail
          go_end0
          exact ⟨rfl, d, S1.out, TN.out.join (by rw [HS.out]; exact hb) (TN.out.sep HT.out X1.out X2.out B1.out B2.out) (permIn_refl d a mid) (TN.out.half1 X1.out X2.out W1.out) (permIn_refl d mid b) (TN.out.half2 X1.out X2.out (permIn_refl d a mid) W2.out)⟩
      · by_cases p2 : m < e
        · by_cases p3 : a < s
          · by_cases p4 : e < b
            · have y2 : (s : Int) < (m : Int) := by omega
              have y3 : (m : Int) < (e : Int) := by omega
              have y4 : (a : Int) < (s : Int) := by omega
              have y5 : (s : Int) < (mid : Int) := by omega
              have y6 : (mid : Int) < (e : Int) := by omega
              have y7 : (e : Int) < (b : Int) := by omega
              have rc := rotate_any enc (.func (.func g) #[] cb) blk off cap s m e d0 d w0 wr R hsd S1.out (by omega) (by omega) (by omega) (by omega)
              rw [hsd] at rc
              have TT : Aside (∀ d1, PermIn s e d d1 → (∀ p, s ≤ p → p < e → d1[p]! = rotT d s m e p) → Tn d d1 a s m e b mid) := fun d1 hP0 hT0 => Tn.rot g1 (by omega) (by omega) g4 g5 g6 g7 (by omega) hP0 hT0
              have W1 : Hid (mid - a < K ∧ a < s ∧ s < mid ∧ mid ≤ d0.size) := ⟨by omega, by omega, by omega, by omega⟩
              have W2 : Hid (b - mid < K ∧ mid < e ∧ e < b) := ⟨by omega, by omega, by omega⟩
              have we0 : (e : Int) ≤ 1000 := by omega
              clear g1 g2 g3 g4 g5 g6 g7 g8 g9 hsd p1 p2 p3 p4
              go_wp2_with (go_at_call 41; with_reducible refine rc.mono ?_; rintro e1 w1 ⟨rfl, d1, hW1, hP1, hT1⟩)
              have TN := TT.out d1 hP1 hT1
              have hz1 : d1.size = d0.size := hP1.1.trans HS.out
              have ra := XI.out a s mid d1 w1 W1.out.1 W1.out.2.1 W1.out.2.2.1 W1.out.2.2.2 hz1 hW1 (TN.s1 X1.out) (TN.s2 X2.out) (TN.x1 X3.out)
              have TNA : Aside (Tn d d1 a s m e b mid) := TN
              have HZ1 : Hid (d1.size = d0.size) := hz1
              clear TN hz1 hP1 hT1
              go_wp2_with (go_at_call 35; with_reducible refine ra.mono ?_; rintro e2 w2 ⟨rfl, d2, hW2, hP2, hT2⟩)
              obtain ⟨t3, t4, t6⟩ := TNA.out.after X1.out X2.out X3.out hP2
              have rb := XI.out mid e b d2 w2 W2.out.1 W2.out.2.1 W2.out.2.2 hb (hP2.1.trans HZ1.out) hW2 t3 t4 t6
              clear t3 t4 t6
              go_wp2_with (go_at_call 35; with_reducible refine rb.mono ?_; rintro e3 w3 ⟨rfl, d3, hW3, hP3, hT3⟩)
              go_end0
              exact ⟨rfl, d3, hW3, TNA.out.join (by rw [HS.out]; exact hb) (TNA.out.sep HT.out X1.out X2.out B1.out B2.out) hP2 hT2 hP3 hT3⟩
            · have y2 : (s : Int) < (m : Int) := by omega
              have y3 : (m : Int) < (e : Int) := by omega
              have y4 : (a : Int) < (s : Int) := by omega
              have y5 : (s : Int) < (mid : Int) := by omega
              have y6 : (mid : Int) < (e : Int) := by omega
              have y7 : ¬ (e : Int) < (b : Int) := by omega
              have rc := rotate_any enc (.func (.func g) #[] cb) blk off cap s m e d0 d w0 wr R hsd S1.out (by omega) (by omega) (by omega) (by omega)
              rw [hsd] at rc
              have TT : Aside (∀ d1, PermIn s e d d1 → (∀ p, s ≤ p → p < e → d1[p]! = rotT d s m e p) → Tn d d1 a s m e b mid) := fun d1 hP0 hT0 => Tn.rot g1 (by omega) (by omega) g4 g5 g6 g7 (by omega) hP0 hT0
              have W1 : Hid (mid - a < K ∧ a < s ∧ s < mid ∧ mid ≤ d0.size) := ⟨by omega, by omega, by omega, by omega⟩
              have W2 : Hid (¬ (mid < e ∧ e < b)) := by show ¬ _; omega
              have we0 : (e : Int) ≤ 1000 := by omega
              clear g1 g2 g3 g4 g5 g6 g7 g8 g9 hsd p1 p2 p3 p4
              go_wp2_with (go_at_call 41; with_reducible refine rc.mono ?_; rintro e1 w1 ⟨rfl, d1, hW1, hP1, hT1⟩)
              have TN := TT.out d1 hP1 hT1
              have hz1 : d1.size = d0.size := hP1.1.trans HS.out
              have ra := XI.out a s mid d1 w1 W1.out.1 W1.out.2.1 W1.out.2.2.1 W1.out.2.2.2 hz1 hW1 (TN.s1 X1.out) (TN.s2 X2.out) (TN.x1 X3.out)
              have TNA : Aside (Tn d d1 a s m e b mid) := TN
              have HZ1 : Hid (d1.size = d0.size) := hz1
              clear TN hz1 hP1 hT1
              go_wp2_with (go_at_call 35; with_reducible refine ra.mono ?_; rintro e2 w2 ⟨rfl, d2, hW2, hP2, hT2⟩)
              go_end0
              exact ⟨rfl, d2, hW2, TNA.out.join (by rw [HS.out]; exact hb) (TNA.out.sep HT.out X1.out X2.out B1.out B2.out) hP2 hT2 (permIn_refl d2 mid b) (TNA.out.half2 X1.out X2.out hP2 W2.out)⟩
          · by_cases p4 : e < b
            · have y2 : (s : Int) < (m : Int) := by omega
              have y3 : (m : Int) < (e : Int) := by omega
              have y4 : ¬ (a : Int) < (s : Int) := by omega
              have y6 : (mid : Int) < (e : Int) := by omega
              have y7 : (e : Int) < (b : Int) := by omega
              have rc := rotate_any enc (.func (.func g) #[] cb) blk off cap s m e d0 d w0 wr R hsd S1.out (by omega) (by omega) (by omega) (by omega)
              rw [hsd] at rc
              have TT : Aside (∀ d1, PermIn s e d d1 → (∀ p, s ≤ p → p < e → d1[p]! = rotT d s m e p) → Tn d d1 a s m e b mid) := fun d1 hP0 hT0 => Tn.rot g1 (by omega) (by omega) g4 g5 g6 g7 (by omega) hP0 hT0
              have W1 : Hid (¬ (a < s ∧ s < mid)) := by show ¬ _; omega
              have W2 : Hid (b - mid < K ∧ mid < e ∧ e < b) := ⟨by omega, by omega, by omega⟩
              have we0 : (e : Int) ≤ 1000 := by omega
              clear g1 g2 g3 g4 g5 g6 g7 g8 g9 hsd p1 p2 p3 p4
              go_wp2_with (go_at_call 41; with_reducible refine rc.mono ?_; rintro e1 w1 ⟨rfl, d1, hW1, hP1, hT1⟩)
              have TN := TT.out d1 hP1 hT1
              have hz1 : d1.size = d0.size := hP1.1.trans HS.out
              have TNA : Aside (Tn d d1 a s m e b mid) := TN
              have HZ1 : Hid (d1.size = d0.size) := hz1
              clear TN hz1 hP1 hT1
              obtain ⟨t3, t4, t6⟩ := TNA.out.after X1.out X2.out X3.out (permIn_refl d1 a mid)
              have rb := XI.out mid e b d1 w1 W2.out.1 W2.out.2.1 W2.out.2.2 hb HZ1.out hW1 t3 t4 t6
              clear t3 t4 t6
              go_wp2_with (go_at_call 35; with_reducible refine rb.mono ?_; rintro e3 w3 ⟨rfl, d3, hW3, hP3, hT3⟩)
              go_end0
              exact ⟨rfl, d3, hW3, TNA.out.join (by rw [HS.out]; exact hb) (TNA.out.sep HT.out X1.out X2.out B1.out B2.out) (permIn_refl d1 a mid) (TNA.out.half1 X1.out X2.out W1.out) hP3 hT3⟩
            · have y2 : (s : Int) < (m : Int) := by omega
              have y3 : (m : Int) < (e : Int) := by omega
              have y4 : ¬ (a : Int) < (s : Int) := by omega
              have y6 : (mid : Int) < (e : Int) := by omega
              have y7 : ¬ (e : Int) < (b : Int) := by omega
              have rc := rotate_any enc (.func (.func g) #[] cb) blk off cap s m e d0 d w0 wr R hsd S1.out (by omega) (by omega) (by omega) (by omega)
              rw [hsd] at rc
              have TT : Aside (∀ d1, PermIn s e d d1 → (∀ p, s ≤ p → p < e → d1[p]! = rotT d s m e p) → Tn d d1 a s m e b mid) := fun d1 hP0 hT0 => Tn.rot g1 (by omega) (by omega) g4 g5 g6 g7 (by omega) hP0 hT0
              have W1 : Hid (¬ (a < s ∧ s < mid)) := by show ¬ _; omega
              have W2 : Hid (¬ (mid < e ∧ e < b)) := by show ¬ _; omega
              have we0 : (e : Int) ≤ 1000 := by omega
              clear g1 g2 g3 g4 g5 g6 g7 g8 g9 hsd p1 p2 p3 p4
              go_wp2_with (go_at_call 41; with_reducible refine rc.mono ?_; rintro e1 w1 ⟨rfl, d1, hW1, hP1, hT1⟩)
              have TN := TT.out d1 hP1 hT1
              have hz1 : d1.size = d0.size := hP1.1.trans HS.out
              have TNA : Aside (Tn d d1 a s m e b mid) := TN
              have HZ1 : Hid (d1.size = d0.size) := hz1
              clear TN hz1 hP1 hT1
              go_end0
              exact ⟨rfl, d1, hW1, TNA.out.join (by rw [HS.out]; exact hb) (TNA.out.sep HT.out X1.out X2.out B1.out B2.out) (permIn_refl d1 a mid) (TNA.out.half1 X1.out X2.out W1.out) (permIn_refl d1 mid b) (TNA.out.half2 X1.out X2.out (permIn_refl d1 a mid) W2.out)⟩
        · have y2 : (s : Int) < (m : Int) := by omega
          have y3 : ¬ (m : Int) < (e : Int) := by omega
          have y4 : (a : Int) < (s : Int) := by omega
          have y5 : ¬ (s : Int) < (mid : Int) := by omega
          have y6 : (mid : Int) < (e : Int) := by omega
          have y7 : (e : Int) < (b : Int) := by omega
          have TN : Aside (Tn d d a s m e b mid) := Tn.none g1 g2 g3 g4 g5 g6 g7 (by omega)
          have W1 : Hid (¬ (a < s ∧ s < mid)) := by show ¬ _; omega
          have W2 : Hid (b - mid < K ∧ mid < e ∧ e < b) := ⟨by omega, by omega, by omega⟩
          have we0 : (e : Int) ≤ 1000 := by omega
          clear g1 g2 g3 g4 g5 g6 g7 g8 g9 hsd p1 p2
          obtain ⟨t3, t4, t6⟩ := TN.out.after X1.out X2.out X3.out (permIn_refl d a mid)
          have rb := XI.out mid e b d wr W2.out.1 W2.out.2.1 W2.out.2.2 hb HS.out S1.out t3 t4 t6
          clear t3 t4 t6
          go_wp2_with (go_at_call 35; with_reducible refine rb.mono ?_; rintro e3 w3 ⟨rfl, d3, hW3, hP3, hT3⟩)
          go_end0
          exact ⟨rfl, d3, hW3, TN.out.join (by rw [HS.out]; exact hb) (TN.out.sep HT.out X1.out X2.out B1.out B2.out) (permIn_refl d a mid) (TN.out.half1 X1.out X2.out W1.out) hP3 hT3⟩


end Go.Proofs.Ytpiekhiamdknjaa
