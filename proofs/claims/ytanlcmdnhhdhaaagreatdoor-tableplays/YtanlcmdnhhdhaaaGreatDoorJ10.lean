/- Joined: U2, U3, UP. -/
import Derived.Test.YtanlcmdnhhdhaaaGreatDoorU1
import Derived.RegionTactic
import Derived.BigRegion
import Derived.Deep.RegionHeld3
import Derived.Test.YtanlcmdnhhdhaaaGreatDoorJ00
/- buddy.set: bits in words. -/
namespace Go.Proofs.YtanlcmdnhhdhaaaGreatDoor
open Go.RowKit

theorem shr_bit (u b : Nat) (hu : u < 18446744073709551616) : bits .and .u64 ((u : Int) / 2 ^ b) 1 = (if u.testBit b then 1 else 0 : Int) := by
  have h1 : u / 2 ^ b < 18446744073709551616 := Nat.lt_of_le_of_lt (Nat.div_le_self _ _) hu
  have h2 := u64_and_nat (u / 2 ^ b) 1 h1 (by omega)
  have e : ((u / 2 ^ b : Nat) : Int) = (u : Int) / 2 ^ b := by push_cast; rfl
  rw [e] at h2
  rw [show ((1 : Nat) : Int) = 1 from rfl] at h2
  rw [h2, Nat.and_one_is_mod, Nat.testBit_eq_decide_div_mod_eq]
  by_cases c : u / 2 ^ b % 2 = 1
  · rw [c]; simp
  · rw [show u / 2 ^ b % 2 = 0 by omega]; simp
set_option maxHeartbeats 1000000 in
theorem shas_walk (p a b q r L u : Nat) (x : Nat) (bit : Bool) (w : World) (c0 : w.cell? ⟨p, a, none⟩ = some (.slice (some ⟨b, 0, none⟩) L L)) (e1 : (x : Int).tdiv 64 = (q : Int)) (e2 : (x : Int).tmod 64 = (r : Int)) (h1 : (q : Int) < L) (hr : (r : Int) < 64)
    (cw : w.cell? ⟨b, q, none⟩ = some (.int .u64 (u : Int))) (hb : bits .and .u64 ((u : Int) / 2 ^ r) 1 = (if bit then 1 else 0 : Int)) (hL : (L : Int) ≤ 20000) :
    Calls Tryz.prog 139 #[.pointer (some ⟨p, a, none⟩), .int .i64 (x : Int)] w fun e w' => e = .returned (.bool bit) ∧ w' = w := by
  cases bit
  · have hb' : bits .and .u64 ((u : Int) / 2 ^ r) 1 = 0 := hb
    clear hb
    go_enter Tryz.func139, Tryz.ntmps139
    go_wp2
    go_ret
    exact ⟨rfl, rfl⟩
  · have hb' : bits .and .u64 ((u : Int) / 2 ^ r) 1 = 1 := hb
    clear hb
    go_enter Tryz.func139, Tryz.ntmps139
    go_wp2
    go_ret
    exact ⟨rfl, rfl⟩
set_option maxHeartbeats 1000000 in
theorem shas_out (p a b q L : Nat) (x : Nat) (w : World) (c0 : w.cell? ⟨p, a, none⟩ = some (.slice (some ⟨b, 0, none⟩) L L)) (e1 : (x : Int).tdiv 64 = (q : Int)) (h1 : ¬ (q : Int) < L) (hL : (q : Int) ≤ 2000000) :
    Calls Tryz.prog 139 #[.pointer (some ⟨p, a, none⟩), .int .i64 (x : Int)] w fun e w' => e = .returned (.bool false) ∧ w' = w := by
  go_enter Tryz.func139, Tryz.ntmps139
  go_wp2
  go_ret
  exact ⟨rfl, rfl⟩
set_option maxHeartbeats 1000000 in
theorem sadd_walk (p a b q r L u u' v sz lo : Nat) (x : Nat) (w : World) (c0 : w.cell? ⟨p, a, none⟩ = some (.slice (some ⟨b, 0, none⟩) L L)) (c1 : w.cell? ⟨p, a + 1, none⟩ = some (.int .i64 (sz : Int))) (c2 : w.cell? ⟨p, a + 2, none⟩ = some (.int .i64 (lo : Int)))
    (f1 : w.frozen? ⟨p, a + 1, none⟩ = false) (f2 : w.frozen? ⟨p, a + 2, none⟩ = false) (fw : w.frozen? ⟨b, q, none⟩ = false) (ne : b ≠ p)
    (e1 : (x : Int).tdiv 64 = (q : Int)) (e2 : (x : Int).tmod 64 = (r : Int)) (h1 : (q : Int) < L) (hr : (r : Int) < 64)
    (cw : w.cell? ⟨b, q, none⟩ = some (.int .u64 (u : Int))) (hv : IntKind.u64.wrap (2 ^ r) = (v : Int)) (hb : bits .or .u64 (u : Int) (v : Int) = (u' : Int)) (hL : (L : Int) ≤ 20000) (hs : (sz : Int) ≤ 2000000) :
    Calls Tryz.prog 123 #[.pointer (some ⟨p, a, none⟩), .int .i64 (x : Int)] w fun e w' => e = .returned (.tuple #[]) ∧ w' = (((w.setCell ⟨b, q, none⟩ (.int .u64 (u' : Int))).setCell ⟨p, a + 1, none⟩ (.int .i64 ((sz : Int) + 1))).setCell ⟨p, a + 2, none⟩ (.int .i64 ((min lo q : Nat) : Int))).drew := by
  go_enter Tryz.func123, Tryz.ntmps123
  go_wp2_with fail
  go_region
  go_wp2
  · go_end0
    exact ⟨rfl, by rw [Nat.min_eq_right (by omega)]⟩
  · go_end0
    exact ⟨rfl, by rw [Nat.min_eq_left (by omega)]⟩
set_option maxHeartbeats 1000000 in
theorem srem_walk (p a b q r L u u' v sz : Nat) (x : Nat) (w : World) (c0 : w.cell? ⟨p, a, none⟩ = some (.slice (some ⟨b, 0, none⟩) L L)) (c1 : w.cell? ⟨p, a + 1, none⟩ = some (.int .i64 (sz : Int)))
    (f1 : w.frozen? ⟨p, a + 1, none⟩ = false) (fw : w.frozen? ⟨b, q, none⟩ = false) (ne : b ≠ p)
    (e1 : (x : Int).tdiv 64 = (q : Int)) (e2 : (x : Int).tmod 64 = (r : Int)) (h1 : (q : Int) < L) (hr : (r : Int) < 64)
    (cw : w.cell? ⟨b, q, none⟩ = some (.int .u64 (u : Int))) (hv : IntKind.u64.wrap (2 ^ r) = (v : Int)) (hb : bits .andNot .u64 (u : Int) (v : Int) = (u' : Int)) (hL : (L : Int) ≤ 20000) (hs : (sz : Int) ≤ 2000000) :
    Calls Tryz.prog 145 #[.pointer (some ⟨p, a, none⟩), .int .i64 (x : Int)] w fun e w' => e = .returned (.tuple #[]) ∧ w' = ((w.setCell ⟨b, q, none⟩ (.int .u64 (u' : Int))).setCell ⟨p, a + 1, none⟩ (.int .i64 ((sz : Int) - 1))).drew := by
  go_enter Tryz.func145, Tryz.ntmps145
  go_wp2_with fail
  go_region
  go_wp2
  go_end0
  exact ⟨rfl, rfl⟩
theorem sempty_walk (p a sz : Nat) (w : World) (c1 : w.cell? ⟨p, a + 1, none⟩ = some (.int .i64 (sz : Int))) :
    Calls Tryz.prog 144 #[.pointer (some ⟨p, a, none⟩)] w fun e w' => e = .returned (.bool (decide (sz = 0))) ∧ w' = w := by
  obtain ⟨b, hb, hc⟩ : ∃ b, ((sz : Int) == 0) = b ∧ decide (sz = 0) = b := ⟨_, rfl, by
    by_cases c : sz = 0
    · subst c; rfl
    · rw [decide_eq_false c]; simp; omega⟩
  rw [hc]
  clear hc
  go_enter Tryz.func144, Tryz.ntmps144
  go_wp2
  go_ret
  exact ⟨rfl, rfl⟩

/-! ### least -/
/-- w' is w but for the cells of C. -/
structure Ch (C : Addr → Prop) (S : Nat → Prop) (w w' : World) : Prop where
  cell : ∀ ad, ¬ C ad → w'.cell? ad = w.cell? ad
  frz : ∀ ad, w'.frozen? ad = w.frozen? ad
  fr : Fr S w w'
  size : w'.heap.size = w.heap.size
theorem Ch.refl (C : Addr → Prop) (S : Nat → Prop) (w : World) : Ch C S w w := ⟨fun _ _ => rfl, fun _ => rfl, Fr.refl _ _, rfl⟩
theorem Ch.drew {C : Addr → Prop} {S : Nat → Prop} {w w' : World} (h : Ch C S w w') : Ch C S w w'.drew := ⟨fun ad hc => h.cell ad hc, fun ad => h.frz ad, h.fr.drew, h.size⟩
theorem Ch.drewN {C : Addr → Prop} {S : Nat → Prop} {w w' : World} (n : Nat) (h : Ch C S w w') : Ch C S w (w'.drewN n) := ⟨fun ad hc => h.cell ad hc, fun ad => h.frz ad, h.fr.trans (((Kp.refl w').drewN n).fr S), h.size⟩
theorem Ch.set {C : Addr → Prop} {S : Nat → Prop} {w w' : World} (h : Ch C S w w') (ad : Addr) (v : Value) (hC : C ad) (hS : S ad.block) : Ch C S w (w'.setCell ad v) :=
  ⟨fun x hx => by rw [World.cell?_setCell_other _ _ _ _ (fun e => hx (by rw [← e]; exact hC))]; exact h.cell x hx, fun x => by rw [World.frozen?_setCell]; exact h.frz x, h.fr.set ad v hS, by rw [World.size_setCell]; exact h.size⟩
set_option maxHeartbeats 2000000 in
theorem sleast_walk (p a b L lo m x t : Nat) (W : Nat → Nat) (w : World) (S : Nat → Prop) (hS : S p) (c0 : w.cell? ⟨p, a, none⟩ = some (.slice (some ⟨b, 0, none⟩) L L)) (c2 : w.cell? ⟨p, a + 2, none⟩ = some (.int .i64 (lo : Int)))
    (f2 : w.frozen? ⟨p, a + 2, none⟩ = false) (ne : b ≠ p) (cw : ∀ q, q < L → w.cell? ⟨b, q, none⟩ = some (.int .u64 (W q : Nat)))
    (h1 : lo ≤ m) (h2 : m < L) (hz : ∀ q, lo ≤ q → q < m → W q = 0) (hm : ((W m : Int) == 0) = false) (hx : (m : Int) * 64 + t = x) (ht : (t : Int) < 64)
    (ct : ∀ w', Fr S w w' → Calls Tryz.prog 141 #[.int .u64 (W m : Nat)] w' fun e w'' => e = .returned (.int .i64 (t : Int)) ∧ w'' = w') (hL : (L : Int) ≤ 20000) :
    Calls Tryz.prog 126 #[.pointer (some ⟨p, a, none⟩)] w fun e w' => e = .returned (.int .i64 (x : Int)) ∧ Ch (· = ⟨p, a + 2, none⟩) S w w' ∧ w'.cell? ⟨p, a + 2, none⟩ = some (.int .i64 (m : Int)) := by
  have CW : Aside (∀ q, q < L → w.cell? ⟨b, q, none⟩ = some (.int .u64 (W q : Nat))) := cw
  have HZ : Aside (∀ q, lo ≤ q → q < m → W q = 0) := hz
  have HM : Hid (((W m : Int) == 0) = false) := hm
  have CT : Aside (∀ w', Fr S w w' → Calls Tryz.prog 141 #[.int .u64 (W m : Nat)] w' fun e w'' => e = .returned (.int .i64 (t : Int)) ∧ w'' = w') := ct
  have HC0 : Hid (w.cell? ⟨p, a, none⟩ = some (.slice (some ⟨b, 0, none⟩) L L)) := c0
  have HC2 : Hid (w.cell? ⟨p, a + 2, none⟩ = some (.int .i64 (lo : Int))) := c2
  have HF2 : Hid (w.frozen? ⟨p, a + 2, none⟩ = false) := f2
  have HX : Hid ((m : Int) * 64 + t = x) := hx
  clear cw hz ct c0 c2 f2 hm hx
  have y1 : (m : Int) < L := by omega
  go_enter Tryz.func126, Tryz.ntmps126
  go_wp2_with fail
  go_loopg [] (m + 1) (fun g wr => ∃ (k : Nat), k ≤ m ∧ lo ≤ k ∧ m + 1 - k ≤ g ∧ Hid (Ch (· = ⟨p, a + 2, none⟩) S w wr) ∧ Hid (wr.cell? ⟨p, a + 2, none⟩ = some (.int .i64 (k : Int))))
  case atStart => exact ⟨lo, by omega, by omega, by omega, Ch.refl _ _ _, HC2⟩
  case round =>
    obtain ⟨k, hk1, hk2, hg, HCh, HK⟩ := hrel
    have c0 : wr.cell? ⟨p, a, none⟩ = some (.slice (some ⟨b, 0, none⟩) L L) := (HCh.out.cell _ (by intro e; simp only [Addr.mk.injEq] at e; omega)).trans HC0.out
    have c2 := HK.out
    have f2 : wr.frozen? ⟨p, a + 2, none⟩ = false := (HCh.out.frz _).trans HF2.out
    have cw : wr.cell? ⟨b, k, none⟩ = some (.int .u64 (W k : Nat)) := (HCh.out.cell _ (by intro e; simp only [Addr.mk.injEq] at e; exact ne e.1)).trans (CW.out k (by omega))
    have y2 : (k : Int) ≤ m := by omega
    by_cases e : k < m
    · rw [HZ.out k hk2 e] at cw
      have C2 : Hid (Ch (· = ⟨p, a + 2, none⟩) S w ((wr.drew).setCell ⟨p, a + 2, none⟩ (.int .i64 ((k : Int) + 1))) ∧ ((wr.drew).setCell ⟨p, a + 2, none⟩ (.int .i64 ((k : Int) + 1))).cell? ⟨p, a + 2, none⟩ = some (.int .i64 ((k : Int) + 1))) := ⟨HCh.out.drew.set _ _ rfl hS, World.cell?_setCell_same _ _ _ c2⟩
      go_wp2_with fail
      go_region
      go_wp2
      go_roundg (m + 1 - (k + 1))
      case measure => omega
      case rel => exact ⟨k + 1, by omega, by omega, by omega, C2.out.1, C2.out.2⟩
    · have ek : k = m := by omega
      subst ek
      have hm := HM.out
      have hx := HX.out
      have c3 := fun n => CT.out _ (HCh.out.drewN n).fr
      generalize W k = u at *
      go_wp2_with fail
      go_region
      go_wp2_with fail
      go_quiet (first | (go_at_call 141; go_must (exact (c3 _).mono fun e w' h => ⟨h.1, _, h.2⟩)))
      go_wp2
      go_ret
      first | exact ⟨rfl, HCh.out.drewN _, HK.out⟩ | exact ⟨rfl, HCh.out.drew.drewN _, HK.out⟩
end Go.Proofs.YtanlcmdnhhdhaaaGreatDoor

/- buddy.Buddy: walks of its small methods. -/
namespace Go.Proofs.YtanlcmdnhhdhaaaGreatDoor
open Go.RowKit

set_option maxHeartbeats 2000000 in
theorem badd_walk (p o f i fr s : Nat) (w : World) (P : World → Prop) (ho : (o : Int) < 10) (hi : (f : Int) / 2 ^ o = (i : Int)) (hs : wrap64 (2 ^ o) = (s : Int)) (hf : (fr : Int) ≤ 2000000) (hs2 : (s : Int) ≤ 1000)
    (cA : Calls Tryz.prog 123 #[.pointer (some ⟨p, 3 + o * 3, none⟩), .int .i64 (i : Int)] w.drew fun e w' => e = .returned (.tuple #[]) ∧ P w')
    (hP : ∀ w', P w' → w'.cell? ⟨p, 2, none⟩ = some (.int .i64 (fr : Int)) ∧ w'.frozen? ⟨p, 2, none⟩ = false) :
    Calls Tryz.prog 103 #[.pointer (some ⟨p, 0, none⟩), .int .i64 (f : Int), .int .i64 (o : Int)] w fun e w' => e = .returned (.tuple #[]) ∧ ∃ w1, P w1 ∧ w' = (w1.setCell ⟨p, 2, none⟩ (.int .i64 ((fr : Int) + s))).drew := by
  have HP : Aside (∀ w', P w' → w'.cell? ⟨p, 2, none⟩ = some (.int .i64 (fr : Int)) ∧ w'.frozen? ⟨p, 2, none⟩ = false) := hP
  clear hP
  go_enter Tryz.func103, Tryz.ntmps103
  go_wp2_with fail
  go_region_held3 (fun _ => True) (first | trivial | go_keep) (first | (go_at_call 123; go_must (with_reducible refine cA.mono ?_); rintro e w1 ⟨rfl, H1⟩))
  obtain ⟨c2, f2⟩ := HP.out w1 H1
  go_wp2_with fail
  go_region
  go_wp2
  go_end0
  exact ⟨rfl, w1, H1, rfl⟩
set_option maxHeartbeats 2000000 in
theorem brem_walk (p o f i fr s : Nat) (w : World) (P : World → Prop) (ho : (o : Int) < 10) (hi : (f : Int) / 2 ^ o = (i : Int)) (hs : wrap64 (2 ^ o) = (s : Int)) (hf : (fr : Int) ≤ 2000000) (hs2 : (s : Int) ≤ 1000)
    (cA : Calls Tryz.prog 145 #[.pointer (some ⟨p, 3 + o * 3, none⟩), .int .i64 (i : Int)] w.drew fun e w' => e = .returned (.tuple #[]) ∧ P w')
    (hP : ∀ w', P w' → w'.cell? ⟨p, 2, none⟩ = some (.int .i64 (fr : Int)) ∧ w'.frozen? ⟨p, 2, none⟩ = false) :
    Calls Tryz.prog 127 #[.pointer (some ⟨p, 0, none⟩), .int .i64 (f : Int), .int .i64 (o : Int)] w fun e w' => e = .returned (.tuple #[]) ∧ ∃ w1, P w1 ∧ w' = (w1.setCell ⟨p, 2, none⟩ (.int .i64 ((fr : Int) - s))).drew := by
  have HP : Aside (∀ w', P w' → w'.cell? ⟨p, 2, none⟩ = some (.int .i64 (fr : Int)) ∧ w'.frozen? ⟨p, 2, none⟩ = false) := hP
  clear hP
  go_enter Tryz.func127, Tryz.ntmps127
  go_wp2_with fail
  go_region_held3 (fun _ => True) (first | trivial | go_keep) (first | (go_at_call 145; go_must (with_reducible refine cA.mono ?_); rintro e w1 ⟨rfl, H1⟩))
  obtain ⟨c2, f2⟩ := HP.out w1 H1
  go_wp2_with fail
  go_region
  go_wp2
  go_end0
  exact ⟨rfl, w1, H1, rfl⟩
set_option maxHeartbeats 2000000 in
theorem fitting_walk (p o r : Nat) (E : Nat → Bool) (w : World) (cE : ∀ k, k < 10 → Calls Tryz.prog 144 #[.pointer (some ⟨p, 3 + k * 3, none⟩)] w fun e w' => e = .returned (.bool (E k)) ∧ w' = w)
    (h1 : o ≤ r) (h2 : r ≤ 10) (h3 : ∀ k, o ≤ k → k < r → E k = true) (h4 : r < 10 → E r = false) :
    Calls Tryz.prog 125 #[.pointer (some ⟨p, 0, none⟩), .int .i64 (o : Int)] w fun e w' => e = .returned (.int .i64 (r : Int)) ∧ w' = w := by
  have CE : Aside (∀ k, k < 10 → Calls Tryz.prog 144 #[.pointer (some ⟨p, 3 + k * 3, none⟩)] w fun e w' => e = .returned (.bool (E k)) ∧ w' = w) := cE
  have H3 : Aside (∀ k, o ≤ k → k < r → E k = true) := h3
  have H4 : Hid (r < 10 → E r = false) := h4
  clear cE h3 h4
  go_enter Tryz.func125, Tryz.ntmps125
  go_wp2_with fail
  go_loopg [1] (r + 1) (fun g v1 wr => ∃ k : Nat, v1 = .int .i64 (k : Int) ∧ o ≤ k ∧ k ≤ r ∧ r + 1 - k ≤ g ∧ wr = w)
  case atStart => exact ⟨o, rfl, by omega, by omega, by omega, rfl⟩
  case round =>
    obtain ⟨k, rfl, k1, k2, hg, rfl⟩ := hrel
    by_cases e : k < r
    · have y1 : (k : Int) < 10 := by omega
      have c1 := CE.out k (by omega)
      rw [H3.out k k1 e] at c1
      go_wp2_with (first | (go_at_call 144; go_must (with_reducible refine c1.mono ?_); rintro e w' ⟨rfl, rfl⟩))
      go_roundg (r + 1 - (k + 1))
      case measure => omega
      case rel => exact ⟨k + 1, by go_num, by omega, by omega, by omega, rfl⟩
    · have ek : k = r := by omega
      subst ek
      by_cases e10 : k < 10
      · have y1 : (k : Int) < 10 := by omega
        have c1 := CE.out k e10
        rw [H4.out e10] at c1
        go_wp2_with (first | (go_at_call 144; go_must (with_reducible refine c1.mono ?_); rintro e w' ⟨rfl, rfl⟩))
        go_ret
        exact ⟨rfl, rfl⟩
      · have e' : k = 10 := by omega
        subst e'
        go_wp2
        go_ret
        exact ⟨rfl, rfl⟩
set_option maxHeartbeats 2000000 in
theorem around_walk (p f r : Nat) (B : Nat → Bool) (w : World) (cH : ∀ k w', k < 10 → Dr w w' → Calls Tryz.prog 139 #[.pointer (some ⟨p, 3 + k * 3, none⟩), .int .i64 ((f / 2 ^ k : Nat) : Int)] w' fun e w'' => e = .returned (.bool (B k)) ∧ w'' = w')
    (h2 : r ≤ 10) (h3 : ∀ k, k < r → B k = false) (h4 : r < 10 → B r = true) :
    Calls Tryz.prog 148 #[.pointer (some ⟨p, 0, none⟩), .int .i64 (f : Int)] w fun e w' => e = .returned (.int .i64 (r : Int)) ∧ Dr w w' := by
  have CH : Aside (∀ k w', k < 10 → Dr w w' → Calls Tryz.prog 139 #[.pointer (some ⟨p, 3 + k * 3, none⟩), .int .i64 ((f / 2 ^ k : Nat) : Int)] w' fun e w'' => e = .returned (.bool (B k)) ∧ w'' = w') := cH
  have H3 : Aside (∀ k, k < r → B k = false) := h3
  have H4 : Hid (r < 10 → B r = true) := h4
  clear cH h3 h4
  go_enter Tryz.func148, Tryz.ntmps148
  go_wp2_with fail
  go_loopg [5] (r + 1) (fun g v5 wr => ∃ k : Nat, v5 = .int .i64 (k : Int) ∧ k ≤ r ∧ r + 1 - k ≤ g ∧ Hid (Dr w wr))
  case atStart => exact ⟨0, rfl, by omega, by omega, Dr.refl w⟩
  case round =>
    obtain ⟨k, rfl, k2, hg, HD⟩ := hrel
    have HD2 : Aside (∀ n, Dr w (wr.drewN n)) := fun n => HD.out.trans ⟨n, rfl⟩
    by_cases e10 : k < 10
    · have y1 : (k : Int) < 10 := by omega
      have c1 := fun n => CH.out k (wr.drewN n) e10 (HD2.out n)
      have hi : (f : Int) / 2 ^ k = ((f / 2 ^ k : Nat) : Int) := by push_cast; rfl
      generalize f / 2 ^ k = i at *
      by_cases e : k < r
      · rw [H3.out k e] at c1
        go_wp2_with fail
        have yb : decide ((k : Int) ≤ 9) = true := decide_eq_true (by omega)
        have yc : decide (k ≤ 9) = true := decide_eq_true (by omega)
        go_quiet (first | (go_at_call 139; go_must (exact (c1 _).mono fun e w' h => ⟨h.1, _, h.2⟩)))
        go_wp2
        go_roundg (r + 1 - (k + 1))
        case measure => omega
        case rel => exact ⟨k + 1, by go_num, by omega, by omega, HD2.out _⟩
      · have ek : k = r := by omega
        subst ek
        rw [H4.out e10] at c1
        go_wp2_with fail
        have yb : decide ((k : Int) ≤ 9) = true := decide_eq_true (by omega)
        have yc : decide (k ≤ 9) = true := decide_eq_true (by omega)
        go_quiet (first | (go_at_call 139; go_must (exact (c1 _).mono fun e w' h => ⟨h.1, _, h.2⟩)))
        go_wp2
        go_ret
        exact ⟨rfl, HD2.out _⟩
    · have e' : k = 10 := by omega
      subst e'
      go_wp2_with fail
      go_quiet (fail)
      go_wp2
      go_ret
      exact ⟨by rw [show r = 10 by omega]; rfl, HD2.out _⟩
end Go.Proofs.YtanlcmdnhhdhaaaGreatDoor

/- Runs of free frames: F tells which frames are free; the runs are the greatest that these make. -/
namespace Go.Proofs.YtanlcmdnhhdhaaaGreatDoor

/-! ### blocks: the frames k with k / 2 ^ o = i -/
theorem div_up {o o' k l : Nat} (h : o ≤ o') (e : k / 2 ^ o = l / 2 ^ o) : k / 2 ^ o' = l / 2 ^ o' := by
  have : 2 ^ o' = 2 ^ o * 2 ^ (o' - o) := by rw [← Nat.pow_add]; congr 1; omega
  rw [this, ← Nat.div_div_eq_div_mul, ← Nat.div_div_eq_div_mul, e]
theorem div_par (k o : Nat) : k / 2 ^ (o + 1) = k / 2 ^ o / 2 := by rw [Nat.pow_succ, Nat.div_div_eq_div_mul]
theorem rep (i o : Nat) : i * 2 ^ o / 2 ^ o = i := Nat.mul_div_cancel _ (Nat.two_pow_pos o)
theorem blk_iff (k o i : Nat) : k / 2 ^ o = i ↔ i * 2 ^ o ≤ k ∧ k < i * 2 ^ o + 2 ^ o := by
  have hp := Nat.two_pow_pos o
  constructor
  · rintro rfl
    have := Nat.div_add_mod k (2 ^ o)
    have := Nat.mod_lt k hp
    rw [Nat.mul_comm]
    omega
  · rintro ⟨h1, h2⟩
    refine Nat.le_antisymm ?_ ((Nat.le_div_iff_mul_le hp).2 h1)
    have := (Nat.div_lt_iff_lt_mul hp (x := k) (y := i + 1)).2 (by rw [Nat.add_mul]; omega)
    omega

/-- All frames of the block (o, i) are free. -/
def Al (F : Nat → Bool) (o i : Nat) : Prop := ∀ k, k / 2 ^ o = i → F k = true
def al (F : Nat → Bool) : Nat → Nat → Bool
  | 0, i => F i
  | o + 1, i => al F o (2 * i) && al F o (2 * i + 1)
theorem al_iff (F : Nat → Bool) : ∀ o i, al F o i = true ↔ Al F o i
  | 0, i => by
    unfold al Al
    simp
  | o + 1, i => by
    unfold al
    rw [Bool.and_eq_true, al_iff F o, al_iff F o]
    unfold Al
    constructor
    · rintro ⟨h1, h2⟩ k hk
      rw [div_par] at hk
      rcases (by omega : k / 2 ^ o = 2 * i ∨ k / 2 ^ o = 2 * i + 1) with h | h
      · exact h1 k h
      · exact h2 k h
    · intro h
      exact ⟨fun k hk => h k (by rw [div_par]; omega), fun k hk => h k (by rw [div_par]; omega)⟩
/-- (o, i) is a free run. -/
def Rn (F : Nat → Bool) (o i : Nat) : Prop := Al F o i ∧ (o = 9 ∨ ¬ Al F (o + 1) (i / 2))
def rn (F : Nat → Bool) (o i : Nat) : Bool := al F o i && (decide (o = 9) || !al F (o + 1) (i / 2))
theorem rn_iff (F : Nat → Bool) (o i : Nat) : rn F o i = true ↔ Rn F o i := by
  unfold rn Rn
  rw [Bool.and_eq_true, Bool.or_eq_true, al_iff, decide_eq_true_iff, Bool.not_eq_true', ← Bool.not_eq_true, al_iff]
theorem rn_false (F : Nat → Bool) (o i : Nat) : rn F o i = false ↔ ¬ Rn F o i := by rw [← Bool.not_eq_true, rn_iff]

theorem sub_blk {o o' j i k : Nat} (h : o ≤ o') (h1 : k / 2 ^ o = j) (h2 : k / 2 ^ o' = i) : ∀ l, l / 2 ^ o = j → l / 2 ^ o' = i := fun l hl => by
  rw [← h2]; exact div_up h (by rw [hl, h1])
theorem Al.sub {F : Nat → Bool} {o o' j i k : Nat} (hA : Al F o' i) (h : o ≤ o') (h1 : k / 2 ^ o = j) (h2 : k / 2 ^ o' = i) : Al F o j := fun l hl => hA l (sub_blk h h1 h2 l hl)
/-- The run that a frame lies in. -/
theorem run_of {F : Nat → Bool} {f : Nat} (h : F f = true) : ∃ o, o ≤ 9 ∧ Rn F o (f / 2 ^ o) := by
  have step : ∀ d, d ≤ 9 → Al F (9 - d) (f / 2 ^ (9 - d)) → ∃ o, o ≤ 9 ∧ Rn F o (f / 2 ^ o) := by
    intro d
    induction d with
    | zero => intro _ h; exact ⟨9, Nat.le_refl _, h, .inl rfl⟩
    | succ d ih =>
      intro hd h
      by_cases c : Al F (9 - (d + 1) + 1) (f / 2 ^ (9 - (d + 1)) / 2)
      · have e : 9 - (d + 1) + 1 = 9 - d := by omega
        rw [← div_par, e] at c
        exact ih (by omega) c
      · exact ⟨9 - (d + 1), by omega, h, .inr c⟩
  exact step 9 (Nat.le_refl _) (fun k hk => by simp at hk; subst hk; exact h)
theorem run_one {F : Nat → Bool} {f o o' : Nat} (ho : o ≤ 9) (ho' : o' ≤ 9) (h : Rn F o (f / 2 ^ o)) (h' : Rn F o' (f / 2 ^ o')) : o = o' := by
  have key : ∀ a b, a < b → b ≤ 9 → Rn F a (f / 2 ^ a) → Rn F b (f / 2 ^ b) → False := fun a b hab hb h h' => by
    rcases h.2 with h9 | h2
    · omega
    · apply h2
      rw [← div_par]
      exact h'.1.sub (by omega) rfl rfl
  rcases Nat.lt_trichotomy o o' with c | c | c
  · exact absurd (key _ _ c ho' h h') id
  · exact c
  · exact absurd (key _ _ c ho h' h) id

/-! ### a block more, a block less -/
def addF (F : Nat → Bool) (o j : Nat) : Nat → Bool := fun k => F k || decide (k / 2 ^ o = j)
def subF (F : Nat → Bool) (o j : Nat) : Nat → Bool := fun k => F k && !decide (k / 2 ^ o = j)
theorem addF_iff (F : Nat → Bool) (o j k : Nat) : addF F o j k = true ↔ F k = true ∨ k / 2 ^ o = j := by simp [addF]
theorem subF_iff (F : Nat → Bool) (o j k : Nat) : subF F o j k = true ↔ F k = true ∧ k / 2 ^ o ≠ j := by simp [subF]
/-- Two blocks meet. -/
def Mt (o j o' i : Nat) : Prop := ∃ k, k / 2 ^ o = j ∧ k / 2 ^ o' = i
theorem al_subF {F : Nat → Bool} {o j o' i : Nat} : Al (subF F o j) o' i ↔ Al F o' i ∧ ¬ Mt o j o' i := by
  constructor
  · intro h
    exact ⟨fun k hk => ((subF_iff ..).1 (h k hk)).1, fun ⟨k, h1, h2⟩ => ((subF_iff ..).1 (h k h2)).2 h1⟩
  · rintro ⟨h1, h2⟩ k hk
    exact (subF_iff ..).2 ⟨h1 k hk, fun e => h2 ⟨k, e, hk⟩⟩
theorem al_addF {F : Nat → Bool} {o j o' i : Nat} (h : ¬ Mt o j o' i) : Al (addF F o j) o' i ↔ Al F o' i := by
  constructor
  · intro h1 k hk
    rcases (addF_iff ..).1 (h1 k hk) with h2 | h2
    · exact h2
    · exact absurd ⟨k, h2, hk⟩ h
  · intro h1 k hk
    exact (addF_iff ..).2 (.inl (h1 k hk))
theorem Mt.self (o j : Nat) : Mt o j o j := ⟨j * 2 ^ o, rep j o, rep j o⟩
/-- Where a block does not meet (o, j) and the next greater one does. -/
theorem Mt.par {o j o' i : Nat} (h : ¬ Mt o j o' i) (h' : Mt o j (o' + 1) (i / 2)) : o ≤ o' := by
  by_cases c : o ≤ o'
  · exact c
  · obtain ⟨k, h1, h2⟩ := h'
    refine absurd ⟨i * 2 ^ o', ?_, rep i o'⟩ h
    exact sub_blk (by omega : o' + 1 ≤ o) h2 h1 _ (by rw [div_par, rep])
theorem rn_subF {F : Nat → Bool} {o j o' i : Nat} (h : Rn F o j) (ho : o ≤ 9) (ho' : o' ≤ 9) : Rn (subF F o j) o' i ↔ Rn F o' i ∧ ¬ (o' = o ∧ i = j) := by
  by_cases m : Mt o j o' i
  · constructor
    · intro h1; exact absurd m (al_subF.1 h1.1).2
    · rintro ⟨h1, h2⟩
      obtain ⟨k, k1, k2⟩ := m
      rcases Nat.lt_trichotomy o' o with c | c | c
      · rcases h1.2 with e | e
        · omega
        · refine absurd (h.1.sub (k := k) (by omega : o' + 1 ≤ o) ?_ k1) e
          rw [div_par, k2]
      · subst c
        exact absurd ⟨rfl, k2.symm.trans k1⟩ h2
      · rcases h.2 with e | e
        · omega
        · refine absurd (h1.1.sub (k := k) (by omega : o + 1 ≤ o') ?_ k2) e
          rw [div_par, k1]
  · have ne : ¬ (o' = o ∧ i = j) := by rintro ⟨rfl, rfl⟩; exact m (Mt.self _ _)
    have A : Al (subF F o j) o' i ↔ Al F o' i := by rw [al_subF]; exact ⟨fun h => h.1, fun h => ⟨h, m⟩⟩
    have B : o' = 9 ∨ (Al (subF F o j) (o' + 1) (i / 2) ↔ Al F (o' + 1) (i / 2)) := by
      by_cases m2 : Mt o j (o' + 1) (i / 2)
      · by_cases e9 : o' = 9
        · exact .inl e9
        · right
          have hle := Mt.par m m2
          obtain ⟨k, k1, k2⟩ := m2
          constructor
          · intro h1; exact absurd ⟨k, k1, k2⟩ (al_subF.1 h1).2
          · intro h1
            rcases h.2 with e | e
            · omega
            · refine absurd (h1.sub (k := k) (by omega : o + 1 ≤ o' + 1) ?_ k2) e
              rw [div_par, k1]
      · right; rw [al_subF]; exact ⟨fun h => h.1, fun h => ⟨h, m2⟩⟩
    unfold Rn
    rw [A]
    rcases B with B | B
    · constructor
      · rintro ⟨h1, _⟩; exact ⟨⟨h1, .inl B⟩, ne⟩
      · rintro ⟨⟨h1, _⟩, _⟩; exact ⟨h1, .inl B⟩
    · rw [B]; exact ⟨fun h => ⟨h, ne⟩, fun h => h.1⟩
/-- A block whose frames are all taken becomes a free run, if its buddy is not free all over. -/
theorem rn_addF {F : Nat → Bool} {o j o' i : Nat} (h : ∀ k, k / 2 ^ o = j → F k = false) (hb : o = 9 ∨ ∃ k, k / 2 ^ (o + 1) = j / 2 ∧ k / 2 ^ o ≠ j ∧ F k = false) (ho : o ≤ 9) (ho' : o' ≤ 9) : Rn (addF F o j) o' i ↔ Rn F o' i ∨ (o' = o ∧ i = j) := by
  have up : ∀ {a b k}, o + 1 ≤ a → k / 2 ^ o = j → k / 2 ^ a = b → o ≠ 9 → ¬ Al (addF F o j) a b := fun {a b k} ha k1 k2 e9 hA => by
    rcases hb with e | ⟨l, l1, l2, l3⟩
    · exact e9 e
    · have := hA l (sub_blk (k := k) ha (by rw [div_par, k1]) k2 l l1)
      rcases (addF_iff ..).1 this with q | q
      · rw [l3] at q; cases q
      · exact l2 q
  by_cases m : Mt o j o' i
  · obtain ⟨k, k1, k2⟩ := m
    have nR : ¬ Rn F o' i := fun hR => by have := hR.1 k k2; rw [h k k1] at this; cases this
    constructor
    · intro h1
      rcases Nat.lt_trichotomy o' o with c | c | c
      · exfalso
        rcases h1.2 with e | e
        · omega
        · exact e (fun l hl => (addF_iff ..).2 (.inr (sub_blk (k := k) (by omega : o' + 1 ≤ o) (by rw [div_par, k2]) k1 l hl)))
      · subst c; exact .inr ⟨rfl, k2.symm.trans k1⟩
      · exact absurd h1.1 (up (by omega) k1 k2 (by omega))
    · rintro (h1 | ⟨rfl, rfl⟩)
      · exact absurd h1 nR
      · refine ⟨fun l hl => (addF_iff ..).2 (.inr hl), ?_⟩
        by_cases e9 : o' = 9
        · exact .inl e9
        · exact .inr (up (k := k) (Nat.le_refl _) k1 (by rw [div_par, k1]) e9)
  · have ne : ¬ (o' = o ∧ i = j) := by rintro ⟨rfl, rfl⟩; exact m (Mt.self _ _)
    have A : Al (addF F o j) o' i ↔ Al F o' i := al_addF m
    have B : o' = 9 ∨ (Al (addF F o j) (o' + 1) (i / 2) ↔ Al F (o' + 1) (i / 2)) := by
      by_cases m2 : Mt o j (o' + 1) (i / 2)
      · by_cases e9 : o' = 9
        · exact .inl e9
        · right
          have hle := Mt.par m m2
          obtain ⟨k, k1, k2⟩ := m2
          constructor
          · intro h1; exact absurd h1 (up (by omega) k1 k2 (by omega))
          · intro h1; have := h1 k k2; rw [h k k1] at this; cases this
      · right; exact al_addF m2
    unfold Rn
    rw [A]
    rcases B with B | B
    · constructor
      · rintro ⟨h1, _⟩; exact .inl ⟨h1, .inl B⟩
      · rintro (⟨h1, _⟩ | h1)
        · exact ⟨h1, .inl B⟩
        · exact absurd h1 ne
    · rw [B]; exact ⟨.inl, fun h => h.elim id (fun e => absurd e ne)⟩

/-! ### how many -/
def cnt (F : Nat → Bool) : Nat → Nat
  | 0 => 0
  | n + 1 => cnt F n + if F n then 1 else 0
theorem cnt_le (F : Nat → Bool) : ∀ n, cnt F n ≤ n
  | 0 => Nat.le_refl _
  | n + 1 => by have := cnt_le F n; unfold cnt; split <;> omega
theorem cnt_like {F G : Nat → Bool} : ∀ n, (∀ k, k < n → G k = F k) → cnt G n = cnt F n
  | 0, _ => rfl
  | n + 1, h => by unfold cnt; rw [cnt_like n (fun k hk => h k (by omega)), h n (by omega)]
theorem cnt_zero {F : Nat → Bool} : ∀ n, cnt F n = 0 ↔ ∀ k, k < n → F k = false
  | 0 => by simp [cnt]
  | n + 1 => by
    have ih := cnt_zero (F := F) n
    unfold cnt
    constructor
    · intro h k hk
      by_cases e : k = n
      · subst e
        cases hv : F k
        · rfl
        · rw [hv] at h; simp at h
      · exact ih.1 (by omega) k (by omega)
    · intro h
      rw [ih.2 (fun k hk => h k (by omega)), h n (by omega)]; rfl
theorem cnt_span {F G : Nat → Bool} {a b : Nat} (hab : a ≤ b) (h1 : ∀ k, a ≤ k → k < b → G k = true ∧ F k = false) (h2 : ∀ k, k < a ∨ b ≤ k → G k = F k) : ∀ n, cnt G n + min n a = cnt F n + min n b
  | 0 => by simp [cnt]
  | n + 1 => by
    have ih := cnt_span hab h1 h2 n
    unfold cnt
    by_cases c : a ≤ n ∧ n < b
    · obtain ⟨g, f⟩ := h1 n c.1 c.2
      rw [g, f]; simp; omega
    · rw [h2 n (by omega)]
      split <;> omega
theorem cnt_addF {F : Nat → Bool} {o j n : Nat} (h : ∀ k, k / 2 ^ o = j → F k = false) (hn : j * 2 ^ o + 2 ^ o ≤ n) : cnt (addF F o j) n = cnt F n + 2 ^ o := by
  have := cnt_span (F := F) (G := addF F o j) (a := j * 2 ^ o) (b := j * 2 ^ o + 2 ^ o) (Nat.le_add_right _ _) (fun k h1 h2 => ⟨(addF_iff ..).2 (.inr ((blk_iff ..).2 ⟨h1, h2⟩)), h k ((blk_iff ..).2 ⟨h1, h2⟩)⟩) (fun k hk => by
    unfold addF
    rw [decide_eq_false (fun e => by have := (blk_iff ..).1 e; omega), Bool.or_false]) n
  generalize j * 2 ^ o = q at *
  generalize 2 ^ o = r at *
  omega
theorem cnt_subF {F : Nat → Bool} {o j n : Nat} (h : Al F o j) (hn : j * 2 ^ o + 2 ^ o ≤ n) : cnt (subF F o j) n + 2 ^ o = cnt F n := by
  have := cnt_span (F := subF F o j) (G := F) (a := j * 2 ^ o) (b := j * 2 ^ o + 2 ^ o) (Nat.le_add_right _ _) (fun k h1 h2 => ⟨h k ((blk_iff ..).2 ⟨h1, h2⟩), by
    unfold subF
    rw [decide_eq_true ((blk_iff ..).2 ⟨h1, h2⟩)]; simp⟩) (fun k hk => by
    unfold subF
    rw [decide_eq_false (fun e => by have := (blk_iff ..).1 e; omega)]; simp) n
  generalize j * 2 ^ o = q at *
  generalize 2 ^ o = r at *
  omega
/-- One more, one less. -/
theorem cnt_on {F G : Nat → Bool} {x : Nat} (h : F x = false) (hG : ∀ k, G k = if k = x then true else F k) : ∀ n, x < n → cnt G n = cnt F n + 1 := fun n hn => by
  have := cnt_span (F := F) (G := G) (a := x) (b := x + 1) (by omega) (fun k h1 h2 => by
    have e : k = x := by omega
    subst e; rw [hG, if_pos rfl]; exact ⟨rfl, h⟩) (fun k hk => by rw [hG, if_neg (by omega)]) n
  omega

end Go.Proofs.YtanlcmdnhhdhaaaGreatDoor
