/- buddy.set: bits in words. -/
import Derived.Test.YtjnkmmfppkpgbaaDoorU1
import Derived.RegionTactic
import Derived.BigRegion
namespace Go.Proofs.YtjnkmmfppkpgbaaDoor
open Go.RowKit

theorem shr_bit (u b : Nat) (hu : u < 18446744073709551616) : bits .and .u64 ((u : Int) / 2 ^ b) 1 = (if u.testBit b then 1 else 0 : Int) := by
  have h1 : u / 2 ^ b < 18446744073709551616 := Nat.lt_of_le_of_lt (Nat.div_le_self _ _) hu
  have h2 := u64_and_nat (u / 2 ^ b) 1 h1 (by omega)
  have e : ((u / 2 ^ b : Nat) : Int) = (u : Int) / 2 ^ b := by push_cast; rfl
  rw [e] at h2
  rw [show ((1 : Nat) : Int) = 1 from rfl] at h2
  rw [h2, Nat.and_one_is_mod, Nat.testBit_eq_decide_div_mod_eq]
  by_cases c : u / 2 ^ b % 2 = 1
  · rw [c]; simp
  · rw [show u / 2 ^ b % 2 = 0 by omega]; simp
set_option maxHeartbeats 1000000 in
theorem shas_walk (p a b q r L u : Nat) (x : Nat) (bit : Bool) (w : World) (c0 : w.cell? ⟨p, a, none⟩ = some (.slice (some ⟨b, 0, none⟩) L L)) (e1 : (x : Int).tdiv 64 = (q : Int)) (e2 : (x : Int).tmod 64 = (r : Int)) (h1 : (q : Int) < L) (hr : (r : Int) < 64)
    (cw : w.cell? ⟨b, q, none⟩ = some (.int .u64 (u : Int))) (hb : bits .and .u64 ((u : Int) / 2 ^ r) 1 = (if bit then 1 else 0 : Int)) (hL : (L : Int) ≤ 20000) :
    Calls Tryd.prog 70 #[.pointer (some ⟨p, a, none⟩), .int .i64 (x : Int)] w fun e w' => e = .returned (.bool bit) ∧ w' = w := by
  cases bit
  · have hb' : bits .and .u64 ((u : Int) / 2 ^ r) 1 = 0 := hb
    clear hb
    go_enter Tryd.func70, Tryd.ntmps70
    go_wp2
    go_ret
    exact ⟨rfl, rfl⟩
  · have hb' : bits .and .u64 ((u : Int) / 2 ^ r) 1 = 1 := hb
    clear hb
    go_enter Tryd.func70, Tryd.ntmps70
    go_wp2
    go_ret
    exact ⟨rfl, rfl⟩
set_option maxHeartbeats 1000000 in
theorem shas_out (p a b q L : Nat) (x : Nat) (w : World) (c0 : w.cell? ⟨p, a, none⟩ = some (.slice (some ⟨b, 0, none⟩) L L)) (e1 : (x : Int).tdiv 64 = (q : Int)) (h1 : ¬ (q : Int) < L) (hL : (q : Int) ≤ 2000000) :
    Calls Tryd.prog 70 #[.pointer (some ⟨p, a, none⟩), .int .i64 (x : Int)] w fun e w' => e = .returned (.bool false) ∧ w' = w := by
  go_enter Tryd.func70, Tryd.ntmps70
  go_wp2
  go_ret
  exact ⟨rfl, rfl⟩
set_option maxHeartbeats 1000000 in
theorem sadd_walk (p a b q r L u u' v sz lo : Nat) (x : Nat) (w : World) (c0 : w.cell? ⟨p, a, none⟩ = some (.slice (some ⟨b, 0, none⟩) L L)) (c1 : w.cell? ⟨p, a + 1, none⟩ = some (.int .i64 (sz : Int))) (c2 : w.cell? ⟨p, a + 2, none⟩ = some (.int .i64 (lo : Int)))
    (f1 : w.frozen? ⟨p, a + 1, none⟩ = false) (f2 : w.frozen? ⟨p, a + 2, none⟩ = false) (fw : w.frozen? ⟨b, q, none⟩ = false) (ne : b ≠ p)
    (e1 : (x : Int).tdiv 64 = (q : Int)) (e2 : (x : Int).tmod 64 = (r : Int)) (h1 : (q : Int) < L) (hr : (r : Int) < 64)
    (cw : w.cell? ⟨b, q, none⟩ = some (.int .u64 (u : Int))) (hv : IntKind.u64.wrap (2 ^ r) = (v : Int)) (hb : bits .or .u64 (u : Int) (v : Int) = (u' : Int)) (hL : (L : Int) ≤ 20000) (hs : (sz : Int) ≤ 2000000) :
    Calls Tryd.prog 62 #[.pointer (some ⟨p, a, none⟩), .int .i64 (x : Int)] w fun e w' => e = .returned (.tuple #[]) ∧ w' = (((w.setCell ⟨b, q, none⟩ (.int .u64 (u' : Int))).setCell ⟨p, a + 1, none⟩ (.int .i64 ((sz : Int) + 1))).setCell ⟨p, a + 2, none⟩ (.int .i64 ((min lo q : Nat) : Int))).drew := by
  go_enter Tryd.func62, Tryd.ntmps62
  go_wp2_with fail
  go_region
  go_wp2
  · go_end0
    exact ⟨rfl, by rw [Nat.min_eq_right (by omega)]⟩
  · go_end0
    exact ⟨rfl, by rw [Nat.min_eq_left (by omega)]⟩
set_option maxHeartbeats 1000000 in
theorem srem_walk (p a b q r L u u' v sz : Nat) (x : Nat) (w : World) (c0 : w.cell? ⟨p, a, none⟩ = some (.slice (some ⟨b, 0, none⟩) L L)) (c1 : w.cell? ⟨p, a + 1, none⟩ = some (.int .i64 (sz : Int)))
    (f1 : w.frozen? ⟨p, a + 1, none⟩ = false) (fw : w.frozen? ⟨b, q, none⟩ = false) (ne : b ≠ p)
    (e1 : (x : Int).tdiv 64 = (q : Int)) (e2 : (x : Int).tmod 64 = (r : Int)) (h1 : (q : Int) < L) (hr : (r : Int) < 64)
    (cw : w.cell? ⟨b, q, none⟩ = some (.int .u64 (u : Int))) (hv : IntKind.u64.wrap (2 ^ r) = (v : Int)) (hb : bits .andNot .u64 (u : Int) (v : Int) = (u' : Int)) (hL : (L : Int) ≤ 20000) (hs : (sz : Int) ≤ 2000000) :
    Calls Tryd.prog 76 #[.pointer (some ⟨p, a, none⟩), .int .i64 (x : Int)] w fun e w' => e = .returned (.tuple #[]) ∧ w' = ((w.setCell ⟨b, q, none⟩ (.int .u64 (u' : Int))).setCell ⟨p, a + 1, none⟩ (.int .i64 ((sz : Int) - 1))).drew := by
  go_enter Tryd.func76, Tryd.ntmps76
  go_wp2_with fail
  go_region
  go_wp2
  go_end0
  exact ⟨rfl, rfl⟩
theorem sempty_walk (p a sz : Nat) (w : World) (c1 : w.cell? ⟨p, a + 1, none⟩ = some (.int .i64 (sz : Int))) :
    Calls Tryd.prog 75 #[.pointer (some ⟨p, a, none⟩)] w fun e w' => e = .returned (.bool (decide (sz = 0))) ∧ w' = w := by
  obtain ⟨b, hb, hc⟩ : ∃ b, ((sz : Int) == 0) = b ∧ decide (sz = 0) = b := ⟨_, rfl, by
    by_cases c : sz = 0
    · subst c; rfl
    · rw [decide_eq_false c]; simp; omega⟩
  rw [hc]
  clear hc
  go_enter Tryd.func75, Tryd.ntmps75
  go_wp2
  go_ret
  exact ⟨rfl, rfl⟩

/-! ### least -/
/-- w' is w but for the cells of C. -/
structure Ch (C : Addr → Prop) (S : Nat → Prop) (w w' : World) : Prop where
  cell : ∀ ad, ¬ C ad → w'.cell? ad = w.cell? ad
  frz : ∀ ad, w'.frozen? ad = w.frozen? ad
  fr : Fr S w w'
  size : w'.heap.size = w.heap.size
theorem Ch.refl (C : Addr → Prop) (S : Nat → Prop) (w : World) : Ch C S w w := ⟨fun _ _ => rfl, fun _ => rfl, Fr.refl _ _, rfl⟩
theorem Ch.drew {C : Addr → Prop} {S : Nat → Prop} {w w' : World} (h : Ch C S w w') : Ch C S w w'.drew := ⟨fun ad hc => h.cell ad hc, fun ad => h.frz ad, h.fr.drew, h.size⟩
theorem Ch.drewN {C : Addr → Prop} {S : Nat → Prop} {w w' : World} (n : Nat) (h : Ch C S w w') : Ch C S w (w'.drewN n) := ⟨fun ad hc => h.cell ad hc, fun ad => h.frz ad, h.fr.trans (((Kp.refl w').drewN n).fr S), h.size⟩
theorem Ch.set {C : Addr → Prop} {S : Nat → Prop} {w w' : World} (h : Ch C S w w') (ad : Addr) (v : Value) (hC : C ad) (hS : S ad.block) : Ch C S w (w'.setCell ad v) :=
  ⟨fun x hx => by rw [World.cell?_setCell_other _ _ _ _ (fun e => hx (by rw [← e]; exact hC))]; exact h.cell x hx, fun x => by rw [World.frozen?_setCell]; exact h.frz x, h.fr.set ad v hS, by rw [World.size_setCell]; exact h.size⟩
set_option maxHeartbeats 2000000 in
theorem sleast_walk (p a b L lo m x t : Nat) (W : Nat → Nat) (w : World) (S : Nat → Prop) (hS : S p) (c0 : w.cell? ⟨p, a, none⟩ = some (.slice (some ⟨b, 0, none⟩) L L)) (c2 : w.cell? ⟨p, a + 2, none⟩ = some (.int .i64 (lo : Int)))
    (f2 : w.frozen? ⟨p, a + 2, none⟩ = false) (ne : b ≠ p) (cw : ∀ q, q < L → w.cell? ⟨b, q, none⟩ = some (.int .u64 (W q : Nat)))
    (h1 : lo ≤ m) (h2 : m < L) (hz : ∀ q, lo ≤ q → q < m → W q = 0) (hm : ((W m : Int) == 0) = false) (hx : (m : Int) * 64 + t = x) (ht : (t : Int) < 64)
    (ct : ∀ w', Fr S w w' → Calls Tryd.prog 72 #[.int .u64 (W m : Nat)] w' fun e w'' => e = .returned (.int .i64 (t : Int)) ∧ w'' = w') (hL : (L : Int) ≤ 20000) :
    Calls Tryd.prog 65 #[.pointer (some ⟨p, a, none⟩)] w fun e w' => e = .returned (.int .i64 (x : Int)) ∧ Ch (· = ⟨p, a + 2, none⟩) S w w' ∧ w'.cell? ⟨p, a + 2, none⟩ = some (.int .i64 (m : Int)) := by
  have CW : Aside (∀ q, q < L → w.cell? ⟨b, q, none⟩ = some (.int .u64 (W q : Nat))) := cw
  have HZ : Aside (∀ q, lo ≤ q → q < m → W q = 0) := hz
  have HM : Hid (((W m : Int) == 0) = false) := hm
  have CT : Aside (∀ w', Fr S w w' → Calls Tryd.prog 72 #[.int .u64 (W m : Nat)] w' fun e w'' => e = .returned (.int .i64 (t : Int)) ∧ w'' = w') := ct
  have HC0 : Hid (w.cell? ⟨p, a, none⟩ = some (.slice (some ⟨b, 0, none⟩) L L)) := c0
  have HC2 : Hid (w.cell? ⟨p, a + 2, none⟩ = some (.int .i64 (lo : Int))) := c2
  have HF2 : Hid (w.frozen? ⟨p, a + 2, none⟩ = false) := f2
  have HX : Hid ((m : Int) * 64 + t = x) := hx
  clear cw hz ct c0 c2 f2 hm hx
  have y1 : (m : Int) < L := by omega
  go_enter Tryd.func65, Tryd.ntmps65
  go_wp2_with fail
  go_loopg [] (m + 1) (fun g wr => ∃ (k : Nat), k ≤ m ∧ lo ≤ k ∧ m + 1 - k ≤ g ∧ Hid (Ch (· = ⟨p, a + 2, none⟩) S w wr) ∧ Hid (wr.cell? ⟨p, a + 2, none⟩ = some (.int .i64 (k : Int))))
  case atStart => exact ⟨lo, by omega, by omega, by omega, Ch.refl _ _ _, HC2⟩
  case round =>
    obtain ⟨k, hk1, hk2, hg, HCh, HK⟩ := hrel
    have c0 : wr.cell? ⟨p, a, none⟩ = some (.slice (some ⟨b, 0, none⟩) L L) := (HCh.out.cell _ (by intro e; simp only [Addr.mk.injEq] at e; omega)).trans HC0.out
    have c2 := HK.out
    have f2 : wr.frozen? ⟨p, a + 2, none⟩ = false := (HCh.out.frz _).trans HF2.out
    have cw : wr.cell? ⟨b, k, none⟩ = some (.int .u64 (W k : Nat)) := (HCh.out.cell _ (by intro e; simp only [Addr.mk.injEq] at e; exact ne e.1)).trans (CW.out k (by omega))
    have y2 : (k : Int) ≤ m := by omega
    by_cases e : k < m
    · rw [HZ.out k hk2 e] at cw
      have C2 : Hid (Ch (· = ⟨p, a + 2, none⟩) S w ((wr.drew).setCell ⟨p, a + 2, none⟩ (.int .i64 ((k : Int) + 1))) ∧ ((wr.drew).setCell ⟨p, a + 2, none⟩ (.int .i64 ((k : Int) + 1))).cell? ⟨p, a + 2, none⟩ = some (.int .i64 ((k : Int) + 1))) := ⟨HCh.out.drew.set _ _ rfl hS, World.cell?_setCell_same _ _ _ c2⟩
      go_wp2_with fail
      go_region
      go_wp2
      go_roundg (m + 1 - (k + 1))
      case measure => omega
      case rel => exact ⟨k + 1, by omega, by omega, by omega, C2.out.1, C2.out.2⟩
    · have ek : k = m := by omega
      subst ek
      have hm := HM.out
      have hx := HX.out
      have c3 := fun n => CT.out _ (HCh.out.drewN n).fr
      generalize W k = u at *
      go_wp2_with fail
      go_region
      go_wp2_with fail
      go_quiet (first | (go_at_call 72; go_must (exact (c3 _).mono fun e w' h => ⟨h.1, _, h.2⟩)))
      go_wp2
      go_ret
      first | exact ⟨rfl, HCh.out.drewN _, HK.out⟩ | exact ⟨rfl, HCh.out.drew.drewN _, HK.out⟩
end Go.Proofs.YtjnkmmfppkpgbaaDoor
