/- Put, the program's and the document's. -/
import Derived.Test.YtjnkmmfppkpgbaaDoorB4
import Derived.Laws.Cover3
namespace Go.Proofs.YtjnkmmfppkpgbaaDoor
open Go.RowKit

/-- f with v's k low bytes from p on. -/
def putF (f : Nat → Nat) (p k v : Nat) : Nat → Nat := fun i => if p ≤ i ∧ i < p + k then v / 2 ^ (8 * (i - p)) % 256 else f i
theorem putF_zero (f : Nat → Nat) (p v : Nat) : putF f p 0 v = f := by funext i; unfold putF; rw [if_neg (by omega)]
theorem putF_succ (f : Nat → Nat) (p k v : Nat) : upd (putF f p k v) (p + k) (v / 2 ^ (8 * k) % 256) = putF f p (k + 1) v := by
  funext i
  unfold upd putF
  by_cases e : i = p + k
  · subst e; rw [if_pos rfl, if_pos (by omega), show p + k - p = k by omega]
  · rw [if_neg e]
    by_cases c : p ≤ i ∧ i < p + k
    · rw [if_pos c, if_pos (by omega)]
    · rw [if_neg c, if_neg (by omega)]
theorem putF_byte {f : Nat → Nat} (h : Bytes f) (p k v : Nat) : Bytes (putF f p k v) := fun i => by
  unfold putF; split
  · omega
  · exact h i

set_option maxHeartbeats 2000000 in
set_option maxRecDepth 10000 in
theorem clone_any (b n cap : Nat) (f : Nat → Nat) (w : World) (H : BS w b 0 n f) (hn : n ≤ 1000000) :
    Calls Tryd.prog 59 #[.slice (some ⟨b, 0, none⟩) n cap] w fun e w' => ∃ g cap', e = .returned (.slice (some ⟨g, 0, none⟩) n cap') ∧ OP w' w.heap.size g n cap' f ∧ Kp w w' := by
  obtain ⟨g, cap', W', h1, h2, h3⟩ := copy_any w b 0 n cap f H.lt H.cells H.byte hn
  have H2 : Hid _ := h2
  have H3 : Hid _ := h3
  clear H h2 h3
  have hq : (Tryd.prog.underlying 87) = some (.slice 5) := Tryd.underlying87
  have h0 : ∀ w, (binOp .eql 87 (.slice (some ⟨b, 0, none⟩) n cap) (.slice none 0 0)).run Tryd.prog w = .ok (.bool false) w := fun w => by
    simp [binOp, run_equal_slice_nil w 87 5 _ n cap hq]
  go_enter Tryd.func59, Tryd.ntmps59
  repeat' (first | ((with_reducible refine wp_append_of h1 (.tmp 5) (.tmp 6) ?_ ?_ ?_ ?_ ?_); rfl; rfl; rfl; rfl) | go_values | go_skip | go_guarded | go_step | go_upon | go_back | (simp only []) | (go_values <;> (try go_simp)) | (go_ite <;> go_prune <;> (try go_simp)))
  go_ret
  exact ⟨g, cap', rfl, H2.out, H3.out⟩

theorem shr_byte (v k : Nat) : IntKind.u8.wrap ((v : Int) / 2 ^ (8 * k)) = ((v / 2 ^ (8 * k) % 256 : Nat) : Int) := by
  have e : (v : Int) / 2 ^ (8 * k) = ((v / 2 ^ (8 * k) : Nat) : Int) := by simp
  rw [e]
  simp [IntKind.wrap, IntKind.bits, IntKind.signed]

set_option maxHeartbeats 2000000 in
set_option maxRecDepth 10000 in
theorem put_some (b n cap p s v : Nat) (f : Nat → Nat) (w : World) (H : BS w b 0 n f) (hn : n ≤ 1000000) (hs : s ≤ 8) (hp : p + s ≤ n) (hv : v < 18446744073709551616) (hc : chk n p s = 0) :
    Calls Tryd.prog 41 #[.slice (some ⟨b, 0, none⟩) n cap, .int .i64 (p : Int), .int .i64 (s : Int), .int .u64 (v : Int)] w fun e w' => ∃ g cap', e = .returned (.tuple #[.slice (some ⟨g, 0, none⟩) n cap', .int .i64 0]) ∧ OP w' w.heap.size g n cap' (putF f p s v) ∧ Kp w w' := by
  have c1 := fun w => check_any n p s w (by omega) (by omega) (by omega) (by omega)
  rw [hc] at c1
  have c2 := clone_any b n cap f w H hn
  have z1 : (p : Int) + s ≤ n := by omega
  have z3 : (n : Int) ≤ 1000000 := by omega
  have z4 : (s : Int) ≤ 8 := by omega
  have z5 : (v : Int) < 18446744073709551616 := by omega
  clear H hc hv
  go_enter Tryd.func41, Tryd.ntmps41
  go_wp2_with (go_at_call 58; with_reducible refine (c1 _).mono ?_; rintro e w' ⟨rfl, rfl⟩)
  with_reducible refine c2.mono ?_
  rintro e w1 ⟨g, cap', rfl, O1, K1⟩
  have HO : Hid _ := O1
  have HK : Hid _ := K1
  clear O1 K1 c2
  go_wp2_with fail
  go_loopg [24] s (fun gg v24 wr => ∃ k : Nat, v24 = .int .i64 k ∧ k ≤ s ∧ s - k ≤ gg ∧ Aside (OP wr w'.heap.size g n cap' (putF f p k v)) ∧ Aside (Kp w' wr))
  case atStart => exact ⟨0, rfl, by omega, by omega, by rw [putF_zero]; exact HO.out, HK.out⟩
  case round =>
    clear HO HK
    obtain ⟨k, rfl, hk, hg, HO, HK⟩ := hrel
    by_cases hlt : k < s
    · have y1 : (k : Int) < s := by omega
      have c2 := HO.out.bs.cell (p + k) (by omega)
      have c3 := HO.out.bs.frz (p + k) (by omega)
      rw [Nat.zero_add] at c2 c3
      have q := shr_byte v k
      have O2 := HO.out.set (p + k) (v / 2 ^ (8 * k) % 256) (by omega)
      rw [putF_succ] at O2
      have K2 := HK.out.set ⟨g, p + k, none⟩ (.int .u8 ((v / 2 ^ (8 * k) % 256 : Nat) : Int)) HO.out.facts.1
      generalize v / 2 ^ (8 * k) % 256 = d at *
      have A2 : Aside _ := O2
      have B2 : Aside _ := K2
      clear O2 K2
      go_wp2
      go_roundg (s - (k + 1))
      case measure => omega
      case rel => exact ⟨k + 1, by go_num, by omega, by omega, A2, B2⟩
    · have e : k = s := by omega
      subst e
      go_wp2
      go_ret2
      exact ⟨g, cap', rfl, HO.out, HK.out⟩

theorem div_step (v k : Nat) : v / 2 ^ (8 * k) / 256 = v / 2 ^ (8 * (k + 1)) := by
  rw [Nat.div_div_eq_div_mul, show 8 * (k + 1) = 8 * k + 8 by omega, Nat.pow_add]

end Go.Proofs.YtjnkmmfppkpgbaaDoor
