/- demesnelaw7.runs: two lists alike. -/
import Derived.Test.YtlclpnaaaiimaaaDoorUY
namespace Go.Proofs.YtlclpnaaaiimaaaDoor
open Go.RowKit

set_option maxHeartbeats 2000000 in
set_option maxRecDepth 100000 in
theorem alike_any {w : World} {b1 b2 : Nat} {v1 v2 : Value} {L : List (Nat × Nat)} (R1 : RL w b1 v1 L) (R2 : RL w b2 v2 L) (hl : L.length ≤ 2000000) :
    Calls Tryd.prog 19 #[v1, v2] w fun e w' => e = .returned (.bool true) ∧ Dr w w' := by
  obtain ⟨na, ca, rfl, l1, h1⟩ := R1.form
  obtain ⟨nb, cb, rfl, l2, h2⟩ := R2.form
  have H1 : Aside (∀ i x, L[i]? = some x → ∃ g, na = some ⟨g, 0, none⟩ ∧ g < w.heap.size ∧ b1 ≤ g ∧ w.cell? ⟨g, i * 2, none⟩ = some (.int .i64 (x.1 : Int)) ∧ w.cell? ⟨g, i * 2 + 1, none⟩ = some (.int .i64 (x.2 : Int))) := h1
  have H2 : Aside (∀ i x, L[i]? = some x → ∃ g, nb = some ⟨g, 0, none⟩ ∧ g < w.heap.size ∧ b2 ≤ g ∧ w.cell? ⟨g, i * 2, none⟩ = some (.int .i64 (x.1 : Int)) ∧ w.cell? ⟨g, i * 2 + 1, none⟩ = some (.int .i64 (x.2 : Int))) := h2
  have x1 : ((L.length : Nat) : Int) ≤ 2000000 := by omega
  have x2 : ((L.length : Nat) : Int) ≤ ca := by omega
  have x3 : ((L.length : Nat) : Int) ≤ cb := by omega
  clear h1 h2 R1 R2 hl
  generalize hLn : L.length = ln at *
  have HLN : Hid (L.length = ln) := hLn
  clear hLn
  go_enter Tryd.func19, Tryd.ntmps19
  go_wp2_with fail
  go_loopg [5] (ln + 1) (fun g v5 wr => ∃ k : Nat, v5 = .int .i64 (k : Int) ∧ k ≤ ln ∧ ln + 1 - k ≤ g ∧ Hid (Dr w wr))
  case atStart => exact ⟨0, rfl, by omega, by omega, Dr.refl w⟩
  case round =>
    obtain ⟨k, rfl, hk, hg, HD⟩ := hrel
    by_cases hkl : k < ln
    · have y1 : (k : Int) < ln := by omega
      obtain ⟨x, hx⟩ : ∃ x, L[k]? = some x := ⟨L[k]'(by have := HLN.out; omega), List.getElem?_eq_getElem (by have := HLN.out; omega)⟩
      obtain ⟨g1, rfl, p1, _, q1, q2⟩ := H1.out k x hx
      obtain ⟨g2, rfl, p2, _, q3, q4⟩ := H2.out k x hx
      obtain ⟨xf, xo⟩ := x
      have c1 : wr.cell? ⟨g1, k * 2, none⟩ = some (.int .i64 (xf : Int)) := (HD.out.kp.cell (p := ⟨g1, k * 2, none⟩) p1).trans q1
      have c2 : wr.cell? ⟨g1, k * 2 + 1, none⟩ = some (.int .i64 (xo : Int)) := (HD.out.kp.cell (p := ⟨g1, k * 2 + 1, none⟩) p1).trans q2
      have c3 : wr.cell? ⟨g2, k * 2, none⟩ = some (.int .i64 (xf : Int)) := (HD.out.kp.cell (p := ⟨g2, k * 2, none⟩) p2).trans q3
      have c4 : wr.cell? ⟨g2, k * 2 + 1, none⟩ = some (.int .i64 (xo : Int)) := (HD.out.kp.cell (p := ⟨g2, k * 2 + 1, none⟩) p2).trans q4
      have HD2 : Aside (∀ n, Dr w (wr.drewN n)) := fun n => HD.out.trans ⟨n, rfl⟩
      have hq : ∀ w, (Op.equalIn 10000 34 (.agg #[.int .i64 (xf : Int), .int .i64 (xo : Int)]) (.agg #[.int .i64 (xf : Int), .int .i64 (xo : Int)])).run Tryd.prog w = .ok true w := fun w => by rw [eq_pair]; simp
      clear q1 q2 q3 q4 hx p1 p2 HD
      go_wp2_with fail
      go_quiet (fail)
      go_wp2
      go_roundg (ln + 1 - (k + 1))
      case measure => omega
      case rel => exact ⟨k + 1, by go_num, by omega, by omega, HD2.out _⟩
    · have ek : k = ln := by omega
      subst ek
      go_wp2
      go_ret
      exact ⟨rfl, HD.out⟩
end Go.Proofs.YtlclpnaaaiimaaaDoor
