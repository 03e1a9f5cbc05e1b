/- demesneref14: Walk: what it comes to; its loop. -/
import Derived.Test.YtclcickhgoiooaaN4
namespace Go.Proofs.Ytclcickhgoiooaa
open Go.RowKit
set_option maxRecDepth 10000
set_option linter.unusedVariables false

/-! ### what Walk comes to, by the way through the first stage -/
def outC (rd : Nat → Nat × Bool) (two root u : Nat) (acc : Int) (L : List SV) (k : Int) (o : OV) (f : FV) (n : Nat) : Prop :=
  (k = -1 ∧ o = zO ∧ f = ⟨(enF rd two (stP rd two root u)).s, (enF rd two (stP rd two root u)).k, (L.length : Int), (enF rd two (stP rd two root u)).a, acc == 2⟩ ∧ n = sumN rd two L + enN rd two (stP rd two root u)) ∨
  (¬ k = -1 ∧ ∃ x, L.getLast? = some x ∧ x.l ≤ 3 ∧ x.d.a < 18446744073709551616 ∧ ((¬ k = 0 ∧ o = zO ∧ f = ⟨1, k, (x.l : Int), u, acc == 2⟩ ∧ n = sumN rd two L) ∨
    (k = 0 ∧ alP x.d.r x.d.q x.d.x acc = false ∧ o = zO ∧ f = ⟨1, 2, (x.l : Int), u, acc == 2⟩ ∧ n = sumN rd two L) ∨
    (k = 0 ∧ alP x.d.r x.d.q x.d.x acc = true ∧ seK rd two (outN u x.l x.d.k x.d.a) acc ≠ 0 ∧ o = zO ∧ f = seF rd two (outN u x.l x.d.k x.d.a) acc ∧ n = sumN rd two L + slN rd two (outN u x.l x.d.k x.d.a)) ∨
    (k = 0 ∧ alP x.d.r x.d.q x.d.x acc = true ∧ seK rd two (outN u x.l x.d.k x.d.a) acc = 0 ∧ o = ⟨(seO rd two (outN u x.l x.d.k x.d.a) acc).f, (seO rd two (outN u x.l x.d.k x.d.a) acc).i, x.d.r, x.d.q, x.d.x, (seO rd two (outN u x.l x.d.k x.d.a) acc).r, (seO rd two (outN u x.l x.d.k x.d.a) acc).q, (seO rd two (outN u x.l x.d.k x.d.a) acc).x⟩ ∧ f = zF ∧ n = sumN rd two L + slN rd two (outN u x.l x.d.k x.d.a))))
theorem out_of {rd : Nat → Nat × Bool} {two root u : Nat} {acc : Int} {L : List SV} {k : Int} {mm : Nat} {o : OV} {f : FV} {n : Nat} (h : g1 rd two root u = (L, k, mm)) (hs : k = -1 → (enF rd two (stP rd two root u)).k ≠ 0) (hc : onC rd two root u acc o f n) : outC rd two root u acc L k o f n := by
  have e1 : (g1 rd two root u).1 = L := by rw [h]
  have e2 : (g1 rd two root u).2.1 = k := by rw [h]
  by_cases k1 : k = -1
  · have eF : flF rd two root u = ⟨(enF rd two (stP rd two root u)).s, (enF rd two (stP rd two root u)).k, (L.length : Int), (enF rd two (stP rd two root u)).a, (enF rd two (stP rd two root u)).t⟩ := by unfold flF; rw [e2, if_pos k1, e1]
    have eN : flN rd two root u = sumN rd two L + enN rd two (stP rd two root u) := by unfold flN; rw [e2, if_pos k1, e1]
    have hk := hs k1
    refine .inl ⟨k1, ?_⟩
    unfold onC at hc
    rw [eF, eN] at hc
    rcases hc with ⟨_, h2, h3, h4⟩ | ⟨h1, _⟩ | ⟨h1, _⟩ | ⟨h1, _⟩
    · exact ⟨h2, h3, h4⟩
    · exact absurd h1 hk
    · exact absurd h1 hk
    · exact absurd h1 hk
  · have eN : flN rd two root u = sumN rd two L := by unfold flN; rw [e2, if_neg k1, e1]
    obtain ⟨I, x, h1, h2, h3, _, _, h6, _⟩ := goW_last 1 u (rd1 rd two) 4 0 root rfl (by decide) (show (goW 1 u (rd1 rd two) 4 0 root).2.1 ≠ -1 from fun c => k1 (e2.symm.trans c))
    have e3 : L = I ++ [x] := e1.symm.trans h1
    refine .inr ⟨k1, x, by rw [e3]; simp, h3, by rw [h6]; exact dv_addr _ _ _, ?_⟩
    by_cases k0 : k = 0
    · have eF : flF rd two root u = zF := by unfold flF; rw [e2, if_neg k1, if_pos k0]
      have eL : flL rd two root u = x := by unfold flL; rw [e2, if_pos k0, e1, e3]; simp
      unfold onC at hc
      rw [eF, eN, eL] at hc
      rcases hc with ⟨h1, _⟩ | ⟨_, h2, h3, h4, h5⟩ | ⟨_, h2, h3, h4, h5, h6⟩ | ⟨_, h2, h3, h4, h5, h6⟩
      · exact absurd rfl h1
      · exact .inr (.inl ⟨k0, h2, h3, h4, h5⟩)
      · exact .inr (.inr (.inl ⟨k0, h2, h3, h4, h5, h6⟩))
      · exact .inr (.inr (.inr ⟨k0, h2, h3, h4, h5, h6⟩))
    · have eF : flF rd two root u = ⟨1, k, (x.l : Int), u, false⟩ := by unfold flF; rw [e2, if_neg k1, if_neg k0, e1, e3]; simp
      unfold onC at hc
      rw [eF, eN] at hc
      rcases hc with ⟨_, h2, h3, h4⟩ | ⟨h1, _⟩ | ⟨h1, _⟩ | ⟨h1, _⟩
      · exact .inl ⟨k0, h2, h3, h4⟩
      · exact absurd h1 k0
      · exact absurd h1 k0
      · exact absurd h1 k0

/-! ### Give, with more of what it leaves -/
section
variable {W w w' : World} {q : Nat} {s : Int} {t u : Nat} {L : List SV} {k : Int} {over : Bool} {v : Value}
theorem RWk.base (h : RWk W q s t u L k over v w) {W' : World} (k' : Kp W' W) : RWk W' q s t u L k over v w := ⟨k'.trans h.kp, Nat.le_trans k'.size h.lo, h.row, h.own, h.fo⟩
theorem RWk.frc (h : RWk W q s t u L k over v w) {c : Nat} (f : Fr (· = c) w w') (hc : c < q) (hW : W.heap.size ≤ c) : RWk W q s t u L k over v w' :=
  ⟨f.kp h.kp (fun i e => by rw [e]; exact hW), h.lo, (f.block _ (lt_of_row h.row) (by omega)).trans h.row, OL.fr h.own f (fun g e e' => by have := h.fo g e; omega), h.fo⟩
theorem give_stopF (h : RWk W q s t u L k false v w) (x : Int) :
    Calls Try.prog 35 #[.pointer (some ⟨q, 0, none⟩), .int .u64 x, .bool false] w fun e w' => e = .returned (.tuple #[]) ∧ RWk W q s t u L (-1) true v w' ∧ Fr (· = q) w w' := by
  have c5 := h.c5
  have c4 := h.c4
  have f4 := h.fz 4
  have f5 := h.fz 5
  have F : Fr (· = q) w ((w.setCell ⟨q, 4, none⟩ (.int .i64 (-1))).setCell ⟨q, 5, none⟩ (.bool true)) := ((Fr.refl (· = q) w).set ⟨q, 4, none⟩ _ rfl).set ⟨q, 5, none⟩ _ rfl
  have E : Hid (RWk W q s t u L (-1) true v ((w.setCell ⟨q, 4, none⟩ (.int .i64 (-1))).setCell ⟨q, 5, none⟩ (.bool true)) ∧ Fr (· = q) w ((w.setCell ⟨q, 4, none⟩ (.int .i64 (-1))).setCell ⟨q, 5, none⟩ (.bool true))) := ⟨(h.set4 (-1)).set5 true, F⟩
  clear h F
  go_enter Try.func35, Try.ntmps35
  go_wp2
  refine bodyPost_ret (results_none rfl _ _ _) rfl ?_
  exact ⟨rfl, E.out⟩
/-- A word is given on the way. -/
theorem give_on {root : Nat} {rd : Nat → Nat × Bool} {mm : Nat} (h : RWk W q s t u L 4 false v w) (hS : sofar s root u rd L mm t) (ht : t = lastT root L) (hu : u < 18446744073709551616) (x : Nat) (hx : x < 18446744073709551616) (hr : rd (atN t u mm) = (x, true)) :
    Calls Try.prog 35 #[.pointer (some ⟨q, 0, none⟩), .int .u64 (x : Int), .bool true] w fun e w' => e = .returned (.tuple #[]) ∧ ∃ t' L' k' o' v', RWk W q s t' u L' k' o' v' w' ∧ (∃ y, L' = L ++ [y] ∧ y.p = atN t u mm) ∧ ((o' = false ∧ k' = 4 ∧ sofar s root u rd L' (mm + 1) t' ∧ t' = lastT root L') ∨ (o' = true ∧ ¬ k' = -1 ∧ goW s u rd 4 0 root = (L', k', mm + 1))) := by
  have hl := hS.1
  have ho : (rd (atN t u mm)).2 = true := by rw [hr]
  have h1 : (rd (atN t u mm)).1 = x := by rw [hr]
  by_cases hd : (dvN s mm x).k = 1
  · have hon := sofar_on hS ho (by rw [h1]; exact hd)
    rw [h1] at hon
    refine (give_word h x hx hu (by rw [hl]; exact hS.2.1) (dvN s mm x).a 4 false (.inl ⟨by rw [hl]; exact hd, by rw [hl], rfl, ?_⟩)).mono ?_
    · rw [hl]; symm; exact decide_eq_false (by have := hon.2.1; omega)
    · rintro e w1 ⟨rfl, v', H⟩
      rw [hl] at H
      exact ⟨rfl, _, _, _, _, _, H, ⟨_, rfl, rfl⟩, .inl ⟨rfl, rfl, hon, by rw [lastT_snoc]⟩⟩
  · have hen := sofar_end hS ho (by rw [h1]; exact hd)
    rw [h1] at hen
    refine (give_word h x hx hu (by rw [hl]; exact hS.2.1) t _ true (.inr ⟨by rw [hl]; exact hd, rfl, rfl, rfl⟩)).mono ?_
    rintro e w1 ⟨rfl, v', H⟩
    rw [hl] at H
    refine ⟨rfl, _, _, _, _, _, H, ⟨_, rfl, rfl⟩, .inr ⟨rfl, ?_, hen⟩⟩
    unfold endN
    split
    · decide
    · split
      · decide
      · split <;> decide
end

end Go.Proofs.Ytclcickhgoiooaa
