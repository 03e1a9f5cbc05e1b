/- nested: what holds of every answer of Walk, on. -/
import Derived.Test.YtclcickhgoiooaaNK
namespace Go.Proofs.Ytclcickhgoiooaa
open Go.RowKit
set_option maxRecDepth 10000

theorem enF_two (rd : Nat → Nat × Bool) (two p : Nat) (h : (enF rd two p).k ≠ 0) : (enF rd two p).s = 2 := by
  unfold enF at h ⊢
  by_cases c : seK rd two p 1 = 0
  · rw [if_pos c] at h ⊢
    by_cases d : (rd (enA rd two p)).2 = true
    · rw [if_pos d] at h; exact absurd rfl h
    · rw [if_neg d]
  · rw [if_neg c]
theorem flL_lv (rd : Nat → Nat × Bool) (two root u : Nat) : (flL rd two root u).l ≤ 3 := by
  unfold flL
  by_cases c : (g1 rd two root u).2.1 = 0
  · rw [if_pos c]
    obtain ⟨L, x, h1, h2, h3, _⟩ := goW_leaf (s := 1) (u := u) (rd := rd1 rd two) (t := root) c
    rw [show (g1 rd two root u).1 = L ++ [x] from h1]
    simp only [List.getLastD_concat]
    omega
  · rw [if_neg c]; decide
theorem flF_bound (rd : Nat → Nat × Bool) (two root u : Nat) (h : (flF rd two root u).k ≠ 0) :
    ((flF rd two root u).s = 1 ∨ (flF rd two root u).s = 2) ∧ ((flF rd two root u).s = 1 → (flF rd two root u).a = u) ∧ -1 ≤ (flF rd two root u).l ∧ (flF rd two root u).l ≤ 3 := by
  by_cases c : (g1 rd two root u).2.1 = -1
  · have e : flF rd two root u = ⟨(enF rd two (stP rd two root u)).s, (enF rd two (stP rd two root u)).k, ((g1 rd two root u).1.length : Int), (enF rd two (stP rd two root u)).a, (enF rd two (stP rd two root u)).t⟩ := if_pos c
    rw [e] at h ⊢
    have s2 := enF_two rd two (stP rd two root u) h
    have l3 : (g1 rd two root u).1.length ≤ 3 := goW_stopped 1 u (rd1 rd two) 4 0 root rfl c
    refine ⟨.inr s2, fun h1 => ?_, ?_, ?_⟩
    · exact absurd (s2.symm.trans h1) (by decide)
    · show -1 ≤ ((g1 rd two root u).1.length : Int); omega
    · show ((g1 rd two root u).1.length : Int) ≤ 3; omega
  · by_cases c0 : (g1 rd two root u).2.1 = 0
    · have e : flF rd two root u = zF := by unfold flF; rw [if_neg c, if_pos c0]
      rw [e] at h; exact absurd rfl h
    · have e : flF rd two root u = ⟨1, (g1 rd two root u).2.1, (((g1 rd two root u).1.getLastD zS).l : Int), u, false⟩ := by unfold flF; rw [if_neg c, if_neg c0]
      obtain ⟨L, x, h1, h2, h3, _⟩ := goW_last 1 u (rd1 rd two) 4 0 root rfl (by decide) c
      have e2 : ((g1 rd two root u).1.getLastD zS).l = x.l := by rw [show (g1 rd two root u).1 = L ++ [x] from h1]; simp
      rw [e]
      refine ⟨.inl rfl, fun _ => rfl, ?_, ?_⟩
      · show -1 ≤ (((g1 rd two root u).1.getLastD zS).l : Int); omega
      · show (((g1 rd two root u).1.getLastD zS).l : Int) ≤ 3; omega
/-- An answer that may be: no fault, and both allow the access; or a fault. -/
def okB (u : Nat) (acc : Int) (o : OV) (f : FV) (n : Nat) : Prop :=
  n ≤ 24 ∧ ((f = zF ∧ alP o.a o.b o.c acc = true ∧ alP o.r o.q o.x acc = true) ∨ ((f.s = 1 ∨ f.s = 2) ∧ f.k ≠ 0 ∧ (f.s = 1 → f.a = u) ∧ o = zO ∧ f.t = (acc == 2) ∧ -1 ≤ f.l ∧ f.l ≤ 3))
theorem onC_some (rd : Nat → Nat × Bool) (two root u : Nat) (acc : Int) : ∃ o f n, onC rd two root u acc o f n ∧ okB u acc o f n := by
  have n1 := flN_le rd two root u
  by_cases c1 : (flF rd two root u).k = 0
  · cases c2 : alP (flL rd two root u).d.r (flL rd two root u).d.q (flL rd two root u).d.x acc
    · have l3 := flL_lv rd two root u
      refine ⟨_, _, _, .inr (.inl ⟨c1, c2, rfl, rfl, rfl⟩), by omega, .inr ⟨.inl rfl, (show (2 : Int) ≠ 0 by decide), fun _ => rfl, rfl, rfl, ?_, ?_⟩⟩
      · show -1 ≤ ((flL rd two root u).l : Int); omega
      · show ((flL rd two root u).l : Int) ≤ 3; omega
    · have n2 := slN_le rd two (outN u (flL rd two root u).l (flL rd two root u).d.k (flL rd two root u).d.a)
      by_cases c3 : seK rd two (outN u (flL rd two root u).l (flL rd two root u).d.k (flL rd two root u).d.a) acc = 0
      · refine ⟨_, _, _, .inr (.inr (.inr ⟨c1, c2, c3, rfl, rfl, rfl⟩)), by omega, .inl ⟨rfl, c2, ?_⟩⟩
        rcases seK_cases rd two (outN u (flL rd two root u).l (flL rd two root u).d.k (flL rd two root u).d.a) acc with ⟨d1, d2, _⟩ | ⟨_, _, d2, _⟩ | ⟨_, d1, _, d3, _⟩
        · rw [d2] at c3; exact absurd c3 d1
        · rw [d2] at c3; exact absurd c3 (by decide)
        · rw [d3]; exact d1
      · have e : seF rd two (outN u (flL rd two root u).l (flL rd two root u).d.k (flL rd two root u).d.a) acc = ⟨2, seK rd two (outN u (flL rd two root u).l (flL rd two root u).d.k (flL rd two root u).d.a) acc, -1, outN u (flL rd two root u).l (flL rd two root u).d.k (flL rd two root u).d.a, acc == 2⟩ := if_neg c3
        refine ⟨_, _, _, .inr (.inr (.inl ⟨c1, c2, c3, rfl, rfl, rfl⟩)), by omega, .inr ?_⟩
        rw [e]
        exact ⟨.inr rfl, c3, (fun h => absurd h (show ¬ (2 : Int) = 1 by decide)), rfl, rfl, (show (-1 : Int) ≤ -1 by decide), (show (-1 : Int) ≤ 3 by decide)⟩
  · obtain ⟨b1, b2, b3, b4⟩ := flF_bound rd two root u c1
    exact ⟨_, _, _, .inl ⟨c1, rfl, rfl, rfl⟩, by omega, .inr ⟨b1, c1, b2, rfl, rfl, b3, b4⟩⟩

end Go.Proofs.Ytclcickhgoiooaa
