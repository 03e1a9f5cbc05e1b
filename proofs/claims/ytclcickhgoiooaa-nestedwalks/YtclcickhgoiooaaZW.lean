/- Lists of words. -/
import Derived.Test.YtclcickhgoiooaaUS
namespace Go.Proofs.Ytclcickhgoiooaa
open Go.RowKit
set_option maxRecDepth 10000

def encU (u : Nat) : List Value := [.int .u64 (u : Int)]
theorem encU_ok : Enc encU 1 where
  len _ := rfl
  one s u h := by
    simp only [encU, List.mem_cons, List.not_mem_nil, or_false] at h
    subst h; rfl
  pos := by decide
/-- v is a list of words of one's own. -/
def UW (w : World) (v : Value) (A : List Nat) : Prop := OL encU 23 1 w v A
theorem UW.kp {w w' : World} {v : Value} {A : List Nat} (h : UW w v A) (k : Kp w w') : UW w' v A := OL.fr h (k.fr (fun _ => False)) (fun _ _ => id)
theorem UW.cell {w : World} {g n cap : Nat} {A : List Nat} (h : UW w (.slice (some ⟨g, 0, none⟩) n cap) A) {i x : Nat} (hi : A[i]? = some x) : w.cell? ⟨g, i, none⟩ = some (.int .u64 (x : Int)) := by
  have := OL.cell encU_ok h (j := 0) (u := .int .u64 (x : Int)) hi rfl
  rw [Nat.mul_one, Nat.add_zero] at this
  exact this
/-- What stays is as it was below B. -/
theorem UW.below {w w' : World} {v : Value} {A : List Nat} {B : Nat} (h : UW w v A) (k : Go.RowKit.Below B w w') (hb : ∀ g, v.ownBlock = some g → g < B) : UW w' v A := by
  rcases h.2 with ⟨h1, h2⟩ | ⟨g, cap, cur, h1, h2, h3, h4⟩
  · exact ⟨h.1, .inl ⟨h1, h2⟩⟩
  · exact ⟨h.1, .inr ⟨g, cap, cur, h1, h2, (k.block g (hb g (by rw [h1]; rfl))).trans h3, h4⟩⟩

theorem UW.fr {w w' : World} {v : Value} {A : List Nat} (h : UW w v A) {S : Nat → Prop} (k : Fr S w w') (hS : ∀ g, v.ownBlock = some g → ¬ S g) : UW w' v A := OL.fr h k hS
theorem UW.lt {w : World} {v : Value} {A : List Nat} (h : UW w v A) {g : Nat} (e : v.ownBlock = some g) : g < w.heap.size := by
  obtain ⟨na, cap, rfl, _, h2⟩ := OL.form h
  rcases h2 with ⟨rfl, _⟩ | ⟨g', rfl, h3⟩
  · cases e
  · cases e; exact h3
theorem UW.shape {w : World} {v : Value} {A : List Nat} (h : UW w v A) : ∃ na n c, v = .slice na n c := by
  obtain ⟨na, cap, rfl, _⟩ := OL.form h
  exact ⟨_, _, _, rfl⟩
/-- An append of one word. -/
theorem UW.snoc {w : World} {v : Value} {A : List Nat} (h : UW w v A) (p c : Nat) (hc : w.heap[c]? = some (.cells #[.int .u64 (p : Int)] 23)) (hl : A.length ≤ 1000) :
    ∃ v' w', (Builtin.append_ #[27, 27] 27 #[v, .slice (some ⟨c, 0, none⟩) 1 1]).run Try.prog w = .ok v' w' ∧ UW w' v' (A ++ [p]) ∧ Fr (fun g => v.ownBlock = some g) w w' ∧ (v'.ownBlock = v.ownBlock ∨ v'.ownBlock = some w.heap.size) := by
  obtain ⟨i, hi, hz, hsz, hb⟩ : ∃ i : TypeInfo, Try.prog.info? 23 = some i ∧ i.zero = some (.int .u64 0) ∧ i.size = 1 ∧ i.bytes = 8 := ⟨_, rfl, rfl, rfl, rfl⟩
  obtain ⟨v', w', h1, h2, h3, h4⟩ := OL.append (P := Try.prog) encU_ok Try.underlying27 hi hz hsz hb rfl h [p] (some ⟨c, 0, none⟩) 1 1 rfl (.inr ⟨c, 0, rfl, fun j u hu => by
    rw [cell_of_row _ _ (0 + j) _ _ _ hc]
    simpa [encU] using hu⟩) (by simp; omega) (by decide) 27
  exact ⟨v', w', h1, h2, Fr.grown h3 (fun g e => e), h4⟩

end Go.Proofs.Ytclcickhgoiooaa
