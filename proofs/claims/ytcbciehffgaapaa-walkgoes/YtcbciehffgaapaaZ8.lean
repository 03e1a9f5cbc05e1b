/- walk: words by their places; the document's Read. -/
import Derived.Test.YtcbciehffgaapaaZ5
namespace Go.Proofs.Ytcbciehffgaapaa
open Go.RowKit

def encU (u : Nat) : List Value := [.int .u64 (u : Int)]
theorem encU_ok : Enc encU 1 where
  len _ := rfl
  one s u h := by
    simp only [encU, List.mem_cons, List.not_mem_nil, or_false] at h
    subst h; rfl
  pos := by decide
/-- v is a list of words of one's own. -/
def UW (w : World) (v : Value) (A : List Nat) : Prop := OL encU 22 1 w v A
theorem UW.kp {w w' : World} {v : Value} {A : List Nat} (h : UW w v A) (k : Kp w w') : UW w' v A := OL.fr h (k.fr (fun _ => False)) (fun _ _ => id)
theorem UW.cell {w : World} {g n cap : Nat} {A : List Nat} (h : UW w (.slice (some ⟨g, 0, none⟩) n cap) A) {i x : Nat} (hi : A[i]? = some x) : w.cell? ⟨g, i, none⟩ = some (.int .u64 (x : Int)) := by
  have := OL.cell encU_ok h (j := 0) (u := .int .u64 (x : Int)) hi rfl
  rw [Nat.mul_one, Nat.add_zero] at this
  exact this
/-- What stays is as it was below B. -/
theorem UW.below {w w' : World} {v : Value} {A : List Nat} {B : Nat} (h : UW w v A) (k : Go.RowKit.Below B w w') (hb : ∀ g, v.ownBlock = some g → g < B) : UW w' v A := by
  rcases h.2 with ⟨h1, h2⟩ | ⟨g, cap, cur, h1, h2, h3, h4⟩
  · exact ⟨h.1, .inl ⟨h1, h2⟩⟩
  · exact ⟨h.1, .inr ⟨g, cap, cur, h1, h2, (k.block g (hb g (by rw [h1]; rfl))).trans h3, h4⟩⟩

/-- The word of a place. -/
def findW : List Nat → List Nat → Nat → Option Nat
  | a :: A, x :: X, p => if a = p then some x else findW A X p
  | _, _, _ => none
def rdW (A X : List Nat) (stop : Bool) (p : Nat) : Nat × Bool := match findW A X p with | some x => (x, true) | none => (0, !stop)
theorem findW_drop (A X : List Nat) (p i a x : Nat) (ha : A[i]? = some a) (hx : X[i]? = some x) : findW (A.drop i) (X.drop i) p = if a = p then some x else findW (A.drop (i + 1)) (X.drop (i + 1)) p := by
  obtain ⟨h1, rfl⟩ := List.getElem?_eq_some_iff.1 ha
  obtain ⟨h2, rfl⟩ := List.getElem?_eq_some_iff.1 hx
  rw [List.drop_eq_getElem_cons h1, List.drop_eq_getElem_cons h2, findW]
theorem findW_end (A X : List Nat) (p i : Nat) (h : A.length ≤ i ∨ X.length ≤ i) : findW (A.drop i) (X.drop i) p = none := by
  rcases h with h | h
  · rw [List.drop_of_length_le h, findW]
    intro _ _ _ _ e; cases e
  · rw [List.drop_of_length_le h, findW]
    intro _ _ _ _ _ e; cases e
theorem findW_mem {A X : List Nat} {p x : Nat} (h : findW A X p = some x) : x ∈ X := by
  induction A generalizing X with
  | nil => cases X <;> cases h
  | cons a A ih =>
    cases X with
    | nil => cases h
    | cons y X =>
      rw [findW] at h
      split at h
      · cases h; exact List.mem_cons_self ..
      · exact List.mem_cons_of_mem _ (ih h)

set_option maxHeartbeats 4000000 in
theorem read_any {w : World} {naA naX : Option Addr} {nA cA nX cX : Nat} {A X : List Nat} (hA : UW w (.slice naA nA cA) A) (hX : UW w (.slice naX nX cX) X) (p : Nat) (stop : Bool) (lA : A.length ≤ 100) (lX : X.length ≤ 100) :
    Calls Try.prog 11 #[.agg #[.slice naA nA cA, .slice naX nX cX], .int .u64 (p : Int), .bool stop] w fun e w' => e = .returned (.tuple #[.int .u64 ((rdW A X stop p).1 : Int), .bool (rdW A X stop p).2]) ∧ Kp w w' := by
  have e1 : nA = A.length := by obtain ⟨_, _, e, _⟩ := OL.form hA; cases e; rfl
  have e2 : nX = X.length := by obtain ⟨_, _, e, _⟩ := OL.form hX; cases e; rfl
  subst e1
  subst e2
  obtain ⟨w1, hw1⟩ : ∃ w1, w1 = w.alloc (.cells #[.slice naA A.length cA, .slice naX X.length cX] 26) := ⟨_, rfl⟩
  have K1 : Kp w w1 := by rw [hw1]; exact (Kp.refl w).alloc _
  have b1 : w1.heap[w.heap.size]? = some (.cells #[.slice naA A.length cA, .slice naX X.length cX] 26) := by rw [hw1]; exact heap_alloc_new w _
  have c0 : w1.cell? ⟨w.heap.size, 0, none⟩ = some (.slice naA A.length cA) := by rw [cell_of_row _ _ 0 _ _ _ b1]; rfl
  have c1 : w1.cell? ⟨w.heap.size, 1, none⟩ = some (.slice naX X.length cX) := by rw [cell_of_row _ _ 1 _ _ _ b1]; rfl
  have HA : Hid (UW w1 (.slice naA A.length cA) A) := hA.kp K1
  have HX : Hid (UW w1 (.slice naX X.length cX) X) := hX.kp K1
  have HK : Hid (Kp w w1) := K1
  obtain ⟨v, hv⟩ : ∃ v, v = rdW A X stop p := ⟨_, rfl⟩
  have HV : Hid (v = rdW A X stop p) := hv
  rw [← hv]
  obtain ⟨la, hla⟩ : ∃ la, la = A.length := ⟨_, rfl⟩
  obtain ⟨lx, hlx⟩ : ∃ lx, lx = X.length := ⟨_, rfl⟩
  have HLA : Hid (la = A.length) := hla
  have HLX : Hid (lx = X.length) := hlx
  rw [← hla] at c0 HA hw1 lA ⊢
  rw [← hlx] at c1 HX hw1 lX ⊢
  clear hA hX K1 b1 hv hla hlx
  go_enter Try.func11, Try.ntmps11
  go_wp2_with fail
  rw [← hw1]
  clear hw1
  go_loopg [8] (la + 1) (fun g v8 wr => ∃ i : Nat, v8 = .int .i64 (i : Int) ∧ i ≤ la ∧ la + 1 - i ≤ g ∧ wr = w1 ∧ Hid (findW A X p = findW (A.drop i) (X.drop i) p))
  case atStart => exact ⟨0, rfl, Nat.zero_le _, by omega, rfl, rfl⟩
  case round =>
    obtain ⟨i, rfl, i1, ig, rfl, HF⟩ := hrel
    have y0 : (i : Int) ≤ 100 := by omega
    by_cases ca : i < la
    · by_cases cx : i < lx
      · obtain ⟨a, ha⟩ : ∃ a, A[i]? = some a := ⟨_, List.getElem?_eq_getElem (by rw [← HLA.out]; exact ca)⟩
        obtain ⟨x, hx⟩ : ∃ x, X[i]? = some x := ⟨_, List.getElem?_eq_getElem (by rw [← HLX.out]; exact cx)⟩
        obtain ⟨gA, rfl⟩ : ∃ g, naA = some ⟨g, 0, none⟩ := by
          obtain ⟨_, _, e, _, h2⟩ := OL.form HA.out
          cases e
          rcases h2 with ⟨_, _, h3⟩ | ⟨g, h3, _⟩
          · rw [h3] at ha; cases ha
          · exact ⟨g, h3⟩
        obtain ⟨gX, rfl⟩ : ∃ g, naX = some ⟨g, 0, none⟩ := by
          obtain ⟨_, _, e, _, h2⟩ := OL.form HX.out
          cases e
          rcases h2 with ⟨_, _, h3⟩ | ⟨g, h3, _⟩
          · rw [h3] at hx; cases hx
          · exact ⟨g, h3⟩
        have d0 := HA.out.cell ha
        have d1 := HX.out.cell hx
        have hf := findW_drop A X p i a x ha hx
        have y1 : (i : Int) < (la : Int) := by omega
        have y2 : (i : Int) < (lx : Int) := by omega
        by_cases e : a = p
        · rw [if_pos e] at hf
          have hv : v = (x, true) := by rw [HV.out, rdW, HF.out, hf]
          have y3 : ((a : Int) == (p : Int)) = true := by rw [beq_iff_eq]; omega
          subst hv
          subst e
          clear hf HF HV ha hx
          go_wp2
          go_ret2
          exact ⟨rfl, HK.out⟩
        · rw [if_neg e] at hf
          have HF2 : Hid (findW A X p = findW (A.drop (i + 1)) (X.drop (i + 1)) p) := HF.out.trans hf
          have y3 : ((a : Int) == (p : Int)) = false := by rw [beq_eq_false_iff_ne]; omega
          clear hf HF ha hx
          go_wp2
          go_roundg (la + 1 - (i + 1))
          case measure => omega
          case rel => exact ⟨i + 1, by go_num, by omega, by omega, rfl, HF2⟩
      · have y1 : (i : Int) < (la : Int) := by omega
        have y2 : ¬ (i : Int) < (lx : Int) := by omega
        have hv : v = (0, !stop) := by rw [HV.out, rdW, HF.out, findW_end A X p i (by have := HLX.out; omega)]
        subst hv
        clear HF HV
        go_wp2
        go_ret2
        exact ⟨rfl, HK.out⟩
    · have y1 : ¬ (i : Int) < (la : Int) := by omega
      have hv : v = (0, !stop) := by rw [HV.out, rdW, HF.out, findW_end A X p i (by have := HLA.out; omega)]
      subst hv
      clear HF HV
      go_wp2
      go_ret2
      exact ⟨rfl, HK.out⟩

end Go.Proofs.Ytcbciehffgaapaa
