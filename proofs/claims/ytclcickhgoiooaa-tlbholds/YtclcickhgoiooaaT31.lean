/- TlbHolds: what stands in a TLB was filled last; each name once. -/
import Derived.Test.YtclcickhgoiooaaT15
import Derived.Test.YtclcickhgoiooaaT25
namespace Go.Proofs.Ytclcickhgoiooaa
open Go.RowKit

/-- No two lines have one name. -/
def UQ (T : Nat → PC) (N : Nat) : Prop := ∀ i j, i < N → j < N → (T i).on = true → (T j).on = true → (T i).l.i = (T j).l.i → (T i).l.a = (T j).l.a → (T i).l.v = (T j).l.v → i = j
/-- Has y the name of x? -/
def nwB (x y : LN) : Bool := (y.i == x.i) && ((y.a == x.a) && ((y.v : Int) == (x.v : Int)))
theorem nwB_iff {x y : LN} : nwB x y = true ↔ y.i = x.i ∧ y.a = x.a ∧ y.v = x.v := by
  simp only [nwB, Bool.and_eq_true, beq_iff_eq]
  omega
/-- Where the newest of the first j lines is that has the name of x; -1: nowhere. -/
def nwI (L : List LN) (x : LN) : Nat → Int
  | 0 => -1
  | j + 1 => if (match L[j]? with | some y => nwB x y | none => false) = true then (j : Int) else nwI L x j
theorem nwI_on {L : List LN} {x y : LN} {j : Nat} (h : L[j]? = some y) : nwI L x (j + 1) = if nwB x y = true then (j : Int) else nwI L x j := by
  show (if (match L[j]? with | some y => nwB x y | none => false) = true then (j : Int) else nwI L x j) = _
  rw [h]
theorem nwI_app (L M : List LN) (x : LN) : ∀ j, j ≤ L.length → nwI (L ++ M) x j = nwI L x j
  | 0, _ => rfl
  | j + 1, h => by
    have e := List.getElem?_eq_getElem (show j < L.length by omega)
    rw [nwI_on e, nwI_on (by rw [List.getElem?_append_left (by omega)]; exact e), nwI_app L M x j (by omega)]
theorem nwI_lt (L : List LN) (x : LN) : ∀ j, -1 ≤ nwI L x j ∧ nwI L x j < j
  | 0 => by unfold nwI; omega
  | j + 1 => by
    have := nwI_lt L x j
    unfold nwI
    split <;> omega
/-- What stands is what was filled last. -/
def NWt (T : Nat → PC) (N : Nat) (L : List LN) : Prop := ∀ i, i < N → (T i).on = true → ∃ m : Nat, nwI L (T i).l L.length = (m : Int) ∧ L[m]? = some (T i).l
/-- What stands in T' stood in T. -/
def SubT (T' T : Nat → PC) : Prop := ∀ i, (T' i).on = true → T' i = T i
section
variable {T T' : Nat → PC} {N s k : Nat} {L : List LN}
theorem SubT.los (T : Nat → PC) (P : LN → Bool) (n : Nat) : SubT (losT T P n) T := fun i h => by
  unfold losT at h ⊢
  by_cases e : i < n ∧ ((T i).on && P (T i).l) = true
  · rw [if_pos e] at h; cases h
  · rw [if_neg e]
theorem SubT.ev (T : Nat → PC) (s k : Nat) (x y : Int) : SubT (evT T s k x y) T := fun i h => by
  unfold evT at h ⊢
  cases he : evI s k x y with
  | none => rfl
  | some j =>
    rw [he] at h
    unfold updP at h ⊢
    by_cases e : i = j
    · dsimp only at h
      rw [if_pos e] at h; cases h
    · dsimp only
      rw [if_neg e]
theorem UQ.sub (h : UQ T N) (g : SubT T' T) : UQ T' N := fun i j hi hj oi oj e1 e2 e3 => by
  have a := g i oi
  have b := g j oj
  rw [a] at oi e1 e2 e3
  rw [b] at oj e1 e2 e3
  exact h i j hi hj oi oj e1 e2 e3
theorem NWt.sub (h : NWt T N L) (g : SubT T' T) : NWt T' N L := fun i hi oi => by
  have a := g i oi
  rw [a] at oi ⊢
  exact h i hi oi

/-- A name that stands is found, with its line. -/
theorem fnd_some (h : TI T s k) (u : UQ T (s * k)) (hs : 1 ≤ s) (hk : 1 ≤ k) {p : Nat} (hp : p < s * k) (hon : (T p).on = true) : fndL T s k (T p).l.i (T p).l.a (T p).l.v = (T p).l ∧ fndB T s k (T p).l.i (T p).l.a (T p).l.v = true := by
  have hF : keyB (T p).l.i (T p).l.a (T p).l.v (T p) = true := keyB_iff.2 ⟨hon, rfl, rfl, rfl⟩
  have h2 := sr_cases (fun j => keyB (T p).l.i (T p).l.a (T p).l.v (T j)) (s * k) 0
  have h1 := sr_cases (fun j => keyB (T p).l.i (T p).l.a (T p).l.v (T ((T p).l.v % s * k + j))) k 0
  rw [show sr (fun j => keyB (T p).l.i (T p).l.a (T p).l.v (T j)) (s * k) 0 = atI T (s * k) (T p).l.i (T p).l.a (T p).l.v from rfl] at h2
  rw [show sr (fun j => keyB (T p).l.i (T p).l.a (T p).l.v (T ((T p).l.v % s * k + j))) k 0 = fndI T s k (T p).l.i (T p).l.a (T p).l.v from rfl] at h1
  have hle := set_le (k := k) (v := (T p).l.v) hs
  rcases h.at_fnd hs hk (T p).l.i (T p).l.a (T p).l.v with ⟨_, e2⟩ | ⟨j, e1, j1, _⟩
  · rcases h2 with ⟨_, n2⟩ | ⟨m, e3, _⟩
    · have := n2 p (by omega) (by omega)
      rw [hF] at this
      cases this
    · omega
  · rcases h1 with ⟨e3, _⟩ | ⟨m, e3, _, m1, m2, _⟩
    · omega
    · have em : m = j := by omega
      subst em
      obtain ⟨q1, q2, q3, q4⟩ := keyB_iff.1 m2
      have ep := u _ p (by omega) hp q1 hon q2 q3 q4
      unfold fndL fndB
      rw [e1, if_neg (by omega), Int.toNat_natCast, ep, show ((m : Int) == -1) = false from by rw [beq_eq_false_iff_ne]; omega]
      exact ⟨rfl, rfl⟩
theorem fnd_none (i a : Int) (v : Nat) (hs : 1 ≤ s) (hn : ∀ p, p < s * k → (T p).on = true → (T p).l.i ≠ i) : fndB T s k i a v = false := by
  have h1 := sr_cases (fun j => keyB i a v (T (v % s * k + j))) k 0
  rw [show sr (fun j => keyB i a v (T (v % s * k + j))) k 0 = fndI T s k i a v from rfl] at h1
  have hle := set_le (k := k) (v := v) hs
  unfold fndB
  rcases h1 with ⟨e, _⟩ | ⟨j, _, _, j1, j2, _⟩
  · rw [e]; rfl
  · obtain ⟨q1, q2, _⟩ := keyB_iff.1 j2
    exact absurd q2 (hn _ (by omega) q1)
theorem los_id (T : Nat → PC) (m : LN) (N : Nat) : ∀ p, p < N → (losT T (suB true false false false false m) N p).on = true → (losT T (suB true false false false false m) N p).l.i ≠ m.i := fun p hp hon e => by
  unfold losT at hon e
  by_cases c : p < N ∧ ((T p).on && suB true false false false false m (T p).l) = true
  · rw [if_pos c] at hon; cases hon
  · rw [if_neg c] at hon e
    exact c ⟨hp, by rw [hon]; simp [suB, e]⟩

/-- A line that is filled: no other place has its name. -/
theorem fill_fresh (h : TI T s k) (u : UQ T (s * k)) (hs : 1 ≤ s) (hk : 1 ≤ k) (l : LN) (way : Int) {i : Nat} (hi : i < s * k) (hne : i ≠ filI T s k l way) (hon : (T i).on = true) : ¬ ((T i).l.i = l.i ∧ (T i).l.a = l.a ∧ (T i).l.v = l.v) := fun ⟨e1, e2, e3⟩ => by
  have hF : keyB l.i l.a l.v (T i) = true := keyB_iff.2 ⟨hon, e1, e2, e3⟩
  have h2 := sr_cases (fun j => keyB l.i l.a l.v (T j)) (s * k) 0
  have h1 := sr_cases (fun j => keyB l.i l.a l.v (T (l.v % s * k + j))) k 0
  rw [show sr (fun j => keyB l.i l.a l.v (T j)) (s * k) 0 = atI T (s * k) l.i l.a l.v from rfl] at h2
  rw [show sr (fun j => keyB l.i l.a l.v (T (l.v % s * k + j))) k 0 = fndI T s k l.i l.a l.v from rfl] at h1
  have hle := set_le (k := k) (v := l.v) hs
  rcases h.at_fnd hs hk l.i l.a l.v with ⟨_, e4⟩ | ⟨j, e4, j1, _⟩
  · rcases h2 with ⟨_, n2⟩ | ⟨m, e3, _⟩
    · have := n2 i (by omega) (by omega)
      rw [hF] at this
      cases this
    · omega
  · rcases h1 with ⟨e5, _⟩ | ⟨m, e5, _, m1, m2, _⟩
    · omega
    · have em : m = j := by omega
      subst em
      obtain ⟨q1, q2, q3, q4⟩ := keyB_iff.1 m2
      have ep := u i _ hi (by omega) hon q1 (by rw [e1, q2]) (by rw [e2, q3]) (by rw [e3, q4])
      apply hne
      unfold filI wayI
      rw [e4, if_neg (by omega), Int.toNat_natCast, ep]
theorem UQ.fill (u : UQ T (s * k)) (h : TI T s k) (hs : 1 ≤ s) (hk : 1 ≤ k) (l : LN) (way : Int) : UQ (updP T (filI T s k l way) ⟨true, l⟩) (s * k) := fun i j hi hj oi oj e1 e2 e3 => by
  have fi := fun (i : Nat) (hi : i < s * k) (hne : i ≠ filI T s k l way) (hon : (T i).on = true) => fill_fresh h u hs hk l way hi hne hon
  unfold updP at oi oj e1 e2 e3
  by_cases c1 : i = filI T s k l way
  · by_cases c2 : j = filI T s k l way
    · omega
    · rw [if_pos c1, if_neg c2] at e1 e2 e3
      rw [if_neg c2] at oj
      exact absurd ⟨e1.symm, e2.symm, e3.symm⟩ (fi j hj c2 oj)
  · by_cases c2 : j = filI T s k l way
    · rw [if_neg c1, if_pos c2] at e1 e2 e3
      rw [if_neg c1] at oi
      exact absurd ⟨e1, e2, e3⟩ (fi i hi c1 oi)
    · rw [if_neg c1, if_neg c2] at e1 e2 e3
      rw [if_neg c1] at oi
      rw [if_neg c2] at oj
      exact u i j hi hj oi oj e1 e2 e3
theorem NWt.fill (n : NWt T (s * k) L) (h : TI T s k) (u : UQ T (s * k)) (hs : 1 ≤ s) (hk : 1 ≤ k) (l : LN) (way : Int) : NWt (updP T (filI T s k l way) ⟨true, l⟩) (s * k) (L ++ [l]) := fun i hi oi => by
  have e0 : (L ++ [l])[L.length]? = some l := by rw [List.getElem?_append_right (Nat.le_refl _), Nat.sub_self]; rfl
  have fi := fun (hne : i ≠ filI T s k l way) (hon : (T i).on = true) => fill_fresh h u hs hk l way hi hne hon
  rw [List.length_append, List.length_singleton]
  unfold updP at oi ⊢
  by_cases c : i = filI T s k l way
  · rw [if_pos c, nwI_on e0, if_pos (nwB_iff.2 ⟨rfl, rfl, rfl⟩)]
    exact ⟨L.length, rfl, e0⟩
  · rw [if_neg c] at oi ⊢
    rw [nwI_on e0, if_neg (fun e => by
      obtain ⟨q1, q2, q3⟩ := nwB_iff.1 e
      exact fi c oi ⟨q1.symm, q2.symm, q3.symm⟩), nwI_app L [l] _ _ (Nat.le_refl _)]
    obtain ⟨m, m1, m2⟩ := n i hi oi
    have := nwI_lt L (T i).l L.length
    exact ⟨m, m1, by rw [List.getElem?_append_left (by omega)]; exact m2⟩
/-- The line that is filled is found. -/
theorem fill_found (h : TI T s k) (u : UQ T (s * k)) (hs : 1 ≤ s) (hk : 1 ≤ k) (l : LN) (way : Int) : fndL (updP T (filI T s k l way) ⟨true, l⟩) s k l.i l.a l.v = l ∧ fndB (updP T (filI T s k l way) ⟨true, l⟩) s k l.i l.a l.v = true := by
  have e : updP T (filI T s k l way) ⟨true, l⟩ (filI T s k l way) = ⟨true, l⟩ := if_pos rfl
  have := fnd_some (h.fill l way hk) (u.fill h hs hk l way) hs hk (p := filI T s k l way) (filI_lt T l way hs hk) (by rw [e])
  rw [e] at this
  exact this
theorem fill_set (h : TI T s k) (hs : 1 ≤ s) (hk : 1 ≤ k) (l : LN) (way : Int) (hon : (T (filI T s k l way)).on = true) : (T (filI T s k l way)).l.v % s = l.v % s := by
  rw [← h.pl _ (filI_lt T l way hs hk) hon]
  exact filI_div T l way hk

theorem ls_mem {n : Nat} {x : LN} {i : Nat} (hx : (lsT T n)[i]? = some x) : ∃ p, p < n ∧ (T p).on = true ∧ (T p).l = x := by
  have hm := List.mem_of_getElem? hx
  unfold lsT at hm
  obtain ⟨p, hp, e⟩ := List.mem_map.1 hm
  rw [List.mem_filter] at hp
  exact ⟨p, by simpa using hp.1, hp.2, e⟩
/-- How many of the first i lines stand in the set c. -/
def cnS (L : List LN) (s c : Nat) (i : Nat) : Nat := ((L.take i).filter (fun l => l.v % s == c)).length
theorem cnS_on {s c i : Nat} {x : LN} (h : L[i]? = some x) : cnS L s c (i + 1) = cnS L s c i + if x.v % s = c then 1 else 0 := by
  unfold cnS
  rw [List.take_add_one, h, List.filter_append, List.length_append]
  show _ + (List.filter _ [x]).length = _
  rw [List.filter_cons, List.filter_nil]
  by_cases e : x.v % s = c
  · rw [if_pos e, if_pos (by simpa using e)]; rfl
  · rw [if_neg e, if_neg (by simpa using e)]; rfl
theorem cnS_le (L : List LN) (s c i : Nat) : cnS L s c i ≤ cnS L s c L.length := by
  unfold cnS
  rw [List.take_length]
  exact (List.Sublist.filter _ (List.take_sublist i L)).length_le
theorem ls_cnt (h : TI T s k) (c : Nat) (hk : 1 ≤ k) : ∀ n, n ≤ s * k → ((lsT T n).filter (fun l => l.v % s == c)).length ≤ n - c * k ∧ ((lsT T n).filter (fun l => l.v % s == c)).length ≤ k
  | 0, _ => by simp [lsT]
  | n + 1, hn => by
    obtain ⟨i1, i2⟩ := ls_cnt h c hk n (by omega)
    cases hon : (T n).on
    · rw [lsT_off hon]; omega
    · rw [lsT_on hon, List.filter_append, List.length_append, List.filter_cons, List.filter_nil]
      by_cases e : (T n).l.v % s = c
      · rw [if_pos (by simpa using e)]
        have hd := h.pl n (by omega) hon
        rw [e] at hd
        have h1 := Nat.div_add_mod n k
        have h2 := Nat.mod_lt n (show 0 < k by omega)
        rw [hd, Nat.mul_comm] at h1
        simp only [List.length_singleton]
        omega
      · rw [if_neg (by simpa using e)]
        simp only [List.length_nil]
        omega
theorem cnS_k (h : TI T s k) (hk : 1 ≤ k) (c i : Nat) : cnS (lsT T (s * k)) s c i ≤ k := by
  refine Nat.le_trans (cnS_le _ _ _ _) ?_
  unfold cnS
  rw [List.take_length]
  exact (ls_cnt h c hk (s * k) (Nat.le_refl _)).2
theorem los_all (T : Nat → PC) (m : LN) (N : Nat) : losN T (suB false false false false false m) N = (lsT T N).length ∧ lsT (losT T (suB false false false false false m) N) N = [] := by
  have e : (lsT T N).filter (fun l => !suB false false false false false m l) = [] := by
    rw [List.filter_eq_nil_iff]
    intro l _
    simp [suB]
  have h1 := los_len T (suB false false false false false m) N
  have h2 := lsT_los T (suB false false false false false m) N N (Nat.le_refl _)
  rw [e] at h1 h2
  exact ⟨h1, h2⟩
end

end Go.Proofs.Ytclcickhgoiooaa
