/- The ledger's entries: a map of those that are not free; lists of frames. -/
import Derived.Test.YtjeahpekcbogeaaMG
import Derived.Maps.RangeWalk
namespace Go.Proofs.Ytjeahpekcbogeaa
open Go.RowKit Go.Maps

/-! ### the frames of which F holds, rising -/
def fl (F : Int → Bool) : Nat → List Int
  | 0 => []
  | n + 1 => fl F n ++ if F (n : Int) then [(n : Int)] else []
theorem fl_like {F G : Int → Bool} : ∀ n : Nat, (∀ x : Int, 0 ≤ x → x < (n : Int) → G x = F x) → fl G n = fl F n
  | 0, _ => rfl
  | n + 1, h => by unfold fl; rw [fl_like n (fun x h0 hx => h x h0 (by omega)), h n (by omega) (by omega)]
theorem fl_none : ∀ n : Nat, fl (fun _ => false) n = []
  | 0 => rfl
  | n + 1 => by unfold fl; rw [fl_none n]; rfl
theorem fl_len (F : Int → Bool) : ∀ n : Nat, (fl F n).length + (fl (fun x => !F x) n).length = n
  | 0 => rfl
  | n + 1 => by
    have := fl_len F n
    unfold fl
    cases F (n : Int) <;> simp <;> omega
theorem fl_le (F : Int → Bool) (n : Nat) : (fl F n).length ≤ n := by have := fl_len F n; omega
theorem fl_mem {F : Int → Bool} : ∀ {n : Nat} {x : Int}, x ∈ fl F n ↔ 0 ≤ x ∧ x < (n : Int) ∧ F x = true
  | 0, x => by simp [fl]; omega
  | n + 1, x => by
    unfold fl
    rw [List.mem_append, fl_mem]
    by_cases e : x = (n : Int)
    · subst e
      cases hF : F (n : Int) <;> simp; omega
    · have : x ∉ (if F (n : Int) then [(n : Int)] else []) := by split <;> simp [e]
      constructor
      · rintro (h | h)
        · exact ⟨h.1, by omega, h.2.2⟩
        · exact absurd h this
      · exact fun h => .inl ⟨h.1, by omega, h.2.2⟩
theorem fl_rise (F : Int → Bool) : ∀ n : Nat, (fl F n).Pairwise (· < ·)
  | 0 => List.Pairwise.nil
  | n + 1 => by
    unfold fl
    refine List.pairwise_append.2 ⟨fl_rise F n, by split <;> simp, fun a ha b hb => ?_⟩
    have h1 := (fl_mem.1 ha).2.1
    cases hF : F (n : Int)
    · rw [hF] at hb; simp at hb
    · rw [hF] at hb; simp at hb; omega
theorem fl_on {F G : Int → Bool} {x : Int} (hF : F x = false) (hG : ∀ y, G y = (decide (y = x) || F y)) : ∀ n : Nat, 0 ≤ x → x < (n : Int) → (fl G n).Perm (fl F n ++ [x])
  | 0, h0, h1 => by omega
  | n + 1, h0, h1 => by
    unfold fl
    by_cases e : x = (n : Int)
    · subst e
      rw [fl_like (F := F) (G := G) n (fun y _ hy => by rw [hG, decide_eq_false (by omega), Bool.false_or]), hF, hG, decide_eq_true rfl]
      simp
    · have ih := fl_on hF hG n h0 (by omega)
      rw [hG (n : Int), decide_eq_false (fun h => e h.symm), Bool.false_or]
      refine (ih.append_right _).trans ?_
      rw [List.append_assoc, List.append_assoc]
      exact (List.perm_append_comm).append_left _
theorem sort_fl {F : Int → Bool} {n : Nat} {L : List Int} (h : L.Perm (fl F n)) : L.mergeSort (fun x y => decide (x ≤ y)) = fl F n := by
  have p1 := (List.mergeSort_perm L (fun x y => decide (x ≤ y))).trans h
  have s1 := List.pairwise_mergeSort (le := fun (x y : Int) => decide (x ≤ y)) (by intro a b c; simp; omega) (by intro a b; simp; omega) L
  refine p1.eq_of_pairwise (le := fun a b => a ≤ b) (fun a b _ _ h1 h2 => by omega) (s1.imp (by simp)) ((fl_rise F n).imp (by intro a b h; omega))

/-! ### entries -/
def entV (x : Int × Int) : Value := .agg #[.int .i64 x.1, .int .i64 x.2]
def entD (x : Int × Int) : DataW Unit := .agg [.lit (.int .i64 x.1), .lit (.int .i64 x.2)]
theorem entD_inj {x y : Int × Int} (h : entD x = entD y) : x = y := by
  unfold entD at h
  simp only [DataW.agg.injEq, List.cons.injEq, DataW.lit.injEq, Lit.int.injEq, true_and, and_true] at h
  exact Prod.ext h.1 h.2
/-- How an entry reads. -/
def entElem (v : Value) : Option (DataW Unit × List MemPlace) :=
  match v with
  | .agg cs => match cs.toList with
    | [.int .i64 a, .int .i64 b] => some (entD (a, b), [])
    | _ => none
  | _ => none
theorem entElem_mk (x : Int × Int) : entElem (entV x) = some (entD x, []) := rfl
theorem entElem_inv {v : Value} {y : DataW Unit × List MemPlace} (h : entElem v = some y) : ∃ x, v = entV x ∧ y = (entD x, []) := by
  unfold entElem at h
  split at h
  · rename_i cs
    split at h
    · rename_i a b e
      cases h
      refine ⟨(a, b), ?_, rfl⟩
      unfold entV
      rw [← e]
    · cases h
  · cases h
theorem zero_ent (w : World) : (zeroValue 36).run Try.prog w = .ok (entV (0, 0)) w := by kernel_rfl

/-- What is not free. -/
def nf (E : Int → Int × Int) : Int → Bool := fun x => decide ((E x).1 ≠ 0)
def putE (E : Int → Int × Int) (x : Int) (v : Int × Int) : Int → Int × Int := fun y => if y = x then v else E y
theorem putE_same (E : Int → Int × Int) (x : Int) (v : Int × Int) : putE E x v x = v := if_pos rfl
theorem putE_other (E : Int → Int × Int) {x y : Int} (v : Int × Int) (h : y ≠ x) : putE E x v y = E y := if_neg h
def noE : Int → Int × Int := fun _ => (0, 0)
/-- Entries of N frames: those that are free are (0, 0), and so is what is none. -/
structure EOk (N : Nat) (E : Int → Int × Int) : Prop where
  free : ∀ x, (E x).1 = 0 → E x = (0, 0)
  dom : ∀ x, (E x).1 ≠ 0 → 0 ≤ x ∧ x < (N : Int)
theorem EOk.no (N : Nat) : EOk N noE := ⟨fun _ _ => rfl, fun _ h => absurd rfl h⟩
theorem EOk.put {N : Nat} {E : Int → Int × Int} (h : EOk N E) {x : Int} {v : Int × Int} (h0 : 0 ≤ x) (h1 : x < (N : Int)) (hv : v.1 = 0 → v = (0, 0)) : EOk N (putE E x v) :=
  ⟨fun y hy => by
    unfold putE at hy ⊢
    by_cases e : y = x
    · rw [if_pos e] at hy ⊢; exact hv hy
    · rw [if_neg e] at hy ⊢; exact h.free y hy, fun y hy => by
    unfold putE at hy
    by_cases e : y = x
    · subst e; exact ⟨h0, h1⟩
    · rw [if_neg e] at hy; exact h.dom y hy⟩
theorem EOk.out {N : Nat} {E : Int → Int × Int} (h : EOk N E) {x : Int} (hx : x < 0 ∨ (N : Int) ≤ x) : E x = (0, 0) := by
  refine h.free x (Decidable.byContradiction fun e => ?_)
  have := h.dom x e
  omega

/-- Block bm is the map of the entries that are not free. -/
structure ME (w : World) (bm N : Nat) (E : Int → Int × Int) : Prop where
  ex : ∃ D, w.ownsMap Try.prog 3 entElem bm N D ∧ (∀ x : Int, D.atKey (.int .i64 x) (entD (0, 0)) = entD (E x)) ∧ (∀ x : Int, Maps.has D (.int .i64 x) = nf E x) ∧ Maps.size D = (fl (nf E) N).length
  ok : EOk N E
variable {w w' : World} {bm N : Nat} {E : Int → Int × Int}
theorem ME.lt (h : ME w bm N E) : bm < w.heap.size := by
  obtain ⟨D, h1, _⟩ := h.ex
  exact h1.lt
theorem ME.made (w : World) (N : Nat) : ME (w.alloc (.map #[] 0)) w.heap.size N noE :=
  ⟨⟨.map [], (World.ownsMap_made w _ _ _).mono (Nat.zero_le _), fun x => rfl, fun _ => rfl, by
    rw [show nf noE = fun _ => false from rfl, fl_none]; rfl⟩, EOk.no N⟩
theorem ME.fr (h : ME w bm N E) {S : Nat → Prop} (k : Fr S w w') (hS : ¬ S bm) : ME w' bm N E := by
  have hlt := h.lt
  obtain ⟨⟨D, ⟨es, clock, hb, r⟩, h2⟩, h3⟩ := h
  exact ⟨⟨D, ⟨es, clock, (k.block bm hlt hS).trans hb, r⟩, h2⟩, h3⟩
theorem ME.kp (h : ME w bm N E) (k : Kp w w') : ME w' bm N E := h.fr (k.fr (fun _ => False)) id
theorem ME.look (h : ME w bm N E) (x : Int) (hx : (Lit.int .i64 x).wf = true) :
    (Instr.lookup 45 (.map (some bm)) (.int .i64 x) false).run Try.prog w = .ok (entV (E x)) w := by
  obtain ⟨D, h1, h2, _⟩ := h.ex
  obtain ⟨v, ps, hr, hv⟩ := h1.lookup keyed_int Try.underlying45 (zero_ent w) (zd := entD (0, 0)) (zp := []) rfl (keyOf_int_mk Try.underlying3 hx)
  obtain ⟨y, rfl, hy⟩ := entElem_inv hv
  rw [h2 x] at hy
  simp only [Prod.mk.injEq] at hy
  rw [hr, entD_inj hy.1]
theorem ME.len (h : ME w bm N E) (ty : TypeId) : (Builtin.len_ #[45] ty #[.map (some bm)]).run Try.prog w = .ok (.int .i64 ((fl (nf E) N).length : Nat)) w := by
  obtain ⟨D, h1, _, _, h4⟩ := h.ex
  rw [h1.len Try.underlying45 ty, h4]
theorem nf_put (E : Int → Int × Int) (x : Int) (v : Int × Int) (y : Int) : nf (putE E x v) y = if y = x then decide (v.1 ≠ 0) else nf E y := by
  unfold nf putE
  by_cases e : y = x
  · rw [if_pos e, if_pos e]
  · rw [if_neg e, if_neg e]
theorem ME.drop (h : ME w bm N E) (x : Int) (hx : (Lit.int .i64 x).wf = true) (ty : TypeId) :
    ∃ w', (Builtin.delete_ #[45, 3] ty #[.map (some bm), .int .i64 x]).run Try.prog w = .ok (.tuple #[]) w' ∧ ME w' bm N (putE E x (0, 0)) ∧ Fr (· = bm) w w' := by
  obtain ⟨⟨D, h1, h2, h3, h4⟩, ok⟩ := h
  obtain ⟨w', r1, r2, r3⟩ := h1.drop keyed_int Try.underlying45 (keyOf_int_mk Try.underlying3 hx) ty
  have sz := size_del (k := .int .i64 x) (h1.tidy keyed_int)
  have ok2 : EOk N (putE E x (0, 0)) := ⟨fun y hy => by
    unfold putE at hy ⊢
    by_cases e : y = x
    · rw [if_pos e]
    · rw [if_neg e] at hy ⊢; exact ok.free y hy, fun y hy => by
    unfold putE at hy
    by_cases e : y = x
    · rw [if_pos e] at hy; exact absurd rfl hy
    · rw [if_neg e] at hy; exact ok.dom y hy⟩
  refine ⟨w', r1, ⟨⟨_, r2, fun y => ?_, fun y => ?_, ?_⟩, ok2⟩, Fr.grown r3.grown (fun g hg => by cases hg; rfl)⟩
  · unfold putE
    by_cases e : y = x
    · subst e; rw [if_pos rfl, atKey_del_same]
    · rw [if_neg e, atKey_del_other (lit_ne e), h2]
  · rw [nf_put]
    by_cases e : y = x
    · subst e; rw [if_pos rfl, has_del_same]; rfl
    · rw [if_neg e, has_del_other (lit_ne e), h3]
  · rw [h3 x, h4] at sz
    cases hF : nf E x
    · rw [hF] at sz
      have : nf (putE E x (0, 0)) = nf E := by
        funext y
        rw [nf_put]
        by_cases e : y = x
        · subst e; rw [if_pos rfl, hF]; rfl
        · rw [if_neg e]
      rw [this]; simpa using sz
    · rw [hF] at sz
      have hd := ok.dom x (of_decide_eq_true hF)
      have := (fl_on (F := nf (putE E x (0, 0))) (G := nf E) (x := x) (by rw [nf_put, if_pos rfl]; rfl) (fun y => by
        rw [nf_put]
        by_cases e : y = x
        · subst e; rw [hF, decide_eq_true rfl]; rfl
        · rw [if_neg e, decide_eq_false e, Bool.false_or]) N hd.1 hd.2).length_eq
      rw [List.length_append] at this
      simp at this sz
      omega
theorem ME.store (h : ME w bm N E) (x : Int) (v : Int × Int) (hx : (Lit.int .i64 x).wf = true) (h0 : 0 ≤ x) (h1 : x < (N : Int)) (hv : v.1 ≠ 0) (hN : N < maxLen) :
    ∃ w', (Instr.mapUpdate 45 (.map (some bm)) (.int .i64 x) (entV v)).run Try.prog w = .ok () w' ∧ ME w' bm N (putE E x v) ∧ Fr (· = bm) w w' := by
  obtain ⟨⟨D, k1, k2, k3, k4⟩, ok⟩ := h
  obtain ⟨w', r1, r2, r3⟩ := k1.store keyed_int Try.underlying45 hN (keyOf_int_mk Try.underlying3 hx) (entElem_mk v)
  have sz := size_put (k := .int .i64 x) (k1.tidy keyed_int) (entD v)
  have ok2 := ok.put h0 h1 (fun e => absurd e hv)
  have hh : ∀ y : Int, Maps.has (D.put (.int .i64 x) (entD v)) (.int .i64 y) = nf (putE E x v) y := fun y => by
    rw [nf_put]
    by_cases e : y = x
    · subst e; rw [if_pos rfl, has_put_same k1.isMap (isKey_int _ hx), decide_eq_true hv]
    · rw [if_neg e, has_put_other (lit_ne e), k3]
  refine ⟨w', r1, ⟨⟨_, map_sized r2 (fun y hy => ?_), fun y => ?_, hh, ?_⟩, ok2⟩, Fr.grown r3.grown (fun g hg => by cases hg; rfl)⟩
  · rw [hh] at hy
    exact ok2.dom y (of_decide_eq_true hy)
  · unfold putE
    by_cases e : y = x
    · subst e; rw [if_pos rfl, atKey_put_same k1.isMap (isKey_int _ hx)]
    · rw [if_neg e, atKey_put_other (lit_ne e), k2]
  · rw [sz, k3 x, k4]
    cases hF : nf E x
    · have := (fl_on (F := nf E) (G := nf (putE E x v)) (x := x) hF (fun y => by
        rw [nf_put]
        by_cases e : y = x
        · rw [if_pos e, decide_eq_true hv, decide_eq_true e]; rfl
        · rw [if_neg e, decide_eq_false e, Bool.false_or]) N h0 h1).length_eq
      rw [this, List.length_append]; rfl
    · have : nf (putE E x v) = nf E := by
        funext y
        rw [nf_put]
        by_cases e : y = x
        · subst e; rw [if_pos rfl, hF, decide_eq_true hv]
        · rw [if_neg e]
      rw [this]; rfl

/-! ### the range over the map -/
/-- The iterator r over the map bm: left says which are still to come. -/
def RG (w : World) (bm r N : Nat) (E : Int → Int × Int) (left : Int → Bool) (c : Nat) : Prop :=
  ∃ D lf, w.ranges Try.prog 3 entElem bm r N D lf c ∧ (∀ x : Int, D.atKey (.int .i64 x) (entD (0, 0)) = entD (E x)) ∧ (∀ x : Int, Maps.has D (.int .i64 x) = nf E x) ∧ ∀ x : Int, lf (.int .i64 x) = left x
theorem Kp.grown0 (k : Kp w w') : w.grownBy w' none := ⟨k.os, k.tape, k.output, k.size, fun i hi _ => k.block i hi⟩
theorem RG.kp {r c : Nat} {left : Int → Bool} (h : RG w bm r N E left c) (k : Kp w w') : RG w' bm r N E left c := by
  obtain ⟨D, lf, h1, h2⟩ := h
  exact ⟨D, lf, h1.kept k.grown0 (by simp) (by simp), h2⟩
theorem RG.lt {r c : Nat} {left : Int → Bool} (h : RG w bm r N E left c) : r < w.heap.size := by
  obtain ⟨D, lf, h1, h2⟩ := h
  exact h1.lt

section
variable {ops : Array Oper} {rest : List Oper} {o : Oper} {a : Act} {Q : Exit → Act → World → Prop}
theorem wp_range_me (h : ME w bm N E) (m : Operand) (hg : o.guard = none) (hop : o.op = Op.range 45 m) (hm : a.eval m = .map (some bm))
    (hK : ∀ w' c, RG w' bm w.heap.size N E (nf E) c → c ≤ N → Kp w w' → w'.heap.size = w.heap.size + 1 → wpList Try.prog ops Q rest (a.put o.dst (.pointer (some ⟨w.heap.size, 0, none⟩))) w') :
    wpList Try.prog ops Q (o :: rest) a w := by
  obtain ⟨⟨D, h1, h2, h3, h4⟩, ok⟩ := h
  refine wpList_range_own w hg m 45 hop 3 36 keyed_int Try.underlying45 entElem bm N D hm h1 (fun w' r1 r2 r3 => hK w' _ ⟨D, _, r1, h2, h3, h3⟩ (h1.size_le) ?_ r3)
  exact ⟨r2.os, r2.tape, r2.output, r2.size, fun i hi => r2.block i hi (by simp)⟩
theorem wp_next_me {r c : Nat} {left : Int → Bool} (h : RG w bm r N E left c) (it : Operand) (hg : o.guard = none) (hop : o.op = Op.next it false) (hit : a.eval it = .pointer (some ⟨r, 0, none⟩))
    (hDone : (∀ x, left x = false) → wpList Try.prog ops Q rest (a.put o.dst (.tuple #[.bool false])) w)
    (hMore : ∀ (x s q : Int) (w' : World) (c' : Nat), E x = (s, q) → left x = true → RG w' bm r N E (fun y => left y && !decide (y = x)) c' → c' < c → Fr (· = r) w w' →
      (Instr.entry (.pointer (some ⟨r, 0, none⟩))).run Try.prog w' = .ok (.tuple #[.int .i64 x, .agg #[.int .i64 s, .int .i64 q]]) w' → wpList Try.prog ops Q rest (a.put o.dst (.tuple #[.bool true, .int .i64 x, .agg #[.int .i64 s, .int .i64 q]])) w') :
    wpList Try.prog ops Q (o :: rest) a w := by
  obtain ⟨D, lf, h1, h2, h3, h4⟩ := h
  refine wpList_next_ranges w hg it hop 3 keyed_int entElem (Value.int .i64) entV (fun key kl hkey => by obtain ⟨x, rfl, _⟩ := Maps.keyOf_int_inv Try.underlying3 hkey; exact ⟨x, rfl⟩) (fun v y hv => by obtain ⟨c, rfl, _⟩ := entElem_inv hv; exact ⟨c, rfl⟩) bm r N D lf c hit h1 (fun _ hl => hDone (fun x => by rw [← h4]; exact hl _)) (fun x v kl y w' c' hkey hlk hv hat hrg hlt hgr hsz hen => ?_)
  obtain ⟨x', ex, rfl, hwx⟩ := Maps.keyOf_int_inv Try.underlying3 hkey
  cases ex
  obtain ⟨v', ev, rfl⟩ := entElem_inv hv
  have e1 : v = v' := by
    unfold entV at ev
    simp only [Value.agg.injEq, Array.mk.injEq, List.cons.injEq, Value.int.injEq, true_and, and_true] at ev
    exact Prod.ext ev.1 ev.2
  subst e1
  have e2 : v = E x := entD_inj ((hat _).symm.trans (h2 x))
  subst e2
  refine hMore x (E x).1 (E x).2 w' c' rfl (by rw [← h4]; exact hlk) ⟨D, _, hrg, h2, h3, fun z => ?_⟩ hlt (Fr.grown hgr (fun g hg => by cases hg; rfl)) hen
  show (lf (.int .i64 z) && !(Lit.int .i64 z).sameKey (.int .i64 x)) = _
  rw [h4]
  congr 2
  by_cases e : z = x
  · subst e; simp [Lit.sameKey]
  · rw [decide_eq_false e]; exact sameKey_ne (lit_ne e)
end

end Go.Proofs.Ytjeahpekcbogeaa
