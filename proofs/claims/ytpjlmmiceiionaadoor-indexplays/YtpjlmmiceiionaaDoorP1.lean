/- Pages: arrays of bytes, alike or not; worlds alike but for some blocks; a map of pages. -/
import Derived.Test.YtpjlmmiceiionaaDoorJ14
import Derived.Maps.OwnSet
import Derived.Laws.StructEq
import Derived.Laws.Rows
import Derived.Laws.IdiomCopy
namespace Go.Proofs.YtpjlmmiceiionaaDoor
open Go.RowKit Go.Maps
set_option maxRecDepth 10000

/-- Two rows of n bytes are alike. -/
def alike (f g : Nat → Nat) (n : Nat) : Bool := (List.range' 0 n 1).all fun i => f i == g i
theorem alike_iff (f g : Nat → Nat) (n : Nat) : alike f g n = true ↔ ∀ i, i < n → f i = g i := by
  unfold alike
  rw [List.all_eq_true]
  constructor
  · intro h i hi
    have := h i (List.mem_range'_1.2 ⟨Nat.zero_le _, by omega⟩)
    simpa using this
  · intro h i hi
    have := (List.mem_range'_1.1 hi).2
    simpa using h i (by omega)
theorem alike_of {f g : Nat → Nat} {n : Nat} (h : ∀ i, i < n → f i = g i) : alike f g n = true := (alike_iff f g n).2 h
theorem alike_not {f g : Nat → Nat} {n i : Nat} (hi : i < n) (h : f i ≠ g i) : alike f g n = false := by
  cases e : alike f g n
  · rfl
  · exact absurd ((alike_iff f g n).1 e i hi) h

section
variable {P : Program} (w : World)
theorem equalIn_bytes (d : Nat) (t e : TypeId) (n : Nat) (ht : P.underlying t = some (.array n e)) (he : P.underlying e = some (.int .u8)) (hsz : ∀ w, (sizeOf e).run P w = .ok 1 w)
    (f g : Nat → Nat) : (Op.equalIn (d + 2) t (.agg (bytesOf f n).toArray) (.agg (bytesOf g n).toArray)).run P w = .ok (alike f g n) w := by
  rw [alike, Op.equalIn]
  simp only [Sem.run_bind, run_underlying ht, Result.andThen_ok, hsz, Std.Legacy.Range.forIn_eq_forIn_range', Std.Legacy.Range.size, Nat.sub_zero, Nat.add_sub_cancel, Nat.div_one]
  have hl : ∀ i ∈ List.range' 0 n 1, i < n := fun i hi => by simpa using (List.mem_range'_1.1 hi).2
  generalize List.range' 0 n 1 = l at hl ⊢
  induction l with
  | nil => simp
  | cons i l ih =>
    have hi : i < n := hl i (by simp)
    have px : ∀ f : Nat → Nat, (part e (bytesOf f n).toArray (i * 1)).run P w = .ok (.int .u8 ((f i : Nat) : Int)) w := fun f => by
      simp [part, isAgg, run_underlying he, bytesOf_get f n i hi]
    have pe : (Op.equalIn (d + 1) e (.int .u8 ((f i : Nat) : Int)) (.int .u8 ((g i : Nat) : Int))).run P w = .ok (f i == g i) w := by
      rw [run_equalIn_int w d e .u8 .u8 _ _ he]
      congr 1
      rw [Bool.eq_iff_iff]
      simp
      omega
    simp only [List.forIn_cons, Sem.run_bind, px, pe, Result.andThen_ok, List.all_cons]
    cases hb : (f i == g i)
    · simp
    · simp only [Bool.not_true, Bool.false_eq_true, if_false, Sem.run_pure, Result.andThen_ok, Bool.true_and]
      exact ih fun j hj => hl j (by simp [hj])
end

theorem size_u8 (w : World) : (sizeOf 5).run Tryd.prog w = .ok 1 w := by kernel_rfl
theorem eql_pages (f g : Nat → Nat) (w : World) : (binOp .eql 88 (.agg (bytesOf f 4096).toArray) (.agg (bytesOf g 4096).toArray)).run Tryd.prog w = .ok (.bool (alike f g 4096)) w := by
  rw [run_eql_struct, equalIn_bytes w 9998 88 5 4096 Tryd.underlying88 Tryd.underlying5 size_u8 f g]
  rfl

/-- Nothing but noughts. -/
def z0 : Nat → Nat := fun _ => 0
theorem z0_byte : Bytes z0 := fun _ => by unfold z0; omega
theorem zero_page (w : World) : (zeroValue 88).run Tryd.prog w = .ok (.agg (bytesOf z0 4096).toArray) w := by kernel_rfl

theorem Fr.cells {w : World} (S : Nat → Prop) (b : Nat) (hb : S b) : ∀ (vs : List Value) (o : Nat) (w0 : World), Fr S w w0 → Fr S w (w0.setCells b o vs)
  | [], _, _, h => h
  | v :: r, o, _, h => Fr.cells S b hb r (o + 1) _ (h.set ⟨b, o, none⟩ v hb)

/-! ### a map of pages -/
/-- How a page's place reads. -/
def ptrElem : Value → Option (DataW Unit × List MemPlace)
  | .pointer none => some (.nil, [])
  | .pointer (some ⟨b, 0, none⟩) => some (.lit (.int .i64 b), [])
  | _ => none
theorem ptrElem_some {v : Value} {b : Nat} {ps : List MemPlace} (h : ptrElem v = some (.lit (.int .i64 b), ps)) : v = .pointer (some ⟨b, 0, none⟩) := by
  unfold ptrElem at h
  split at h
  · cases h
  · simp only [Option.some.injEq, Prod.mk.injEq, DataW.lit.injEq, Lit.int.injEq, true_and] at h
    rw [show _ = b from Int.ofNat_inj.1 h.1]
  · cases h
theorem ptrElem_nil {v : Value} {ps : List MemPlace} (h : ptrElem v = some (.nil, ps)) : v = .pointer none := by
  unfold ptrElem at h
  split at h
  · rfl
  · cases h
  · cases h

/-- Block bm is a map of pages: at each key x below N, g x is the page's block. -/
structure MP (w : World) (bm N : Nat) (g : Int → Option Nat) : Prop where
  ex : ∃ D, w.ownsMap Tryd.prog 3 ptrElem bm N D ∧ (∀ x, Maps.has D (.int .i64 x) = (g x).isSome) ∧ ∀ x b, g x = some b → D.atKey (.int .i64 x) .nil = .lit (.int .i64 b)
  dom : ∀ x b, g x = some b → 0 ≤ x ∧ x < (N : Int)

theorem MP.lt {w : World} {bm N : Nat} {g : Int → Option Nat} (h : MP w bm N g) : bm < w.heap.size := by
  obtain ⟨D, h1, _⟩ := h.ex
  exact h1.lt
theorem MP.made (w : World) (N : Nat) : MP (w.alloc (.map #[] 0)) w.heap.size N (fun _ => none) :=
  ⟨⟨.map [], (World.ownsMap_made w _ _ _).mono (Nat.zero_le _), fun _ => rfl, fun _ _ h => by cases h⟩, fun _ _ h => by cases h⟩
theorem MP.fr {w w' : World} {bm N : Nat} {g : Int → Option Nat} (h : MP w bm N g) {S : Nat → Prop} (k : Fr S w w') (hS : ¬ S bm) : MP w' bm N g := by
  have hlt := h.lt
  obtain ⟨⟨D, ⟨es, clock, hb, r⟩, h2⟩, h3⟩ := h
  exact ⟨⟨D, ⟨es, clock, (k.block bm hlt hS).trans hb, r⟩, h2⟩, h3⟩

theorem zero_ptr (w : World) : (zeroValue 82).run Tryd.prog w = .ok (.pointer none) w := by kernel_rfl

/-- v, there := m[x]. -/
def at_ (g : Int → Option Nat) (x : Int) : Option Addr := (g x).map fun b => ⟨b, 0, none⟩
theorem MP.look {w : World} {bm N : Nat} {g : Int → Option Nat} (h : MP w bm N g) (x : Int) (hx : (Lit.int .i64 x).wf = true) :
    (Instr.lookup 84 (.map (some bm)) (.int .i64 x) true).run Tryd.prog w = .ok (.tuple #[.pointer (at_ g x), .bool (g x).isSome]) w := by
  obtain ⟨D, h1, h2, h3⟩ := h.ex
  obtain ⟨v, ps, hr, hv⟩ := h1.look_ok keyed_int Tryd.underlying84 (zero_ptr w) (zd := .nil) (zp := []) rfl (keyOf_int_mk Tryd.underlying3 hx)
  rw [hr, h2 x]
  unfold at_
  cases e : g x with
  | none =>
    rw [atKey_of_not_has (by rw [h2, e]; rfl)] at hv
    rw [ptrElem_nil hv]; rfl
  | some b =>
    rw [h3 x b e] at hv
    rw [ptrElem_some hv]; rfl

/-- What delete leaves. -/
def without (g : Int → Option Nat) (x : Int) : Int → Option Nat := fun y => if y = x then none else g y
/-- What m[x] = page leaves. -/
def withp (g : Int → Option Nat) (x : Int) (b : Nat) : Int → Option Nat := fun y => if y = x then some b else g y

theorem MP.drop {w : World} {bm N : Nat} {g : Int → Option Nat} (h : MP w bm N g) (x : Int) (hx : (Lit.int .i64 x).wf = true) (ty : TypeId) :
    ∃ w', (Builtin.delete_ #[84, 3] ty #[.map (some bm), .int .i64 x]).run Tryd.prog w = .ok (.tuple #[]) w' ∧ MP w' bm N (without g x) ∧ Fr (· = bm) w w' := by
  obtain ⟨⟨D, h1, h2, h3⟩, h4⟩ := h
  obtain ⟨w', r1, r2, r3⟩ := h1.drop keyed_int Tryd.underlying84 (keyOf_int_mk Tryd.underlying3 hx) ty
  refine ⟨w', r1, ⟨⟨_, r2, fun y => ?_, fun y b hy => ?_⟩, fun y b hy => ?_⟩, Fr.grown r3.grown (fun g hg => by cases hg; rfl)⟩
  · unfold without
    by_cases e : y = x
    · subst e; rw [if_pos rfl, has_del_same]; rfl
    · rw [if_neg e, has_del_other (lit_ne e), h2]
  · unfold without at hy
    by_cases e : y = x
    · rw [if_pos e] at hy; cases hy
    · rw [if_neg e] at hy
      rw [atKey_del_other (lit_ne e), h3 y b hy]
  · unfold without at hy
    by_cases e : y = x
    · rw [if_pos e] at hy; cases hy
    · rw [if_neg e] at hy
      exact h4 y b hy

theorem MP.sized {w : World} {bm n N : Nat} {g : Int → Option Nat} {D : DataW Unit} (h : w.ownsMap Tryd.prog 3 ptrElem bm n D) (hh : ∀ x, Maps.has D (.int .i64 x) = (g x).isSome) (dom : ∀ x b, g x = some b → 0 ≤ x ∧ x < (N : Int)) :
    w.ownsMap Tryd.prog 3 ptrElem bm N D := by
  obtain ⟨es, clock, hb, F, hs, rfl⟩ := h
  refine ⟨es, clock, hb, F, ?_, rfl⟩
  have hk := fit_keys F
  have ha := fit_apart keyed_int F
  have ei : ∀ p ∈ es.toList.map (WideElems.rg Tryd.prog 3 ptrElem), ∃ y, p.1 = .int .i64 y := fun p hp => by
    obtain ⟨v, hv⟩ := hk p hp
    rw [keyOf_int Tryd.underlying3] at hv
    cases v <;> simp [mapKey, Tryd.underlying3] at hv
    exact ⟨_, hv.2.symm⟩
  have hl : (es.toList.map (WideElems.rg Tryd.prog 3 ptrElem)).length = es.size := by simp
  generalize es.toList.map (WideElems.rg Tryd.prog 3 ptrElem) = L at ha ei hh hl
  rw [← hl]
  have t := tally N (L.map fun p => match p.1 with | .int _ y => y | _ => 0) (by
    rw [List.pairwise_map]
    have : L.Pairwise (fun x y => x ∈ L ∧ y ∈ L ∧ x.1 ≠ y.1) := List.Pairwise.imp_of_mem (fun {a b} h1 h2 h3 => ⟨h1, h2, h3⟩) ha
    refine this.imp (fun {a b} h => ?_)
    obtain ⟨h1, h2, h3⟩ := h
    obtain ⟨y, hy⟩ := ei a h1
    obtain ⟨z, hz⟩ := ei b h2
    rw [hy, hz] at h3 ⊢
    exact fun e => h3 (by simpa using e)) (fun x hx => by
    obtain ⟨p, hp, rfl⟩ := List.mem_map.1 hx
    obtain ⟨y, hy⟩ := ei p hp
    have e1 : Maps.has (DataW.map (L.foldr DataW.insert [])) (.int .i64 y) = true := by
      rw [has_eq, List.any_eq_true]
      exact ⟨p, (WideShapes.sorted_perm L).mem_iff.2 hp, by rw [hy]; simp [Lit.sameKey]⟩
    rw [hh] at e1
    obtain ⟨b, hb⟩ := Option.isSome_iff_exists.1 e1
    simp only [hy]
    exact dom y b hb)
  simpa using t

theorem MP.store {w : World} {bm N : Nat} {g : Int → Option Nat} (h : MP w bm N g) (x : Int) (b : Nat) (hx : (Lit.int .i64 x).wf = true) (h0 : 0 ≤ x) (h1 : x < (N : Int)) (hN : N < maxLen) :
    ∃ w', (Instr.mapUpdate 84 (.map (some bm)) (.int .i64 x) (.pointer (some ⟨b, 0, none⟩))).run Tryd.prog w = .ok () w' ∧ MP w' bm N (withp g x b) ∧ Fr (· = bm) w w' := by
  obtain ⟨⟨D, k1, k2, k3⟩, k4⟩ := h
  obtain ⟨w', r1, r2, r3⟩ := k1.store keyed_int Tryd.underlying84 hN (keyOf_int_mk Tryd.underlying3 hx) (show ptrElem (.pointer (some ⟨b, 0, none⟩)) = some (.lit (.int .i64 b), []) from rfl)
  have dom : ∀ y c, withp g x b y = some c → 0 ≤ y ∧ y < (N : Int) := fun y c hy => by
    unfold withp at hy
    by_cases e : y = x
    · subst e; exact ⟨h0, h1⟩
    · rw [if_neg e] at hy
      exact k4 y c hy
  have hh : ∀ y, Maps.has (D.put (.int .i64 x) (.lit (.int .i64 b))) (.int .i64 y) = (withp g x b y).isSome := fun y => by
    unfold withp
    by_cases e : y = x
    · subst e; rw [if_pos rfl, has_put_same k1.isMap (isKey_int _ hx)]; rfl
    · rw [if_neg e, has_put_other (lit_ne e), k2]
  refine ⟨w', r1, ⟨⟨_, MP.sized r2 hh dom, hh, fun y c hy => ?_⟩, dom⟩, Fr.grown r3.grown (fun g hg => by cases hg; rfl)⟩
  unfold withp at hy
  by_cases e : y = x
  · subst e
    rw [if_pos rfl] at hy
    cases hy
    rw [atKey_put_same k1.isMap (isKey_int _ hx)]
  · rw [if_neg e] at hy
    rw [atKey_put_other (lit_ne e), k3 y c hy]

end Go.Proofs.YtpjlmmiceiionaaDoor
