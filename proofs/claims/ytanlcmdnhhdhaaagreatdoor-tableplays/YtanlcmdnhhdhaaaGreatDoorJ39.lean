/- Joined: R65, R66, R67. -/
import Derived.Test.YtanlcmdnhhdhaaaGreatDoorJ31
import Derived.Test.YtanlcmdnhhdhaaaGreatDoorJ35
import Derived.Test.YtanlcmdnhhdhaaaGreatDoorJ36
import Derived.Test.YtanlcmdnhhdhaaaGreatDoorR60
import Derived.Test.YtanlcmdnhhdhaaaGreatDoorR61
/- Both second stages beside one another. -/
namespace Go.Proofs.YtanlcmdnhhdhaaaGreatDoor
open Go.RowKit
set_option maxRecDepth 10000

section
variable {W w w' : World} {X X' Y : Nat → Prop} {bt p pm N pool o o' : Nat} {M : Nat → Nat → Nat} {C C' : Nat → Nat} {Z : Nat → Bool} {root : Nat} {E E' : Nat → Nat → DV}
/-- What others do beside the frames; there may be more of it then. -/
theorem TS.wide (h : TS W X w bt p pm N pool o M C Z root E) (k : Fr Y w w') (hY : ∀ i, Y i → W.heap.size ≤ i ∧ X i) (hb : ¬ Y bt) (hX : ∀ i, X' i → X i ∨ (w.heap.size ≤ i ∧ i < w'.heap.size)) (hx : X' bt) : TS W X' w' bt p pm N pool o M C Z root E := by
  have h' := h.frX k hY hb
  obtain ⟨ops, B, h1, h2, S, f⟩ := h.fw
  have t0 := f.t0
  refine ⟨⟨ops, B, h1, h2, S, f.fs.fr k (fun i hi c => (f.out i hi).2 (hY i c).2) (fun c => by have := (hY _ c).1; omega), h'.fw.kp, fun i hi => ⟨(f.out i hi).1, fun c => (hX i c).elim (f.out i hi).2 (fun c => by have := f.fs.own i hi; omega)⟩, fun i hi => (hX i hi).elim (fun hi => Nat.lt_of_lt_of_le (f.lt i hi) k.size) (fun c => c.2), f.t0⟩, h'.tx, hx, h'.bw, h'.tg⟩
end
/-- The program's table and the document's. -/
structure BJ (W : World) (X : Nat → Prop) (w : World) (bt p pm pool o : Nat) (M : Nat → Nat → Nat) (C : Nat → Nat) (Z : Nat → Bool) (root : Nat) (E : Nat → Nat → DV) (br bf : Nat) (v : Value) (L : List LV) (fr : Int) (gone : Bool) : Prop where
  ts : TS W X w bt p pm 2100 pool o M C Z root E
  ne : NE root E (fun _ _ => False)
  rq : RQ w br bf v L fr gone
  xs : ∀ i, (i = br ∨ i = bf ∨ v.ownBlock = some i) → W.heap.size ≤ i ∧ X i ∧ i ≠ bt
section
variable {W w w' : World} {X : Nat → Prop} {bt p pm pool o o' : Nat} {M : Nat → Nat → Nat} {C C' : Nat → Nat} {Z : Nat → Bool} {root : Nat} {E E' : Nat → Nat → DV} {br bf : Nat} {v : Value} {L L' : List LV} {fq fq' : Int} {gone gone' : Bool}
theorem BJ.kps (h : BJ W X w bt p pm pool o M C Z root E br bf v L fq gone) (k : Kp w w') : BJ W X w' bt p pm pool o M C Z root E br bf v L fq gone := ⟨h.ts.kps k, h.ne, h.rq.kp k, h.xs⟩
theorem BJ.le (h : BJ W X w bt p pm pool o M C Z root E br bf v L fq gone) (ho : o ≤ o') : BJ W X w bt p pm pool o' M C Z root E br bf v L fq gone := ⟨h.ts.le ho, h.ne, h.rq, h.xs⟩
/-- The program's own step. -/
theorem BJ.ac (h : BJ W X w bt p pm pool o M C Z root E br bf v L fq gone) (a : AC W X w w' bt p pm 2100 pool o' M C Z root C' E') : ∃ M', BJ W X w' bt p pm pool o' M' C' Z root E' br bf v L fq gone ∧ Ot Z M C M' C' := by
  obtain ⟨⟨M', t, ot⟩, ne, f⟩ := a
  exact ⟨M', ⟨t, ne, h.rq.fr f (fun c => c.2 (h.xs br (.inl rfl)).2.1) (fun c => c.2 (h.xs bf (.inr (.inl rfl))).2.1) (fun b hb c => c.2 (h.xs b (.inr (.inr hb))).2.1), h.xs⟩, ot⟩
theorem BJ.look (h : BJ W X w bt p pm pool o M C Z root E br bf v L fq gone) (t : TS W X w' bt p pm 2100 pool o' M C Z root E) (f : Fr (Out W X) w w') : BJ W X w' bt p pm pool o' M C Z root E br bf v L fq gone :=
  ⟨t, h.ne, h.rq.fr f (fun c => c.2 (h.xs br (.inl rfl)).2.1) (fun c => c.2 (h.xs bf (.inr (.inl rfl))).2.1) (fun b hb c => c.2 (h.xs b (.inr (.inr hb))).2.1), h.xs⟩
/-- The document's. -/
theorem BJ.rn (h : BJ W X w bt p pm pool o M C Z root E br bf v L fq gone) (r : RN w w' br bf v L' fq' gone') : ∃ v', BJ W (fun i => X i ∨ v'.ownBlock = some i) w' bt p pm pool o M C Z root E br bf v' L' fq' gone' := by
  obtain ⟨v', a1, a2, a3⟩ := r
  have hb : ∀ b, v'.ownBlock = some b → b < w'.heap.size := fun b hb => by
    obtain ⟨na, cap, e, _, hc⟩ := OL.form a1.ol
    rcases hc with ⟨rfl, rfl, _⟩ | ⟨g, rfl, hg⟩
    · rw [e] at hb; cases hb
    · rw [e] at hb; cases hb; exact hg
  refine ⟨v', h.ts.wide a2 (fun i hi => ⟨(h.xs i hi).1, (h.xs i hi).2.1⟩) (fun c => (h.xs bt c).2.2 rfl) (fun i hi => ?_) (.inl h.ts.xb), h.ne, a1, fun i hi => ?_⟩
  · rcases hi with hi | hi
    · exact .inl hi
    · rcases a3 i hi with c | c
      · exact .inl (h.xs i (.inr (.inr c))).2.1
      · exact .inr ⟨c, hb i hi⟩
  · rcases hi with hi | hi | hi
    · obtain ⟨b1, b2, b3⟩ := h.xs i (.inl hi); exact ⟨b1, .inl b2, b3⟩
    · obtain ⟨b1, b2, b3⟩ := h.xs i (.inr (.inl hi)); exact ⟨b1, .inl b2, b3⟩
    · rcases a3 i hi with c | c
      · obtain ⟨b1, b2, b3⟩ := h.xs i (.inr (.inr c)); exact ⟨b1, .inl b2, b3⟩
      · have s1 := h.ts.fw.kp.size
        have s2 := h.ts.tx.lt
        exact ⟨by omega, .inr hi, by omega⟩
end
end Go.Proofs.YtanlcmdnhhdhaaaGreatDoor

/- The document's second stage: what each step leaves, in one form: of its leaves and of what is free. -/
namespace Go.Proofs.YtanlcmdnhhdhaaaGreatDoor
open Go.RowKit
set_option maxRecDepth 10000

/-- Other leaves were to be set. -/
def DSet (fr : Int) (L Lx L' : List LV) (fr' : Int) : Prop := (setB fr L Lx = true ∧ L' = Lx ∧ fr' = fr - ((tabL Lx : Int) - (tabL L : Int))) ∨ (setB fr L Lx = false ∧ L' = L ∧ fr' = fr)
/-- What is free and what is had stay together. -/
def DSum (L : List LV) (fr : Int) (L' : List LV) (fr' : Int) : Prop := fr' + (tabL L' : Int) = fr + (tabL L : Int) ∧ L'.length ≤ L.length + 511
theorem DSum.refl (L : List LV) (fr : Int) : DSum L fr L fr := ⟨rfl, by omega⟩
theorem DSet.sum {fr fr' : Int} {L Lx L' : List LV} (h : DSet fr L Lx L' fr') (hl : Lx.length ≤ L.length + 511) : DSum L fr L' fr' := by
  rcases h with ⟨_, rfl, rfl⟩ | ⟨_, rfl, rfl⟩
  · exact ⟨by omega, hl⟩
  · exact DSum.refl _ _
theorem DSum.near {L L' : List LV} {fr fr' : Int} (h : DSum L fr L' fr') (ok : okL L) (ok' : okL L') : fr - 3 * ((L.length : Int) + 511) ≤ fr' ∧ fr' ≤ fr + 3 * (L.length : Int) := by
  have a := tabL_le ok
  have b := tabL_le ok'
  have := h.1
  have := h.2
  omega
def DMap (gone : Bool) (L : List LV) (fr : Int) (page : Nat) (f : Int) (r q x : Bool) (s : Int) (rr : Int) (L' : List LV) (fr' : Int) : Prop :=
  rr = rmapR gone L fr page f ⟨page, f.toNat, r, q, x, s, 3⟩ r q s ∧ ((rr = 0 ∧ L' = withL L ⟨page, f.toNat, r, q, x, s, 3⟩ ∧ DSum L fr L' fr') ∨ (rr ≠ 0 ∧ L' = L ∧ fr' = fr))
def DMpb (gone : Bool) (L : List LV) (fr : Int) (page : Nat) (f : Int) (r q x : Bool) (s : Int) (rr : Int) (L' : List LV) (fr' : Int) : Prop :=
  rr = rmapbR gone L fr page f ⟨page, f.toNat, r, q, x, s, 2⟩ r q s ∧ ((rr = 0 ∧ L' = withL L ⟨page, f.toNat, r, q, x, s, 2⟩ ∧ DSum L fr L' fr') ∨ (rr ≠ 0 ∧ L' = L ∧ fr' = fr))
def DSpl (gone : Bool) (L : List LV) (fr : Int) (page : Nat) (rr : Int) (L' : List LV) (fr' : Int) : Prop :=
  rr = rsplR gone L fr page ∧ ((rr = 0 ∧ ∃ (k : Nat) (b : LV), L.findIdx? (hitL page) = some k ∧ L[k]? = some b ∧ b.l = 2 ∧ 1 ≤ fr ∧ DSet fr L (halvL L k b) L' fr') ∨ (rr ≠ 0 ∧ L' = L ∧ fr' = fr))
def DUnm (gone : Bool) (L : List LV) (fr : Int) (page : Nat) (fx : Nat) (rr : Int) (L' : List LV) (fr' : Int) : Prop :=
  rr = runR gone L fr page ∧ ((rr = 0 ∧ ∃ (L1 : List LV) (fr1 : Int) (k : Nat) (x : LV), Sp1 L fr page L1 fr1 ∧ L1.findIdx? (hitL page) = some k ∧ L1[k]? = some x ∧ fx = x.x ∧ DSet fr1 L1 (rmvL L1 k) L' fr') ∨ (rr ≠ 0 ∧ fx = 0 ∧ L' = L ∧ fr' = fr))
def DPro (gone : Bool) (L : List LV) (fr : Int) (page : Nat) (r q e : Bool) (s : Int) (rr : Int) (L' : List LV) (fr' : Int) : Prop :=
  rr = rprR gone L fr page r q e s ∧ ((rr = 0 ∧ ((∃ (k : Nat) (x : LV), L.findIdx? (hitL page) = some k ∧ L[k]? = some x ∧ x.l = 2 ∧ (samP x.r x.q x.e r q e && (x.f == s)) = true ∧ L' = L ∧ fr' = fr) ∨ (∃ (L1 : List LV) (fr1 : Int) (k : Nat) (x : LV), nsL L page r q e s ∧ Sp1 L fr page L1 fr1 ∧ L1.findIdx? (hitL page) = some k ∧ L1[k]? = some x ∧ L' = prL L1 k x r q e s ∧ fr' = fr1))) ∨ (rr ≠ 0 ∧ L' = L ∧ fr' = fr))
def DJoi (gone : Bool) (L : List LV) (fr : Int) (page : Nat) (rr : Int) (L' : List LV) (fr' : Int) : Prop :=
  (rr = 23 ∧ (gone = true ∨ ¬ 0 ≤ atI L page) ∧ L' = L ∧ fr' = fr) ∨ (rr = 20 ∧ gone = false ∧ 0 ≤ atI L page ∧ (∀ n x, ¬ JnC L page n x) ∧ L' = L ∧ fr' = fr) ∨ (rr = 0 ∧ gone = false ∧ ∃ n x, JnC L page n x ∧ DSet fr L (jnL L n x) L' fr')
theorem gL_set {L : List LV} {k : Nat} {x y : LV} (hx : L[k]? = some x) (h1 : y.g = x.g) (h2 : y.l = x.l) (i : Nat) : gL (L.set k y) i = gL L i ∧ lL (L.set k y) i = lL L i := by
  have hk := (List.getElem?_eq_some_iff.1 hx).1
  unfold gL lL
  rw [List.getD_eq_getElem?_getD, List.getD_eq_getElem?_getD, List.getElem?_set]
  by_cases e : k = i
  · subst e
    rw [if_pos rfl, if_pos hk, hx]
    exact ⟨h1, h2⟩
  · rw [if_neg e]
    exact ⟨rfl, rfl⟩
theorem tabI_set {L : List LV} {k : Nat} {x y : LV} (hx : L[k]? = some x) (h1 : y.g = x.g) (h2 : y.l = x.l) : ∀ i, tabI (L.set k y) i = tabI L i
  | 0 => rfl
  | i + 1 => by
    have hn : ∀ lv, newT (L.set k y) i lv = newT L i lv := fun lv => by
      unfold newT
      rw [(gL_set hx h1 h2 _).1, (gL_set hx h1 h2 _).1]
    unfold tabI
    rw [tabI_set hx h1 h2 i, (gL_set hx h1 h2 i).2]
    simp only [hn]
theorem tabL_pr {L : List LV} {k : Nat} {x : LV} (hx : L[k]? = some x) (r q e : Bool) (s : Int) : tabL (prL L k x r q e s) = tabL L := by
  unfold tabL prL
  rw [List.length_set]
  exact tabI_set (y := prV x r q e s) hx rfl rfl L.length
theorem Sp1.sum {L L1 : List LV} {fr fr1 : Int} {page : Nat} (h : Sp1 L fr page L1 fr1) : DSum L fr L1 fr1 := by
  obtain ⟨k, b, h1, h2, ⟨_, rfl, rfl⟩ | ⟨_, _, h5⟩⟩ := h
  · exact DSum.refl _ _
  · exact DSet.sum h5 (by rw [len_halv (List.getElem?_eq_some_iff.1 h2).1]; omega)
theorem DSum.trans {L L1 L2 : List LV} {fr fr1 fr2 : Int} (h : DSum L fr L1 fr1) (k : DSum L1 fr1 L2 fr2) (hl : L2.length ≤ L1.length) : DSum L fr L2 fr2 := ⟨k.1.trans h.1, Nat.le_trans hl h.2⟩
section
variable {w : World} {br bf : Nat} {v : Value} {L : List LV} {fr : Int} {gone : Bool}
theorem dmap_any (h : RQ w br bf v L fr gone) (hl : L.length ≤ 900000) (page : Nat) (hp : page < 18446744073709551616) (f : Int) (r q x : Bool) (s : Int) (hf : -1000000000 ≤ fr ∧ fr ≤ 1000000000) :
    Calls Tryz.prog 30 #[.pointer (some ⟨br, 0, none⟩), .int .u64 (page : Int), .int .i64 f, .agg #[.bool r, .bool q, .bool x], .int .i64 s] w fun e w' => ∃ rr L' fr', e = .returned (.int .i64 rr) ∧ RN w w' br bf v L' fr' gone ∧ DMap gone L fr page f r q x s rr L' fr' ∧ DSum L fr L' fr' := by
  refine (rmap_any h hl page hp f r q x s hf _ rfl _ rfl).mono fun e w' ⟨e1, e2⟩ => ?_
  obtain ⟨a1, a2⟩ := e2.out
  by_cases c : rmapR gone L fr page f ⟨page, f.toNat, r, q, x, s, 3⟩ r q s = 0
  · have sm : DSum L fr (withL L ⟨page, f.toNat, r, q, x, s, 3⟩) (fr - ((tabL (withL L ⟨page, f.toNat, r, q, x, s, 3⟩) : Int) - (tabL L : Int))) := ⟨by omega, by rw [len_with]; omega⟩
    exact ⟨_, _, _, e1, a1 c, ⟨rfl, .inl ⟨c, rfl, sm⟩⟩, sm⟩
  · exact ⟨_, _, _, e1, a2 c, ⟨rfl, .inr ⟨c, rfl, rfl⟩⟩, DSum.refl _ _⟩
theorem dmapb_any (h : RQ w br bf v L fr gone) (hl : L.length ≤ 900000) (page : Nat) (f : Int) (r q x : Bool) (s : Int) (hf : -1000000000 ≤ fr ∧ fr ≤ 1000000000) :
    Calls Tryz.prog 32 #[.pointer (some ⟨br, 0, none⟩), .int .u64 (page : Int), .int .i64 f, .agg #[.bool r, .bool q, .bool x], .int .i64 s] w fun e w' => ∃ rr L' fr', e = .returned (.int .i64 rr) ∧ RN w w' br bf v L' fr' gone ∧ DMpb gone L fr page f r q x s rr L' fr' ∧ DSum L fr L' fr' := by
  refine (rmapb_any h hl page f r q x s hf _ rfl _ rfl).mono fun e w' ⟨e1, e2⟩ => ?_
  obtain ⟨a1, a2⟩ := e2.out
  by_cases c : rmapbR gone L fr page f ⟨page, f.toNat, r, q, x, s, 2⟩ r q s = 0
  · have sm : DSum L fr (withL L ⟨page, f.toNat, r, q, x, s, 2⟩) (fr - ((tabL (withL L ⟨page, f.toNat, r, q, x, s, 2⟩) : Int) - (tabL L : Int))) := ⟨by omega, by rw [len_with]; omega⟩
    exact ⟨_, _, _, e1, a1 c, ⟨rfl, .inl ⟨c, rfl, sm⟩⟩, sm⟩
  · exact ⟨_, _, _, e1, a2 c, ⟨rfl, .inr ⟨c, rfl, rfl⟩⟩, DSum.refl _ _⟩
theorem dsplit_any (h : RQ w br bf v L fr gone) (hl : L.length ≤ 900000) (page : Nat) (hp : page < 18446744073709551616) (hf : -1000000000 ≤ fr ∧ fr ≤ 1000000000) :
    Calls Tryz.prog 37 #[.pointer (some ⟨br, 0, none⟩), .int .u64 (page : Int)] w fun e w' => ∃ rr L' fr', e = .returned (.int .i64 rr) ∧ RN w w' br bf v L' fr' gone ∧ DSpl gone L fr page rr L' fr' ∧ DSum L fr L' fr' := by
  refine (rsplit_any h hl page hp hf _ rfl).mono fun e w' ⟨e1, e2⟩ => ?_
  obtain ⟨a1, a2⟩ := e2.out
  by_cases c : rsplR gone L fr page = 0
  · obtain ⟨k, b, h1, h2, h3, h4, h5, h6⟩ := a1 c
    have hn : (halvL L k b).length ≤ L.length + 511 := by rw [len_halv (List.getElem?_eq_some_iff.1 h2).1]; omega
    cases t : setB fr L (halvL L k b)
    · have d : DSet fr L (halvL L k b) L fr := .inr ⟨t, rfl, rfl⟩
      exact ⟨_, _, _, e1, h6 t, ⟨rfl, .inl ⟨c, k, b, h1, h2, h3, h4, d⟩⟩, d.sum hn⟩
    · have d : DSet fr L (halvL L k b) _ _ := .inl ⟨t, rfl, rfl⟩
      exact ⟨_, _, _, e1, h5 t, ⟨rfl, .inl ⟨c, k, b, h1, h2, h3, h4, d⟩⟩, d.sum hn⟩
  · exact ⟨_, _, _, e1, a2 c, ⟨rfl, .inr ⟨c, rfl, rfl⟩⟩, DSum.refl _ _⟩
theorem dunmap_any (h : RQ w br bf v L fr gone) (hl : L.length ≤ 900000) (page : Nat) (hp : page < 18446744073709551616) (hf : -1000000000 ≤ fr ∧ fr ≤ 1000000000) :
    Calls Tryz.prog 33 #[.pointer (some ⟨br, 0, none⟩), .int .u64 (page : Int)] w fun e w' => ∃ (fx : Nat) (rr : Int), e = .returned (.tuple #[.int .i64 (fx : Int), .int .i64 rr]) ∧ ∃ L' fr', RN w w' br bf v L' fr' gone ∧ DUnm gone L fr page fx rr L' fr' ∧ DSum L fr L' fr' := by
  refine (runmap_any h hl page hp hf _ rfl).mono fun e w' ⟨fx, e1, e2⟩ => ?_
  obtain ⟨a1, a2⟩ := e2.out
  by_cases c : runR gone L fr page = 0
  · obtain ⟨rfl, L1, fr1, k, x, h1, h2, h3, h4, h5, h6⟩ := a1 c
    have hn : (rmvL L1 k).length ≤ L1.length + 511 := by have := len_rmv L1 k; omega
    cases t : setB fr1 L1 (rmvL L1 k)
    · have d : DSet fr1 L1 (rmvL L1 k) L1 fr1 := .inr ⟨t, rfl, rfl⟩
      exact ⟨_, _, e1, _, _, h6 t, ⟨rfl, .inl ⟨c, L1, fr1, k, x, h1, h2, h3, h4, d⟩⟩, h1.sum.trans (d.sum hn) (Nat.le_refl _)⟩
    · have d : DSet fr1 L1 (rmvL L1 k) _ _ := .inl ⟨t, rfl, rfl⟩
      exact ⟨_, _, e1, _, _, h5 t, ⟨rfl, .inl ⟨c, L1, fr1, k, x, h1, h2, h3, h4, d⟩⟩, h1.sum.trans (d.sum hn) (len_rmv _ _)⟩
  · obtain ⟨b1, b2⟩ := a2 c
    exact ⟨_, _, e1, _, _, b2, ⟨rfl, .inr ⟨c, b1, rfl, rfl⟩⟩, DSum.refl _ _⟩
theorem dprot_any (h : RQ w br bf v L fr gone) (hl : L.length ≤ 900000) (page : Nat) (hp : page < 18446744073709551616) (r q x : Bool) (s : Int) (hf : -1000000000 ≤ fr ∧ fr ≤ 1000000000) :
    Calls Tryz.prog 35 #[.pointer (some ⟨br, 0, none⟩), .int .u64 (page : Int), .agg #[.bool r, .bool q, .bool x], .int .i64 s] w fun e w' => ∃ rr L' fr', e = .returned (.int .i64 rr) ∧ RN w w' br bf v L' fr' gone ∧ DPro gone L fr page r q x s rr L' fr' ∧ DSum L fr L' fr' := by
  refine (rprot_any h hl page hp r q x s hf _ rfl).mono fun e w' ⟨e1, e2⟩ => ?_
  obtain ⟨a1, a2⟩ := e2.out
  by_cases c : rprR gone L fr page r q x s = 0
  · obtain ⟨rfl, ⟨k, y, h1, h2, h3, h4, h5⟩ | ⟨L1, fr1, k, y, h0, h1, h2, h3, h4⟩⟩ := a1 c
    · exact ⟨_, _, _, e1, h5, ⟨rfl, .inl ⟨c, .inl ⟨k, y, h1, h2, h3, h4, rfl, rfl⟩⟩⟩, DSum.refl _ _⟩
    · refine ⟨_, _, _, e1, h4, ⟨rfl, .inl ⟨c, .inr ⟨L1, fr1, k, y, h0, h1, h2, h3, rfl, rfl⟩⟩⟩, ?_⟩
      have s1 := h1.sum
      exact ⟨by rw [tabL_pr h3]; exact s1.1, by unfold prL; rw [List.length_set]; exact s1.2⟩
  · exact ⟨_, _, _, e1, a2 c, ⟨rfl, .inr ⟨c, rfl, rfl⟩⟩, DSum.refl _ _⟩
theorem djoin_any (h : RQ w br bf v L fr gone) (hl : L.length ≤ 900000) (page : Nat) (hp : page < 18446744073709551616) (hf : -1000000000 ≤ fr ∧ fr ≤ 1000000000) :
    Calls Tryz.prog 39 #[.pointer (some ⟨br, 0, none⟩), .int .u64 (page : Int)] w fun e w' => ∃ rr L' fr', e = .returned (.int .i64 rr) ∧ RN w w' br bf v L' fr' gone ∧ DJoi gone L fr page rr L' fr' ∧ DSum L fr L' fr' := by
  refine (rjoin_any h hl page hp hf).mono fun e w' ⟨rr, e1, e2⟩ => ?_
  rcases e2.out with ⟨b1, b2, b3⟩ | ⟨b1, b2, b3, b4, b5⟩ | ⟨b1, rfl, n, x, b3, b4, b5⟩
  · exact ⟨_, _, _, e1, b3, .inl ⟨b1, b2, rfl, rfl⟩, DSum.refl _ _⟩
  · exact ⟨_, _, _, e1, b5, .inr (.inl ⟨b1, b2, b3, b4, rfl, rfl⟩), DSum.refl _ _⟩
  · have hn : (jnL L n x).length ≤ L.length + 511 := by have := len_jn (x := x) b3.2.2.2.1; omega
    cases t : setB fr L (jnL L n x)
    · have d : DSet fr L (jnL L n x) L fr := .inr ⟨t, rfl, rfl⟩
      exact ⟨_, _, _, e1, b5 t, .inr (.inr ⟨b1, rfl, n, x, b3, d⟩), d.sum hn⟩
    · have d : DSet fr L (jnL L n x) _ _ := .inl ⟨t, rfl, rfl⟩
      exact ⟨_, _, _, e1, b4 t, .inr (.inr ⟨b1, rfl, n, x, b3, d⟩), d.sum hn⟩
end

end Go.Proofs.YtanlcmdnhhdhaaaGreatDoor

/- demesnelaw13.step: what a step on both leaves. -/
namespace Go.Proofs.YtanlcmdnhhdhaaaGreatDoor
open Go.RowKit
set_option maxRecDepth 10000

/-- The two are one number. -/
def Sam (a b : Int) : Prop := a = b
/-- What stays of the blocks of X0 since w0. -/
structure SXk (w0 w : World) (X0 X : Nat → Prop) (br bf : Nat) (v0 v : Value) : Prop where
  wide : ∀ i, X0 i → X i
  new : ∀ i, X i → X0 i ∨ w0.heap.size ≤ i
  keep : ∀ i, X0 i → i ≠ br → i ≠ bf → v0.ownBlock ≠ some i → w.heap[i]? = w0.heap[i]?
  own : ∀ b, v.ownBlock = some b → v0.ownBlock = some b ∨ w0.heap.size ≤ b
  size : w0.heap.size ≤ w.heap.size
  lim : ∀ i, X0 i → i < w0.heap.size
section
variable {w0 w1 w2 w w' : World} {X0 X1 X2 X : Nat → Prop} {br bf : Nat} {v0 v1 v2 v : Value}
theorem SXk.refl (h : ∀ i, X i → i < w.heap.size) : SXk w w X X br bf v v := ⟨fun _ => id, fun _ => .inl, fun _ _ _ _ _ => rfl, fun _ => .inl, Nat.le_refl _, h⟩
theorem SXk.trans (h : SXk w0 w1 X0 X1 br bf v0 v1) (k : SXk w1 w2 X1 X2 br bf v1 v2) : SXk w0 w2 X0 X2 br bf v0 v2 where
  wide i hi := k.wide i (h.wide i hi)
  new i hi := (k.new i hi).elim (h.new i) (fun c => .inr (Nat.le_trans h.size c))
  keep i hi n1 n2 n3 := by
    refine (k.keep i (h.wide i hi) n1 n2 (fun c => ?_)).trans (h.keep i hi n1 n2 n3)
    rcases h.own i c with d | d
    · exact n3 d
    · have := h.lim i hi; omega
  own b hb := (k.own b hb).elim (h.own b) (fun c => .inr (Nat.le_trans h.size c))
  size := Nat.le_trans h.size k.size
  lim := h.lim
theorem SXk.kp (h : SXk w0 w X0 X br bf v0 v) (k : Kp w w') : SXk w0 w' X0 X br bf v0 v := ⟨h.wide, h.new, fun i hi n1 n2 n3 => (k.block i (Nat.lt_of_lt_of_le (h.lim i hi) h.size)).trans (h.keep i hi n1 n2 n3), h.own, Nat.le_trans h.size k.size, h.lim⟩
theorem SXk.out {W : World} (h : SXk w0 w X0 X br bf v0 v) (k : Fr (Out W X) w w') : SXk w0 w' X0 X br bf v0 v := ⟨h.wide, h.new, fun i hi n1 n2 n3 => (k.block i (Nat.lt_of_lt_of_le (h.lim i hi) h.size) (fun c => c.2 (h.wide i hi))).trans (h.keep i hi n1 n2 n3), h.own, Nat.le_trans h.size k.size, h.lim⟩
end
/-- Both tables, a step under way since w0. -/
structure SWk (W w0 : World) (X0 : Nat → Prop) (v0 : Value) (bt p pm pool o : Nat) (M0 : Nat → Nat → Nat) (C0 : Nat → Nat) (Z : Nat → Bool) (root br bf : Nat) (L0 : List LV) (fr0 : Int) (w : World) (C : Nat → Nat) (E : Nat → Nat → DV) (L : List LV) (fr : Int) : Prop where
  ex : ∃ X M v, BJ W X w bt p pm pool o M C Z root E br bf v L fr false ∧ SXk w0 w X0 X br bf v0 v ∧ Ot Z M0 C0 M C
  sum : DSum L0 fr0 L fr
/-- .. beside a permission in the box bo. -/
structure SB9 (W w0 : World) (X0 : Nat → Prop) (v0 : Value) (bt p pm pool o : Nat) (M0 : Nat → Nat → Nat) (C0 : Nat → Nat) (Z : Nat → Bool) (root br bf : Nat) (L0 : List LV) (fr0 : Int) (bo : Nat) (r q x : Bool) (w : World) (C : Nat → Nat) (E : Nat → Nat → DV) : Prop where
  ex : ∃ X M v, BJ W X w bt p pm pool o M C Z root E br bf v L0 fr0 false ∧ SXk w0 w X0 X br bf v0 v ∧ Ot Z M0 C0 M C ∧ X bo ∧ ∀ b, v.ownBlock = some b → b ≠ bo
  px : PX w bo r q x
  n1 : bo ≠ br
  n2 : bo ≠ bf
  n3 : bo ≠ bt
def PMap (pool : Nat) (C : Nat → Nat) (E : Nat → Nat → DV) (l page : Nat) (d : DV) (rr : Int) (C' : Nat → Nat) (E' : Nat → Nat → DV) : Prop := (rr ≠ 0 → C' = C ∧ E' = E) ∧ (rr = 0 → cnt (fT pool C') pool + (l - lvG E page) = cnt (fT pool C) pool ∧ ∀ a b, a ≤ 3 → lfD E' a b = if a = l ∧ b = qn page l then d else lfD E a b)
def PJoi (pool : Nat) (C : Nat → Nat) (E : Nat → Nat → DV) (page : Nat) (rr : Int) (C' : Nat → Nat) (E' : Nat → Nat → DV) : Prop := (rr = 23 ∧ isP E page = false ∧ C' = C ∧ E' = E) ∨ (rr = 20 ∧ isP E page = true ∧ ((enG E page).k = 2 ∨ ((enG E page).k = 3 ∧ ¬ joinB E page)) ∧ C' = C ∧ E' = E) ∨ (rr = 0 ∧ isP E page = true ∧ (enG E page).k = 3 ∧ joinB E page ∧ cnt (fT pool C') pool = cnt (fT pool C) pool + 1 ∧ JnL E E' (page / 512) (bkD (E 3 (512 * (page / 512)))))
def PPro (pool : Nat) (C : Nat → Nat) (Z : Nat → Bool) (root : Nat) (E : Nat → Nat → DV) (page : Nat) (r q x : Bool) (s : Int) (rr : Int) (C' : Nat → Nat) (E' : Nat → Nat → DV) : Prop := (rr ≠ 0 → C' = C ∧ E' = E) ∧ (rr = 0 → (same4 (enG E page) r q x s = true ∧ C' = C ∧ E' = E) ∨ ∃ M1 E1, same4 (enG E page) r q x s = false ∧ TG M1 C' pool Z root E1 ∧ LR pool C C' E E1 page ∧ ∀ a b, a ≤ 3 → lfD E' a b = if a = 3 ∧ b = page then ⟨3, (enG E1 page).a, r, q, x, s⟩ else lfD E1 a b)
def PSpl (pool : Nat) (C : Nat → Nat) (E : Nat → Nat → DV) (page : Nat) (rr : Int) (C' : Nat → Nat) (E' : Nat → Nat → DV) : Prop := (rr ≠ 0 → C' = C ∧ E' = E) ∧ (rr = 0 → cnt (fT pool C') pool + 1 = cnt (fT pool C) pool ∧ SpL E E' (page / 512))
def PUnm (pool : Nat) (C : Nat → Nat) (Z : Nat → Bool) (root : Nat) (E : Nat → Nat → DV) (page fx : Nat) (rr : Int) (C' : Nat → Nat) (E' : Nat → Nat → DV) : Prop := (rr ≠ 0 → fx = 0 ∧ C' = C ∧ E' = E) ∧ (rr = 0 → UnP pool C Z root E E' page fx)
/-- What a step answers, and what it leaves: the program's beside the document's. -/
def SR (pool : Nat) (Z : Nat → Bool) (root : Nat) (C : Nat → Nat) (E : Nat → Nat → DV) (L : List LV) (fr : Int) (C' : Nat → Nat) (E' : Nat → Nat → DV) (L' : List LV) (fr' : Int) (xx yy aa bb : Int) : Prop :=
  ∃ (page : Nat) (f : Int) (r q x : Bool) (s : Int), page < 18446744073709551616 ∧
    ((Sam xx (mapR 2100 pool C E page f r q s) ∧ PMap pool C E 3 page ⟨3, f.toNat * 4096, r, q, x, s⟩ xx C' E' ∧ DMap false L fr page f r q x s yy L' fr' ∧ aa = 0 ∧ bb = 0) ∨
     (Sam xx (mapbR 2100 pool C E page f r q s) ∧ PMap pool C E 2 page ⟨2, f.toNat * 4096, r, q, x, s⟩ xx C' E' ∧ DMpb false L fr page f r q x s yy L' fr' ∧ aa = 0 ∧ bb = 0) ∨
     (∃ fx fy : Nat, aa = (fx : Int) ∧ bb = (fy : Int) ∧ Sam xx (unR pool C E page) ∧ PUnm pool C Z root E page fx xx C' E' ∧ DUnm false L fr page fy yy L' fr') ∨
     (Sam xx (prR pool C E page r q x s) ∧ PPro pool C Z root E page r q x s xx C' E' ∧ DPro false L fr page r q x s yy L' fr' ∧ aa = 0 ∧ bb = 0) ∨
     (Sam xx (spP pool C E page) ∧ PSpl pool C E page xx C' E' ∧ DSpl false L fr page yy L' fr' ∧ aa = 0 ∧ bb = 0) ∨
     (PJoi pool C E page xx C' E' ∧ DJoi false L fr page yy L' fr' ∧ aa = 0 ∧ bb = 0) ∨
     (C' = C ∧ E' = E ∧ L' = L ∧ fr' = fr ∧ xx = 0 ∧ yy = 0 ∧ aa = 0 ∧ bb = 0))
section
variable {W w0 : World} {X0 : Nat → Prop} {v0 : Value} {bt p pm pool o : Nat} {M0 : Nat → Nat → Nat} {C0 : Nat → Nat} {Z : Nat → Bool} {root br bf : Nat} {L0 : List LV} {fr0 : Int} {bo : Nat} {r q x : Bool} {w w' : World} {C C' : Nat → Nat} {E E' : Nat → Nat → DV} {L : List LV} {fr : Int}
theorem SB9.kp (h : SB9 W w0 X0 v0 bt p pm pool o M0 C0 Z root br bf L0 fr0 bo r q x w C E) (k : Kp w w') : SB9 W w0 X0 v0 bt p pm pool o M0 C0 Z root br bf L0 fr0 bo r q x w' C E := by
  obtain ⟨⟨X, M, v, h1, h2, h3, h4, h5⟩, h6, h7, h8, h9⟩ := h
  exact ⟨⟨X, M, v, h1.kps k, h2.kp k, h3, h4, h5⟩, h6.kp k, h7, h8, h9⟩
theorem SWk.kp (h : SWk W w0 X0 v0 bt p pm pool o M0 C0 Z root br bf L0 fr0 w C E L fr) (k : Kp w w') : SWk W w0 X0 v0 bt p pm pool o M0 C0 Z root br bf L0 fr0 w' C E L fr := by
  obtain ⟨⟨X, M, v, h1, h2, h3⟩, h4⟩ := h
  exact ⟨⟨X, M, v, h1.kps k, h2.kp k, h3⟩, h4⟩
/-- The program's own call. -/
theorem SB9.ac {X : Nat → Prop} {M : Nat → Nat → Nat} {v : Value} (h : SB9 W w0 X0 v0 bt p pm pool o M0 C0 Z root br bf L0 fr0 bo r q x w C E) (h1 : BJ W X w bt p pm pool o M C Z root E br bf v L0 fr0 false) (h2 : SXk w0 w X0 X br bf v0 v) (h3 : Ot Z M0 C0 M C) (h4 : X bo) (h5 : ∀ b, v.ownBlock = some b → b ≠ bo) {o' : Nat} (a : AC W X w w' bt p pm 2100 pool o' M C Z root C' E') : SB9 W w0 X0 v0 bt p pm pool o' M0 C0 Z root br bf L0 fr0 bo r q x w' C' E' := by
  obtain ⟨M', b, ot⟩ := h1.ac a
  exact ⟨⟨X, M', v, b, h2.out a.fr, h3.trans ot, h4, h5⟩, (a.fr.block bo h.px.lt (fun c => c.2 h4)).trans h.px, h.n1, h.n2, h.n3⟩
/-- The document's. -/
theorem SB9.rn {X : Nat → Prop} {M : Nat → Nat → Nat} {v : Value} {L' : List LV} {fr' : Int} (h : SB9 W w0 X0 v0 bt p pm pool o M0 C0 Z root br bf L0 fr0 bo r q x w C E) (h1 : BJ W X w bt p pm pool o M C Z root E br bf v L0 fr0 false) (h2 : SXk w0 w X0 X br bf v0 v) (h3 : Ot Z M0 C0 M C) (_h4 : X bo) (h5 : ∀ b, v.ownBlock = some b → b ≠ bo) (a : RN w w' br bf v L' fr' false) (sm : DSum L0 fr0 L' fr') : SWk W w0 X0 v0 bt p pm pool o M0 C0 Z root br bf L0 fr0 w' C E L' fr' ∧ PX w' bo r q x := by
  obtain ⟨v', b⟩ := h1.rn a
  obtain ⟨v2, a1, a2, a3⟩ := a
  have hv : v' = v2 := by
    have e1 := b.rq.b
    rw [a1.b] at e1
    cases e1
    rfl
  subst hv
  have px : PX w' bo r q x := (a2.block bo h.px.lt (fun c => c.elim h.n1 (fun c => c.elim h.n2 (fun c => h5 bo c rfl)))).trans h.px
  refine ⟨?_, px⟩
  refine ⟨⟨_, M, v', b, ⟨fun i hi => .inl (h2.wide i hi), fun i hi => ?_, fun i hi n1 n2 n3 => ?_, fun c hc => ?_, Nat.le_trans h2.size a2.size, h2.lim⟩, h3⟩, sm⟩
  · rcases hi with hi | hi
    · exact h2.new i hi
    · rcases a3 i hi with c | c
      · rcases h2.own i c with d | d
        · exact h2.new i (h1.xs i (.inr (.inr c))).2.1
        · exact .inr d
      · exact .inr (Nat.le_trans h2.size c)
  · refine (a2.block i (Nat.lt_of_lt_of_le (h2.lim i hi) h2.size) (fun c => ?_)).trans (h2.keep i hi n1 n2 n3)
    rcases c with c | c | c
    · exact n1 c
    · exact n2 c
    · rcases h2.own i c with d | d
      · exact n3 d
      · have := h2.lim i hi; omega
  · rcases a3 c hc with d | d
    · exact h2.own c d
    · exact .inr (Nat.le_trans h2.size d)
end

section
variable {W w0 : World} {X0 : Nat → Prop} {v0 : Value} {bt p pm pool o : Nat} {M0 : Nat → Nat → Nat} {C0 : Nat → Nat} {Z : Nat → Bool} {root br bf : Nat} {L0 : List LV} {fr0 : Int} {bo : Nat} {r q x : Bool} {w w' : World} {C C' : Nat → Nat} {E E' : Nat → Nat → DV}
theorem sb_map (h : SB9 W w0 X0 v0 bt p pm pool o M0 C0 Z root br bf L0 fr0 bo r q x w C E) (page : Nat) (f s : Int) (ho : o < 1000000000000000000) :
    Calls Tryz.prog 21 #[.pointer (some ⟨bt, 0, none⟩), .int .u64 (page : Int), .int .i64 f, .agg #[.bool r, .bool q, .bool x], .int .i64 s] w fun e w' => ∃ xx, e = .returned (.int .i64 xx) ∧ ∃ C' E', SB9 W w0 X0 v0 bt p pm pool (o + 600) M0 C0 Z root br bf L0 fr0 bo r q x w' C' E' ∧ Sam xx (mapR 2100 pool C E page f r q s) ∧ PMap pool C E 3 page ⟨3, f.toNat * 4096, r, q, x, s⟩ xx C' E' := by
  obtain ⟨X, M, v, h1, h2, h3, h4, h5⟩ := h.ex
  refine (map_any h1.ts h1.ne page f r q x s (by omega)).mono ?_
  rintro e w' ⟨e1, C', E', ac, b1, b2⟩
  exact ⟨_, e1, C', E', h.ac h1 h2 h3 h4 h5 (ac.le (by omega)), rfl, b1, b2⟩
theorem sb_mapb (h : SB9 W w0 X0 v0 bt p pm pool o M0 C0 Z root br bf L0 fr0 bo r q x w C E) (page : Nat) (f s : Int) (ho : o < 1000000000000000000) :
    Calls Tryz.prog 31 #[.pointer (some ⟨bt, 0, none⟩), .int .u64 (page : Int), .int .i64 f, .agg #[.bool r, .bool q, .bool x], .int .i64 s] w fun e w' => ∃ xx, e = .returned (.int .i64 xx) ∧ ∃ C' E', SB9 W w0 X0 v0 bt p pm pool (o + 600) M0 C0 Z root br bf L0 fr0 bo r q x w' C' E' ∧ Sam xx (mapbR 2100 pool C E page f r q s) ∧ PMap pool C E 2 page ⟨2, f.toNat * 4096, r, q, x, s⟩ xx C' E' := by
  obtain ⟨X, M, v, h1, h2, h3, h4, h5⟩ := h.ex
  refine (mapb_any h1.ts h1.ne page f r q x s (by omega)).mono ?_
  rintro e w' ⟨e1, C', E', ac, b1, b2⟩
  exact ⟨_, e1, C', E', h.ac h1 h2 h3 h4 h5 (ac.le (by omega)), rfl, b1, b2⟩
theorem sb_unmap (h : SB9 W w0 X0 v0 bt p pm pool o M0 C0 Z root br bf L0 fr0 bo r q x w C E) (page : Nat) (ho : o < 1000000000000000000) :
    Calls Tryz.prog 23 #[.pointer (some ⟨bt, 0, none⟩), .int .u64 (page : Int)] w fun e w' => ∃ (fx : Nat) (xx : Int), e = .returned (.tuple #[.int .i64 (fx : Int), .int .i64 xx]) ∧ ∃ C' E', SB9 W w0 X0 v0 bt p pm pool (o + 600) M0 C0 Z root br bf L0 fr0 bo r q x w' C' E' ∧ Sam xx (unR pool C E page) ∧ PUnm pool C Z root E page fx xx C' E' := by
  obtain ⟨X, M, v, h1, h2, h3, h4, h5⟩ := h.ex
  refine (punmap_any h1.ts h1.ne page (by omega)).mono ?_
  rintro e w' ⟨fx, e1, C', E', ac, b1, b2⟩
  exact ⟨fx, _, e1, C', E', h.ac h1 h2 h3 h4 h5 ac, rfl, b1, b2⟩
theorem sb_prot (h : SB9 W w0 X0 v0 bt p pm pool o M0 C0 Z root br bf L0 fr0 bo r q x w C E) (page : Nat) (s : Int) (ho : o < 1000000000000000000) :
    Calls Tryz.prog 34 #[.pointer (some ⟨bt, 0, none⟩), .int .u64 (page : Int), .agg #[.bool r, .bool q, .bool x], .int .i64 s] w fun e w' => ∃ xx, e = .returned (.int .i64 xx) ∧ ∃ C' E', SB9 W w0 X0 v0 bt p pm pool (o + 600) M0 C0 Z root br bf L0 fr0 bo r q x w' C' E' ∧ Sam xx (prR pool C E page r q x s) ∧ PPro pool C Z root E page r q x s xx C' E' := by
  obtain ⟨X, M, v, h1, h2, h3, h4, h5⟩ := h.ex
  refine (pprot_any h1.ts h1.ne page r q x s (by omega)).mono ?_
  rintro e w' ⟨e1, C', E', ac, b1, b2⟩
  exact ⟨_, e1, C', E', h.ac h1 h2 h3 h4 h5 ac, rfl, b1, b2⟩
theorem sb_split (h : SB9 W w0 X0 v0 bt p pm pool o M0 C0 Z root br bf L0 fr0 bo r q x w C E) (page : Nat) (ho : o < 1000000000000000000) :
    Calls Tryz.prog 36 #[.pointer (some ⟨bt, 0, none⟩), .int .u64 (page : Int)] w fun e w' => ∃ xx, e = .returned (.int .i64 xx) ∧ ∃ C' E', SB9 W w0 X0 v0 bt p pm pool (o + 600) M0 C0 Z root br bf L0 fr0 bo r q x w' C' E' ∧ Sam xx (spP pool C E page) ∧ PSpl pool C E page xx C' E' := by
  obtain ⟨X, M, v, h1, h2, h3, h4, h5⟩ := h.ex
  refine (psplit_any h1.ts h1.ne page (by omega)).mono ?_
  rintro e w' ⟨e1, C', E', ac, b1, b2⟩
  exact ⟨_, e1, C', E', h.ac h1 h2 h3 h4 h5 ac, rfl, b1, b2⟩
theorem sb_join (h : SB9 W w0 X0 v0 bt p pm pool o M0 C0 Z root br bf L0 fr0 bo r q x w C E) (page : Nat) (ho : o < 1000000000000000000) :
    Calls Tryz.prog 38 #[.pointer (some ⟨bt, 0, none⟩), .int .u64 (page : Int)] w fun e w' => ∃ xx, e = .returned (.int .i64 xx) ∧ ∃ C' E', SB9 W w0 X0 v0 bt p pm pool (o + 600) M0 C0 Z root br bf L0 fr0 bo r q x w' C' E' ∧ PJoi pool C E page xx C' E' := by
  obtain ⟨X, M, v, h1, h2, h3, h4, h5⟩ := h.ex
  refine (pjoin_any h1.ts h1.ne page (by omega)).mono ?_
  rintro e w' ⟨rr, e1, C', E', ac, b1⟩
  exact ⟨rr, e1, C', E', h.ac h1 h2 h3 h4 h5 ac, b1⟩
theorem sb_dmap (h : SB9 W w0 X0 v0 bt p pm pool o M0 C0 Z root br bf L0 fr0 bo r q x w C E) (page : Nat) (hp : page < 18446744073709551616) (f s : Int) (hl : L0.length ≤ 900000) (hf : -1000000000 ≤ fr0 ∧ fr0 ≤ 1000000000) :
    Calls Tryz.prog 30 #[.pointer (some ⟨br, 0, none⟩), .int .u64 (page : Int), .int .i64 f, .agg #[.bool r, .bool q, .bool x], .int .i64 s] w fun e w' => ∃ yy, e = .returned (.int .i64 yy) ∧ ∃ L' fr', SWk W w0 X0 v0 bt p pm pool o M0 C0 Z root br bf L0 fr0 w' C E L' fr' ∧ DMap false L0 fr0 page f r q x s yy L' fr' ∧ PX w' bo r q x := by
  obtain ⟨X, M, v, h1, h2, h3, h4, h5⟩ := h.ex
  refine (dmap_any h1.rq hl page hp f r q x s hf).mono ?_
  rintro e w' ⟨rr, L', fr', e1, rn, d, sm⟩
  obtain ⟨s1, s2⟩ := h.rn h1 h2 h3 h4 h5 rn sm
  exact ⟨rr, e1, L', fr', s1, d, s2⟩
theorem sb_dmapb (h : SB9 W w0 X0 v0 bt p pm pool o M0 C0 Z root br bf L0 fr0 bo r q x w C E) (page : Nat) (f s : Int) (hl : L0.length ≤ 900000) (hf : -1000000000 ≤ fr0 ∧ fr0 ≤ 1000000000) :
    Calls Tryz.prog 32 #[.pointer (some ⟨br, 0, none⟩), .int .u64 (page : Int), .int .i64 f, .agg #[.bool r, .bool q, .bool x], .int .i64 s] w fun e w' => ∃ yy, e = .returned (.int .i64 yy) ∧ ∃ L' fr', SWk W w0 X0 v0 bt p pm pool o M0 C0 Z root br bf L0 fr0 w' C E L' fr' ∧ DMpb false L0 fr0 page f r q x s yy L' fr' ∧ PX w' bo r q x := by
  obtain ⟨X, M, v, h1, h2, h3, h4, h5⟩ := h.ex
  refine (dmapb_any h1.rq hl page f r q x s hf).mono ?_
  rintro e w' ⟨rr, L', fr', e1, rn, d, sm⟩
  obtain ⟨s1, s2⟩ := h.rn h1 h2 h3 h4 h5 rn sm
  exact ⟨rr, e1, L', fr', s1, d, s2⟩
theorem sb_dunmap (h : SB9 W w0 X0 v0 bt p pm pool o M0 C0 Z root br bf L0 fr0 bo r q x w C E) (page : Nat) (hp : page < 18446744073709551616) (hl : L0.length ≤ 900000) (hf : -1000000000 ≤ fr0 ∧ fr0 ≤ 1000000000) :
    Calls Tryz.prog 33 #[.pointer (some ⟨br, 0, none⟩), .int .u64 (page : Int)] w fun e w' => ∃ (fy : Nat) (yy : Int), e = .returned (.tuple #[.int .i64 (fy : Int), .int .i64 yy]) ∧ ∃ L' fr', SWk W w0 X0 v0 bt p pm pool o M0 C0 Z root br bf L0 fr0 w' C E L' fr' ∧ DUnm false L0 fr0 page fy yy L' fr' ∧ PX w' bo r q x := by
  obtain ⟨X, M, v, h1, h2, h3, h4, h5⟩ := h.ex
  refine (dunmap_any h1.rq hl page hp hf).mono ?_
  rintro e w' ⟨fy, rr, e1, L', fr', rn, d, sm⟩
  obtain ⟨s1, s2⟩ := h.rn h1 h2 h3 h4 h5 rn sm
  exact ⟨fy, rr, e1, L', fr', s1, d, s2⟩
theorem sb_dprot (h : SB9 W w0 X0 v0 bt p pm pool o M0 C0 Z root br bf L0 fr0 bo r q x w C E) (page : Nat) (hp : page < 18446744073709551616) (s : Int) (hl : L0.length ≤ 900000) (hf : -1000000000 ≤ fr0 ∧ fr0 ≤ 1000000000) :
    Calls Tryz.prog 35 #[.pointer (some ⟨br, 0, none⟩), .int .u64 (page : Int), .agg #[.bool r, .bool q, .bool x], .int .i64 s] w fun e w' => ∃ yy, e = .returned (.int .i64 yy) ∧ ∃ L' fr', SWk W w0 X0 v0 bt p pm pool o M0 C0 Z root br bf L0 fr0 w' C E L' fr' ∧ DPro false L0 fr0 page r q x s yy L' fr' ∧ PX w' bo r q x := by
  obtain ⟨X, M, v, h1, h2, h3, h4, h5⟩ := h.ex
  refine (dprot_any h1.rq hl page hp r q x s hf).mono ?_
  rintro e w' ⟨rr, L', fr', e1, rn, d, sm⟩
  obtain ⟨s1, s2⟩ := h.rn h1 h2 h3 h4 h5 rn sm
  exact ⟨rr, e1, L', fr', s1, d, s2⟩
theorem sb_dsplit (h : SB9 W w0 X0 v0 bt p pm pool o M0 C0 Z root br bf L0 fr0 bo r q x w C E) (page : Nat) (hp : page < 18446744073709551616) (hl : L0.length ≤ 900000) (hf : -1000000000 ≤ fr0 ∧ fr0 ≤ 1000000000) :
    Calls Tryz.prog 37 #[.pointer (some ⟨br, 0, none⟩), .int .u64 (page : Int)] w fun e w' => ∃ yy, e = .returned (.int .i64 yy) ∧ ∃ L' fr', SWk W w0 X0 v0 bt p pm pool o M0 C0 Z root br bf L0 fr0 w' C E L' fr' ∧ DSpl false L0 fr0 page yy L' fr' ∧ PX w' bo r q x := by
  obtain ⟨X, M, v, h1, h2, h3, h4, h5⟩ := h.ex
  refine (dsplit_any h1.rq hl page hp hf).mono ?_
  rintro e w' ⟨rr, L', fr', e1, rn, d, sm⟩
  obtain ⟨s1, s2⟩ := h.rn h1 h2 h3 h4 h5 rn sm
  exact ⟨rr, e1, L', fr', s1, d, s2⟩
theorem sb_djoin (h : SB9 W w0 X0 v0 bt p pm pool o M0 C0 Z root br bf L0 fr0 bo r q x w C E) (page : Nat) (hp : page < 18446744073709551616) (hl : L0.length ≤ 900000) (hf : -1000000000 ≤ fr0 ∧ fr0 ≤ 1000000000) :
    Calls Tryz.prog 39 #[.pointer (some ⟨br, 0, none⟩), .int .u64 (page : Int)] w fun e w' => ∃ yy, e = .returned (.int .i64 yy) ∧ ∃ L' fr', SWk W w0 X0 v0 bt p pm pool o M0 C0 Z root br bf L0 fr0 w' C E L' fr' ∧ DJoi false L0 fr0 page yy L' fr' ∧ PX w' bo r q x := by
  obtain ⟨X, M, v, h1, h2, h3, h4, h5⟩ := h.ex
  refine (djoin_any h1.rq hl page hp hf).mono ?_
  rintro e w' ⟨rr, L', fr', e1, rn, d, sm⟩
  obtain ⟨s1, s2⟩ := h.rn h1 h2 h3 h4 h5 rn sm
  exact ⟨rr, e1, L', fr', s1, d, s2⟩
end

end Go.Proofs.YtanlcmdnhhdhaaaGreatDoor
