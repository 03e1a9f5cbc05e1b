/- Joined: R65, R66. -/
import Derived.Test.YtanlcmdnhhdhaaaGreatDoorJ30
import Derived.Test.YtanlcmdnhhdhaaaGreatDoorR55
import Derived.Test.YtanlcmdnhhdhaaaGreatDoorR59
import Derived.Test.YtanlcmdnhhdhaaaGreatDoorR60
import Derived.Test.YtanlcmdnhhdhaaaGreatDoorR61
/- Both second stages beside one another. -/
namespace Go.Proofs.YtanlcmdnhhdhaaaGreatDoor
open Go.RowKit
set_option maxRecDepth 10000

section
variable {W w w' : World} {X X' Y : Nat → Prop} {bt p pm N pool o o' : Nat} {M : Nat → Nat → Nat} {C C' : Nat → Nat} {Z : Nat → Bool} {root : Nat} {E E' : Nat → Nat → DV}
/-- What others do beside the frames; there may be more of it then. -/
theorem TS.wide (h : TS W X w bt p pm N pool o M C Z root E) (k : Fr Y w w') (hY : ∀ i, Y i → W.heap.size ≤ i ∧ X i) (hb : ¬ Y bt) (hX : ∀ i, X' i → X i ∨ (w.heap.size ≤ i ∧ i < w'.heap.size)) (hx : X' bt) : TS W X' w' bt p pm N pool o M C Z root E := by
  have h' := h.frX k hY hb
  obtain ⟨ops, B, h1, h2, S, f⟩ := h.fw
  have t0 := f.t0
  refine ⟨⟨ops, B, h1, h2, S, f.fs.fr k (fun i hi c => (f.out i hi).2 (hY i c).2) (fun c => by have := (hY _ c).1; omega), h'.fw.kp, fun i hi => ⟨(f.out i hi).1, fun c => (hX i c).elim (f.out i hi).2 (fun c => by have := f.fs.own i hi; omega)⟩, fun i hi => (hX i hi).elim (fun hi => Nat.lt_of_lt_of_le (f.lt i hi) k.size) (fun c => c.2), f.t0⟩, h'.tx, hx, h'.bw, h'.tg⟩
end
/-- The program's table and the document's. -/
structure BJ (W : World) (X : Nat → Prop) (w : World) (bt p pm pool o : Nat) (M : Nat → Nat → Nat) (C : Nat → Nat) (Z : Nat → Bool) (root : Nat) (E : Nat → Nat → DV) (br bf : Nat) (v : Value) (L : List LV) (fr : Int) (gone : Bool) : Prop where
  ts : TS W X w bt p pm 2100 pool o M C Z root E
  ne : NE root E (fun _ _ => False)
  rq : RQ w br bf v L fr gone
  xs : ∀ i, (i = br ∨ i = bf ∨ v.ownBlock = some i) → W.heap.size ≤ i ∧ X i ∧ i ≠ bt
section
variable {W w w' : World} {X : Nat → Prop} {bt p pm pool o o' : Nat} {M : Nat → Nat → Nat} {C C' : Nat → Nat} {Z : Nat → Bool} {root : Nat} {E E' : Nat → Nat → DV} {br bf : Nat} {v : Value} {L L' : List LV} {fq fq' : Int} {gone gone' : Bool}
theorem BJ.kps (h : BJ W X w bt p pm pool o M C Z root E br bf v L fq gone) (k : Kp w w') : BJ W X w' bt p pm pool o M C Z root E br bf v L fq gone := ⟨h.ts.kps k, h.ne, h.rq.kp k, h.xs⟩
theorem BJ.le (h : BJ W X w bt p pm pool o M C Z root E br bf v L fq gone) (ho : o ≤ o') : BJ W X w bt p pm pool o' M C Z root E br bf v L fq gone := ⟨h.ts.le ho, h.ne, h.rq, h.xs⟩
/-- The program's own step. -/
theorem BJ.ac (h : BJ W X w bt p pm pool o M C Z root E br bf v L fq gone) (a : AC W X w w' bt p pm 2100 pool o' M C Z root C' E') : ∃ M', BJ W X w' bt p pm pool o' M' C' Z root E' br bf v L fq gone ∧ Ot Z M C M' C' := by
  obtain ⟨⟨M', t, ot⟩, ne, f⟩ := a
  exact ⟨M', ⟨t, ne, h.rq.fr f (fun c => c.2 (h.xs br (.inl rfl)).2.1) (fun c => c.2 (h.xs bf (.inr (.inl rfl))).2.1) (fun b hb c => c.2 (h.xs b (.inr (.inr hb))).2.1), h.xs⟩, ot⟩
theorem BJ.look (h : BJ W X w bt p pm pool o M C Z root E br bf v L fq gone) (t : TS W X w' bt p pm 2100 pool o' M C Z root E) (f : Fr (Out W X) w w') : BJ W X w' bt p pm pool o' M C Z root E br bf v L fq gone :=
  ⟨t, h.ne, h.rq.fr f (fun c => c.2 (h.xs br (.inl rfl)).2.1) (fun c => c.2 (h.xs bf (.inr (.inl rfl))).2.1) (fun b hb c => c.2 (h.xs b (.inr (.inr hb))).2.1), h.xs⟩
/-- The document's. -/
theorem BJ.rn (h : BJ W X w bt p pm pool o M C Z root E br bf v L fq gone) (r : RN w w' br bf v L' fq' gone') : ∃ v', BJ W (fun i => X i ∨ v'.ownBlock = some i) w' bt p pm pool o M C Z root E br bf v' L' fq' gone' := by
  obtain ⟨v', a1, a2, a3⟩ := r
  have hb : ∀ b, v'.ownBlock = some b → b < w'.heap.size := fun b hb => by
    obtain ⟨na, cap, e, _, hc⟩ := OL.form a1.ol
    rcases hc with ⟨rfl, rfl, _⟩ | ⟨g, rfl, hg⟩
    · rw [e] at hb; cases hb
    · rw [e] at hb; cases hb; exact hg
  refine ⟨v', h.ts.wide a2 (fun i hi => ⟨(h.xs i hi).1, (h.xs i hi).2.1⟩) (fun c => (h.xs bt c).2.2 rfl) (fun i hi => ?_) (.inl h.ts.xb), h.ne, a1, fun i hi => ?_⟩
  · rcases hi with hi | hi
    · exact .inl hi
    · rcases a3 i hi with c | c
      · exact .inl (h.xs i (.inr (.inr c))).2.1
      · exact .inr ⟨c, hb i hi⟩
  · rcases hi with hi | hi | hi
    · obtain ⟨b1, b2, b3⟩ := h.xs i (.inl hi); exact ⟨b1, .inl b2, b3⟩
    · obtain ⟨b1, b2, b3⟩ := h.xs i (.inr (.inl hi)); exact ⟨b1, .inl b2, b3⟩
    · rcases a3 i hi with c | c
      · obtain ⟨b1, b2, b3⟩ := h.xs i (.inr (.inr c)); exact ⟨b1, .inl b2, b3⟩
      · have s1 := h.ts.fw.kp.size
        have s2 := h.ts.tx.lt
        exact ⟨by omega, .inr hi, by omega⟩
end
end Go.Proofs.YtanlcmdnhhdhaaaGreatDoor

/- The document's second stage: what each step leaves, in one form: of its leaves and of what is free. -/
namespace Go.Proofs.YtanlcmdnhhdhaaaGreatDoor
open Go.RowKit
set_option maxRecDepth 10000

/-- Other leaves were to be set. -/
def DSet (fr : Int) (L Lx L' : List LV) (fr' : Int) : Prop := (setB fr L Lx = true ∧ L' = Lx ∧ fr' = fr - ((tabL Lx : Int) - (tabL L : Int))) ∨ (setB fr L Lx = false ∧ L' = L ∧ fr' = fr)
/-- What is free and what is had stay together. -/
def DSum (L : List LV) (fr : Int) (L' : List LV) (fr' : Int) : Prop := fr' + (tabL L' : Int) = fr + (tabL L : Int) ∧ L'.length ≤ L.length + 511
theorem DSum.refl (L : List LV) (fr : Int) : DSum L fr L fr := ⟨rfl, by omega⟩
theorem DSet.sum {fr fr' : Int} {L Lx L' : List LV} (h : DSet fr L Lx L' fr') (hl : Lx.length ≤ L.length + 511) : DSum L fr L' fr' := by
  rcases h with ⟨_, rfl, rfl⟩ | ⟨_, rfl, rfl⟩
  · exact ⟨by omega, hl⟩
  · exact DSum.refl _ _
theorem DSum.near {L L' : List LV} {fr fr' : Int} (h : DSum L fr L' fr') (ok : okL L) (ok' : okL L') : fr - 3 * ((L.length : Int) + 511) ≤ fr' ∧ fr' ≤ fr + 3 * (L.length : Int) := by
  have a := tabL_le ok
  have b := tabL_le ok'
  have := h.1
  have := h.2
  omega
def DMap (gone : Bool) (L : List LV) (fr : Int) (page : Nat) (f : Int) (r q x : Bool) (s : Int) (rr : Int) (L' : List LV) (fr' : Int) : Prop :=
  rr = rmapR gone L fr page f ⟨page, f.toNat, r, q, x, s, 3⟩ r q s ∧ ((rr = 0 ∧ L' = withL L ⟨page, f.toNat, r, q, x, s, 3⟩ ∧ DSum L fr L' fr') ∨ (rr ≠ 0 ∧ L' = L ∧ fr' = fr))
def DMpb (gone : Bool) (L : List LV) (fr : Int) (page : Nat) (f : Int) (r q x : Bool) (s : Int) (rr : Int) (L' : List LV) (fr' : Int) : Prop :=
  rr = rmapbR gone L fr page f ⟨page, f.toNat, r, q, x, s, 2⟩ r q s ∧ ((rr = 0 ∧ L' = withL L ⟨page, f.toNat, r, q, x, s, 2⟩ ∧ DSum L fr L' fr') ∨ (rr ≠ 0 ∧ L' = L ∧ fr' = fr))
def DSpl (gone : Bool) (L : List LV) (fr : Int) (page : Nat) (rr : Int) (L' : List LV) (fr' : Int) : Prop :=
  rr = rsplR gone L fr page ∧ ((rr = 0 ∧ ∃ (k : Nat) (b : LV), L.findIdx? (hitL page) = some k ∧ L[k]? = some b ∧ b.l = 2 ∧ 1 ≤ fr ∧ DSet fr L (halvL L k b) L' fr') ∨ (rr ≠ 0 ∧ L' = L ∧ fr' = fr))
def DUnm (gone : Bool) (L : List LV) (fr : Int) (page : Nat) (fx : Nat) (rr : Int) (L' : List LV) (fr' : Int) : Prop :=
  rr = runR gone L fr page ∧ ((rr = 0 ∧ ∃ (L1 : List LV) (fr1 : Int) (k : Nat) (x : LV), Sp1 L fr page L1 fr1 ∧ L1.findIdx? (hitL page) = some k ∧ L1[k]? = some x ∧ fx = x.x ∧ DSet fr1 L1 (rmvL L1 k) L' fr') ∨ (rr ≠ 0 ∧ fx = 0 ∧ L' = L ∧ fr' = fr))
def DPro (gone : Bool) (L : List LV) (fr : Int) (page : Nat) (r q e : Bool) (s : Int) (rr : Int) (L' : List LV) (fr' : Int) : Prop :=
  rr = rprR gone L fr page r q e s ∧ ((rr = 0 ∧ ((∃ (k : Nat) (x : LV), L.findIdx? (hitL page) = some k ∧ L[k]? = some x ∧ x.l = 2 ∧ (samP x.r x.q x.e r q e && (x.f == s)) = true ∧ L' = L ∧ fr' = fr) ∨ (∃ (L1 : List LV) (fr1 : Int) (k : Nat) (x : LV), Sp1 L fr page L1 fr1 ∧ L1.findIdx? (hitL page) = some k ∧ L1[k]? = some x ∧ L' = prL L1 k x r q e s ∧ fr' = fr1))) ∨ (rr ≠ 0 ∧ L' = L ∧ fr' = fr))
def DJoi (gone : Bool) (L : List LV) (fr : Int) (page : Nat) (rr : Int) (L' : List LV) (fr' : Int) : Prop :=
  (rr = 23 ∧ (gone = true ∨ ¬ 0 ≤ atI L page) ∧ L' = L ∧ fr' = fr) ∨ (rr = 20 ∧ gone = false ∧ 0 ≤ atI L page ∧ (∀ n x, ¬ JnC L page n x) ∧ L' = L ∧ fr' = fr) ∨ (rr = 0 ∧ gone = false ∧ ∃ n x, JnC L page n x ∧ DSet fr L (jnL L n x) L' fr')
theorem gL_set {L : List LV} {k : Nat} {x y : LV} (hx : L[k]? = some x) (h1 : y.g = x.g) (h2 : y.l = x.l) (i : Nat) : gL (L.set k y) i = gL L i ∧ lL (L.set k y) i = lL L i := by
  have hk := (List.getElem?_eq_some_iff.1 hx).1
  unfold gL lL
  rw [List.getD_eq_getElem?_getD, List.getD_eq_getElem?_getD, List.getElem?_set]
  by_cases e : k = i
  · subst e
    rw [if_pos rfl, if_pos hk, hx]
    exact ⟨h1, h2⟩
  · rw [if_neg e]
    exact ⟨rfl, rfl⟩
theorem tabI_set {L : List LV} {k : Nat} {x y : LV} (hx : L[k]? = some x) (h1 : y.g = x.g) (h2 : y.l = x.l) : ∀ i, tabI (L.set k y) i = tabI L i
  | 0 => rfl
  | i + 1 => by
    have hn : ∀ lv, newT (L.set k y) i lv = newT L i lv := fun lv => by
      unfold newT
      rw [(gL_set hx h1 h2 _).1, (gL_set hx h1 h2 _).1]
    unfold tabI
    rw [tabI_set hx h1 h2 i, (gL_set hx h1 h2 i).2]
    simp only [hn]
theorem tabL_pr {L : List LV} {k : Nat} {x : LV} (hx : L[k]? = some x) (r q e : Bool) (s : Int) : tabL (prL L k x r q e s) = tabL L := by
  unfold tabL prL
  rw [List.length_set]
  exact tabI_set (y := prV x r q e s) hx rfl rfl L.length
theorem Sp1.sum {L L1 : List LV} {fr fr1 : Int} {page : Nat} (h : Sp1 L fr page L1 fr1) : DSum L fr L1 fr1 := by
  obtain ⟨k, b, h1, h2, ⟨_, rfl, rfl⟩ | ⟨_, _, h5⟩⟩ := h
  · exact DSum.refl _ _
  · exact DSet.sum h5 (by rw [len_halv (List.getElem?_eq_some_iff.1 h2).1]; omega)
theorem DSum.trans {L L1 L2 : List LV} {fr fr1 fr2 : Int} (h : DSum L fr L1 fr1) (k : DSum L1 fr1 L2 fr2) (hl : L2.length ≤ L1.length) : DSum L fr L2 fr2 := ⟨k.1.trans h.1, Nat.le_trans hl h.2⟩
section
variable {w : World} {br bf : Nat} {v : Value} {L : List LV} {fr : Int} {gone : Bool}
theorem dmap_any (h : RQ w br bf v L fr gone) (hl : L.length ≤ 900000) (page : Nat) (hp : page < 18446744073709551616) (f : Int) (r q x : Bool) (s : Int) (hf : -1000000000 ≤ fr ∧ fr ≤ 1000000000) :
    Calls Tryz.prog 30 #[.pointer (some ⟨br, 0, none⟩), .int .u64 (page : Int), .int .i64 f, .agg #[.bool r, .bool q, .bool x], .int .i64 s] w fun e w' => ∃ rr L' fr', e = .returned (.int .i64 rr) ∧ RN w w' br bf v L' fr' gone ∧ DMap gone L fr page f r q x s rr L' fr' ∧ DSum L fr L' fr' := by
  refine (rmap_any h hl page hp f r q x s hf _ rfl _ rfl).mono fun e w' ⟨e1, e2⟩ => ?_
  obtain ⟨a1, a2⟩ := e2.out
  by_cases c : rmapR gone L fr page f ⟨page, f.toNat, r, q, x, s, 3⟩ r q s = 0
  · have sm : DSum L fr (withL L ⟨page, f.toNat, r, q, x, s, 3⟩) (fr - ((tabL (withL L ⟨page, f.toNat, r, q, x, s, 3⟩) : Int) - (tabL L : Int))) := ⟨by omega, by rw [len_with]; omega⟩
    exact ⟨_, _, _, e1, a1 c, ⟨rfl, .inl ⟨c, rfl, sm⟩⟩, sm⟩
  · exact ⟨_, _, _, e1, a2 c, ⟨rfl, .inr ⟨c, rfl, rfl⟩⟩, DSum.refl _ _⟩
theorem dmapb_any (h : RQ w br bf v L fr gone) (hl : L.length ≤ 900000) (page : Nat) (f : Int) (r q x : Bool) (s : Int) (hf : -1000000000 ≤ fr ∧ fr ≤ 1000000000) :
    Calls Tryz.prog 32 #[.pointer (some ⟨br, 0, none⟩), .int .u64 (page : Int), .int .i64 f, .agg #[.bool r, .bool q, .bool x], .int .i64 s] w fun e w' => ∃ rr L' fr', e = .returned (.int .i64 rr) ∧ RN w w' br bf v L' fr' gone ∧ DMpb gone L fr page f r q x s rr L' fr' ∧ DSum L fr L' fr' := by
  refine (rmapb_any h hl page f r q x s hf _ rfl _ rfl).mono fun e w' ⟨e1, e2⟩ => ?_
  obtain ⟨a1, a2⟩ := e2.out
  by_cases c : rmapbR gone L fr page f ⟨page, f.toNat, r, q, x, s, 2⟩ r q s = 0
  · have sm : DSum L fr (withL L ⟨page, f.toNat, r, q, x, s, 2⟩) (fr - ((tabL (withL L ⟨page, f.toNat, r, q, x, s, 2⟩) : Int) - (tabL L : Int))) := ⟨by omega, by rw [len_with]; omega⟩
    exact ⟨_, _, _, e1, a1 c, ⟨rfl, .inl ⟨c, rfl, sm⟩⟩, sm⟩
  · exact ⟨_, _, _, e1, a2 c, ⟨rfl, .inr ⟨c, rfl, rfl⟩⟩, DSum.refl _ _⟩
theorem dsplit_any (h : RQ w br bf v L fr gone) (hl : L.length ≤ 900000) (page : Nat) (hp : page < 18446744073709551616) (hf : -1000000000 ≤ fr ∧ fr ≤ 1000000000) :
    Calls Tryz.prog 37 #[.pointer (some ⟨br, 0, none⟩), .int .u64 (page : Int)] w fun e w' => ∃ rr L' fr', e = .returned (.int .i64 rr) ∧ RN w w' br bf v L' fr' gone ∧ DSpl gone L fr page rr L' fr' ∧ DSum L fr L' fr' := by
  refine (rsplit_any h hl page hp hf _ rfl).mono fun e w' ⟨e1, e2⟩ => ?_
  obtain ⟨a1, a2⟩ := e2.out
  by_cases c : rsplR gone L fr page = 0
  · obtain ⟨k, b, h1, h2, h3, h4, h5, h6⟩ := a1 c
    have hn : (halvL L k b).length ≤ L.length + 511 := by rw [len_halv (List.getElem?_eq_some_iff.1 h2).1]; omega
    cases t : setB fr L (halvL L k b)
    · have d : DSet fr L (halvL L k b) L fr := .inr ⟨t, rfl, rfl⟩
      exact ⟨_, _, _, e1, h6 t, ⟨rfl, .inl ⟨c, k, b, h1, h2, h3, h4, d⟩⟩, d.sum hn⟩
    · have d : DSet fr L (halvL L k b) _ _ := .inl ⟨t, rfl, rfl⟩
      exact ⟨_, _, _, e1, h5 t, ⟨rfl, .inl ⟨c, k, b, h1, h2, h3, h4, d⟩⟩, d.sum hn⟩
  · exact ⟨_, _, _, e1, a2 c, ⟨rfl, .inr ⟨c, rfl, rfl⟩⟩, DSum.refl _ _⟩
theorem dunmap_any (h : RQ w br bf v L fr gone) (hl : L.length ≤ 900000) (page : Nat) (hp : page < 18446744073709551616) (hf : -1000000000 ≤ fr ∧ fr ≤ 1000000000) :
    Calls Tryz.prog 33 #[.pointer (some ⟨br, 0, none⟩), .int .u64 (page : Int)] w fun e w' => ∃ (fx : Nat) (rr : Int), e = .returned (.tuple #[.int .i64 (fx : Int), .int .i64 rr]) ∧ ∃ L' fr', RN w w' br bf v L' fr' gone ∧ DUnm gone L fr page fx rr L' fr' ∧ DSum L fr L' fr' := by
  refine (runmap_any h hl page hp hf _ rfl).mono fun e w' ⟨fx, e1, e2⟩ => ?_
  obtain ⟨a1, a2⟩ := e2.out
  by_cases c : runR gone L fr page = 0
  · obtain ⟨rfl, L1, fr1, k, x, h1, h2, h3, h4, h5, h6⟩ := a1 c
    have hn : (rmvL L1 k).length ≤ L1.length + 511 := by have := len_rmv L1 k; omega
    cases t : setB fr1 L1 (rmvL L1 k)
    · have d : DSet fr1 L1 (rmvL L1 k) L1 fr1 := .inr ⟨t, rfl, rfl⟩
      exact ⟨_, _, e1, _, _, h6 t, ⟨rfl, .inl ⟨c, L1, fr1, k, x, h1, h2, h3, h4, d⟩⟩, h1.sum.trans (d.sum hn) (Nat.le_refl _)⟩
    · have d : DSet fr1 L1 (rmvL L1 k) _ _ := .inl ⟨t, rfl, rfl⟩
      exact ⟨_, _, e1, _, _, h5 t, ⟨rfl, .inl ⟨c, L1, fr1, k, x, h1, h2, h3, h4, d⟩⟩, h1.sum.trans (d.sum hn) (len_rmv _ _)⟩
  · obtain ⟨b1, b2⟩ := a2 c
    exact ⟨_, _, e1, _, _, b2, ⟨rfl, .inr ⟨c, b1, rfl, rfl⟩⟩, DSum.refl _ _⟩
theorem dprot_any (h : RQ w br bf v L fr gone) (hl : L.length ≤ 900000) (page : Nat) (hp : page < 18446744073709551616) (r q x : Bool) (s : Int) (hf : -1000000000 ≤ fr ∧ fr ≤ 1000000000) :
    Calls Tryz.prog 35 #[.pointer (some ⟨br, 0, none⟩), .int .u64 (page : Int), .agg #[.bool r, .bool q, .bool x], .int .i64 s] w fun e w' => ∃ rr L' fr', e = .returned (.int .i64 rr) ∧ RN w w' br bf v L' fr' gone ∧ DPro gone L fr page r q x s rr L' fr' ∧ DSum L fr L' fr' := by
  refine (rprot_any h hl page hp r q x s hf _ rfl).mono fun e w' ⟨e1, e2⟩ => ?_
  obtain ⟨a1, a2⟩ := e2.out
  by_cases c : rprR gone L fr page r q x s = 0
  · obtain ⟨rfl, ⟨k, y, h1, h2, h3, h4, h5⟩ | ⟨L1, fr1, k, y, h1, h2, h3, h4⟩⟩ := a1 c
    · exact ⟨_, _, _, e1, h5, ⟨rfl, .inl ⟨c, .inl ⟨k, y, h1, h2, h3, h4, rfl, rfl⟩⟩⟩, DSum.refl _ _⟩
    · refine ⟨_, _, _, e1, h4, ⟨rfl, .inl ⟨c, .inr ⟨L1, fr1, k, y, h1, h2, h3, rfl, rfl⟩⟩⟩, ?_⟩
      have s1 := h1.sum
      exact ⟨by rw [tabL_pr h3]; exact s1.1, by unfold prL; rw [List.length_set]; exact s1.2⟩
  · exact ⟨_, _, _, e1, a2 c, ⟨rfl, .inr ⟨c, rfl, rfl⟩⟩, DSum.refl _ _⟩
theorem djoin_any (h : RQ w br bf v L fr gone) (hl : L.length ≤ 900000) (page : Nat) (hp : page < 18446744073709551616) (hf : -1000000000 ≤ fr ∧ fr ≤ 1000000000) :
    Calls Tryz.prog 39 #[.pointer (some ⟨br, 0, none⟩), .int .u64 (page : Int)] w fun e w' => ∃ rr L' fr', e = .returned (.int .i64 rr) ∧ RN w w' br bf v L' fr' gone ∧ DJoi gone L fr page rr L' fr' ∧ DSum L fr L' fr' := by
  refine (rjoin_any h hl page hp hf).mono fun e w' ⟨rr, e1, e2⟩ => ?_
  rcases e2.out with ⟨b1, b2, b3⟩ | ⟨b1, b2, b3, b4, b5⟩ | ⟨b1, rfl, n, x, b3, b4, b5⟩
  · exact ⟨_, _, _, e1, b3, .inl ⟨b1, b2, rfl, rfl⟩, DSum.refl _ _⟩
  · exact ⟨_, _, _, e1, b5, .inr (.inl ⟨b1, b2, b3, b4, rfl, rfl⟩), DSum.refl _ _⟩
  · have hn : (jnL L n x).length ≤ L.length + 511 := by have := len_jn (x := x) b3.2.2.2.1; omega
    cases t : setB fr L (jnL L n x)
    · have d : DSet fr L (jnL L n x) L fr := .inr ⟨t, rfl, rfl⟩
      exact ⟨_, _, _, e1, b5 t, .inr (.inr ⟨b1, rfl, n, x, b3, d⟩), d.sum hn⟩
    · have d : DSet fr L (jnL L n x) _ _ := .inl ⟨t, rfl, rfl⟩
      exact ⟨_, _, _, e1, b4 t, .inr (.inr ⟨b1, rfl, n, x, b3, d⟩), d.sum hn⟩
end

end Go.Proofs.YtanlcmdnhhdhaaaGreatDoor
