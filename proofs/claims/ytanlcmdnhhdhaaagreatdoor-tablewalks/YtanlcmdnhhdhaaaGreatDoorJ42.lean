/- Joined: R67, Mask, R68. -/
import Derived.Test.YtanlcmdnhhdhaaaGreatDoorJ41
import Derived.Test.YtanlcmdnhhdhaaaGreatDoorJ00
import Derived.Laws.Bits128
import Derived.Test.YtanlcmdnhhdhaaaGreatDoorR43
import Derived.Test.YtanlcmdnhhdhaaaGreatDoorJ31
import Derived.Deep.CutBlock
import Derived.Deep.DeepCutAuto
import Derived.Deep.RegionHeld3
/- demesnelaw13.step: what a step on both leaves. -/
namespace Go.Proofs.YtanlcmdnhhdhaaaGreatDoor
open Go.RowKit
set_option maxRecDepth 10000

/-- The two are one number. -/
def Sam (a b : Int) : Prop := a = b
/-- What stays of the blocks of X0 since w0. -/
structure SXk (w0 w : World) (X0 X : Nat → Prop) (br bf : Nat) (v0 v : Value) : Prop where
  wide : ∀ i, X0 i → X i
  new : ∀ i, X i → X0 i ∨ w0.heap.size ≤ i
  keep : ∀ i, X0 i → i ≠ br → i ≠ bf → v0.ownBlock ≠ some i → w.heap[i]? = w0.heap[i]?
  own : ∀ b, v.ownBlock = some b → v0.ownBlock = some b ∨ w0.heap.size ≤ b
  size : w0.heap.size ≤ w.heap.size
  lim : ∀ i, X0 i → i < w0.heap.size
section
variable {w0 w1 w2 w w' : World} {X0 X1 X2 X : Nat → Prop} {br bf : Nat} {v0 v1 v2 v : Value}
theorem SXk.refl (h : ∀ i, X i → i < w.heap.size) : SXk w w X X br bf v v := ⟨fun _ => id, fun _ => .inl, fun _ _ _ _ _ => rfl, fun _ => .inl, Nat.le_refl _, h⟩
theorem SXk.trans (h : SXk w0 w1 X0 X1 br bf v0 v1) (k : SXk w1 w2 X1 X2 br bf v1 v2) : SXk w0 w2 X0 X2 br bf v0 v2 where
  wide i hi := k.wide i (h.wide i hi)
  new i hi := (k.new i hi).elim (h.new i) (fun c => .inr (Nat.le_trans h.size c))
  keep i hi n1 n2 n3 := by
    refine (k.keep i (h.wide i hi) n1 n2 (fun c => ?_)).trans (h.keep i hi n1 n2 n3)
    rcases h.own i c with d | d
    · exact n3 d
    · have := h.lim i hi; omega
  own b hb := (k.own b hb).elim (h.own b) (fun c => .inr (Nat.le_trans h.size c))
  size := Nat.le_trans h.size k.size
  lim := h.lim
theorem SXk.kp (h : SXk w0 w X0 X br bf v0 v) (k : Kp w w') : SXk w0 w' X0 X br bf v0 v := ⟨h.wide, h.new, fun i hi n1 n2 n3 => (k.block i (Nat.lt_of_lt_of_le (h.lim i hi) h.size)).trans (h.keep i hi n1 n2 n3), h.own, Nat.le_trans h.size k.size, h.lim⟩
theorem SXk.out {W : World} (h : SXk w0 w X0 X br bf v0 v) (k : Fr (Out W X) w w') : SXk w0 w' X0 X br bf v0 v := ⟨h.wide, h.new, fun i hi n1 n2 n3 => (k.block i (Nat.lt_of_lt_of_le (h.lim i hi) h.size) (fun c => c.2 (h.wide i hi))).trans (h.keep i hi n1 n2 n3), h.own, Nat.le_trans h.size k.size, h.lim⟩
end
/-- Both tables, a step under way since w0. -/
structure SWk (W w0 : World) (X0 : Nat → Prop) (v0 : Value) (bt p pm pool o : Nat) (M0 : Nat → Nat → Nat) (C0 : Nat → Nat) (Z : Nat → Bool) (root br bf : Nat) (L0 : List LV) (fr0 : Int) (w : World) (C : Nat → Nat) (E : Nat → Nat → DV) (L : List LV) (fr : Int) : Prop where
  ex : ∃ X M v, BJ W X w bt p pm pool o M C Z root E br bf v L fr false ∧ SXk w0 w X0 X br bf v0 v ∧ Ot Z M0 C0 M C
  sum : DSum L0 fr0 L fr
/-- .. beside a permission in the box bo. -/
structure SB9 (W w0 : World) (X0 : Nat → Prop) (v0 : Value) (bt p pm pool o : Nat) (M0 : Nat → Nat → Nat) (C0 : Nat → Nat) (Z : Nat → Bool) (root br bf : Nat) (L0 : List LV) (fr0 : Int) (bo : Nat) (r q x : Bool) (w : World) (C : Nat → Nat) (E : Nat → Nat → DV) : Prop where
  ex : ∃ X M v, BJ W X w bt p pm pool o M C Z root E br bf v L0 fr0 false ∧ SXk w0 w X0 X br bf v0 v ∧ Ot Z M0 C0 M C ∧ X bo ∧ ∀ b, v.ownBlock = some b → b ≠ bo
  px : PX w bo r q x
  n1 : bo ≠ br
  n2 : bo ≠ bf
  n3 : bo ≠ bt
def PMap (pool : Nat) (C : Nat → Nat) (E : Nat → Nat → DV) (l page : Nat) (d : DV) (rr : Int) (C' : Nat → Nat) (E' : Nat → Nat → DV) : Prop := (rr ≠ 0 → C' = C ∧ E' = E) ∧ (rr = 0 → cnt (fT pool C') pool + (l - lvG E page) = cnt (fT pool C) pool ∧ ∀ a b, a ≤ 3 → lfD E' a b = if a = l ∧ b = qn page l then d else lfD E a b)
def PJoi (pool : Nat) (C : Nat → Nat) (E : Nat → Nat → DV) (page : Nat) (rr : Int) (C' : Nat → Nat) (E' : Nat → Nat → DV) : Prop := (rr = 23 ∧ isP E page = false ∧ C' = C ∧ E' = E) ∨ (rr = 20 ∧ isP E page = true ∧ ((enG E page).k = 2 ∨ ((enG E page).k = 3 ∧ ¬ joinB E page)) ∧ C' = C ∧ E' = E) ∨ (rr = 0 ∧ isP E page = true ∧ (enG E page).k = 3 ∧ joinB E page ∧ cnt (fT pool C') pool = cnt (fT pool C) pool + 1 ∧ JnL E E' (page / 512) (bkD (E 3 (512 * (page / 512)))))
def PPro (pool : Nat) (C : Nat → Nat) (Z : Nat → Bool) (root : Nat) (E : Nat → Nat → DV) (page : Nat) (r q x : Bool) (s : Int) (rr : Int) (C' : Nat → Nat) (E' : Nat → Nat → DV) : Prop := (rr ≠ 0 → C' = C ∧ E' = E) ∧ (rr = 0 → (same4 (enG E page) r q x s = true ∧ C' = C ∧ E' = E) ∨ ∃ M1 E1, TG M1 C' pool Z root E1 ∧ LR pool C C' E E1 page ∧ ∀ a b, a ≤ 3 → lfD E' a b = if a = 3 ∧ b = page then ⟨3, (enG E1 page).a, r, q, x, s⟩ else lfD E1 a b)
def PSpl (pool : Nat) (C : Nat → Nat) (E : Nat → Nat → DV) (page : Nat) (rr : Int) (C' : Nat → Nat) (E' : Nat → Nat → DV) : Prop := (rr ≠ 0 → C' = C ∧ E' = E) ∧ (rr = 0 → cnt (fT pool C') pool + 1 = cnt (fT pool C) pool ∧ SpL E E' (page / 512))
def PUnm (pool : Nat) (C : Nat → Nat) (Z : Nat → Bool) (root : Nat) (E : Nat → Nat → DV) (page fx : Nat) (rr : Int) (C' : Nat → Nat) (E' : Nat → Nat → DV) : Prop := (rr ≠ 0 → fx = 0 ∧ C' = C ∧ E' = E) ∧ (rr = 0 → UnP pool C Z root E E' page fx)
/-- What a step answers, and what it leaves: the program's beside the document's. -/
def SR (pool : Nat) (Z : Nat → Bool) (root : Nat) (C : Nat → Nat) (E : Nat → Nat → DV) (L : List LV) (fr : Int) (C' : Nat → Nat) (E' : Nat → Nat → DV) (L' : List LV) (fr' : Int) (xx yy aa bb : Int) : Prop :=
  ∃ (page : Nat) (f : Int) (r q x : Bool) (s : Int), page < 18446744073709551616 ∧
    ((Sam xx (mapR 2100 pool C E page f r q s) ∧ PMap pool C E 3 page ⟨3, f.toNat * 4096, r, q, x, s⟩ xx C' E' ∧ DMap false L fr page f r q x s yy L' fr' ∧ aa = 0 ∧ bb = 0) ∨
     (Sam xx (mapbR 2100 pool C E page f r q s) ∧ PMap pool C E 2 page ⟨2, f.toNat * 4096, r, q, x, s⟩ xx C' E' ∧ DMpb false L fr page f r q x s yy L' fr' ∧ aa = 0 ∧ bb = 0) ∨
     (∃ fx fy : Nat, aa = (fx : Int) ∧ bb = (fy : Int) ∧ Sam xx (unR pool C E page) ∧ PUnm pool C Z root E page fx xx C' E' ∧ DUnm false L fr page fy yy L' fr') ∨
     (Sam xx (prR pool C E page r q x s) ∧ PPro pool C Z root E page r q x s xx C' E' ∧ DPro false L fr page r q x s yy L' fr' ∧ aa = 0 ∧ bb = 0) ∨
     (Sam xx (spP pool C E page) ∧ PSpl pool C E page xx C' E' ∧ DSpl false L fr page yy L' fr' ∧ aa = 0 ∧ bb = 0) ∨
     (PJoi pool C E page xx C' E' ∧ DJoi false L fr page yy L' fr' ∧ aa = 0 ∧ bb = 0) ∨
     (C' = C ∧ E' = E ∧ L' = L ∧ fr' = fr ∧ xx = 0 ∧ yy = 0 ∧ aa = 0 ∧ bb = 0))
section
variable {W w0 : World} {X0 : Nat → Prop} {v0 : Value} {bt p pm pool o : Nat} {M0 : Nat → Nat → Nat} {C0 : Nat → Nat} {Z : Nat → Bool} {root br bf : Nat} {L0 : List LV} {fr0 : Int} {bo : Nat} {r q x : Bool} {w w' : World} {C C' : Nat → Nat} {E E' : Nat → Nat → DV} {L : List LV} {fr : Int}
theorem SB9.kp (h : SB9 W w0 X0 v0 bt p pm pool o M0 C0 Z root br bf L0 fr0 bo r q x w C E) (k : Kp w w') : SB9 W w0 X0 v0 bt p pm pool o M0 C0 Z root br bf L0 fr0 bo r q x w' C E := by
  obtain ⟨⟨X, M, v, h1, h2, h3, h4, h5⟩, h6, h7, h8, h9⟩ := h
  exact ⟨⟨X, M, v, h1.kps k, h2.kp k, h3, h4, h5⟩, h6.kp k, h7, h8, h9⟩
theorem SWk.kp (h : SWk W w0 X0 v0 bt p pm pool o M0 C0 Z root br bf L0 fr0 w C E L fr) (k : Kp w w') : SWk W w0 X0 v0 bt p pm pool o M0 C0 Z root br bf L0 fr0 w' C E L fr := by
  obtain ⟨⟨X, M, v, h1, h2, h3⟩, h4⟩ := h
  exact ⟨⟨X, M, v, h1.kps k, h2.kp k, h3⟩, h4⟩
/-- The program's own call. -/
theorem SB9.ac {X : Nat → Prop} {M : Nat → Nat → Nat} {v : Value} (h : SB9 W w0 X0 v0 bt p pm pool o M0 C0 Z root br bf L0 fr0 bo r q x w C E) (h1 : BJ W X w bt p pm pool o M C Z root E br bf v L0 fr0 false) (h2 : SXk w0 w X0 X br bf v0 v) (h3 : Ot Z M0 C0 M C) (h4 : X bo) (h5 : ∀ b, v.ownBlock = some b → b ≠ bo) {o' : Nat} (a : AC W X w w' bt p pm 2100 pool o' M C Z root C' E') : SB9 W w0 X0 v0 bt p pm pool o' M0 C0 Z root br bf L0 fr0 bo r q x w' C' E' := by
  obtain ⟨M', b, ot⟩ := h1.ac a
  exact ⟨⟨X, M', v, b, h2.out a.fr, h3.trans ot, h4, h5⟩, (a.fr.block bo h.px.lt (fun c => c.2 h4)).trans h.px, h.n1, h.n2, h.n3⟩
/-- The document's. -/
theorem SB9.rn {X : Nat → Prop} {M : Nat → Nat → Nat} {v : Value} {L' : List LV} {fr' : Int} (h : SB9 W w0 X0 v0 bt p pm pool o M0 C0 Z root br bf L0 fr0 bo r q x w C E) (h1 : BJ W X w bt p pm pool o M C Z root E br bf v L0 fr0 false) (h2 : SXk w0 w X0 X br bf v0 v) (h3 : Ot Z M0 C0 M C) (_h4 : X bo) (h5 : ∀ b, v.ownBlock = some b → b ≠ bo) (a : RN w w' br bf v L' fr' false) (sm : DSum L0 fr0 L' fr') : SWk W w0 X0 v0 bt p pm pool o M0 C0 Z root br bf L0 fr0 w' C E L' fr' ∧ PX w' bo r q x := by
  obtain ⟨v', b⟩ := h1.rn a
  obtain ⟨v2, a1, a2, a3⟩ := a
  have hv : v' = v2 := by
    have e1 := b.rq.b
    rw [a1.b] at e1
    cases e1
    rfl
  subst hv
  have px : PX w' bo r q x := (a2.block bo h.px.lt (fun c => c.elim h.n1 (fun c => c.elim h.n2 (fun c => h5 bo c rfl)))).trans h.px
  refine ⟨?_, px⟩
  refine ⟨⟨_, M, v', b, ⟨fun i hi => .inl (h2.wide i hi), fun i hi => ?_, fun i hi n1 n2 n3 => ?_, fun c hc => ?_, Nat.le_trans h2.size a2.size, h2.lim⟩, h3⟩, sm⟩
  · rcases hi with hi | hi
    · exact h2.new i hi
    · rcases a3 i hi with c | c
      · rcases h2.own i c with d | d
        · exact h2.new i (h1.xs i (.inr (.inr c))).2.1
        · exact .inr d
      · exact .inr (Nat.le_trans h2.size c)
  · refine (a2.block i (Nat.lt_of_lt_of_le (h2.lim i hi) h2.size) (fun c => ?_)).trans (h2.keep i hi n1 n2 n3)
    rcases c with c | c | c
    · exact n1 c
    · exact n2 c
    · rcases h2.own i c with d | d
      · exact n3 d
      · have := h2.lim i hi; omega
  · rcases a3 c hc with d | d
    · exact h2.own c d
    · exact .inr (Nat.le_trans h2.size d)
end

section
variable {W w0 : World} {X0 : Nat → Prop} {v0 : Value} {bt p pm pool o : Nat} {M0 : Nat → Nat → Nat} {C0 : Nat → Nat} {Z : Nat → Bool} {root br bf : Nat} {L0 : List LV} {fr0 : Int} {bo : Nat} {r q x : Bool} {w w' : World} {C C' : Nat → Nat} {E E' : Nat → Nat → DV}
theorem sb_map (h : SB9 W w0 X0 v0 bt p pm pool o M0 C0 Z root br bf L0 fr0 bo r q x w C E) (page : Nat) (f s : Int) (ho : o < 1000000000000000000) :
    Calls Tryz.prog 21 #[.pointer (some ⟨bt, 0, none⟩), .int .u64 (page : Int), .int .i64 f, .agg #[.bool r, .bool q, .bool x], .int .i64 s] w fun e w' => ∃ xx, e = .returned (.int .i64 xx) ∧ ∃ C' E', SB9 W w0 X0 v0 bt p pm pool (o + 600) M0 C0 Z root br bf L0 fr0 bo r q x w' C' E' ∧ Sam xx (mapR 2100 pool C E page f r q s) ∧ PMap pool C E 3 page ⟨3, f.toNat * 4096, r, q, x, s⟩ xx C' E' := by
  obtain ⟨X, M, v, h1, h2, h3, h4, h5⟩ := h.ex
  refine (map_any h1.ts h1.ne page f r q x s (by omega)).mono ?_
  rintro e w' ⟨e1, C', E', ac, b1, b2⟩
  exact ⟨_, e1, C', E', h.ac h1 h2 h3 h4 h5 (ac.le (by omega)), rfl, b1, b2⟩
theorem sb_mapb (h : SB9 W w0 X0 v0 bt p pm pool o M0 C0 Z root br bf L0 fr0 bo r q x w C E) (page : Nat) (f s : Int) (ho : o < 1000000000000000000) :
    Calls Tryz.prog 31 #[.pointer (some ⟨bt, 0, none⟩), .int .u64 (page : Int), .int .i64 f, .agg #[.bool r, .bool q, .bool x], .int .i64 s] w fun e w' => ∃ xx, e = .returned (.int .i64 xx) ∧ ∃ C' E', SB9 W w0 X0 v0 bt p pm pool (o + 600) M0 C0 Z root br bf L0 fr0 bo r q x w' C' E' ∧ Sam xx (mapbR 2100 pool C E page f r q s) ∧ PMap pool C E 2 page ⟨2, f.toNat * 4096, r, q, x, s⟩ xx C' E' := by
  obtain ⟨X, M, v, h1, h2, h3, h4, h5⟩ := h.ex
  refine (mapb_any h1.ts h1.ne page f r q x s (by omega)).mono ?_
  rintro e w' ⟨e1, C', E', ac, b1, b2⟩
  exact ⟨_, e1, C', E', h.ac h1 h2 h3 h4 h5 (ac.le (by omega)), rfl, b1, b2⟩
theorem sb_unmap (h : SB9 W w0 X0 v0 bt p pm pool o M0 C0 Z root br bf L0 fr0 bo r q x w C E) (page : Nat) (ho : o < 1000000000000000000) :
    Calls Tryz.prog 23 #[.pointer (some ⟨bt, 0, none⟩), .int .u64 (page : Int)] w fun e w' => ∃ (fx : Nat) (xx : Int), e = .returned (.tuple #[.int .i64 (fx : Int), .int .i64 xx]) ∧ ∃ C' E', SB9 W w0 X0 v0 bt p pm pool (o + 600) M0 C0 Z root br bf L0 fr0 bo r q x w' C' E' ∧ Sam xx (unR pool C E page) ∧ PUnm pool C Z root E page fx xx C' E' := by
  obtain ⟨X, M, v, h1, h2, h3, h4, h5⟩ := h.ex
  refine (punmap_any h1.ts h1.ne page (by omega)).mono ?_
  rintro e w' ⟨fx, e1, C', E', ac, b1, b2⟩
  exact ⟨fx, _, e1, C', E', h.ac h1 h2 h3 h4 h5 ac, rfl, b1, b2⟩
theorem sb_prot (h : SB9 W w0 X0 v0 bt p pm pool o M0 C0 Z root br bf L0 fr0 bo r q x w C E) (page : Nat) (s : Int) (ho : o < 1000000000000000000) :
    Calls Tryz.prog 34 #[.pointer (some ⟨bt, 0, none⟩), .int .u64 (page : Int), .agg #[.bool r, .bool q, .bool x], .int .i64 s] w fun e w' => ∃ xx, e = .returned (.int .i64 xx) ∧ ∃ C' E', SB9 W w0 X0 v0 bt p pm pool (o + 600) M0 C0 Z root br bf L0 fr0 bo r q x w' C' E' ∧ Sam xx (prR pool C E page r q x s) ∧ PPro pool C Z root E page r q x s xx C' E' := by
  obtain ⟨X, M, v, h1, h2, h3, h4, h5⟩ := h.ex
  refine (pprot_any h1.ts h1.ne page r q x s (by omega)).mono ?_
  rintro e w' ⟨e1, C', E', ac, b1, b2⟩
  exact ⟨_, e1, C', E', h.ac h1 h2 h3 h4 h5 ac, rfl, b1, b2⟩
theorem sb_split (h : SB9 W w0 X0 v0 bt p pm pool o M0 C0 Z root br bf L0 fr0 bo r q x w C E) (page : Nat) (ho : o < 1000000000000000000) :
    Calls Tryz.prog 36 #[.pointer (some ⟨bt, 0, none⟩), .int .u64 (page : Int)] w fun e w' => ∃ xx, e = .returned (.int .i64 xx) ∧ ∃ C' E', SB9 W w0 X0 v0 bt p pm pool (o + 600) M0 C0 Z root br bf L0 fr0 bo r q x w' C' E' ∧ Sam xx (spP pool C E page) ∧ PSpl pool C E page xx C' E' := by
  obtain ⟨X, M, v, h1, h2, h3, h4, h5⟩ := h.ex
  refine (psplit_any h1.ts h1.ne page (by omega)).mono ?_
  rintro e w' ⟨e1, C', E', ac, b1, b2⟩
  exact ⟨_, e1, C', E', h.ac h1 h2 h3 h4 h5 ac, rfl, b1, b2⟩
theorem sb_join (h : SB9 W w0 X0 v0 bt p pm pool o M0 C0 Z root br bf L0 fr0 bo r q x w C E) (page : Nat) (ho : o < 1000000000000000000) :
    Calls Tryz.prog 38 #[.pointer (some ⟨bt, 0, none⟩), .int .u64 (page : Int)] w fun e w' => ∃ xx, e = .returned (.int .i64 xx) ∧ ∃ C' E', SB9 W w0 X0 v0 bt p pm pool (o + 600) M0 C0 Z root br bf L0 fr0 bo r q x w' C' E' ∧ PJoi pool C E page xx C' E' := by
  obtain ⟨X, M, v, h1, h2, h3, h4, h5⟩ := h.ex
  refine (pjoin_any h1.ts h1.ne page (by omega)).mono ?_
  rintro e w' ⟨rr, e1, C', E', ac, b1⟩
  exact ⟨rr, e1, C', E', h.ac h1 h2 h3 h4 h5 ac, b1⟩
theorem sb_dmap (h : SB9 W w0 X0 v0 bt p pm pool o M0 C0 Z root br bf L0 fr0 bo r q x w C E) (page : Nat) (hp : page < 18446744073709551616) (f s : Int) (hl : L0.length ≤ 900000) (hf : -1000000000 ≤ fr0 ∧ fr0 ≤ 1000000000) :
    Calls Tryz.prog 30 #[.pointer (some ⟨br, 0, none⟩), .int .u64 (page : Int), .int .i64 f, .agg #[.bool r, .bool q, .bool x], .int .i64 s] w fun e w' => ∃ yy, e = .returned (.int .i64 yy) ∧ ∃ L' fr', SWk W w0 X0 v0 bt p pm pool o M0 C0 Z root br bf L0 fr0 w' C E L' fr' ∧ DMap false L0 fr0 page f r q x s yy L' fr' ∧ PX w' bo r q x := by
  obtain ⟨X, M, v, h1, h2, h3, h4, h5⟩ := h.ex
  refine (dmap_any h1.rq hl page hp f r q x s hf).mono ?_
  rintro e w' ⟨rr, L', fr', e1, rn, d, sm⟩
  obtain ⟨s1, s2⟩ := h.rn h1 h2 h3 h4 h5 rn sm
  exact ⟨rr, e1, L', fr', s1, d, s2⟩
theorem sb_dmapb (h : SB9 W w0 X0 v0 bt p pm pool o M0 C0 Z root br bf L0 fr0 bo r q x w C E) (page : Nat) (f s : Int) (hl : L0.length ≤ 900000) (hf : -1000000000 ≤ fr0 ∧ fr0 ≤ 1000000000) :
    Calls Tryz.prog 32 #[.pointer (some ⟨br, 0, none⟩), .int .u64 (page : Int), .int .i64 f, .agg #[.bool r, .bool q, .bool x], .int .i64 s] w fun e w' => ∃ yy, e = .returned (.int .i64 yy) ∧ ∃ L' fr', SWk W w0 X0 v0 bt p pm pool o M0 C0 Z root br bf L0 fr0 w' C E L' fr' ∧ DMpb false L0 fr0 page f r q x s yy L' fr' ∧ PX w' bo r q x := by
  obtain ⟨X, M, v, h1, h2, h3, h4, h5⟩ := h.ex
  refine (dmapb_any h1.rq hl page f r q x s hf).mono ?_
  rintro e w' ⟨rr, L', fr', e1, rn, d, sm⟩
  obtain ⟨s1, s2⟩ := h.rn h1 h2 h3 h4 h5 rn sm
  exact ⟨rr, e1, L', fr', s1, d, s2⟩
theorem sb_dunmap (h : SB9 W w0 X0 v0 bt p pm pool o M0 C0 Z root br bf L0 fr0 bo r q x w C E) (page : Nat) (hp : page < 18446744073709551616) (hl : L0.length ≤ 900000) (hf : -1000000000 ≤ fr0 ∧ fr0 ≤ 1000000000) :
    Calls Tryz.prog 33 #[.pointer (some ⟨br, 0, none⟩), .int .u64 (page : Int)] w fun e w' => ∃ (fy : Nat) (yy : Int), e = .returned (.tuple #[.int .i64 (fy : Int), .int .i64 yy]) ∧ ∃ L' fr', SWk W w0 X0 v0 bt p pm pool o M0 C0 Z root br bf L0 fr0 w' C E L' fr' ∧ DUnm false L0 fr0 page fy yy L' fr' ∧ PX w' bo r q x := by
  obtain ⟨X, M, v, h1, h2, h3, h4, h5⟩ := h.ex
  refine (dunmap_any h1.rq hl page hp hf).mono ?_
  rintro e w' ⟨fy, rr, e1, L', fr', rn, d, sm⟩
  obtain ⟨s1, s2⟩ := h.rn h1 h2 h3 h4 h5 rn sm
  exact ⟨fy, rr, e1, L', fr', s1, d, s2⟩
theorem sb_dprot (h : SB9 W w0 X0 v0 bt p pm pool o M0 C0 Z root br bf L0 fr0 bo r q x w C E) (page : Nat) (hp : page < 18446744073709551616) (s : Int) (hl : L0.length ≤ 900000) (hf : -1000000000 ≤ fr0 ∧ fr0 ≤ 1000000000) :
    Calls Tryz.prog 35 #[.pointer (some ⟨br, 0, none⟩), .int .u64 (page : Int), .agg #[.bool r, .bool q, .bool x], .int .i64 s] w fun e w' => ∃ yy, e = .returned (.int .i64 yy) ∧ ∃ L' fr', SWk W w0 X0 v0 bt p pm pool o M0 C0 Z root br bf L0 fr0 w' C E L' fr' ∧ DPro false L0 fr0 page r q x s yy L' fr' ∧ PX w' bo r q x := by
  obtain ⟨X, M, v, h1, h2, h3, h4, h5⟩ := h.ex
  refine (dprot_any h1.rq hl page hp r q x s hf).mono ?_
  rintro e w' ⟨rr, L', fr', e1, rn, d, sm⟩
  obtain ⟨s1, s2⟩ := h.rn h1 h2 h3 h4 h5 rn sm
  exact ⟨rr, e1, L', fr', s1, d, s2⟩
theorem sb_dsplit (h : SB9 W w0 X0 v0 bt p pm pool o M0 C0 Z root br bf L0 fr0 bo r q x w C E) (page : Nat) (hp : page < 18446744073709551616) (hl : L0.length ≤ 900000) (hf : -1000000000 ≤ fr0 ∧ fr0 ≤ 1000000000) :
    Calls Tryz.prog 37 #[.pointer (some ⟨br, 0, none⟩), .int .u64 (page : Int)] w fun e w' => ∃ yy, e = .returned (.int .i64 yy) ∧ ∃ L' fr', SWk W w0 X0 v0 bt p pm pool o M0 C0 Z root br bf L0 fr0 w' C E L' fr' ∧ DSpl false L0 fr0 page yy L' fr' ∧ PX w' bo r q x := by
  obtain ⟨X, M, v, h1, h2, h3, h4, h5⟩ := h.ex
  refine (dsplit_any h1.rq hl page hp hf).mono ?_
  rintro e w' ⟨rr, L', fr', e1, rn, d, sm⟩
  obtain ⟨s1, s2⟩ := h.rn h1 h2 h3 h4 h5 rn sm
  exact ⟨rr, e1, L', fr', s1, d, s2⟩
theorem sb_djoin (h : SB9 W w0 X0 v0 bt p pm pool o M0 C0 Z root br bf L0 fr0 bo r q x w C E) (page : Nat) (hp : page < 18446744073709551616) (hl : L0.length ≤ 900000) (hf : -1000000000 ≤ fr0 ∧ fr0 ≤ 1000000000) :
    Calls Tryz.prog 39 #[.pointer (some ⟨br, 0, none⟩), .int .u64 (page : Int)] w fun e w' => ∃ yy, e = .returned (.int .i64 yy) ∧ ∃ L' fr', SWk W w0 X0 v0 bt p pm pool o M0 C0 Z root br bf L0 fr0 w' C E L' fr' ∧ DJoi false L0 fr0 page yy L' fr' ∧ PX w' bo r q x := by
  obtain ⟨X, M, v, h1, h2, h3, h4, h5⟩ := h.ex
  refine (djoin_any h1.rq hl page hp hf).mono ?_
  rintro e w' ⟨rr, L', fr', e1, rn, d, sm⟩
  obtain ⟨s1, s2⟩ := h.rn h1 h2 h3 h4 h5 rn sm
  exact ⟨rr, e1, L', fr', s1, d, s2⟩
end

end Go.Proofs.YtanlcmdnhhdhaaaGreatDoor

/- Masks of ints. -/
namespace Go.Proofs.YtanlcmdnhhdhaaaGreatDoor
open Go.RowKit

theorem i64_mask (k : Nat) (M : Int) (n : Int) (hk : k ≤ 62) (h : (BitVec.ofInt 64 M).toNat = 2 ^ k - 1) : bits .and .i64 n M = n % ((2 ^ k : Nat) : Int) := by
  have key : (BitVec.ofInt 64 n &&& BitVec.ofInt 64 M).toNat = (n % ((2 ^ 64 : Nat) : Int)).toNat % 2 ^ k := by
    rw [BitVec.toNat_and, BitVec.toNat_ofInt, h, Nat.and_two_pow_sub_one_eq_mod]
  show IntKind.i64.wrap ((BitVec.ofInt 64 n &&& BitVec.ofInt 64 M).toNat : Nat) = _
  have hd : (2 ^ k : Nat) ∣ 2 ^ 64 := Nat.pow_dvd_pow 2 (by omega)
  have hp : 2 ^ k ≤ 2 ^ 62 := Nat.pow_le_pow_right (by decide) hk
  have hpos : 0 < 2 ^ k := Nat.two_pow_pos k
  have e1 : ((((n % ((2 ^ 64 : Nat) : Int)).toNat % 2 ^ k : Nat)) : Int) = n % ((2 ^ k : Nat) : Int) := by
    rw [Int.natCast_emod, Int.toNat_of_nonneg (Int.emod_nonneg _ (by decide)), Int.emod_emod_of_dvd _ (Int.natCast_dvd_natCast.2 hd)]
  rw [key, IntKind.wrap_i64, e1]
  have l1 := Int.emod_nonneg n (b := ((2 ^ k : Nat) : Int)) (by omega)
  have l2 := Int.emod_lt_of_pos n (b := ((2 ^ k : Nat) : Int)) (by omega)
  omega
theorem mask20 (n : Int) : bits .and .i64 n 1048575 = n % 1048576 := i64_mask 20 1048575 n (by decide) (by decide)
theorem mask10 (n : Int) : bits .and .i64 n 1023 = n % 1024 := i64_mask 10 1023 n (by decide) (by decide)
theorem mask5 (n : Int) : bits .and .i64 n 31 = n % 32 := i64_mask 5 31 n (by decide) (by decide)
theorem mask2 (n : Int) : bits .and .i64 n 3 = n % 4 := i64_mask 2 3 n (by decide) (by decide)
theorem mask4 (n : Int) : bits .and .i64 n 15 = n % 16 := i64_mask 4 15 n (by decide) (by decide)

end Go.Proofs.YtanlcmdnhhdhaaaGreatDoor

/- demesnelaw13.step: the last part: both are asked. -/
namespace Go.Proofs.YtanlcmdnhhdhaaaGreatDoor
open Go.RowKit
set_option maxRecDepth 10000

section
variable {W w0 : World} {X0 : Nat → Prop} {v0 : Value} {bt p pm pool o : Nat} {M0 : Nat → Nat → Nat} {C0 : Nat → Nat} {Z : Nat → Bool} {root br bf : Nat} {L0 : List LV} {fr0 : Int} {w w' : World} {C : Nat → Nat} {E : Nat → Nat → DV} {L : List LV} {fr : Int}
theorem sw_get (h : SWk W w0 X0 v0 bt p pm pool o M0 C0 Z root br bf L0 fr0 w C E L fr) (page : Nat) (ho : o < 1000000000000000000) :
    Calls Tryz.prog 18 #[.pointer (some ⟨bt, 0, none⟩), .int .u64 (page : Int)] w fun e w' => e = .returned (.tuple #[lvV (getP E page), .bool (isP E page)]) ∧ SWk W w0 X0 v0 bt p pm pool (o + 4) M0 C0 Z root br bf L0 fr0 w' C E L fr := by
  obtain ⟨X, M, v, h1, h2, h3⟩ := h.ex
  refine (pget_any h1.ts page (by omega)).mono ?_
  rintro e w' ⟨e1, t, f⟩
  exact ⟨e1, ⟨X, M, v, h1.look t f, h2.out f, h3⟩, h.sum⟩
theorem sw_need (h : SWk W w0 X0 v0 bt p pm pool o M0 C0 Z root br bf L0 fr0 w C E L fr) (page : Nat) (ho : o < 1000000000000000000) :
    Calls Tryz.prog 42 #[.pointer (some ⟨bt, 0, none⟩), .int .u64 (page : Int)] w fun e w' => e = .returned (.int .i64 (needP E page : Nat)) ∧ SWk W w0 X0 v0 bt p pm pool (o + 4) M0 C0 Z root br bf L0 fr0 w' C E L fr := by
  obtain ⟨X, M, v, h1, h2, h3⟩ := h.ex
  refine (pneed_any h1.ts page (by omega)).mono ?_
  rintro e w' ⟨e1, t, f⟩
  exact ⟨e1, ⟨X, M, v, h1.look t f, h2.out f, h3⟩, h.sum⟩
theorem sw_dget (h : SWk W w0 X0 v0 bt p pm pool o M0 C0 Z root br bf L0 fr0 w C E L fr) (page : Nat) (hp : page < 18446744073709551616) (hl : L.length ≤ 900000) :
    Calls Tryz.prog 41 #[.pointer (some ⟨br, 0, none⟩), .int .u64 (page : Int)] w fun e w' => e = .returned (.tuple #[lvV (getL false L page), .bool (isL false L page)]) ∧ SWk W w0 X0 v0 bt p pm pool o M0 C0 Z root br bf L0 fr0 w' C E L fr ∧ Kp w w' := by
  obtain ⟨X, M, v, h1, h2, h3⟩ := h.ex
  refine (rget_any h1.rq hl page hp).mono ?_
  rintro e w' ⟨e1, k⟩
  exact ⟨e1, h.kp k, k⟩
theorem sw_dneed (h : SWk W w0 X0 v0 bt p pm pool o M0 C0 Z root br bf L0 fr0 w C E L fr) (page : Nat) (hp : page < 18446744073709551616) (hl : L.length ≤ 900000) :
    Calls Tryz.prog 43 #[.pointer (some ⟨br, 0, none⟩), .int .u64 (page : Int)] w fun e w' => e = .returned (.int .i64 (needL false L page)) ∧ SWk W w0 X0 v0 bt p pm pool o M0 C0 Z root br bf L0 fr0 w' C E L fr ∧ Kp w w' := by
  obtain ⟨X, M, v, h1, h2, h3⟩ := h.ex
  refine (rneed_any h1.rq hl page hp).mono ?_
  rintro e w' ⟨e1, k⟩
  exact ⟨e1, h.kp k, k⟩
end
theorem SWk.le {W w0 : World} {X0 : Nat → Prop} {v0 : Value} {bt p pm pool o o' : Nat} {M0 : Nat → Nat → Nat} {C0 : Nat → Nat} {Z : Nat → Bool} {root br bf : Nat} {L0 : List LV} {fr0 : Int} {w : World} {C : Nat → Nat} {E : Nat → Nat → DV} {L : List LV} {fr : Int} (h : SWk W w0 X0 v0 bt p pm pool o M0 C0 Z root br bf L0 fr0 w C E L fr) (ho : o ≤ o') : SWk W w0 X0 v0 bt p pm pool o' M0 C0 Z root br bf L0 fr0 w C E L fr := by
  obtain ⟨⟨X, M, v, h1, h2, h3⟩, h4⟩ := h
  exact ⟨⟨X, M, v, h1.le ho, h2, h3⟩, h4⟩
/-- A permission is laid beside both. -/
theorem BJ.sb {W w0 w : World} {X : Nat → Prop} {v : Value} {bt p pm pool o : Nat} {M : Nat → Nat → Nat} {C : Nat → Nat} {Z : Nat → Bool} {root br bf : Nat} {E : Nat → Nat → DV} {L : List LV} {fr : Int} (h : BJ W X w0 bt p pm pool o M C Z root E br bf v L fr false) (hX : ∀ i, X i → i < w0.heap.size) (k : Kp w0 w) {bo : Nat} {r q x : Bool} (hb : w0.heap.size ≤ bo) (px : PX w bo r q x) : SB9 W w0 X v bt p pm pool o M C Z root br bf L fr bo r q x w C E := by
  have l1 := h.rq.lt
  have l2 := h.rq.ltf
  have l3 := h.ts.tx.lt
  have l4 : ∀ b, v.ownBlock = some b → b < w0.heap.size := fun b e => hX b (h.xs b (.inr (.inr e))).2.1
  refine ⟨⟨fun i => X i ∨ i = bo, M, v, ⟨h.ts.more k bo hb px.lt, h.ne, h.rq.kp k, fun i hi => ⟨(h.xs i hi).1, .inl (h.xs i hi).2.1, (h.xs i hi).2.2⟩⟩, ⟨fun i hi => .inl hi, fun i hi => hi.imp id (fun e => by rw [e]; exact hb), fun i hi _ _ _ => k.block i (hX i hi), fun b hb => .inl hb, k.size, hX⟩, Ot.refl _ _ _, .inr rfl, fun b e c => by have := l4 b e; omega⟩, px, fun c => by omega, fun c => by omega, fun c => by omega⟩
/-- What a step tells of both. -/
def ansB (E : Nat → Nat → DV) (L : List LV) (page : Nat) (xx yy aa bb : Int) : Bool := (xx == yy) && (aa == bb) && (isP E page == isL false L page) && samL (getP E page) (getL false L page) && ((needP E page : Int) == needL false L page)
/-- A step in a box. -/
def OPX (w : World) (b : Nat) (kd fm sf pg : Int) (r q x raw : Bool) : Prop := w.heap[b]? = some (.cells #[.int .i64 kd, .int .i64 fm, .int .i64 sf, .int .u64 pg, .bool r, .bool q, .bool x, .bool raw] 41 (0, 0))
section
variable {w w' : World} {b : Nat} {kd fm sf pg : Int} {r q x raw : Bool}
theorem OPX.lt (h : OPX w b kd fm sf pg r q x raw) : b < w.heap.size := (Array.getElem?_eq_some_iff.1 h).1
theorem OPX.kp (h : OPX w b kd fm sf pg r q x raw) (k : Kp w w') : OPX w' b kd fm sf pg r q x raw := (k.block b h.lt).trans h
theorem OPX.putP (h : OPX w b kd fm sf pg r q x raw) {c : Nat} (hc : b ≠ c) (r' q' x' : Bool) : OPX (Go.Proofs.YtanlcmdnhhdhaaaGreatDoor.putP w c r' q' x') b kd fm sf pg r q x raw := by
  unfold OPX Go.Proofs.YtanlcmdnhhdhaaaGreatDoor.putP
  rw [heap_setCell_other _ _ _ _ hc, heap_setCell_other _ _ _ _ hc, heap_setCell_other _ _ _ _ hc]
  exact h
theorem OPX.cells (h : OPX w b kd fm sf pg r q x raw) : w.cell? ⟨b, 0, none⟩ = some (.int .i64 kd) ∧ w.cell? ⟨b, 1, none⟩ = some (.int .i64 fm) ∧ w.cell? ⟨b, 2, none⟩ = some (.int .i64 sf) ∧ w.cell? ⟨b, 3, none⟩ = some (.int .u64 pg) ∧ w.cell? ⟨b, 4, none⟩ = some (.bool r) ∧ w.cell? ⟨b, 5, none⟩ = some (.bool q) ∧ w.cell? ⟨b, 6, none⟩ = some (.bool x) ∧ w.cell? ⟨b, 7, none⟩ = some (.bool raw) := by
  refine ⟨?_, ?_, ?_, ?_, ?_, ?_, ?_, ?_⟩
  · rw [cell_of_row _ _ 0 _ _ _ h]; rfl
  · rw [cell_of_row _ _ 1 _ _ _ h]; rfl
  · rw [cell_of_row _ _ 2 _ _ _ h]; rfl
  · rw [cell_of_row _ _ 3 _ _ _ h]; rfl
  · rw [cell_of_row _ _ 4 _ _ _ h]; rfl
  · rw [cell_of_row _ _ 5 _ _ _ h]; rfl
  · rw [cell_of_row _ _ 6 _ _ _ h]; rfl
  · rw [cell_of_row _ _ 7 _ _ _ h]; rfl
end
/-- Behind the switch. -/
def SQ (W w0 : World) (X0 : Nat → Prop) (v0 : Value) (bt p pm pool o : Nat) (M0 : Nat → Nat → Nat) (C0 : Nat → Nat) (Z : Nat → Bool) (root br bf : Nat) (E0 : Nat → Nat → DV) (L0 : List LV) (fr0 : Int) (xx yy aa bb : Int) (w : World) : Prop :=
  ∃ C E L fr, SWk W w0 X0 v0 bt p pm pool o M0 C0 Z root br bf L0 fr0 w C E L fr ∧ SR pool Z root C0 E0 L0 fr0 C E L fr xx yy aa bb
theorem SB9.idle {W w0 w : World} {X : Nat → Prop} {v : Value} {bt p pm pool o o' : Nat} {M : Nat → Nat → Nat} {C : Nat → Nat} {Z : Nat → Bool} {root br bf : Nat} {E : Nat → Nat → DV} {L : List LV} {fr : Int} {bo : Nat} {r q x : Bool} (h : SB9 W w0 X v bt p pm pool o M C Z root br bf L fr bo r q x w C E) (ho : o ≤ o') (page : Nat) (hp : page < 18446744073709551616) : SQ W w0 X v bt p pm pool o' M C Z root br bf E L fr 0 0 0 0 w := by
  obtain ⟨Y, M', v', h1, h2, h3, _⟩ := h.ex
  exact ⟨C, E, L, fr, ⟨⟨Y, M', v', h1.le ho, h2, h3⟩, DSum.refl _ _⟩, page, 0, false, false, false, 0, hp, .inr (.inr (.inr (.inr (.inr (.inr ⟨rfl, rfl, rfl, rfl, rfl, rfl, rfl, rfl⟩)))))⟩
/-- Behind the step. -/
def SZ (W w0 : World) (X0 : Nat → Prop) (v0 : Value) (bt p pm pool o : Nat) (M0 : Nat → Nat → Nat) (C0 : Nat → Nat) (Z : Nat → Bool) (root br bf : Nat) (E0 : Nat → Nat → DV) (L0 : List LV) (fr0 : Int) (z : Bool) (w : World) : Prop :=
  ∃ C E L fr xx yy aa bb page, SWk W w0 X0 v0 bt p pm pool o M0 C0 Z root br bf L0 fr0 w C E L fr ∧ SR pool Z root C0 E0 L0 fr0 C E L fr xx yy aa bb ∧ page < 18446744073709551616 ∧ z = ansB E L page xx yy aa bb

end Go.Proofs.YtanlcmdnhhdhaaaGreatDoor
