/- disk.Disk: Write, Read. -/
import Derived.Test.YtcgfifihkbiioaaX4
namespace Go.Proofs.Ytcgfifihkbiioaa
open Go.RowKit Go.Maps

def wrR (T : Slots) (A : List Bool) (x : Int) (n : Nat) : Int := if hasT T x = true then (if n = 4096 then (if A.headD false = true then 13 else 0) else 1) else 23
def wrA (T : Slots) (A : List Bool) (x : Int) (n : Nat) : List Bool := if hasT T x = true ∧ n = 4096 then A.tail else A
def wrT (T : Slots) (A : List Bool) (x : Int) (n : Nat) (f : Nat → Nat) : Slots := if hasT T x = true ∧ n = 4096 ∧ A.headD false = false then putT T x.toNat f else T
def rdN (T : Slots) (A : List Bool) (x : Int) : Nat := if hasT T x = true ∧ A.headD false = false then 4096 else 0
def rdR (T : Slots) (A : List Bool) (x : Int) : Int := if hasT T x = true then (if A.headD false = true then 13 else 0) else 23
def rdA (T : Slots) (A : List Bool) (x : Int) : List Bool := if hasT T x = true then A.tail else A
def rdF (T : Slots) (x : Int) : Nat → Nat := (T x.toNat).getD z0

/-- Other bytes in a slot that is taken. -/
theorem DMat.lay {w w2 : World} {S : Nat → Prop} {p bm b : Nat} {g : Int → Option Nat} {N : Nat} {T : Slots} {v : Value} {A : List Bool} (h : DMat w S p bm g N T v A) (x : Nat) (hg : g x = some b) (f : Nat → Nat) (hf : Bytes f) (pg : PG w2 b f) (k : Fr (· = b) w w2) :
    DMat w2 S p bm g N (putT T x f) v A ∧ Fr S w w2 := by
  obtain ⟨q1, q2, q3, f0, q4, q5, q6⟩ := h.page _ b hg
  rw [Int.toNat_natCast] at q4
  refine ⟨⟨fun i hi => Nat.lt_of_lt_of_le (h.own i hi) k.size, h.sp, h.sm, h.ne, (k.block p (h.own p h.sp) (fun e => q2 e.symm)).trans h.row, by rw [tkn_put_on T x f (by rw [q4]; rfl)]; exact h.map.fr k (fun e => q3 e.symm), fun y c hy => ?_, fun y hy => ?_, h.inj, h.n2, h.ah.fr k (fun c _ hc e => hc.2.2.2 x (by rw [e]; exact hg)) (fun _ _ h => h)⟩, k.mono (fun i _ e => by rw [e]; exact q1)⟩
  · by_cases e : y = (x : Int)
    · subst e
      have : c = b := by rw [hg] at hy; cases hy; rfl
      subst this
      exact ⟨q1, q2, q3, f, by rw [Int.toNat_natCast, putT_same], pg, hf⟩
    · obtain ⟨r1, r2, r3, f1, r4, r5, r6⟩ := h.page y c hy
      have hd := h.map.dom y c hy
      exact ⟨r1, r2, r3, f1, by rw [putT_other _ _ _ _ (by omega)]; exact r4, r5.fr k (fun e2 => e (h.inj y x c hy (by rw [e2]; exact hg))), r6⟩
  · by_cases e : y = x
    · subst e; rw [hg] at hy; cases hy
    · rw [putT_other _ _ _ _ e]; exact h.none y hy

set_option maxHeartbeats 2000000 in
theorem dwrite_any {w : World} {S : Nat → Prop} {p N : Nat} {T : Slots} {A : List Bool} (h : DK w S p N T A) (x : Int) (hx : (Lit.int .i64 x).wf = true) (na : Option Addr) (n cap : Nat) (f : Nat → Nat) (hf : Bytes f) (hs : n = 4096 → ∃ c o, na = some ⟨c, o, none⟩ ∧ c < w.heap.size ∧ ¬ S c ∧ Cells w c o n f) :
    Calls Try.prog 14 #[.pointer (some ⟨p, 0, none⟩), .int .i64 x, .slice na n cap] w fun e w' => e = .returned (.int .i64 (wrR T A x n)) ∧ DK w' S p N (wrT T A x n f) (wrA T A x n) ∧ Fr S w w' := by
  obtain ⟨bm, g, v, h⟩ := h
  have k1 := dhas_any h x hx
  by_cases c : hasT T x = true
  · rw [c] at k1
    by_cases d : n = 4096
    · subst d
      obtain ⟨cb, co, rfl, s1, s2, s3⟩ := hs rfl
      have eA : wrA T A x 4096 = A.tail := if_pos ⟨c, rfl⟩
      have k2 := dfails_any h
      cases hh : A.headD false
      · have eR : wrR T A x 4096 = 0 := by unfold wrR; rw [if_pos c, if_pos rfl, hh]; rfl
        have eT : wrT T A x 4096 f = putT T x.toNat f := if_pos ⟨c, rfl, hh⟩
        rw [eA, eR, eT]
        clear eA eR eT
        rw [hh] at k2
        obtain ⟨y1, y2⟩ := (hasT_iff T x).1 c
        have ex : ((x.toNat : Nat) : Int) = x := by omega
        have hg := h.has x
        rw [c] at hg
        obtain ⟨b, hb⟩ := Option.isSome_iff_exists.1 hg
        have Sb : Hid (¬ S cb) := s2
        have CC : Hid (Cells w cb co 4096 f) := s3
        have HB : Hid (g x = some b ∧ ((x.toNat : Nat) : Int) = x ∧ Bytes f) := ⟨hb, ex, hf⟩
        clear h hh y1 y2 ex hg hb s2 s3 hs hf c
        go_enter Try.func14, Try.ntmps14
        go_wp2_with (go_at_call 25; with_reducible refine k1.mono ?_; rintro e w' ⟨rfl, rfl⟩)
        with_reducible refine k2.mono ?_
        rintro e w1 ⟨rfl, ⟨v', M1⟩, F1⟩
        have c1 := M1.c1
        have hl := M1.map.look1 x b hx HB.out.1
        obtain ⟨q1, q2, q3, f0, q4, q5, q6⟩ := M1.page _ b HB.out.1
        have sl := slice_all w1 b
        have cp := copy_page q5 0 4096 co 4096 4096 cap cb f (fun i hi => by rw [F1.cell (a := ⟨cb, co + i, none⟩) s1 Sb.out]; exact CC.out i hi) (by omega) (by omega)
        have el : bytesOf (layF f0 0 4096 f) 4096 = bytesOf f 4096 := bytesOf_like (fun i hi => by unfold layF; rw [if_pos (by omega), Nat.sub_zero])
        rw [el] at cp
        have cpy := fun ty => (cp ty).1
        obtain ⟨_, pg2, kk2⟩ := cp 0
        have pg3 : PG (w1.setRow b (bytesOf f 4096).toArray) b f := pg2.like (fun i hi => by unfold layF; rw [if_pos (by omega), Nat.sub_zero])
        have q := M1.lay x.toNat (by rw [HB.out.2.1]; exact HB.out.1) f HB.out.2.2 pg3 kk2
        have E : Hid (DK (w1.setRow b (bytesOf f 4096).toArray) S p N (putT T x.toNat f) A.tail ∧ Fr S w' (w1.setRow b (bytesOf f 4096).toArray)) := ⟨⟨bm, g, v', q.1⟩, F1.trans q.2⟩
        generalize w1.setRow b (bytesOf f 4096).toArray = w2 at *
        clear M1 F1 q cp el q1 q2 q3 q4 q5 q6 pg2 pg3 kk2 HB Sb CC k1 k2
        go_wp2_with (refine wpList_copy_of cpy _ _ rfl rfl rfl rfl ?_)
        go_ret
        exact ⟨rfl, E.out⟩
      · have eR : wrR T A x 4096 = 13 := by unfold wrR; rw [if_pos c, if_pos rfl, hh]; rfl
        have eT : wrT T A x 4096 f = T := if_neg (fun h => by rw [hh] at h; cases h.2.2)
        rw [eA, eR, eT]
        clear eA eR eT
        rw [hh] at k2
        clear h hs c hh s1 s2 s3
        go_enter Try.func14, Try.ntmps14
        go_wp2_with (go_at_call 25; with_reducible refine k1.mono ?_; rintro e w' ⟨rfl, rfl⟩)
        with_reducible refine k2.mono ?_
        rintro e w1 ⟨rfl, ⟨v', M1⟩, F1⟩
        have E : Hid (DK w1 S p N T A.tail ∧ Fr S w' w1) := ⟨⟨bm, g, v', M1⟩, F1⟩
        clear M1 F1 k1 k2
        go_wp2
        go_ret
        exact ⟨rfl, E.out⟩
    · have eR : wrR T A x n = 1 := by unfold wrR; rw [if_pos c, if_neg d]
      have eT : wrT T A x n f = T := if_neg (fun h => d h.2.1)
      have eA : wrA T A x n = A := if_neg (fun h => d h.2)
      rw [eA, eR, eT]
      clear eA eR eT
      have E : Hid (DK w S p N T A ∧ Fr S w w) := ⟨⟨bm, g, v, h⟩, Fr.refl _ _⟩
      have z : ¬ (n : Int) = 4096 := by omega
      clear h hs c d
      go_enter Try.func14, Try.ntmps14
      go_wp2_with (go_at_call 25; with_reducible refine k1.mono ?_; rintro e w' ⟨rfl, rfl⟩)
      go_ret
      exact ⟨rfl, E.out⟩
  · have eR : wrR T A x n = 23 := if_neg c
    have eT : wrT T A x n f = T := if_neg (fun h => c h.1)
    have eA : wrA T A x n = A := if_neg (fun h => c h.1)
    rw [eA, eR, eT]
    clear eA eR eT
    rw [show hasT T x = false by simpa using c] at k1
    have E : Hid (DK w S p N T A ∧ Fr S w w) := ⟨⟨bm, g, v, h⟩, Fr.refl _ _⟩
    clear h hs c
    go_enter Try.func14, Try.ntmps14
    go_wp2_with (go_at_call 25; with_reducible refine k1.mono ?_; rintro e w' ⟨rfl, rfl⟩)
    go_ret
    exact ⟨rfl, E.out⟩

/-- n bytes that a Read told: of the caller's own. -/
def Told (w w' : World) (na : Option Addr) (n : Nat) (f : Nat → Nat) : Prop := (na = none ↔ n = 0) ∧ (0 < n → ∃ b, na = some ⟨b, 0, none⟩ ∧ w.heap.size ≤ b ∧ BS w' b 0 n f)

set_option maxHeartbeats 2000000 in
theorem dread_ok {w : World} {S : Nat → Prop} {p N : Nat} {T : Slots} {A : List Bool} (h : DK w S p N T A) (x : Int) (hx : (Lit.int .i64 x).wf = true) (c : hasT T x = true) (hh : A.headD false = false) :
    Calls Try.prog 16 #[.pointer (some ⟨p, 0, none⟩), .int .i64 x] w fun e w' => ∃ b cap, e = .returned (.tuple #[.slice (some ⟨b, 0, none⟩) 4096 cap, .int .i64 0]) ∧ w.heap.size ≤ b ∧ BS w' b 0 4096 (rdF T x) ∧ DK w' S p N T A.tail ∧ Fr S w w' := by
  obtain ⟨bm, g, v, h⟩ := h
  have k1 := dhas_any h x hx
  have k2 := dfails_any h
  rw [c] at k1
  rw [hh] at k2
  have hg := h.has x
  rw [c] at hg
  obtain ⟨b, hb⟩ := Option.isSome_iff_exists.1 hg
  have HB : Hid (g x = some b) := hb
  clear h hg hb c hh
  go_enter Try.func16, Try.ntmps16
  go_wp2_with (go_at_call 25; with_reducible refine k1.mono ?_; rintro e w' ⟨rfl, rfl⟩)
  with_reducible refine k2.mono ?_
  rintro e w1 ⟨rfl, ⟨v', M1⟩, F1⟩
  have c1 := M1.c1
  have hl := M1.map.look1 x b hx HB.out
  obtain ⟨q1, q2, q3, f0, q4, q5, q6⟩ := M1.page _ b HB.out
  have sl := slice_all w1 b
  have k3 := clone_at b 0 4096 4096 f0 w1 (q5.bs q6) (by omega)
  have HE : Hid (DMat w1 S p bm g N T v' A.tail ∧ Fr S w' w1 ∧ rdF T x = f0) := ⟨M1, F1, by unfold rdF; rw [q4]; rfl⟩
  clear M1 F1 q1 q2 q3 q4 q5 q6 k1 k2 HB
  go_wp2_with fail
  with_reducible refine k3.mono ?_
  rintro e w2 ⟨gb, cap', rfl, O2, K2⟩
  have E : Hid (w'.heap.size ≤ gb ∧ BS w2 gb 0 4096 (rdF T x) ∧ DK w2 S p N T A.tail ∧ Fr S w' w2) := ⟨Nat.le_trans HE.out.2.1.size O2.facts.1, by rw [HE.out.2.2]; exact O2.bs, DK.kp ⟨bm, g, v', HE.out.1⟩ K2, HE.out.2.1.trans (K2.fr _)⟩
  clear O2 K2 k3 HE
  go_wp2
  go_ret2
  exact ⟨gb, cap', rfl, E.out⟩

set_option maxHeartbeats 2000000 in
theorem dread_no {w : World} {S : Nat → Prop} {p N : Nat} {T : Slots} {A : List Bool} (h : DK w S p N T A) (x : Int) (hx : (Lit.int .i64 x).wf = true) (c : ¬ (hasT T x = true ∧ A.headD false = false)) :
    Calls Try.prog 16 #[.pointer (some ⟨p, 0, none⟩), .int .i64 x] w fun e w' => e = .returned (.tuple #[.slice none 0 0, .int .i64 (rdR T A x)]) ∧ DK w' S p N T (rdA T A x) ∧ Fr S w w' := by
  obtain ⟨bm, g, v, h⟩ := h
  have k1 := dhas_any h x hx
  unfold rdR rdA
  by_cases c' : hasT T x = true
  · have hh : A.headD false = true := by
      cases e : A.headD false
      · exact absurd ⟨c', e⟩ c
      · rfl
    have k2 := dfails_any h
    rw [c'] at k1
    rw [hh] at k2
    rw [if_pos c', if_pos hh, if_pos c']
    clear h c c' hh
    go_enter Try.func16, Try.ntmps16
    go_wp2_with (go_at_call 25; with_reducible refine k1.mono ?_; rintro e w' ⟨rfl, rfl⟩)
    with_reducible refine k2.mono ?_
    rintro e w1 ⟨rfl, ⟨v', M1⟩, F1⟩
    have E : Hid (DK w1 S p N T A.tail ∧ Fr S w' w1) := ⟨⟨bm, g, v', M1⟩, F1⟩
    clear M1 F1 k1 k2
    go_wp2
    go_ret2
    exact ⟨rfl, E.out⟩
  · rw [if_neg c', if_neg c']
    rw [show hasT T x = false by simpa using c'] at k1
    have E : Hid (DK w S p N T A ∧ Fr S w w) := ⟨⟨bm, g, v, h⟩, Fr.refl _ _⟩
    clear h c c'
    go_enter Try.func16, Try.ntmps16
    go_wp2_with (go_at_call 25; with_reducible refine k1.mono ?_; rintro e w' ⟨rfl, rfl⟩)
    go_ret2
    exact ⟨rfl, E.out⟩

theorem dread_any {w : World} {S : Nat → Prop} {p N : Nat} {T : Slots} {A : List Bool} (h : DK w S p N T A) (x : Int) (hx : (Lit.int .i64 x).wf = true) :
    Calls Try.prog 16 #[.pointer (some ⟨p, 0, none⟩), .int .i64 x] w fun e w' => ∃ na cap, e = .returned (.tuple #[.slice na (rdN T A x) cap, .int .i64 (rdR T A x)]) ∧ Told w w' na (rdN T A x) (rdF T x) ∧ DK w' S p N T (rdA T A x) ∧ Fr S w w' := by
  by_cases c : hasT T x = true ∧ A.headD false = false
  · have e1 : rdN T A x = 4096 := if_pos c
    have e2 : rdR T A x = 0 := by unfold rdR; rw [if_pos c.1, c.2]; rfl
    have e3 : rdA T A x = A.tail := if_pos c.1
    rw [e1, e2, e3]
    exact (dread_ok h x hx c.1 c.2).mono fun e w' ⟨b, cap, r1, r2, r3, r4⟩ => ⟨_, cap, r1, ⟨by simp, fun _ => ⟨b, rfl, r2, r3⟩⟩, r4⟩
  · have e1 : rdN T A x = 0 := if_neg c
    rw [e1]
    exact (dread_no h x hx c).mono fun e w' ⟨r1, r2⟩ => ⟨none, 0, r1, ⟨by simp, fun h => by omega⟩, r2⟩

end Go.Proofs.Ytcgfifihkbiioaa
