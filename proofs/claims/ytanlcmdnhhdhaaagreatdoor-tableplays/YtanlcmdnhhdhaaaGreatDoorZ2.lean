/- walk: where an entry lies, what a walk tells; Walk. -/
import Derived.Test.YtanlcmdnhhdhaaaGreatDoorJ03
namespace Go.Proofs.YtanlcmdnhhdhaaaGreatDoor
open Go.RowKit
set_option maxRecDepth 10000

/-- How a walk ends at an entry that is no table. -/
def endN (k e : Int) : Int := if e = 2 then 3 else if e ≠ 0 then 4 else if k = 0 then 1 else 0
theorem endOf_any (k a : Int) (r q x : Bool) (f e : Int) (w : World) :
    Calls Tryz.prog 50 #[.agg #[.int .i64 k, .int .u64 a, .bool r, .bool q, .bool x, .int .i64 f], .int .i64 e] w fun y w' => y = .returned (.int .i64 (endN k e)) ∧ Kp w w' := by
  unfold endN
  by_cases c1 : e = 2
  · subst c1
    rw [if_pos rfl]
    go_enter Tryz.func50, Tryz.ntmps50
    go_wp2
    go_ret
    exact ⟨rfl, (Kp.refl _).alloc _⟩
  have d1 : (e == 2) = false := by rw [beq_eq_false_iff_ne]; exact c1
  rw [if_neg c1]
  by_cases c2 : e = 0
  · subst c2
    rw [if_neg (by decide)]
    by_cases c3 : k = 0
    · subst c3
      rw [if_pos rfl]
      go_enter Tryz.func50, Tryz.ntmps50
      go_wp2
      go_ret
      exact ⟨rfl, (Kp.refl _).alloc _⟩
    · have d3 : (k == 0) = false := by rw [beq_eq_false_iff_ne]; exact c3
      rw [if_neg c3]
      go_enter Tryz.func50, Tryz.ntmps50
      go_wp2
      go_ret
      exact ⟨rfl, (Kp.refl _).alloc _⟩
  · have d2 : (e != 0) = true := by rw [bne_iff_ne]; exact c2
    rw [if_pos c2]
    go_enter Tryz.func50, Tryz.ntmps50
    go_wp2
    go_ret
    exact ⟨rfl, (Kp.refl _).alloc _⟩

/-- Where the entry of a level lies. -/
def atN (t u l : Nat) : Nat := (t + 8 * idx u (l : Int)) % 18446744073709551616
/-- What a word is told to be. -/
def dvN (s : Int) (l u : Nat) : DV := ⟨cond (decG s l u) (kdN l u) 0, cond (decG s l u) (adN u) 0, cond (decG s l u) (btN u 6) false, cond (decG s l u) (btN u 7) false, cond (decG s l u) (btN u 8) false, ((cond (decG s l u) (fieldN u 55 4) 0 : Nat) : Int)⟩
/-- What a walk tells from a level on: its steps, how it ends, how often it reads. -/
def goW (s : Int) (u : Nat) (rd : Nat → Nat × Bool) : Nat → Nat → Nat → List SV × Int × Nat
  | 0, _, _ => ([], 0, 0)
  | n + 1, l, t =>
    if (rd (atN t u l)).2 = true then
      if (dvN s l (rd (atN t u l)).1).k = 1 then
        (⟨l, atN t u l, (rd (atN t u l)).1, dvN s l (rd (atN t u l)).1⟩ :: (goW s u rd n (l + 1) (dvN s l (rd (atN t u l)).1).a).1, (goW s u rd n (l + 1) (dvN s l (rd (atN t u l)).1).a).2.1, (goW s u rd n (l + 1) (dvN s l (rd (atN t u l)).1).a).2.2 + 1)
      else ([⟨l, atN t u l, (rd (atN t u l)).1, dvN s l (rd (atN t u l)).1⟩], endN (dvN s l (rd (atN t u l)).1).k (decE s l (rd (atN t u l)).1), 1)
    else ([], -1, 1)
theorem goW_stop {s : Int} {u : Nat} {rd : Nat → Nat × Bool} {n l t : Nat} (h : (rd (atN t u l)).2 = false) : goW s u rd (n + 1) l t = ([], -1, 1) := by
  rw [goW, if_neg (by rw [h]; decide)]
theorem goW_end {s : Int} {u : Nat} {rd : Nat → Nat × Bool} {n l t : Nat} (h : (rd (atN t u l)).2 = true) (hk : ¬ (dvN s l (rd (atN t u l)).1).k = 1) :
    goW s u rd (n + 1) l t = ([⟨l, atN t u l, (rd (atN t u l)).1, dvN s l (rd (atN t u l)).1⟩], endN (dvN s l (rd (atN t u l)).1).k (decE s l (rd (atN t u l)).1), 1) := by
  rw [goW, if_pos h, if_neg hk]
theorem goW_on {s : Int} {u : Nat} {rd : Nat → Nat × Bool} {n l t : Nat} (h : (rd (atN t u l)).2 = true) (hk : (dvN s l (rd (atN t u l)).1).k = 1) :
    goW s u rd (n + 1) l t = (⟨l, atN t u l, (rd (atN t u l)).1, dvN s l (rd (atN t u l)).1⟩ :: (goW s u rd n (l + 1) (dvN s l (rd (atN t u l)).1).a).1, (goW s u rd n (l + 1) (dvN s l (rd (atN t u l)).1).a).2.1, (goW s u rd n (l + 1) (dvN s l (rd (atN t u l)).1).a).2.2 + 1) := by
  rw [goW, if_pos h, if_pos hk]
/-- No word is a table at the last level. -/
theorem dv_last (s : Int) (u : Nat) : ¬ (dvN s 3 u).k = 1 := by
  unfold dvN kdN
  cases decG s ((3 : Nat) : Int) u
  · show ¬ (0 : Int) = 1; decide
  · show ¬ (if btN u 1 = false then (2 : Int) else if ((3 : Nat) : Int) = 3 then 3 else 1) = 1
    split
    · decide
    · rw [if_pos (by decide)]; decide
theorem at_lt (t u l : Nat) : atN t u l < 18446744073709551616 := Nat.mod_lt _ (by decide)
theorem dv_addr (s : Int) (l u : Nat) : (dvN s l u).a < 18446744073709551616 := by
  have h : adN u < 18446744073709551616 := by unfold adN fieldN; omega
  unfold dvN
  cases decG s (l : Int) u
  · show 0 < _; decide
  · exact h

/-- What was made of a walk by the level l: its steps so far, and what is left. -/
def sofar (s : Int) (root u : Nat) (rd : Nat → Nat × Bool) (L : List SV) (l t : Nat) : Prop :=
  L.length = l ∧ l ≤ 3 ∧ t < 18446744073709551616 ∧ goW s u rd 4 0 root = (L ++ (goW s u rd (4 - l) l t).1, (goW s u rd (4 - l) l t).2.1, l + (goW s u rd (4 - l) l t).2.2)

section
variable {s : Int} {root u : Nat} {rd : Nat → Nat × Bool} {L : List SV} {l t : Nat}
theorem sofar_left (h : sofar s root u rd L l t) : ∃ j, 4 - l = j + 1 := ⟨3 - l, by have := h.2.1; omega⟩
theorem sofar_stop (h : sofar s root u rd L l t) (hok : (rd (atN t u l)).2 = false) : goW s u rd 4 0 root = (L, -1, l + 1) := by
  obtain ⟨j, hj⟩ := sofar_left h
  have h4 := h.2.2.2
  rw [hj, goW_stop (n := j) (l := l) (t := t) hok, List.append_nil] at h4
  exact h4
theorem sofar_end (h : sofar s root u rd L l t) (hok : (rd (atN t u l)).2 = true) (hk : ¬ (dvN s l (rd (atN t u l)).1).k = 1) :
    goW s u rd 4 0 root = (L ++ [⟨l, atN t u l, (rd (atN t u l)).1, dvN s l (rd (atN t u l)).1⟩], endN (dvN s l (rd (atN t u l)).1).k (decE s l (rd (atN t u l)).1), l + 1) := by
  obtain ⟨j, hj⟩ := sofar_left h
  have h4 := h.2.2.2
  rw [hj, goW_end (n := j) (l := l) (t := t) hok hk] at h4
  exact h4
theorem sofar_on (h : sofar s root u rd L l t) (hok : (rd (atN t u l)).2 = true) (hk : (dvN s l (rd (atN t u l)).1).k = 1) :
    sofar s root u rd (L ++ [⟨l, atN t u l, (rd (atN t u l)).1, dvN s l (rd (atN t u l)).1⟩]) (l + 1) (dvN s l (rd (atN t u l)).1).a := by
  obtain ⟨j, hj⟩ := sofar_left h
  have h4 := h.2.2.2
  have h3 : l ≤ 2 := by
    have := h.2.1
    rcases (by omega : l ≤ 2 ∨ l = 3) with c | c
    · exact c
    · subst c; exact absurd hk (dv_last s _)
  rw [hj, goW_on (n := j) (l := l) (t := t) hok hk] at h4
  refine ⟨by rw [List.length_append, h.1]; rfl, by omega, dv_addr _ _ _, ?_⟩
  rw [show 4 - (l + 1) = j by omega, List.append_assoc, List.singleton_append, h4]
  simp only [Prod.mk.injEq, true_and]
  omega
end

/-- The list lies in the block b. -/
def WL (w : World) (b : Nat) (L : List SV) : Prop := OL encS 64 9 w (.slice (some ⟨b, 0, none⟩) L.length 4) L
theorem WL.kp {w w' : World} {b : Nat} {L : List SV} (h : WL w b L) (k : Kp w w') : WL w' b L := OL.fr h (k.fr (fun _ => False)) (fun _ _ => id)
theorem WL.fr {w w' : World} {b : Nat} {L : List SV} (h : WL w b L) {S : Nat → Prop} (k : Fr S w w') (hb : ¬ S b) : WL w' b L := OL.fr h k (fun g e => by cases e; exact hb)
theorem WL.lt {w : World} {b : Nat} {L : List SV} (h : WL w b L) : b < w.heap.size := by
  obtain ⟨na, cap, e, _, h2⟩ := OL.form h
  cases e
  rcases h2 with ⟨h3, _⟩ | ⟨g, h3, h4⟩
  · cases h3
  · cases h3; exact h4

/-- A row of four steps. -/
def rowS : Obj := .cells (madeCells #[.int .i64 0, .int .u64 0, .int .u64 0, .int .i64 0, .int .u64 0, .bool false, .bool false, .bool false, .int .i64 0] 36) 64
theorem make_steps (w : World) : (Instr.makeSlice 50 (.int .i64 0) (.int .i64 4)).run Tryz.prog w = .ok (.slice (some ⟨w.heap.size, 0, none⟩) 0 4) (w.alloc rowS) := by
  obtain ⟨i, hi, hz, hsz, hb⟩ : ∃ i : TypeInfo, Tryz.prog.info? 64 = some i ∧ i.zero = some (.agg #[.int .i64 0, .int .u64 0, .int .u64 0, .int .i64 0, .int .u64 0, .bool false, .bool false, .bool false, .int .i64 0]) ∧ i.size = 9 ∧ i.bytes ≤ 1000 := ⟨_, rfl, rfl, rfl, by decide⟩
  have hr := run_make (P := Tryz.prog) w 50 64 i _ Tryz.underlying50 hi hz .i64 .i64 0 4 (by decide) (by decide) (by omega) (by decide)
  rw [hsz] at hr
  exact hr
theorem WL.made (w : World) : WL (w.alloc rowS) w.heap.size [] := World.ownsRow_made w _ 4 (Nat.zero_le _) (by unfold maxLen; decide) (size_madeCells _ _)

/-- The world at the label: m reads have been made. -/
structure WJ (W : World) (B b m : Nat) (S : Nat → Prop) (I : Nat → World → Prop) (L : List SV) (w : World) : Prop where
  wl : WL w b L
  i : I m w
  fr : Fr S W w
  lo : W.heap.size ≤ b
  bl : B ≤ W.heap.size
section
variable {B : Nat} {g : FuncId} {fst cap : Array Value} {rd : Nat → Nat × Bool} {S : Nat → Prop} {I : Nat → World → Prop} {W v v' : World} {b m : Nat} {L : List SV}
theorem WJ.kp (J : WJ W B b m S I L v) (R : RD B g fst cap rd S I) (k : Kp v v') : WJ W B b m S I L v' :=
  ⟨J.wl.kp k, R.keep _ _ _ J.i (k.below (R.size _ _ J.i)), J.fr.trans (k.fr S), J.lo, J.bl⟩
theorem WJ.asked (J : WJ W B b m S I L v) (R : RD B g fst cap rd S I) (h : I (m + 1) v') (k : Fr S v v') : WJ W B b (m + 1) S I L v' :=
  ⟨J.wl.fr k (fun s => by have := R.lt _ s; have := J.lo; have := J.bl; omega), h, J.fr.trans k, J.lo, J.bl⟩
theorem WJ.snoc (J : WJ W B b m S I L v) (R : RD B g fst cap rd S I) (hL : L.length ≤ 3) (x : SV) (c : Nat) (hc : ∀ j y, (encS x)[j]? = some y → v.cell? ⟨c, j, none⟩ = some y) :
    ∃ v', (Builtin.append_ #[50, 50] 50 #[.slice (some ⟨b, 0, none⟩) L.length 4, .slice (some ⟨c, 0, none⟩) 1 1]).run Tryz.prog v = .ok (.slice (some ⟨b, 0, none⟩) (L.length + 1) 4) v' ∧ WJ W B b m S I (L ++ [x]) v' ∧ Fr (· = b) v v' := by
  obtain ⟨i, hi, hsz⟩ : ∃ i : TypeInfo, Tryz.prog.info? 64 = some i ∧ i.size = 9 := ⟨_, rfl, rfl⟩
  obtain ⟨v', h1, h2, h3⟩ := run_append_fits (P := Tryz.prog) v 0 50 50 64 i 9 Tryz.underlying50 hi hsz b L.length 4 (L.flatMap encS) J.wl ⟨c, 0, none⟩ 1 1 (encS x) rfl (fun j u hu => by rw [add_at, Nat.zero_add]; exact hc j u hu) (encS_ok.one x) (by omega)
  have f : Fr (· = b) v v' := Fr.grown h3 (fun g e => by cases e; rfl)
  have lo := J.lo
  have bl := J.bl
  have sz := J.fr.size
  refine ⟨v', h1, ⟨?_, R.keep _ _ _ J.i (f.below (by omega) (fun k e => by omega)), J.fr.trans2 f (fun i hi e => by omega), lo, bl⟩, f⟩
  unfold WL OL
  rw [List.length_append, List.flatMap_append, List.flatMap_singleton]
  exact h2
end

theorem decode_dv (s : Int) (l u : Nat) (w : World) (hu : u < 18446744073709551616) :
    Calls Tryz.prog 49 #[.int .i64 s, .int .i64 (l : Int), .int .u64 (u : Int)] w fun e w' => e = .returned (.tuple #[.agg #[.int .i64 (dvN s l u).k, .int .u64 ((dvN s l u).a : Int), .bool (dvN s l u).r, .bool (dvN s l u).q, .bool (dvN s l u).x, .int .i64 (dvN s l u).f], .int .i64 (decE s l u)]) ∧ Kp w w' := decode_any s l u w hu

def walkJ (W : World) (B : Nat) (s : Int) (root u : Nat) (g : FuncId) (fst cap : Array Value) (rd : Nat → Nat × Bool) (b n : Nat) (S : Nat → Prop) (I : Nat → World → Prop) : Act → World → Prop := fun a' w' => ∃ (l t : Nat) (L : List SV) (u4 u5 u6 u7 u12 u13 u14 u15 u16 u17 u18 u19 u20 u21 u22 u23 u24 u25 u26 u27 u28 u29 u30 u31 u32 u33 u34 u35 u36 u37 u38 u39 u40 u41 u42 u43 u44 u45 u46 u47 u48 u49 u50 u51 u52 u53 u54 u55 u56 u57 u58 u59 u60 u61 u62 u63 : Value),
  a' = { tmps := #[.int .i64 s, .int .u64 (root : Int), .int .u64 (u : Int), .func (.func g) fst cap, u4, u5, u6, u7, .slice (some ⟨b, 0, none⟩) l 4, .int .i64 0, .int .u64 (t : Int), .int .i64 (l : Int), u12, u13, u14, u15, u16, u17, u18, u19, u20, u21, u22, u23, u24, u25, u26, u27, u28, u29, u30, u31, u32, u33, u34, u35, u36, u37, u38, u39, u40, u41, u42, u43, u44, u45, u46, u47, u48, u49, u50, u51, u52, u53, u54, u55, u56, u57, u58, u59, u60, u61, u62, u63], defers := [] } ∧ sofar s root u rd L l t ∧ WJ W B b (n + l) S I L w'

set_option maxHeartbeats 4000000 in
set_option maxRecDepth 10000 in
theorem walk_any {B : Nat} {g : FuncId} {fst cap : Array Value} {rd : Nat → Nat × Bool} {S : Nat → Prop} {I : Nat → World → Prop} (R : RD B g fst cap rd S I) (s : Int) (hs : 1 ≤ s ∧ s ≤ 2) (root u n : Nat) (hr : root < 18446744073709551616) (hu : u < 18446744073709551616) (hn : n ≤ 50) (w : World) (hI : I n w) :
    Calls Tryz.prog 14 #[.int .i64 s, .int .u64 (root : Int), .int .u64 (u : Int), .func (.func g) fst cap] w fun e w' => e = .returned (.tuple #[.slice (some ⟨w.heap.size, 0, none⟩) (goW s u rd 4 0 root).1.length 4, .int .i64 (goW s u rd 4 0 root).2.1]) ∧ WL w' w.heap.size (goW s u rd 4 0 root).1 ∧ I (n + (goW s u rd 4 0 root).2.2) w' ∧ Fr S w w' := by
  have c1 := top_any s
  have t1 : ((topS s : Int) == 0) = false := by
    rw [beq_eq_false_iff_ne]; unfold topS
    rcases (by omega : s = 1 ∨ s = 2) with rfl | rfl <;> decide
  generalize topS s = tp at *
  have HR : Hid (RD B g fst cap rd S I) := R
  have HI : Hid (I n w) := hI
  clear R hI
  have hmk : ∀ w : World, (Instr.makeSlice 50 (.int .i64 0) (.int .i64 4)).run Tryz.prog w = .ok (.slice (some ⟨w.heap.size, 0, none⟩) 0 4) (w.alloc rowS) := make_steps
  go_enter Tryz.func14, Tryz.ntmps14
  go_wp2_with fail
  refine scope_again 0 (walkJ w B s root u g fst cap rd w.heap.size n S I) (fun a' _ => 4 - (intOf (a'.tmps.getD 11 undef)).toNat) rfl (fun pass => ?_) ?_
  · have PASS : Aside (∀ a v, walkJ w B s root u g fst cap rd w.heap.size n S I a v → _) := pass
    clear pass
    go_wp2_with (go_at_call 46; with_reducible refine (c1 _).mono ?_; rintro e w1 ⟨rfl, rfl⟩)
    go_step3
    rename_i hK
    refine hK _ _ (PASS.out _ _ ⟨0, root, [], _, _, _, _, _, _, _, _, _, _, _, _, _, _, _, _, _, _, _, _, _, _, _, _, _, _, _, _, _, _, _, _, _, _, _, _, _, _, _, _, _, _, _, _, _, _, _, _, _, _, _, _, _, _, _, _, rfl, ⟨rfl, by decide, hr, by simp⟩, WL.made _, ?_, (Fr.refl S _).alloc _, Nat.le_refl _, HR.out.size n _ HI.out⟩)
    exact HR.out.keep n _ _ HI.out (((Kp.refl _).alloc _).below (HR.out.size n _ HI.out))
  · rintro a' v ⟨l, t, L, u4, u5, u6, u7, u12, u13, u14, u15, u16, u17, u18, u19, u20, u21, u22, u23, u24, u25, u26, u27, u28, u29, u30, u31, u32, u33, u34, u35, u36, u37, u38, u39, u40, u41, u42, u43, u44, u45, u46, u47, u48, u49, u50, u51, u52, u53, u54, u55, u56, u57, u58, u59, u60, u61, u62, u63, rfl, hS, J⟩
    have hl : l ≤ 3 := hS.2.1
    have ht := hS.2.2.1
    have c2 := fun w => index_any u (l : Int) w hu
    have ei : idx u (l : Int) < 512 := idx_lt u l
    obtain ⟨p, hp⟩ : ∃ p, p = atN t u l := ⟨_, rfl⟩
    have hp' : p < 18446744073709551616 := by rw [hp]; exact at_lt t u l
    have e1 : IntKind.u64.wrap ((t : Int) + 8 * (idx u (l : Int) : Int)) = (p : Int) := by
      rw [hp]; unfold atN; simp [IntKind.wrap, IntKind.bits, IntKind.signed]
    have HS : Hid (sofar s root u rd L l t) := hS
    have HJ : Hid (WJ w B w.heap.size (n + l) S I L v) := J
    have y0 : (l : Int) ≤ 3 := by omega
    have HP : Hid (p = atN t u l) := hp
    have y1 : (idx u (l : Int) : Int) < 512 := by omega
    clear hS J hp c1 t1 ei
    generalize idx u (l : Int) = ix at *
    go_wp2_with fail
    with_reducible refine (c2 _).mono ?_
    rintro e v1 ⟨rfl, D⟩
    have HJ1 : Hid (WJ w B w.heap.size (n + l) S I L v1) := HJ.out.kp HR.out D.kp
    clear HJ D c2
    have c3 := ask_any HR.out (n + l) p v1 HJ1.out.i (by omega) hp'
    go_wp2_with fail
    with_reducible refine c3.mono ?_
    rintro e v2 ⟨rfl, I2, F2⟩
    have HJ2 : Hid (WJ w B w.heap.size (n + l + 1) S I L v2) := HJ1.out.asked HR.out I2 F2
    clear HJ1 I2 F2 c3
    have hwd := HR.out.word p
    obtain ⟨x, hx⟩ : ∃ x, x = (rd p).1 := ⟨_, rfl⟩
    rw [← hx] at hwd ⊢
    have HX : Hid (x = (rd p).1) := hx
    cases hok : (rd p).2
    · have e2 := sofar_stop HS.out (by rw [← HP.out]; exact hok)
      have e3 := HS.out.1
      have HE : Hid (goW s u rd 4 0 root = (L, -1, l + 1)) := e2
      have HL : Hid (L.length = l) := e3
      clear e2 e3 hx
      go_wp2_with fail
      simp only [Exit.jump]
      go_ret2
      rw [HE.out]
      have e3 := HL.out
      exact ⟨by subst e3; rfl, HJ2.out.wl, HJ2.out.i, HJ2.out.fr⟩
    have c4 := fun w => decode_dv s l x w hwd
    obtain ⟨d, hd⟩ : ∃ d, d = dvN s l x := ⟨_, rfl⟩
    obtain ⟨de, hde⟩ : ∃ de, de = decE s l x := ⟨_, rfl⟩
    simp only [← hd, ← hde] at c4
    have HD : Hid (d = dvN s l x) := hd
    have HE : Hid (de = decE s l x) := hde
    have HO : Hid ((rd p).2 = true) := hok
    obtain ⟨dk, da, dr, dq, dx, df⟩ := d
    clear hx hd hde hok
    go_wp2_with fail
    with_reducible refine (c4 _).mono ?_
    rintro e v3 ⟨rfl, K⟩
    have HJ3 : Hid (WJ w B w.heap.size (n + l + 1) S I L v3) := HJ2.out.kp HR.out K
    clear HJ2 K c4
    obtain ⟨v5, hv5⟩ : ∃ v5, v5 = (v3.alloc (.cells #[.int .i64 dk, .int .u64 (da : Int), .bool dr, .bool dq, .bool dx, .int .i64 df] 62)).alloc (.cells #[.int .i64 (l : Int), .int .u64 (p : Int), .int .u64 (x : Int), .int .i64 dk, .int .u64 (da : Int), .bool dr, .bool dq, .bool dx, .int .i64 df] 64) := ⟨_, rfl⟩
    have B5 : v5.heap[v3.heap.size]? = some (.cells #[.int .i64 dk, .int .u64 (da : Int), .bool dr, .bool dq, .bool dx, .int .i64 df] 62) := by rw [hv5]; exact (BX.made v3 dk da dr dq dx df).kp ((Kp.refl _).alloc _)
    have C5 : v5.heap[v3.heap.size + 1]? = some (.cells #[.int .i64 (l : Int), .int .u64 (p : Int), .int .u64 (x : Int), .int .i64 dk, .int .u64 (da : Int), .bool dr, .bool dq, .bool dx, .int .i64 df] 64) := by
      rw [hv5]
      have := heap_alloc_new (v3.alloc (.cells #[.int .i64 dk, .int .u64 (da : Int), .bool dr, .bool dq, .bool dx, .int .i64 df] 62)) (.cells #[.int .i64 (l : Int), .int .u64 (p : Int), .int .u64 (x : Int), .int .i64 dk, .int .u64 (da : Int), .bool dr, .bool dq, .bool dx, .int .i64 df] 64)
      simpa using this
    have J5 : WJ w B w.heap.size (n + l + 1) S I L v5 := HJ3.out.kp HR.out (by rw [hv5]; exact ((Kp.refl _).alloc _).alloc _)
    obtain ⟨v6, r1, J6, F6⟩ := J5.snoc HR.out (by rw [HS.out.1]; omega) ⟨l, p, x, ⟨dk, da, dr, dq, dx, df⟩⟩ (v3.heap.size + 1) (fun j y hy => by
      rw [cell_of_row _ _ j _ _ _ C5]
      simpa [encS] using hy)
    have z3 : w.heap.size < v3.heap.size := HJ3.out.wl.lt
    have B6 : BX v6 v3.heap.size dk da dr dq dx df := (F6.block _ (by rw [hv5]; simp; omega) (fun e => by omega)).trans B5
    rw [HS.out.1] at r1
    have x0 := B6.c0
    have x1 := B6.c1
    have x2 := B6.c2
    have x3 := B6.c3
    have x4 := B6.c4
    have x5 := B6.c5
    have HJ6 : Hid (WJ w B w.heap.size (n + l + 1) S I (L ++ [⟨l, p, x, ⟨dk, da, dr, dq, dx, df⟩⟩]) v6) := J6
    have HB : Hid (BX v6 v3.heap.size dk da dr dq dx df) := B6
    rw [hv5] at r1
    clear hv5 B5 C5 J5 J6 B6 HJ3 F6 z3
    have c5 := endOf_any dk da dr dq dx df de v6
    by_cases hk : dk = 1
    · subst hk
      clear c5
      repeat' (first | ((with_reducible refine wp_append_of r1 (.tmp 45) (.tmp 51) ?_ ?_ ?_ ?_ ?_); rfl; rfl; rfl; rfl) | go_values | go_skip | go_guarded | go_step | go_upon | go_back | (simp only []) | (go_values <;> (try go_simp)) | (go_ite <;> go_prune <;> (try go_simp)))
      rw [show ((l : Int) + 1) = ((l + 1 : Nat) : Int) from rfl]
      go_step3
      have hp := HP.out
      have hx := HX.out
      have hd := HD.out
      have ho := HO.out
      subst hp
      subst hx
      have hon := sofar_on HS.out ho (by rw [← hd])
      rw [← hd] at hon
      refine ⟨rfl, ⟨l + 1, da, _, _, _, _, _, _, _, _, _, _, _, _, _, _, _, _, _, _, _, _, _, _, _, _, _, _, _, _, _, _, _, _, _, _, _, _, _, _, _, _, _, _, _, _, _, _, _, _, _, _, _, _, _, _, _, _, _, rfl, hon, HJ6.out⟩, ?_⟩
      simp [intOf]
      omega
    · have k1 : (dk == 1) = false := by rw [beq_eq_false_iff_ne]; exact hk
      repeat' (first | ((with_reducible refine wp_append_of r1 (.tmp 45) (.tmp 51) ?_ ?_ ?_ ?_ ?_); rfl; rfl; rfl; rfl) | go_values | go_skip | go_guarded | go_step | go_upon | go_back | (simp only []) | (go_values <;> (try go_simp)) | (go_ite <;> go_prune <;> (try go_simp)))
      with_reducible refine c5.mono ?_
      rintro e v7 ⟨rfl, K7⟩
      have HJ7 : Hid (WJ w B w.heap.size (n + l + 1) S I (L ++ [⟨l, p, x, ⟨dk, da, dr, dq, dx, df⟩⟩]) v7) := HJ6.out.kp HR.out K7
      clear K7 HJ6 HB x0 x1 x2 x3 x4 x5
      go_wp2_with fail
      simp only [Exit.jump]
      go_ret2
      have hp := HP.out
      have hx := HX.out
      have hd := HD.out
      have he := HE.out
      have hl := HS.out.1
      have ho := HO.out
      subst hp
      subst hx
      have hend := sofar_end HS.out ho (by rw [← hd]; exact hk)
      rw [← hd, ← he] at hend
      rw [hend]
      refine ⟨?_, HJ7.out.wl, HJ7.out.i, HJ7.out.fr⟩
      show Ending.returned (Value.tuple #[.slice (some ⟨w.heap.size, 0, none⟩) (l + 1) 4, .int .i64 (endN dk de)]) = _
      rw [List.length_append, hl]
      rfl

end Go.Proofs.YtanlcmdnhhdhaaaGreatDoor
