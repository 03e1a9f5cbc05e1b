/- index: the index; New, Has, Count. -/
import Derived.Test.YtpjlmmiceiionaaDoorJ20
import Derived.Test.YtpjlmmiceiionaaDoorJ22
namespace Go.Proofs.YtpjlmmiceiionaaDoor
open Go.RowKit Go.Maps
set_option maxRecDepth 10000

/-! ### the frames of a digest -/
def mkD (Sg : Nat → Option CN) : Nat → CN → Nat
  | 0, _ => 0
  | n + 1, d => if Sg n = some d then mkD Sg n d ||| 2 ^ n else mkD Sg n d
theorem mkD_bit (Sg : Nat → Option CN) (d : CN) : ∀ N i, (mkD Sg N d).testBit i = (decide (i < N) && decide (Sg i = some d))
  | 0, i => by simp [mkD]
  | n + 1, i => by
    unfold mkD
    have ih := mkD_bit Sg d n i
    split
    · rename_i c
      rw [Nat.testBit_or, ih, Nat.testBit_two_pow]
      by_cases e : n = i
      · subst e; simp [c]
      · rw [decide_eq_false e, Bool.or_false]
        congr 1
        exact decide_eq_decide.2 (by omega)
    · rename_i c
      rw [ih]
      by_cases e : n = i
      · subst e; simp [c]
      · congr 1
        exact decide_eq_decide.2 (by omega)
theorem mkD_lt (Sg : Nat → Option CN) (N : Nat) (d : CN) (hN : N ≤ 64) : mkD Sg N d < 18446744073709551616 := by
  have : mkD Sg N d < 2 ^ 64 := Nat.lt_pow_two_of_testBit _ fun i hi => by rw [mkD_bit, decide_eq_false (by omega)]; rfl
  exact this
theorem mkD_ne (Sg : Nat → Option CN) (N : Nat) (d : CN) : mkD Sg N d ≠ 0 ↔ ∃ i, i < N ∧ Sg i = some d := by
  constructor
  · intro h
    refine Classical.byContradiction fun c => h ?_
    apply Nat.eq_of_testBit_eq
    intro i
    rw [mkD_bit, Nat.zero_testBit]
    by_cases hi : i < N
    · rw [decide_eq_false (fun e => c ⟨i, hi, e⟩)]; simp
    · rw [decide_eq_false hi]; rfl
  · rintro ⟨i, hi, hs⟩ e
    have := mkD_bit Sg d N i
    rw [e, Nat.zero_testBit, decide_eq_true hi, decide_eq_true hs] at this
    cases this
def setS (Sg : Nat → Option CN) (f : Nat) (d : Option CN) : Nat → Option CN := fun i => if i = f then d else Sg i
theorem setS_same (Sg : Nat → Option CN) (f : Nat) (d : Option CN) : setS Sg f d f = d := if_pos rfl
theorem setS_other (Sg : Nat → Option CN) {f i : Nat} (d : Option CN) (h : i ≠ f) : setS Sg f d i = Sg i := if_neg h
theorem mkD_add {Sg : Nat → Option CN} {N f : Nat} (hf : f < N) (h0 : Sg f = none) (d : CN) : mkD (setS Sg f (some d)) N d = mkD Sg N d ||| 2 ^ f := by
  apply Nat.eq_of_testBit_eq
  intro i
  rw [Nat.testBit_or, mkD_bit, mkD_bit, Nat.testBit_two_pow]
  by_cases e : i = f
  · subst e; rw [setS_same]; simp [hf]
  · rw [setS_other _ _ e, decide_eq_false (fun c : f = i => e c.symm), Bool.or_false]
theorem mkD_add_other {Sg : Nat → Option CN} {N f : Nat} (h0 : Sg f = none) {d e : CN} (hd : e ≠ d) : mkD (setS Sg f (some d)) N e = mkD Sg N e := by
  apply Nat.eq_of_testBit_eq
  intro i
  rw [mkD_bit, mkD_bit]
  by_cases c : i = f
  · subst c; rw [setS_same, h0, decide_eq_false (fun q => hd (Option.some.inj q).symm)]; simp
  · rw [setS_other _ _ c]
theorem low_but64 {b : Nat} (h : b < 64) (i : Nat) : Nat.testBit (18446744073709551615 - 2 ^ b) i = (decide (i < 64) && !decide (i = b)) := by
  have e : 18446744073709551615 - 2 ^ b = 2 ^ 64 - (2 ^ b + 1) := by omega
  rw [e, Nat.testBit_two_pow_sub_succ (pw64l h), Nat.testBit_two_pow]
  congr 2
  exact decide_eq_decide.2 eq_comm
theorem mkD_del {Sg : Nat → Option CN} {N f : Nat} (hN : N ≤ 64) (hf : f < N) (d : CN) : mkD (setS Sg f none) N d = mkD Sg N d &&& (18446744073709551615 - 2 ^ f) := by
  apply Nat.eq_of_testBit_eq
  intro i
  rw [Nat.testBit_and, mkD_bit, mkD_bit, low_but64 (by omega)]
  by_cases e : i = f
  · subst e; rw [setS_same]; simp
  · rw [setS_other _ _ e, decide_eq_false e]
    by_cases c : i < N
    · rw [decide_eq_true c, decide_eq_true (by omega : i < 64)]; simp
    · rw [decide_eq_false c]; simp
theorem mkD_del_other {Sg : Nat → Option CN} {N f : Nat} {d e : CN} (h0 : Sg f = some d) (hd : e ≠ d) : mkD (setS Sg f none) N e = mkD Sg N e := by
  apply Nat.eq_of_testBit_eq
  intro i
  rw [mkD_bit, mkD_bit]
  by_cases c : i = f
  · subst c; rw [setS_same, h0, decide_eq_false (fun q => hd (Option.some.inj q).symm)]; simp
  · rw [setS_other _ _ c]

/-! ### the index -/
/-- The digests by frames, as the map has them. -/
def sgI (Sg : Nat → Option CN) (x : Int) : Option Value := if 0 ≤ x then (Sg x.toNat).map cK else none
structure IXd (w : World) (S : Nat → Prop) (p pm bs bf : Nat) (Sg : Nat → Option CN) (N : Nat) (Ks : List Int) (G : CN → Option Value) (Kf : List CN) : Prop where
  own : ∀ k, S k → k < w.heap.size
  sp : S p
  ss : S bs
  sf : S bf
  n1 : p ≠ bs
  n2 : p ≠ bf
  n3 : bs ≠ bf
  row : w.heap[p]? = some (.cells #[.pointer (some ⟨pm, 0, none⟩), .map (some bs), .map (some bf)] 67 (0, 0))
  ms : EMp iK okI w bs (sgI Sg) Ks
  mf : EMp cK okC w bf G Kf
  ok : ∀ f d, Sg f = some d → okC d ∧ f < N
  hit : ∀ d v, G d = some v → okC d ∧ mkD Sg N d ≠ 0 ∧ ∃ g cap, v = .slice (some ⟨g, 0, none⟩) 1 cap ∧ S g ∧ g ≠ p ∧ g ≠ bs ∧ g ≠ bf ∧ SWd w 0 v (mkD Sg N d)
  non : ∀ d, G d = none → mkD Sg N d = 0
  inj : ∀ d d' v v', G d = some v → G d' = some v' → v.ownBlock = v'.ownBlock → d = d'
  nN : N ≤ 64
/-- The index at p over the memory at pm: the frames below N of which each has its digest as Sg tells; its blocks are those of S. -/
def IX (w : World) (S : Nat → Prop) (p pm : Nat) (Sg : Nat → Option CN) (N : Nat) : Prop := ∃ bs bf Ks G Kf, IXd w S p pm bs bf Sg N Ks G Kf
section
variable {w w' : World} {S T : Nat → Prop} {p pm bs bf N : Nat} {Sg : Nat → Option CN} {Ks : List Int} {G : CN → Option Value} {Kf : List CN}
theorem IXd.fr (h : IXd w S p pm bs bf Sg N Ks G Kf) (k : Fr T w w') (hT : ∀ i, S i → ¬ T i) : IXd w' S p pm bs bf Sg N Ks G Kf :=
  ⟨fun i hi => Nat.lt_of_lt_of_le (h.own i hi) k.size, h.sp, h.ss, h.sf, h.n1, h.n2, h.n3, (k.block p (h.own p h.sp) (hT p h.sp)).trans h.row, h.ms.fr k (hT bs h.ss), h.mf.fr k (hT bf h.sf), h.ok,
   fun d v hd => by
     obtain ⟨h0, h1, g, cap, rfl, h2, h3, h4, h5, h6⟩ := h.hit d v hd
     exact ⟨h0, h1, g, cap, rfl, h2, h3, h4, h5, h6.fr k (fun q hq => by cases hq; exact hT g h2)⟩, h.non, h.inj, h.nN⟩
theorem IX.fr (h : IX w S p pm Sg N) (k : Fr T w w') (hT : ∀ i, S i → ¬ T i) : IX w' S p pm Sg N := by
  obtain ⟨bs, bf, Ks, G, Kf, h⟩ := h
  exact ⟨bs, bf, Ks, G, Kf, h.fr k hT⟩
theorem IX.kp (h : IX w S p pm Sg N) (k : Kp w w') : IX w' S p pm Sg N := h.fr (k.fr (fun _ => False)) (fun _ _ => id)
theorem IX.own (h : IX w S p pm Sg N) : ∀ k, S k → k < w.heap.size := by
  obtain ⟨bs, bf, Ks, G, Kf, h⟩ := h
  exact h.own
theorem IXd.c0 (h : IXd w S p pm bs bf Sg N Ks G Kf) : w.cell? ⟨p, 0, none⟩ = some (.pointer (some ⟨pm, 0, none⟩)) := by rw [cell_of_row w p 0 _ _ _ h.row]; rfl
theorem IXd.c1 (h : IXd w S p pm bs bf Sg N Ks G Kf) : w.cell? ⟨p, 1, none⟩ = some (.map (some bs)) := by rw [cell_of_row w p 1 _ _ _ h.row]; rfl
theorem IXd.c2 (h : IXd w S p pm bs bf Sg N Ks G Kf) : w.cell? ⟨p, 2, none⟩ = some (.map (some bf)) := by rw [cell_of_row w p 2 _ _ _ h.row]; rfl
theorem zero_c0 (w : World) : (zeroValue 51).run Tryd.prog w = .ok (.complex .f64 0 0) w := by kernel_rfl
theorem cK_00 : cK (0, 0) = .complex .f64 0 0 := by unfold cK; rw [show flC (0 : Int) = 0 from by decide]
theorem zero_c (w : World) : (zeroValue 51).run Tryd.prog w = .ok (cK (0, 0)) w := by rw [cK_00]; exact zero_c0 w
theorem zero_s (w : World) : (zeroValue 71).run Tryd.prog w = .ok (.slice none 0 0) w := by kernel_rfl
theorem sgI_nat (Sg : Nat → Option CN) (f : Nat) : sgI Sg (f : Int) = (Sg f).map cK := by unfold sgI; rw [if_pos (by omega)]; rfl

set_option maxHeartbeats 1000000 in
theorem ihas_any (h : IX w S p pm Sg N) (x : Int) (hx : okI x) :
    Calls Tryd.prog 21 #[.pointer (some ⟨p, 0, none⟩), .int .i64 x] w fun e w' => e = .returned (.bool (sgI Sg x).isSome) ∧ w' = w := by
  obtain ⟨bs, bf, Ks, G, Kf, h⟩ := h
  have c1 := h.c1
  have hl := EMp.look kv_i Tryd.underlying64 zero_c h.ms x hx true
  rw [if_pos rfl] at hl
  unfold iK at hl
  clear h
  generalize (sgI Sg x).isSome = z at *
  generalize (sgI Sg x).getD (cK (0, 0)) = y at *
  go_enter Tryd.func21, Tryd.ntmps21
  go_wp2
  go_ret
  exact ⟨rfl, rfl⟩
set_option maxHeartbeats 1000000 in
theorem icount_any (h : IX w S p pm Sg N) :
    Calls Tryd.prog 17 #[.pointer (some ⟨p, 0, none⟩)] w fun e w' => (∃ Ks : List Int, e = .returned (.int .i64 (Ks.length : Int)) ∧ Ks.Nodup ∧ ∀ x, x ∈ Ks ↔ (sgI Sg x).isSome = true) ∧ w' = w := by
  obtain ⟨bs, bf, Ks, G, Kf, h⟩ := h
  have c1 := h.c1
  obtain ⟨es, clock, hb, hE⟩ := h.ms
  have hs := hE.sz
  have hln : (Builtin.len_ #[64] 3 #[.map (some bs)]).run Tryd.prog w = .ok (.int .i64 (Ks.length : Int)) w := by
    simp [Builtin.len_, run_underlying Tryd.underlying64, MapKept.run_getObj_map hb, Result.andThen, hs, goInt]
  have HK : Hid (Ks.Nodup ∧ ∀ x, x ∈ Ks ↔ (sgI Sg x).isSome = true) := ⟨hE.nd, hE.mem⟩
  clear h hE
  go_enter Tryd.func17, Tryd.ntmps17
  go_wp2
  go_ret
  exact ⟨⟨Ks, rfl, HK.out⟩, rfl⟩
set_option maxHeartbeats 1000000 in
theorem inew_nil (w : World) : Calls Tryd.prog 25 #[.pointer none] w fun e w' => e = .returned (.tuple #[.pointer none, .int .i64 1]) ∧ w' = w := by
  go_enter Tryd.func25, Tryd.ntmps25
  go_wp2
  go_ret2
  exact ⟨rfl, rfl⟩
theorem wf_pos {x : Int} (h : okI x) : -9223372036854775808 ≤ x ∧ x ≤ 9223372036854775807 := wf_int h
set_option maxHeartbeats 1000000 in
theorem inew_ok (pm N : Nat) (hN : N ≤ 64) (w : World) : Calls Tryd.prog 25 #[.pointer (some ⟨pm, 0, none⟩)] w fun e w' => ∃ p, e = .returned (.tuple #[.pointer (some ⟨p, 0, none⟩), .int .i64 0]) ∧ IX w' (fun k => w.heap.size ≤ k ∧ k < w'.heap.size) p pm (fun _ => none) N ∧ Kp w w' := by
  have r1 : ∀ w, (Instr.makeMap 64 none).run Tryd.prog w = .ok (.map (some w.heap.size)) (w.alloc (.map #[] 0)) := fun w => run_makeMap 64 w
  have r2 : ∀ w, (Instr.makeMap 65 none).run Tryd.prog w = .ok (.map (some w.heap.size)) (w.alloc (.map #[] 0)) := fun w => run_makeMap 65 w
  obtain ⟨w1, hw1⟩ : ∃ w1, w1 = w.alloc (.map #[] 0) := ⟨_, rfl⟩
  obtain ⟨w2, hw2⟩ : ∃ w2, w2 = w1.alloc (.map #[] 0) := ⟨_, rfl⟩
  obtain ⟨w3, hw3⟩ : ∃ w3, w3 = w2.alloc (.cells #[.pointer (some ⟨pm, 0, none⟩), .map (some w.heap.size), .map (some w1.heap.size)] 67) := ⟨_, rfl⟩
  have e1 : w1.heap.size = w.heap.size + 1 := by rw [hw1]; simp
  have e2 : w2.heap.size = w.heap.size + 2 := by rw [hw2, World.size_alloc, e1]
  have e3 : w3.heap.size = w.heap.size + 3 := by rw [hw3, World.size_alloc, e2]
  have k1 : Kp w w1 := by rw [hw1]; exact (Kp.refl w).alloc _
  have k2 : Kp w1 w2 := by rw [hw2]; exact (Kp.refl w1).alloc _
  have k3 : Kp w2 w3 := by rw [hw3]; exact (Kp.refl w2).alloc _
  have m1 : EMp iK okI w1 w.heap.size (fun _ => none) [] := by rw [hw1]; exact EMp.made iK okI w
  have m2 : EMp cK okC w2 w1.heap.size (fun _ => none) [] := by rw [hw2]; exact EMp.made cK okC w1
  have m0 : ∀ n d, mkD (fun _ => none) n d = 0 := fun n d => by
    induction n with
    | zero => rfl
    | succ n ih => unfold mkD; rw [if_neg (by simp)]; exact ih
  have H : Hid (∃ p, (.returned (.tuple #[.pointer (some ⟨w2.heap.size, 0, none⟩), .int .i64 0]) : Ending) = .returned (.tuple #[.pointer (some ⟨p, 0, none⟩), .int .i64 0]) ∧ IX w3 (fun k => w.heap.size ≤ k ∧ k < w3.heap.size) p pm (fun _ => none) N ∧ Kp w w3) := by
    refine ⟨_, rfl, ⟨w.heap.size, w1.heap.size, [], fun _ => none, [], ?_⟩, (k1.trans k2).trans k3⟩
    exact ⟨fun k hk => hk.2, ⟨by omega, by omega⟩, ⟨by omega, by omega⟩, ⟨by omega, by omega⟩, by omega, by omega, by omega, by rw [hw3]; exact heap_alloc_new w2 _,
      by have : sgI (fun _ => none) = fun _ => none := (by funext x; unfold sgI; split <;> rfl)
         rw [this]; exact m1.kp (k2.trans k3), m2.kp k3, (fun _ _ h => by cases h), (fun _ _ h => by cases h), fun d _ => m0 N d, (fun _ _ _ _ h => by cases h), hN⟩
  rw [hw3, e1, e2] at H
  rw [hw2, hw1] at H
  clear hw1 hw2 hw3 e1 e2 e3 k1 k2 k3 m1 m2
  go_enter Tryd.func25, Tryd.ntmps25
  go_wp2_with fail
  go_ret2
  exact H.out
end

end Go.Proofs.YtpjlmmiceiionaaDoor
