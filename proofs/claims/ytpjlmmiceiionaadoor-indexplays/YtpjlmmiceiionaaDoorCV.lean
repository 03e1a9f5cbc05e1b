/- index: the document's index: Drop; Add and Drop, whatever they answer. -/
import Derived.Test.YtpjlmmiceiionaaDoorCU
namespace Go.Proofs.YtpjlmmiceiionaaDoor
open Go.RowKit Go.Maps
set_option maxRecDepth 10000

section
variable {w w' : World} {X : Nat → Prop} {r : Nat} {F : Nat → Nat → Nat} {Sg : Nat → Option CN} {vf v : Value} {Bs : List Nat}
set_option maxHeartbeats 8000000 in
theorem rdrop_ok (h : RIx w X r F Sg vf v Bs) (hX : ∀ k, X k → k < w.heap.size) (hS : ∀ i d, Sg i = some d → i < 12) (f : Nat) (hn : (Sg f).isSome = true) :
    Calls Tryd.prog 11 #[.pointer (some ⟨r, 0, none⟩), .int .i64 (f : Int)] w fun e w' => e = .returned (.int .i64 0) ∧ RIo w w' X r F (setS Sg f none) := by
  have ca := rat_any h (f : Int)
  have hl := inL_len Sg
  have HH : Hid (RIx w X r F Sg vf v Bs ∧ (∀ k, X k → k < w.heap.size) ∧ (∀ i d, Sg i = some d → i < 12) ∧ (Sg f).isSome = true) := ⟨h, hX, hS, hn⟩
  obtain ⟨na, cap, ev, hcap, hform, _⟩ := h.ax.form LTin_ok
  subst ev
  have hz : na = none → cap = 0 := fun e => by
    rcases hform with ⟨_, q, _⟩ | ⟨g, q, _⟩
    · exact q
    · rw [e] at q; cases q
  obtain ⟨L, hL⟩ : ∃ L, L = inL Sg := ⟨_, rfl⟩
  rw [← hL] at ca hl hcap HH
  have HL : Hid (L = inL Sg) := hL
  have HZ : Hid ((na = none → cap = 0) ∧ L.length ≤ cap ∧ L.length ≤ 12) := ⟨hz, hcap, hl⟩
  clear h hX hS hn hform hz hcap hl hL
  go_enter Tryd.func11, Tryd.ntmps11
  go_wp2_with fail
  with_reducible refine ca.mono ?_
  rintro e w1 ⟨k, rfl, hk0, lo, hi, nn, rfl⟩
  clear ca
  have hat : isAt L k (f : Int) = true := by
    rw [HL.out] at lo hi ⊢
    rw [isAt_sg HH.out.2.2.1 lo hi, sgI_nat, Option.isSome_map]; exact HH.out.2.2.2
  have hka : ∃ a, L[k]? = some a ∧ a.1 = f := by
    unfold isAt at hat
    cases e : L[k]? with
    | none => rw [e] at hat; cases hat
    | some y =>
      rw [e] at hat
      have : ((y.1 : Int) == (f : Int)) = true := hat
      simp at this
      exact ⟨y, rfl, by omega⟩
  obtain ⟨a, hka, haf⟩ := hka
  have hk := (List.getElem?_eq_some_iff.1 hka).1
  rw [hat]
  have kw : Kp w (w.drewN nn) := (Kp.refl w).drewN nn
  have HP : Hid (L.take k ++ L.drop (k + 1) = inL (setS Sg f none)) := by
    show _ = _
    rw [HL.out] at hka ⊢
    rw [inL_cut hka, haf]
  clear lo hi hat hka haf hk0
  generalize w.drewN nn = w1 at *
  have R1 := HH.out.1.kp kw
  have src : AS LTin w1 na L := by
    have h0 := R1.ax
    rw [← HL.out] at h0
    exact h0.src LTin_ok
  have hcap := HZ.out.2.1
  obtain ⟨na1, p1, p2, p3⟩ := part_hiw LTin_ok na L.length cap k (by omega)
  obtain ⟨na2, s1, s2, s3⟩ := part_low LTin_ok na L.length cap (k + 1) (by omega)
  change ∀ w, (Instr.slice 30 _ _ _ _).run Tryd.prog w = _ at p1
  change ∀ w, (Instr.slice 30 _ _ _ _).run Tryd.prog w = _ at s1
  have a1 := src.hiw LTin_ok k p2 p3
  have a2 := src.loww LTin_ok (k + 1) hcap s2 s3
  have z1 : L.take k = [] → na1 = none → cap = 0 := fun _ e => HZ.out.1 (part_nilw p3 src e)
  have z2 : L.drop (k + 1) = [] → na2 = none → cap - (k + 1) = 0 := fun _ e => by rw [HZ.out.1 (part_nilw2 s3 src e)]; omega
  have y18 : IntKind.i64.wrap ((k : Int) + 1) = ((k + 1 : Nat) : Int) := by rw [IntKind.wrap_i64]; have := HZ.out.2.2; omega
  have l1 : k = (L.take k).length := by rw [List.length_take]; omega
  have l2 : L.length - (k + 1) = (L.drop (k + 1)).length := by rw [List.length_drop]
  generalize hkk : k + 1 = kk at *
  generalize hm : L.length - kk = m at *
  generalize hc2 : cap - kk = c2 at *
  clear src p2 p3 s2 s3 hm hc2 hkk
  have d0 := R1.c1
  obtain ⟨we, hwe⟩ : ∃ we, we = (w1.alloc (.cells #[] 53)).drew := ⟨_, rfl⟩
  have ke : Kp w1 we := by rw [hwe]; exact ((Kp.refl w1).alloc _).drew
  have de := (R1.kp ((Kp.refl w1).alloc (.cells #[] 53))).c1
  have ax0 : AX LTin we w1.heap.size (.slice (some ⟨w1.heap.size, 0, none⟩) 0 0) [] := by rw [hwe]; exact (AX.empty (T := LTin) w1).kp (Kp.refl _).drew
  obtain ⟨na3, n3, cap3, w3, r3, hn3, o3, f3, k3, j3⟩ := ax0.app LTin_ok (by rw [hwe]; simp) (a1.kp ke) l1 z1 (by have := HZ.out.2.2; simp only [List.length_take, List.length_nil]; omega) 30
  have K3 : Kp w1 w3 := k3 w1 (Nat.le_refl _) ke
  rw [List.nil_append] at o3
  obtain ⟨na4, n4, cap4, w4, r4, hn4, o4, f4, k4, j4⟩ := o3.app LTin_ok K3.size (a2.kp K3) l2 z2 (by have := HZ.out.2.2; simp only [List.length_take, List.length_drop]; omega) 30
  have K4 : Kp w1 w4 := k4 w1 (Nat.le_refl _) K3
  have r3' : (Builtin.append_ #[30, 30] 30 #[.slice (some ⟨w1.heap.size, 0, none⟩) 0 0, .slice na1 k cap]).run Tryd.prog (w1.alloc (.cells #[] 53)).drew = .ok (.slice na3 n3 cap3) w3 := by rw [hwe] at r3; exact r3
  have r4' : (Builtin.append_ #[30, 30] 30 #[.slice na3 n3 cap3, .slice na2 m c2]).run Tryd.prog w3 = .ok (.slice na4 n4 cap4) w4 := r4
  have d3 := (R1.kp K3).c1
  have R4 := R1.kp K4
  have d4 := R4.c1
  have z4 := R4.fz 1
  have FI : Hid (RIo w (w4.setCell ⟨r, 1, none⟩ (.slice na4 n4 cap4)) X r F (setS Sg f none)) := by
    rw [HP.out] at o4
    have kz := kw.size
    have rl := R1.lt
    refine ⟨vf, _, Bs, RIx.put (R4.more fun _ hk => .inl hk) (o4.low (Nat.zero_le _)) fun g hg => ?_, ((kw.trans K4).fr _).set ⟨r, 1, none⟩ _ rfl⟩
    have h1 := o4.up g hg
    refine ⟨.inr ⟨by omega, ?_⟩, by omega⟩
    have := (Fr.set (S := (· = r)) (Fr.refl (· = r) w4) ⟨r, 1, none⟩ (.slice na4 n4 cap4) rfl).size
    omega
  clear HH HP HZ HL hcap a1 a2 z1 z2 l1 l2 kw R1 hwe ke ax0 r3 hn3 o3 f3 k3 j3 K3 r4 hn4 o4 f4 k4 j4 K4 R4
  obtain ⟨n, hn⟩ : ∃ n, n = L.length := ⟨_, rfl⟩
  rw [← hn] at d0 de d3 d4 p1 s1
  have HF : Hid (n = L.length) := hn
  clear hn
  go_wp2_with fail
  go_region_law (first | (refine step_appw r3' (by rfl) (.tmp 16) (.tmp 22) (by rfl) (by rfl) (by rfl) (by rfl) ?_) | (refine step_appw r4' (by rfl) (.tmp 23) (.tmp 30) (by rfl) (by rfl) (by rfl) (by rfl) ?_))
  all_goals
    clear r3' r4' p1 s1
    go_wp2
    go_ret
    exact ⟨rfl, FI.out⟩
set_option maxHeartbeats 4000000 in
theorem rdrop_no (h : RIx w X r F Sg vf v Bs) (hS : ∀ i d, Sg i = some d → i < 12) (x : Int) (hn : (sgI Sg x).isSome = false) :
    Calls Tryd.prog 11 #[.pointer (some ⟨r, 0, none⟩), .int .i64 x] w fun e w' => e = .returned (.int .i64 23) ∧ Kp w w' := by
  have ca := rat_any h x
  have HN : Hid ((∀ i d, Sg i = some d → i < 12) ∧ (sgI Sg x).isSome = false) := ⟨hS, hn⟩
  clear h hS hn
  go_enter Tryd.func11, Tryd.ntmps11
  go_wp2_with fail
  with_reducible refine ca.mono ?_
  rintro e w1 ⟨k, rfl, _, lo, hi, nn, rfl⟩
  rw [isAt_sg HN.out.1 lo hi, HN.out.2]
  have HK : Hid (Kp w (w.drewN nn)) := (Kp.refl w).drewN nn
  clear ca lo hi
  go_wp2_with fail
  go_ret
  exact ⟨rfl, HK.out⟩
set_option maxHeartbeats 4000000 in
theorem radd_range (h : RIx w X r F Sg vf v Bs) (x : Int) (hx : hasF 12 x = false) :
    Calls Tryd.prog 9 #[.pointer (some ⟨r, 0, none⟩), .int .i64 x] w fun e w' => e = .returned (.int .i64 2) ∧ w' = w := by
  have cg := rget_no h x hx
  clear h hx
  go_enter Tryd.func9, Tryd.ntmps9
  go_wp2_with fail
  with_reducible refine cg.mono ?_
  rintro e w ⟨rfl, rfl⟩
  clear cg
  go_wp2_with fail
  go_ret
  exact ⟨rfl, rfl⟩
set_option maxHeartbeats 4000000 in
theorem radd_there (h : RIx w X r F Sg vf v Bs) (hS : ∀ i d, Sg i = some d → i < 12) (f : Nat) (hf : f < 12) (hn : (Sg f).isSome = true) :
    Calls Tryd.prog 9 #[.pointer (some ⟨r, 0, none⟩), .int .i64 (f : Int)] w fun e w' => e = .returned (.int .i64 22) ∧ Kp w w' := by
  have cg := rget_ok h f hf
  have ca := rat_any h (f : Int)
  have HN : Hid ((∀ i d, Sg i = some d → i < 12) ∧ (Sg f).isSome = true) := ⟨hS, hn⟩
  clear h hS hn hf
  go_enter Tryd.func9, Tryd.ntmps9
  go_wp2_with fail
  with_reducible refine cg.mono ?_
  rintro e w ⟨⟨px, rfl, hpx, bpx⟩, rfl⟩
  clear cg hpx bpx
  go_wp2_with fail
  with_reducible refine ca.mono ?_
  rintro e w1 ⟨k, rfl, _, lo, hi, nn, rfl⟩
  rw [isAt_sg HN.out.1 lo hi, sgI_nat, Option.isSome_map, HN.out.2]
  have HK : Hid (Kp w (w.drewN nn)) := (Kp.refl w).drewN nn
  clear ca lo hi
  go_wp2_with fail
  go_ret
  exact ⟨rfl, HK.out⟩
/-- Add and Drop answer as the program's do. -/
theorem radd_any (h : RIx w X r F Sg vf v Bs) (hX : ∀ k, X k → k < w.heap.size) (hS : ∀ i d, Sg i = some d → i < 12) (x : Int) :
    Calls Tryd.prog 9 #[.pointer (some ⟨r, 0, none⟩), .int .i64 x] w fun e w' => e = .returned (.int .i64 (addA Sg x)) ∧ RIo w w' X r F (addS Sg F x) := by
  unfold addS addA
  cases c : hasF 12 x
  · rw [if_pos rfl, if_neg (by decide)]
    refine (radd_range h x c).mono ?_
    rintro e w' ⟨rfl, rfl⟩
    exact ⟨rfl, RIo.same h (Kp.refl _)⟩
  · have hx := (hasF_iff 12 x).1 c
    obtain ⟨f, hf⟩ : ∃ f : Nat, x = (f : Int) := ⟨x.toNat, by omega⟩
    subst hf
    rw [if_neg (by decide), Int.toNat_natCast]
    by_cases s : (Sg f).isSome = true
    · rw [if_pos s, if_neg (by decide)]
      refine (radd_there h hS f (by omega) s).mono ?_
      rintro e w' ⟨rfl, k⟩
      exact ⟨rfl, RIo.same h k⟩
    · rw [if_neg s, if_pos rfl]
      refine (radd_ok h hX hS f (by omega) (by cases e : Sg f with | none => rfl | some d => rw [e] at s; exact absurd rfl s)).mono ?_
      rintro e w' ⟨rfl, q⟩
      exact ⟨rfl, q⟩
theorem rdrop_any (h : RIx w X r F Sg vf v Bs) (hX : ∀ k, X k → k < w.heap.size) (hS : ∀ i d, Sg i = some d → i < 12) (x : Int) :
    Calls Tryd.prog 11 #[.pointer (some ⟨r, 0, none⟩), .int .i64 x] w fun e w' => e = .returned (.int .i64 (dropA Sg x)) ∧ RIo w w' X r F (dropS Sg x) := by
  unfold dropS dropA
  by_cases c : (sgI Sg x).isSome = true
  · rw [if_pos c, if_pos c]
    have hx0 : 0 ≤ x := by
      unfold sgI at c
      split at c
      · assumption
      · cases c
    obtain ⟨f, hf⟩ : ∃ f : Nat, x = (f : Int) := ⟨x.toNat, by omega⟩
    subst hf
    rw [sgI_nat, Option.isSome_map] at c
    rw [Int.toNat_natCast]
    refine (rdrop_ok h hX hS f c).mono ?_
    rintro e w' ⟨rfl, q⟩
    exact ⟨rfl, q⟩
  · rw [if_neg c, if_neg c]
    refine (rdrop_no h hS x (by simpa using c)).mono ?_
    rintro e w' ⟨rfl, k⟩
    exact ⟨rfl, RIo.same h k⟩
end

end Go.Proofs.YtpjlmmiceiionaaDoor
