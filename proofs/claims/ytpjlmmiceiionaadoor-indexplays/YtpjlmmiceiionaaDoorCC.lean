/- index: Find. -/
import Derived.Test.YtpjlmmiceiionaaDoorCB
import Derived.Test.YtpjlmmiceiionaaDoorC8
import Derived.RangeFuncBox
import Derived.RangeFuncLeaves
import Derived.WalkKit
namespace Go.Proofs.YtpjlmmiceiionaaDoor
open Go.RowKit Go.Maps
set_option maxRecDepth 100000
attribute [local go_sem] Oper.semAt_some

section
variable {w : World} {S Sm : Nat → Prop} {p pm N ops : Nat} {Sg : Nat → Option CN} {F : Nat → Nat → Nat}
set_option maxHeartbeats 1000000 in
theorem iholds_any (h : IX w S p pm Sg N) (hm : PM w Sm pm N ops F) (x : Nat) (hx : x < N) {b cap : Nat} {f : Nat → Nat} (H : BS w b 0 4096 f) :
    Calls Tryd.prog 39 #[.pointer (some ⟨p, 0, none⟩), .int .i64 (x : Int), .slice (some ⟨b, 0, none⟩) 4096 cap] w fun e w' => e = .returned (.bool (alike (F x) f 4096)) ∧ Kp w w' := by
  obtain ⟨bs, bf, Ks, G, Kf, h⟩ := h
  have c0 := h.c0
  have cg := pget_ok hm x hx
  have hB : Hid (BS w b 0 4096 f ∧ Bytes (F x)) := ⟨H, by obtain ⟨_, _, hm⟩ := hm; exact hm.byte x⟩
  clear h hm H
  go_enter Tryd.func39, Tryd.ntmps39
  go_wp2_with fail
  with_reducible refine cg.mono ?_
  rintro e w1 ⟨rfl, rb, k1⟩
  have ce := beq_any w.heap.size 4096 b cap 4096 (F x) f w1 (rb.bs hB.out.2) (hB.out.1.kp k1)
  have K1 : Hid (Kp w w1) := k1
  clear rb k1 cg
  go_wp2_with fail
  with_reducible refine ce.mono ?_
  rintro e w2 ⟨rfl, rfl⟩
  clear ce
  go_wp2_with fail
  go_ret
  exact ⟨rfl, K1.out⟩

/-- The least frame but notv that was put in with the page's digest and has its bytes. -/
def fndR (Sg : Nat → Option CN) (N : Nat) (F : Nat → Nat → Nat) (f : Nat → Nat) (notv : Int) : Option Nat := (blF (mkD Sg N (dgt f))).find? fun i => decide ((i : Int) ≠ notv) && alike (F i) f 4096

set_option maxHeartbeats 4000000 in
theorem ifind_no (w : World) (p : Nat) (na : Option Addr) (m cap : Nat) (hm : m < 4096) (notv : Int) :
    Calls Tryd.prog 14 #[.pointer (some ⟨p, 0, none⟩), .slice na m cap, .int .i64 notv] w fun e w' => e = .returned (.tuple #[.int .i64 0, .bool false]) ∧ Kp w w' := by
  have cd := fun w => dgof_no na m cap w hm
  have hz : cK (0, 0) = .complex .f64 0 0 := cK_00
  rw [hz] at cd
  obtain ⟨W, hW⟩ : ∃ W, W = ((((w.alloc (.cells #[.pointer (some ⟨p, 0, none⟩)] 24)).alloc (.cells #[.slice na m cap] 40)).alloc (.cells #[.int .i64 notv] 3)).alloc (.cells #[.int .i64 0] 3)).alloc (.cells #[.bool false] 4) := ⟨_, rfl⟩
  have k0 : Kp w W := by rw [hW]; exact (((((Kp.refl w).alloc _).alloc _).alloc _).alloc _).alloc _
  have E : Hid (Kp w W) := k0
  rw [hW] at E
  clear hz k0 hW
  go_enter Tryd.func14, Tryd.ntmps14
  go_wp2_with fail
  with_reducible refine (cd _).mono ?_
  rintro e w1 ⟨rfl, rfl⟩
  clear cd
  go_wp2_with fail
  refine bodyPost_ret (v := .tuple #[.int .i64 0, .bool false]) (by simp [results, Tryd.f14, go_sem]) rfl ?_
  exact ⟨rfl, E.out⟩

/-- The boxes of Find. -/
structure FBx (w : World) (B p b cap : Nat) (notv : Int) (x : Int) (y : Bool) : Prop where
  b0 : Boxed w B 24 (.pointer (some ⟨p, 0, none⟩))
  b1 : Boxed w (B + 1) 40 (.slice (some ⟨b, 0, none⟩) 4096 cap)
  b2 : Boxed w (B + 1 + 1) 3 (.int .i64 notv)
  b3 : Boxed w (B + 1 + 1 + 1) 3 (.int .i64 x)
  b4 : Boxed w (B + 1 + 1 + 1 + 1) 4 (.bool y)
theorem FBx.kq {A B' : World} {B q b cap Z : Nat} {notv x : Int} {y : Bool} (h : FBx A B q b cap notv x y) (k : Kq Z A B') : FBx B' B q b cap notv x y :=
  ⟨k.keep _ _ h.b0 (.inr rfl), k.keep _ _ h.b1 (.inr rfl), k.keep _ _ h.b2 (.inr rfl), k.keep _ _ h.b3 (.inr rfl), k.keep _ _ h.b4 (.inr rfl)⟩

set_option maxHeartbeats 8000000 in
theorem ifind_any (h : IX w S p pm Sg N) (hm : PM w Sm pm N ops F) (T : TAB w) {b cap : Nat} {f : Nat → Nat} (H : BS w b 0 4096 f) (hcap : 4096 ≤ cap) (notv : Int) :
    Calls Tryd.prog 14 #[.pointer (some ⟨p, 0, none⟩), .slice (some ⟨b, 0, none⟩) 4096 cap, .int .i64 notv] w fun e w' => e = .returned (.tuple #[.int .i64 (((fndR Sg N F f notv).getD 0 : Nat) : Int), .bool (fndR Sg N F f notv).isSome]) ∧ Kp w w' := by
  obtain ⟨W, hW⟩ : ∃ W, W = ((((w.alloc (.cells #[.pointer (some ⟨p, 0, none⟩)] 24)).alloc (.cells #[.slice (some ⟨b, 0, none⟩) 4096 cap] 40)).alloc (.cells #[.int .i64 notv] 3)).alloc (.cells #[.int .i64 0] 3)).alloc (.cells #[.bool false] 4) := ⟨_, rfl⟩
  have kW : Kp w W := by rw [hW]; exact (((((Kp.refl w).alloc _).alloc _).alloc _).alloc _).alloc _
  have bx : FBx W w.heap.size p b cap notv 0 false := by
    rw [hW]
    have s1 : (w.alloc (.cells #[.pointer (some ⟨p, 0, none⟩)] 24)).heap.size = w.heap.size + 1 := by simp
    have s2 : ((w.alloc (.cells #[.pointer (some ⟨p, 0, none⟩)] 24)).alloc (.cells #[.slice (some ⟨b, 0, none⟩) 4096 cap] 40)).heap.size = w.heap.size + 1 + 1 := by simp
    have s3 : (((w.alloc (.cells #[.pointer (some ⟨p, 0, none⟩)] 24)).alloc (.cells #[.slice (some ⟨b, 0, none⟩) 4096 cap] 40)).alloc (.cells #[.int .i64 notv] 3)).heap.size = w.heap.size + 1 + 1 + 1 := by simp
    have s4 : ((((w.alloc (.cells #[.pointer (some ⟨p, 0, none⟩)] 24)).alloc (.cells #[.slice (some ⟨b, 0, none⟩) 4096 cap] 40)).alloc (.cells #[.int .i64 notv] 3)).alloc (.cells #[.int .i64 0] 3)).heap.size = w.heap.size + 1 + 1 + 1 + 1 := by simp
    refine ⟨((((Boxed.new w _ _).alloc _).alloc _).alloc _).alloc _, ?_, ?_, ?_, ?_⟩
    · rw [← s1]; exact (((Boxed.new _ _ _).alloc _).alloc _).alloc _
    · rw [← s2]; exact ((Boxed.new _ _ _).alloc _).alloc _
    · rw [← s3]; exact (Boxed.new _ _ _).alloc _
    · rw [← s4]; exact Boxed.new _ _ _
  have cd := dgof_any b 0 cap f W (H.kp kW) hcap
  obtain ⟨bs, bf, Ks, G, Kf, hd⟩ := h
  have hl := EMp.look kv_c Tryd.underlying65 zero_s (hd.mf.kp kW) (dgt f) (dgt_ok H.byte) false
  rw [if_neg (by decide)] at hl
  have c2 : W.cell? ⟨p, 2, none⟩ = some (.map (some bf)) := (kW.cell (p := ⟨p, 2, none⟩) (hd.own p hd.sp)).trans hd.c2
  obtain ⟨v, hv⟩ : ∃ v, v = (G (dgt f)).getD (.slice none 0 0) := ⟨_, rfl⟩
  have hSW : SWd w 0 v (mkD Sg N (dgt f)) := by
    rw [hv]
    cases e : G (dgt f) with
    | none => rw [hd.non _ e]; exact AX.nil w 0
    | some u => obtain ⟨_, _, _, _, rfl, _, _, _, _, q⟩ := hd.hit _ _ e; exact q
  have hit := each_ok T hSW (mkD_lt Sg N _ hd.nN)
  have hbl : ∀ i ∈ blF (mkD Sg N (dgt f)), i < N := fun i hi => by
    have := ((blF_mem _ _).1 hi).2
    rw [mkD_bit] at this
    simp at this
    exact this.1
  rw [← hv] at hl
  have HH : Hid (IX w S p pm Sg N ∧ PM w Sm pm N ops F ∧ BS w b 0 4096 f ∧ FBx W w.heap.size p b cap notv 0 false ∧ Kp w W ∧ EachOk w v (blF (mkD Sg N (dgt f))) ∧ ∀ i ∈ blF (mkD Sg N (dgt f)), i < N) := ⟨⟨bs, bf, Ks, G, Kf, hd⟩, hm, H, bx, kW, hit, hbl⟩
  obtain ⟨R, hR⟩ : ∃ R, R = fndR Sg N F f notv := ⟨_, rfl⟩
  have HR : Hid (R = fndR Sg N F f notv) := hR
  rw [← hR]
  clear hR hv hSW hit hbl hd hm H bx kW T
  obtain ⟨d, hd⟩ : ∃ d, d = dgt f := ⟨_, rfl⟩
  have HD : Hid (dgt f = d) := hd.symm
  rw [← hd] at cd hl HH
  clear hd
  rw [hW] at cd
  refine (callsIn_wide (n := 3)).1 ?_
  refine callsIn_of_wp_marks Tryd.func14 rfl trivial ?_ rfl
  simp only [Tryd.ntmps14, List.size_toArray, List.length_cons, List.length_nil, Nat.reduceAdd, Nat.reduceSub, Array.replicate_succ, Array.replicate_zero, List.push_toArray, List.append_toArray, List.nil_append, List.cons_append]
  have HW : Hid (W = ((((w.alloc (.cells #[.pointer (some ⟨p, 0, none⟩)] 24)).alloc (.cells #[.slice (some ⟨b, 0, none⟩) 4096 cap] 40)).alloc (.cells #[.int .i64 notv] 3)).alloc (.cells #[.int .i64 0] 3)).alloc (.cells #[.bool false] 4)) := hW
  clear hW
  gi_wp2
  refine ⟨trivial, (callsIn_wide.2 cd).mono ?_⟩
  rintro e w' ⟨rfl, rfl⟩
  clear cd
  rw [← HW.out]
  clear HW
  have g0 := HH.out.2.2.2.1.b0.cell
  gi_wp2
  obtain ⟨P, hP⟩ : ∃ P : Nat → Bool, P = fun i : Nat => decide ((i : Int) ≠ notv) && alike (F i) f 4096 := ⟨_, rfl⟩
  have HP : Hid (P = fun i : Nat => decide ((i : Int) ≠ notv) && alike (F i) f 4096) := hP
  clear hP hl c2 g0
  refine wp_each (w0 := w) (w := W) (n := 1) (v := v) (xs := blF (mkD Sg N d)) HH.out.2.2.2.2.1 rfl HH.out.2.2.2.2.2.1 rfl (fun pre A => (∀ y ∈ pre, P y = false) ∧ FBx A w.heap.size p b cap notv 0 false)
    (fun A => Kp w A ∧ ∃ x : Nat, R = some x ∧ A.cell? ⟨w.heap.size + 1 + 1 + 1, 0, none⟩ = some (.int .i64 (x : Int)) ∧ A.cell? ⟨w.heap.size + 1 + 1 + 1 + 1, 0, none⟩ = some (.bool true))
    (fun s A B h q => ⟨h.1, h.2.kq q⟩) (fun A B h q => ⟨q.kp h.1 HH.out.2.2.2.2.1.size, h.2.imp fun x hx => ⟨hx.1, q.cell hx.2.1, q.cell hx.2.2⟩⟩) ⟨(fun _ h => by cases h), HH.out.2.2.2.1⟩
    (fun x => { tmps := #[.pointer (some ⟨p, 0, none⟩), .slice (some ⟨b, 0, none⟩) 4096 cap, .int .i64 notv, .pointer (some ⟨w.heap.size, 0, none⟩), .pointer (some ⟨w.heap.size + 1, 0, none⟩), .pointer (some ⟨w.heap.size + 1 + 1, 0, none⟩), .pointer (some ⟨w.heap.size + 1 + 1 + 1, 0, none⟩), .pointer (some ⟨w.heap.size + 1 + 1 + 1 + 1, 0, none⟩), cK d, .int .i64 0, .int .i64 (x : Int), .tuple #[cK d, .int .i64 0], .slice (some ⟨b, 0, none⟩) 4096 cap, .tuple #[cK d, .int .i64 0], cK d, .int .i64 0, .int .i64 0, .bool false, .pointer (some ⟨p, 0, none⟩), .pointer (some ⟨p, 0, none⟩), .pointer (some ⟨p, 2, none⟩), .map (some bf), cK d, v, .func (.func 38) #[v] #[], .int .i64 (x : Int), undef, undef, undef, undef, undef, undef, undef, undef, undef, undef], defers := [] }) ?assign ?body ?done ?stop
  case assign =>
    intro l x A K hK
    gi_wp2
    exact hK
  case body =>
    rintro l pre x A kA ⟨hpre, bx⟩ hlt
    have hxm : x ∈ blF (mkD Sg N d) := hlt.subset (by simp)
    have hxN := HH.out.2.2.2.2.2.2 x hxm
    have ch := iholds_any (HH.out.1.kp kA) (HH.out.2.1.kp kA) x hxN (cap := cap) (HH.out.2.2.1.kp kA)
    have HB : Hid (Kp w A ∧ FBx A w.heap.size p b cap notv 0 false ∧ (∀ y ∈ pre, P y = false) ∧ pre ++ [x] <+: blF (mkD Sg N d)) := ⟨kA, bx, hpre, hlt⟩
    have e0 := bx.b0.cell
    have e1 := bx.b1.cell
    have e2 := bx.b2.cell
    have hPx : Hid (P x = (decide ((x : Int) ≠ notv) && alike (F x) f 4096)) := by show P x = _; rw [HP.out]
    clear kA hpre bx hlt hxm hxN
    by_cases hne : (x : Int) = notv
    · have hP0 : Hid (P x = false) := by show P x = false; rw [hPx.out, decide_eq_false (fun c => c hne)]; rfl
      have hd : ((x : Int) != notv) = false := by simpa using hne
      clear hPx ch hne
      gi_wp2
      refine ⟨trivial, ?_⟩
      gi_wp2
      exact ⟨(Kp.refl A).keepsFrom _, (Kp.refl A).kwd, HB.out.1, fun y hy => by
        rcases List.mem_append.1 hy with hy | hy
        · exact HB.out.2.2.1 y hy
        · simp at hy; rw [hy]; exact hP0.out, HB.out.2.1⟩
    · obtain ⟨z, hz⟩ : ∃ z, z = alike (F x) f 4096 := ⟨_, rfl⟩
      have hP1 : Hid (P x = z) := by show P x = _; rw [hPx.out, decide_eq_true hne, Bool.true_and, hz]
      have hd : ((x : Int) != notv) = true := by simpa using hne
      rw [← hz] at ch
      clear hPx hz hne
      gi_wp2
      refine ⟨trivial, (CallsIn.inRound l (callsIn_wide.2 ch)).mono ?_⟩
      rintro e A2 ⟨rfl, k2⟩
      have b2 : FBx A2 w.heap.size p b cap notv 0 false := HB.out.2.1.kq (k2.kq 0)
      have K2 : Hid (Kp A A2) := k2
      clear k2 e0 e1 e2 ch
      cases z with
      | true =>
        have f3 := b2.b3.cell
        have f4 := b2.b4.cell
        have h3 := b2.b3.frozen
        have h4 := b2.b4.frozen
        have hb3 := b2.b3
        clear b2
        gi_wp2
        have kk := HB.out.1.trans K2.out
        refine ⟨(K2.out.keepsFrom _).trans (((KeepsOthers.setCell _ _ _).trans (KeepsOthers.setCell _ _ _)).from _), (kk.set _ _ (by show w.heap.size ≤ w.heap.size + 1 + 1 + 1; omega)).set _ _ (by show w.heap.size ≤ w.heap.size + 1 + 1 + 1 + 1; omega), x, ?_, ?_, ?_⟩
        · rw [HR.out]
          unfold fndR
          rw [← HP.out]
          obtain ⟨rest, hr⟩ := HB.out.2.2.2
          rw [HD.out, ← hr, List.append_assoc, List.find?_append, List.find?_eq_none.2 (fun y hy => by rw [HB.out.2.2.1 y hy]; decide), Option.none_or]
          simp [hP1.out]
        · rw [World.cell?_setCell_other _ _ _ _ (by intro c; simp only [Addr.mk.injEq] at c; omega)]
          exact World.cell?_setCell_same' _ _ _ (by rw [f3]; rfl)
        · exact World.cell?_setCell_same' _ _ _ (by rw [World.cell?_setCell_other _ _ _ _ (by intro c; simp only [Addr.mk.injEq] at c; omega), f4]; rfl)
      | false =>
        gi_wp2
        exact ⟨K2.out.keepsFrom _, K2.out.kwd, HB.out.1.trans K2.out, fun y hy => by
          rcases List.mem_append.1 hy with hy | hy
          · exact HB.out.2.2.1 y hy
          · simp at hy; rw [hy]; exact hP1.out, b2⟩
  case done =>
    rintro D A hD kA ⟨hpre, bx⟩ hK
    have f3 := bx.b3.cell
    have f4 := bx.b4.cell
    have h3 := bx.b3.frozen
    have h4 := bx.b4.frozen
    have q : Kq W.heap.size A (A.putObj D (.deferred none)) := Kq.put _ hK hD rfl
    clear q
    have HN : Hid (R = none) := by
      show R = none
      rw [HR.out]
      unfold fndR
      rw [← HP.out, HD.out]
      exact List.find?_eq_none.2 fun y hy => by rw [hpre y hy]; decide
    have HE : Hid (Kp w A ∧ FBx A w.heap.size p b cap notv 0 false) := ⟨kA, bx⟩
    clear bx kA hpre
    gi_wp2
    have hK' := ((KeepsOthers.setCell A ⟨w.heap.size + 1 + 1 + 1, 0, none⟩ (.int .i64 0)).trans (KeepsOthers.setCell _ ⟨w.heap.size + 1 + 1 + 1 + 1, 0, none⟩ (.bool false))).same D _ hK rfl
    have q := Kq.put (B := W.heap.size) (.deferred none) hK' hD rfl
    have j3 : World.cell? ((A.setCell ⟨w.heap.size + 1 + 1 + 1, 0, none⟩ (.int .i64 0)).setCell ⟨w.heap.size + 1 + 1 + 1 + 1, 0, none⟩ (.bool false)) ⟨w.heap.size + 1 + 1 + 1, 0, none⟩ = some (.int .i64 0) := by
      rw [World.cell?_setCell_other _ _ _ _ (by intro c; simp only [Addr.mk.injEq] at c; omega)]
      exact World.cell?_setCell_same' A ⟨w.heap.size + 1 + 1 + 1, 0, none⟩ (.int .i64 0) (by rw [f3]; rfl)
    have j4 : World.cell? ((A.setCell ⟨w.heap.size + 1 + 1 + 1, 0, none⟩ (.int .i64 0)).setCell ⟨w.heap.size + 1 + 1 + 1 + 1, 0, none⟩ (.bool false)) ⟨w.heap.size + 1 + 1 + 1 + 1, 0, none⟩ = some (.bool false) := by
      refine World.cell?_setCell_same' _ _ _ ?_
      rw [World.cell?_setCell_other _ _ _ _ (by intro c; simp only [Addr.mk.injEq] at c; omega), f4]; rfl
    have g3 := q.cell j3
    have g4 := q.cell j4
    refine ⟨by simp, .inl ⟨_, _, rfl, run_takeDeferred hK', ?_⟩⟩
    refine ⟨.tuple #[.int .i64 0, .bool false], by simp [results, Tryd.f14, go_sem, g3, g4], by rw [HN.out]; rfl, ?_⟩
    exact q.kp ((HE.out.1.set _ _ (by show w.heap.size ≤ w.heap.size + 1 + 1 + 1; omega)).set _ _ (by show w.heap.size ≤ w.heap.size + 1 + 1 + 1 + 1; omega)) HH.out.2.2.2.2.1.size
  case stop =>
    rintro D A hD ⟨kA, x, hx, g3, g4⟩ hK
    have q : Kq W.heap.size A (A.putObj D (.deferred none)) := Kq.put _ hK hD rfl
    have HE : Hid (Kp w A ∧ R = some x ∧ Kq W.heap.size A (A.putObj D (.deferred none))) := ⟨kA, hx, q⟩
    have g5 := q.cell g3
    have g6 := q.cell g4
    clear q kA hx
    gi_wp2
    refine ⟨by simp, .inl ⟨_, _, rfl, run_takeDeferred hK, ?_⟩⟩
    refine ⟨.tuple #[.int .i64 (x : Int), .bool true], by simp [results, Tryd.f14, go_sem, g5, g6], by rw [HE.out.2.1]; rfl, ?_⟩
    exact HE.out.2.2.kp HE.out.1 HH.out.2.2.2.2.1.size
end

end Go.Proofs.YtpjlmmiceiionaaDoor
