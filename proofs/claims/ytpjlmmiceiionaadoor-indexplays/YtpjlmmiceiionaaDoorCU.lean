/- index: the document's index: Add. -/
import Derived.Test.YtpjlmmiceiionaaDoorCT
import Derived.Deep.RegionLaw
import Derived.Deep.RegionHeld3
namespace Go.Proofs.YtpjlmmiceiionaaDoor
open Go.RowKit Go.Maps
set_option maxRecDepth 10000

/-- What an act leaves of the document's index at r. -/
def RIo (w w' : World) (X : Nat → Prop) (r : Nat) (F : Nat → Nat → Nat) (Sg' : Nat → Option CN) : Prop := ∃ vf v Bs, RIx w' (fun k => X k ∨ (w.heap.size ≤ k ∧ k < w'.heap.size)) r F Sg' vf v Bs ∧ Fr (· = r) w w'
theorem two_setR {w : World} {p : Nat} {a b : Value} {t : TypeId} (c : w.heap[p]? = some (.cells #[a, b] t (0, 0))) (v : Value) : (w.setCell ⟨p, 1, none⟩ v).heap[p]? = some (.cells #[a, v] t (0, 0)) := by
  rw [heap_setCell_same w p 1 _ _ v c]; rfl
theorem two_setR0 {w : World} {p : Nat} {a b : Value} {t : TypeId} (c : w.heap[p]? = some (.cells #[a, b] t (0, 0))) (v : Value) : (w.setCell ⟨p, 0, none⟩ v).heap[p]? = some (.cells #[v, b] t (0, 0)) := by
  rw [heap_setCell_same w p 0 _ _ v c]; rfl
section
variable {w w' : World} {X : Nat → Prop} {r : Nat} {F : Nat → Nat → Nat} {Sg : Nat → Option CN} {vf v : Value} {Bs : List Nat}
theorem RIo.same (h : RIx w X r F Sg vf v Bs) (k : Kp w w') : RIo w w' X r F Sg := ⟨vf, v, Bs, (h.kp k).more (fun _ hk => .inl hk), k.fr _⟩
theorem RIx.put (h : RIx w X r F Sg vf v Bs) {v' : Value} {Sg' : Nat → Option CN} (hx : AX LTin w 0 v' (inL Sg')) (hv : ∀ g, v'.ownBlock = some g → X g ∧ g ≠ r) : RIx (w.setCell ⟨r, 1, none⟩ v') X r F Sg' vf v' Bs :=
  have k : Fr (· = r) w (w.setCell ⟨r, 1, none⟩ v') := Fr.set (S := (· = r)) (Fr.refl _ _) ⟨r, 1, none⟩ v' rfl
  ⟨two_setR h.c v', h.pg.fr k (fun g hg c => by
    rcases hg with q | q
    · exact h.pr.1 g q c
    · rw [c] at q; exact h.pr.2 q), hx.fr k (fun g _ _ e s => (hv g e).2 s), hv, h.xr, h.pr⟩

set_option maxHeartbeats 16000000 in
theorem radd_ok (h : RIx w X r F Sg vf v Bs) (hX : ∀ k, X k → k < w.heap.size) (hS : ∀ i d, Sg i = some d → i < 12) (f : Nat) (hf : f < 12) (hn : Sg f = none) :
    Calls Tryd.prog 9 #[.pointer (some ⟨r, 0, none⟩), .int .i64 (f : Int)] w fun e w' => e = .returned (.int .i64 0) ∧ RIo w w' X r F (setS Sg f (some (dgt (F f)))) := by
  have cg := rget_ok h f hf
  have ca := rat_any h (f : Int)
  have hl := inL_len Sg
  have HH : Hid (RIx w X r F Sg vf v Bs ∧ (∀ k, X k → k < w.heap.size) ∧ (∀ i d, Sg i = some d → i < 12) ∧ f < 12 ∧ Sg f = none) := ⟨h, hX, hS, hf, hn⟩
  obtain ⟨na, cap, ev, hcap, hform, _⟩ := h.ax.form LTin_ok
  subst ev
  have hz : na = none → cap = 0 := fun e => by
    rcases hform with ⟨_, q, _⟩ | ⟨g, q, _⟩
    · exact q
    · rw [e] at q; cases q
  obtain ⟨L, hL⟩ : ∃ L, L = inL Sg := ⟨_, rfl⟩
  rw [← hL] at ca hl hcap HH
  have HL : Hid (L = inL Sg) := hL
  have HZ : Hid ((na = none → cap = 0) ∧ L.length ≤ cap ∧ L.length ≤ 12) := ⟨hz, hcap, hl⟩
  clear h hX hS hf hn hform hz hcap hl hL
  go_enter Tryd.func9, Tryd.ntmps9
  go_wp2_with fail
  with_reducible refine cg.mono ?_
  rintro e w ⟨⟨px, rfl, hpx, bpx⟩, rfl⟩
  have HB : Hid (BS w px 0 4096 (F f)) := bpx
  clear cg hpx bpx
  go_wp2_with fail
  with_reducible refine ca.mono ?_
  rintro e w1 ⟨k, rfl, hk0, lo, hi, nn, rfl⟩
  clear ca
  have hat : isAt L k (f : Int) = false := by
    rw [HL.out] at lo hi ⊢
    rw [isAt_sg HH.out.2.2.1 lo hi, sgI_nat, HH.out.2.2.2.2]; rfl
  rw [hat]
  have kw : Kp w (w.drewN nn) := (Kp.refl w).drewN nn
  have HP : Hid (L.take k ++ [(f, dgt (F f))] ++ L.drop k = inL (setS Sg f (some (dgt (F f))))) := by
    show _ = _
    rw [HL.out] at lo hi ⊢
    exact inL_ins lo hi rfl HH.out.2.2.2.1 HH.out.2.2.2.2 _
  have co := rdof_any px 4096 (F f) (w.drewN nn) (HB.out.kp kw)
  have dk := dgt_ok HB.out.byte
  obtain ⟨d, hd⟩ : ∃ d, d = dgt (F f) := ⟨_, rfl⟩
  rw [← hd] at co dk
  have HD : Hid (d = dgt (F f)) := hd
  obtain ⟨re, im, hc⟩ : ∃ re im, cK d = .complex .f64 re im := ⟨_, _, rfl⟩
  have HC : Hid (cK d = .complex .f64 re im) := hc
  rw [hc] at co
  clear lo hi hat hd hc dk HB
  generalize w.drewN nn = w1 at *
  go_wp2_with fail
  with_reducible refine co.mono ?_
  rintro e w1 ⟨rfl, rfl⟩
  clear co
  have R1 := HH.out.1.kp kw
  have src : AS LTin w1 na L := by
    have h0 := R1.ax
    rw [← HL.out] at h0
    exact h0.src LTin_ok
  have hcap := HZ.out.2.1
  obtain ⟨na1, q1, q2, q3⟩ := part_hiw LTin_ok na L.length cap k (by omega)
  obtain ⟨na2, s1, s2, s3⟩ := part_low LTin_ok na L.length cap k hk0
  change ∀ w, (Instr.slice 30 _ _ _ _).run Tryd.prog w = _ at q1
  change ∀ w, (Instr.slice 30 _ _ _ _).run Tryd.prog w = _ at s1
  have a1 := src.hiw LTin_ok k q2 q3
  have a2 := src.loww LTin_ok k hcap s2 s3
  have zz1 : L.take k = [] → na1 = none → cap = 0 := fun _ e => HZ.out.1 (part_nilw q3 src e)
  have zz2 : L.drop k = [] → na2 = none → cap - k = 0 := fun _ e => by rw [HZ.out.1 (part_nilw2 s3 src e)]; omega
  have l1 : k = (L.take k).length := by rw [List.length_take]; omega
  have l2 : L.length - k = (L.drop k).length := by rw [List.length_drop]
  have l3 : (L.take k).length + 1 + (L.drop k).length ≤ 1000000 := by have := HZ.out.2.2; rw [← l1, ← l2]; omega
  have KB : Aside (∀ v, Kp w1 v → v.cell? ⟨r, 1, none⟩ = some (.slice na L.length cap)) := fun v kv => (R1.kp kv).c1
  have FZ : Aside (∀ v, Kp w1 v → v.frozen? ⟨r, 1, none⟩ = false) := fun v kv => (R1.kp kv).fz 1
  have kd : Kp w1 w1.drew := (Kp.refl w1).drew
  have FIN : Hid (∀ w8 na8 n8 c8, AX LTin w8 w1.drew.heap.size (.slice na8 n8 c8) (L.take k ++ [(f, d)] ++ L.drop k) → Kp w1.drew w8 → RIo w (w8.setCell ⟨r, 1, none⟩ (.slice na8 n8 c8)) X r F (setS Sg f (some (dgt (F f))))) := fun w8 na8 n8 c8 o8 k8 => by
    have k8' : Kp w1 w8 := kd.trans k8
    have hs : w1.drew.heap.size = w1.heap.size := rfl
    rw [HD.out, HP.out] at o8
    have kz := kw.size
    have rl := R1.lt
    refine ⟨vf, _, Bs, RIx.put ((R1.kp k8').more fun _ hk => .inl hk) (o8.low (Nat.zero_le _)) fun g hg => ?_, ((kw.trans k8').fr _).set ⟨r, 1, none⟩ _ rfl⟩
    have h1 := o8.up g hg
    refine ⟨.inr ⟨by omega, ?_⟩, by omega⟩
    have := (Fr.set (S := (· = r)) (Fr.refl (· = r) w8) ⟨r, 1, none⟩ (.slice na8 n8 c8) rfl).size
    omega
  obtain ⟨a6A, n6A, c6A, w6A, a7A, n7A, c7A, w7A, a8A, n8A, c8A, w8A, r6A, r7A, r8A, i8A⟩ := ins_Aw (W := w1.drew) LTin_ok (a1.kp kd) l1 zz1 (a2.kp kd) l2 zz2 (f, d) l3 30
  have ec : ((LTin.enc (f, d)).toArray : Array Value) = #[.int .i64 (f : Int), .complex .f64 re im] := by
    show #[Value.int .i64 (f : Int), cK d] = _
    rw [HC.out]
  rw [ec] at r7A
  have r6A' : (Builtin.append_ #[30, 30] 30 #[.slice (some ⟨w1.heap.size, 0, none⟩) 0 0, .slice na1 k cap]).run Tryd.prog (w1.alloc (.cells #[] 53)).drew = .ok (.slice a6A n6A c6A) w6A := r6A
  have r7A' : (Builtin.append_ #[30, 30] 30 #[.slice a6A n6A c6A, .slice (some ⟨w6A.heap.size, 0, none⟩) 1 1]).run Tryd.prog (w6A.alloc (.cells #[.int .i64 (f : Int), .complex .f64 re im] 53)) = .ok (.slice a7A n7A c7A) w7A := r7A
  have r8A' : (Builtin.append_ #[30, 30] 30 #[.slice a7A n7A c7A, .slice na2 (L.length - k) (cap - k)]).run Tryd.prog w7A = .ok (.slice a8A n8A c8A) w8A := r8A
  have FA := hidG (FIN.out w8A a8A n8A c8A i8A.1 i8A.2.2.2)
  have d6A := KB.out w6A (kd.trans i8A.2.1)
  have d6xA := KB.out (w6A.alloc (.cells #[.int .i64 (f : Int), .complex .f64 re im] 53)) ((kd.trans i8A.2.1).alloc _)
  have d7A := KB.out w7A (kd.trans i8A.2.2.1)
  have d8A := KB.out w8A (kd.trans i8A.2.2.2)
  have f8A := FZ.out w8A (kd.trans i8A.2.2.2)
  obtain ⟨a6B, n6B, c6B, w6B, a7B, n7B, c7B, w7B, a8B, n8B, c8B, w8B, r6B, r7B, r8B, i8B⟩ := ins_Bw (W := w1.drew) LTin_ok (a1.kp kd) l1 zz1 (a2.kp kd) l2 zz2 (f, d) l3 30
  rw [ec] at r6B
  have r6B' : (Builtin.append_ #[30, 30] 30 #[.slice (some ⟨w1.heap.size, 0, none⟩) 0 0, .slice na1 k cap]).run Tryd.prog ((w1.alloc (.cells #[] 53)).alloc (.cells #[.int .i64 (f : Int), .complex .f64 re im] 53)).drew = .ok (.slice a6B n6B c6B) w6B := r6B
  have r7B' : (Builtin.append_ #[30, 30] 30 #[.slice a6B n6B c6B, .slice (some ⟨w1.heap.size + 1, 0, none⟩) 1 1]).run Tryd.prog w6B = .ok (.slice a7B n7B c7B) w7B := r7B
  have r8B' : (Builtin.append_ #[30, 30] 30 #[.slice a7B n7B c7B, .slice na2 (L.length - k) (cap - k)]).run Tryd.prog w7B = .ok (.slice a8B n8B c8B) w8B := r8B
  have FB := hidG (FIN.out w8B a8B n8B c8B i8B.1 i8B.2.2.2)
  have d6B := KB.out w6B (kd.trans i8B.2.1)
  have d6xB := KB.out (w6B.alloc (.cells #[.int .i64 (f : Int), .complex .f64 re im] 53)) ((kd.trans i8B.2.1).alloc _)
  have d7B := KB.out w7B (kd.trans i8B.2.2.1)
  have d8B := KB.out w8B (kd.trans i8B.2.2.2)
  have f8B := FZ.out w8B (kd.trans i8B.2.2.2)
  obtain ⟨a6C, n6C, c6C, w6C, a7C, n7C, c7C, w7C, a8C, n8C, c8C, w8C, r6C, r7C, r8C, i8C⟩ := ins_Cw (W := w1.drew) LTin_ok (a1.kp kd) l1 zz1 (a2.kp kd) l2 zz2 (f, d) l3 30
  rw [ec] at r6C
  have r6C' : (Builtin.append_ #[30, 30] 30 #[.slice (some ⟨w1.heap.size + 1, 0, none⟩) 0 0, .slice na1 k cap]).run Tryd.prog ((w1.alloc (.cells #[.int .i64 (f : Int), .complex .f64 re im] 53)).alloc (.cells #[] 53)).drew = .ok (.slice a6C n6C c6C) w6C := r6C
  have r7C' : (Builtin.append_ #[30, 30] 30 #[.slice a6C n6C c6C, .slice (some ⟨w1.heap.size, 0, none⟩) 1 1]).run Tryd.prog w6C = .ok (.slice a7C n7C c7C) w7C := r7C
  have r8C' : (Builtin.append_ #[30, 30] 30 #[.slice a7C n7C c7C, .slice na2 (L.length - k) (cap - k)]).run Tryd.prog w7C = .ok (.slice a8C n8C c8C) w8C := r8C
  have FC := hidG (FIN.out w8C a8C n8C c8C i8C.1 i8C.2.2.2)
  have d6C := KB.out w6C (kd.trans i8C.2.1)
  have d6xC := KB.out (w6C.alloc (.cells #[.int .i64 (f : Int), .complex .f64 re im] 53)) ((kd.trans i8C.2.1).alloc _)
  have d7C := KB.out w7C (kd.trans i8C.2.2.1)
  have d8C := KB.out w8C (kd.trans i8C.2.2.2)
  have f8C := FZ.out w8C (kd.trans i8C.2.2.2)
  have d0 := KB.out w1 (Kp.refl w1)
  have d1 := KB.out w1.drew kd
  have dE := KB.out (w1.alloc (.cells #[] 53)) ((Kp.refl w1).alloc _)
  have dX := KB.out (w1.alloc (.cells #[.int .i64 (f : Int), .complex .f64 re im] 53)) ((Kp.refl w1).alloc _)
  have dEX := KB.out ((w1.alloc (.cells #[] 53)).alloc (.cells #[.int .i64 (f : Int), .complex .f64 re im] 53)) (((Kp.refl w1).alloc _).alloc _)
  have dXE := KB.out ((w1.alloc (.cells #[.int .i64 (f : Int), .complex .f64 re im] 53)).alloc (.cells #[] 53)) (((Kp.refl w1).alloc _).alloc _)
  clear KB FZ FIN R1 src q2 q3 s2 s3 a1 a2 zz1 zz2 l1 l2 l3 r6A r7A r8A i8A r6B r7B r8B i8B r6C r7C r8C i8C kd HH HZ HP HL HC HD ec hcap kw hk0
  obtain ⟨m2, hm2⟩ : ∃ m2, m2 = L.length - k := ⟨_, rfl⟩
  obtain ⟨p2, hp2⟩ : ∃ p2, p2 = cap - k := ⟨_, rfl⟩
  rw [← hm2, ← hp2] at s1
  rw [← hm2, ← hp2] at r8A' r8B' r8C'
  clear hm2 hp2
  obtain ⟨n, hn⟩ : ∃ n, n = L.length := ⟨_, rfl⟩
  rw [← hn] at q1 s1 d0 d1 dE dX dEX dXE d6A d6xA d7A d8A d6B d6xB d7B d8B d6C d6xC d7C d8C
  clear hn
  go_wp2_with fail
  go_region_law (first | ((with_reducible refine step_appw r6A' ?_ (.tmp 32) (.tmp 38) ?_ ?_ ?_ ?_ ?_); rfl; rfl; rfl; rfl; rfl) | ((with_reducible refine step_appw r6B' ?_ (.tmp 32) (.tmp 38) ?_ ?_ ?_ ?_ ?_); rfl; rfl; rfl; rfl; rfl) | ((with_reducible refine step_appw r6C' ?_ (.tmp 32) (.tmp 38) ?_ ?_ ?_ ?_ ?_); rfl; rfl; rfl; rfl; rfl) | ((with_reducible refine step_appw r7A' ?_ (.tmp 39) (.tmp 43) ?_ ?_ ?_ ?_ ?_); rfl; rfl; rfl; rfl; rfl) | ((with_reducible refine step_appw r7B' ?_ (.tmp 39) (.tmp 43) ?_ ?_ ?_ ?_ ?_); rfl; rfl; rfl; rfl; rfl) | ((with_reducible refine step_appw r7C' ?_ (.tmp 39) (.tmp 43) ?_ ?_ ?_ ?_ ?_); rfl; rfl; rfl; rfl; rfl) | ((with_reducible refine step_appw r8A' ?_ (.tmp 44) (.tmp 50) ?_ ?_ ?_ ?_ ?_); rfl; rfl; rfl; rfl; rfl) | ((with_reducible refine step_appw r8B' ?_ (.tmp 44) (.tmp 50) ?_ ?_ ?_ ?_ ?_); rfl; rfl; rfl; rfl; rfl) | ((with_reducible refine step_appw r8C' ?_ (.tmp 44) (.tmp 50) ?_ ?_ ?_ ?_ ?_); rfl; rfl; rfl; rfl; rfl))
  all_goals
    clear r6A' r7A' r8A' r6B' r7B' r8B' r6C' r7C' r8C' q1 s1
    go_wp2_with fail
    go_ret
    first | exact ⟨rfl, FA.out⟩ | exact ⟨rfl, FB.out⟩ | exact ⟨rfl, FC.out⟩
end

end Go.Proofs.YtpjlmmiceiionaaDoor
