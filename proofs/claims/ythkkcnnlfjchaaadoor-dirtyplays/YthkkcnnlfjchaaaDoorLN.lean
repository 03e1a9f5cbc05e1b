/- dirty: the document's log: Note. -/
import Derived.Test.YthkkcnnlfjchaaaDoorLM
namespace Go.Proofs.YthkkcnnlfjchaaaDoor
open Go.RowKit Go.Maps
set_option maxRecDepth 10000

section
variable {w w' : World} {r b : Nat} {on : Bool} {v : Value} {L : List Nat}
set_option maxHeartbeats 16000000 in
theorem rlins_any (h : RLg w r b true v L) (hb : b ≤ w.heap.size) (hl : L.length ≤ 100000) (x : Nat) (c2 : x ∉ L) :
    Calls Tryd.prog 17 #[.pointer (some ⟨r, 0, none⟩), .int .u64 (x : Int)] w fun e w' => e = .returned (.bool true) ∧ ∃ L', RLo w w' r b true v L' ∧ L'.length ≤ L.length + 1 ∧ ∀ q, q ∈ L' ↔ q ∈ L ∨ q = x := by
  have ca := rlat_any h hl x
  rw [decide_eq_false c2] at ca
  have HH : Hid (RLg w r b true v L ∧ b ≤ w.heap.size ∧ L.length ≤ 100000 ∧ x ∉ L) := ⟨h, hb, hl, c2⟩
  obtain ⟨na, cap, ev, hcap, hform, _⟩ := h.ax.form okT_w64
  subst ev
  have hz : na = none → cap = 0 := fun e => by
    rcases hform with ⟨_, q, _⟩ | ⟨g, q, _⟩
    · exact q
    · rw [e] at q; cases q
  have HZ : Hid ((na = none → cap = 0) ∧ L.length ≤ cap) := ⟨hz, hcap⟩
  have on0 : ∀ n, (w.drewN n).cell? ⟨r, 0, none⟩ = some (.bool true) := fun n => (h.kp ((Kp.refl w).drewN n)).c0
  clear h hb hl c2 hform hz hcap
  go_enter Tryd.func17, Tryd.ntmps17
  go_wp2_with fail
  with_reducible refine ca.mono ?_
  rintro e w1 ⟨k, rfl, hk0, lo, hi, nn, rfl⟩
  clear ca
  have kw : Kp w (w.drewN nn) := (Kp.refl w).drewN nn
  have on1 := on0 nn
  clear on0
  generalize w.drewN nn = w1 at *
  have HP := hid_as (insT_rise HH.out.1.rise lo hi HH.out.2.2.2)
  clear lo hi
  have R1 := HH.out.1.kp kw
  have src := R1.ax.src okT_w64
  have hcap := HZ.out.2
  obtain ⟨na1, q1, q2, q3⟩ := part_hiw okT_w64 na L.length cap k (by omega)
  obtain ⟨na2, s1, s2, s3⟩ := part_low okT_w64 na L.length cap k hk0
  change ∀ w, (Instr.slice 26 _ _ _ _).run Tryd.prog w = _ at q1
  change ∀ w, (Instr.slice 26 _ _ _ _).run Tryd.prog w = _ at s1
  have a1 := src.hiw okT_w64 k q2 q3
  have a2 := src.loww okT_w64 k hcap s2 s3
  have zz1 : L.take k = [] → na1 = none → cap = 0 := fun _ e => HZ.out.1 (part_nilw q3 src e)
  have zz2 : L.drop k = [] → na2 = none → cap - k = 0 := fun _ e => by rw [HZ.out.1 (part_nilw2 s3 src e)]; omega
  have l1 : k = (L.take k).length := by rw [List.length_take]; omega
  have l2 : L.length - k = (L.drop k).length := by rw [List.length_drop]
  have l3 : (L.take k).length + 1 + (L.drop k).length ≤ 1000000 := by have := HH.out.2.2.1; rw [← l1, ← l2]; omega
  have KB : Aside (∀ v, Kp w1 v → v.cell? ⟨r, 1, none⟩ = some (.slice na L.length cap)) := fun v kv => (R1.kp kv).c1
  have FZ : Aside (∀ v, Kp w1 v → v.frozen? ⟨r, 1, none⟩ = false) := fun v kv => (R1.kp kv).fz 1
  have kd : Kp w1 w1.drew := (Kp.refl w1).drew
  have FIN : Hid (∀ w8 na8 n8 c8, AX LTw w8 w1.drew.heap.size (.slice na8 n8 c8) (L.take k ++ [x] ++ L.drop k) → Kp w1.drew w8 → ∃ L', RLo w (w8.setCell ⟨r, 1, none⟩ (.slice na8 n8 c8)) r b true (.slice na L.length cap) L' ∧ L'.length ≤ L.length + 1 ∧ ∀ q, q ∈ L' ↔ q ∈ L ∨ q = x) := fun w8 na8 n8 c8 o8 k8 => by
    have k8' : Kp w1 w8 := kd.trans k8
    have hs : w1.drew.heap.size = w1.heap.size := rfl
    refine ⟨_, ⟨_, (R1.kp k8').put (o8.low (Nat.le_trans HH.out.2.1 (kw.trans kd).size)) (fun g hg => ?_) HP.out.1, ((kw.trans k8').fr _).set ⟨r, 1, none⟩ _ rfl, ?_⟩, ?_, HP.out.2⟩
    · have := (o8.up g hg).1
      have := R1.lt
      omega
    · cases e : (Value.slice na8 n8 c8).ownBlock with
      | none => exact .inr (.inl rfl)
      | some g => exact .inr (.inr ⟨g, rfl, Nat.le_trans kw.size (by have := (o8.up g e).1; omega)⟩)
    · rw [List.length_append, List.length_append, ← l1, ← l2]
      simp; omega
  obtain ⟨a6A, n6A, c6A, w6A, a7A, n7A, c7A, w7A, a8A, n8A, c8A, w8A, r6A, r7A, r8A, i8A⟩ := ins_Aw (W := w1.drew) okT_w64 (a1.kp kd) l1 zz1 (a2.kp kd) l2 zz2 x l3 26
  have r6A' : (Builtin.append_ #[26, 26] 26 #[.slice (some ⟨w1.heap.size, 0, none⟩) 0 0, .slice na1 k cap]).run Tryd.prog (w1.alloc (.cells #[] 29)).drew = .ok (.slice a6A n6A c6A) w6A := r6A
  have r7A' : (Builtin.append_ #[26, 26] 26 #[.slice a6A n6A c6A, .slice (some ⟨w6A.heap.size, 0, none⟩) 1 1]).run Tryd.prog (w6A.alloc (.cells #[.int .u64 (x : Int)] 29)) = .ok (.slice a7A n7A c7A) w7A := r7A
  have r8A' : (Builtin.append_ #[26, 26] 26 #[.slice a7A n7A c7A, .slice na2 (L.length - k) (cap - k)]).run Tryd.prog w7A = .ok (.slice a8A n8A c8A) w8A := r8A
  have FA := hid_as (FIN.out w8A a8A n8A c8A i8A.1 i8A.2.2.2)
  have d6A := KB.out w6A (kd.trans i8A.2.1)
  have d6xA := KB.out (w6A.alloc (.cells #[.int .u64 (x : Int)] 29)) ((kd.trans i8A.2.1).alloc _)
  have d7A := KB.out w7A (kd.trans i8A.2.2.1)
  have d8A := KB.out w8A (kd.trans i8A.2.2.2)
  have f8A := FZ.out w8A (kd.trans i8A.2.2.2)
  obtain ⟨a6B, n6B, c6B, w6B, a7B, n7B, c7B, w7B, a8B, n8B, c8B, w8B, r6B, r7B, r8B, i8B⟩ := ins_Bw (W := w1.drew) okT_w64 (a1.kp kd) l1 zz1 (a2.kp kd) l2 zz2 x l3 26
  have r6B' : (Builtin.append_ #[26, 26] 26 #[.slice (some ⟨w1.heap.size, 0, none⟩) 0 0, .slice na1 k cap]).run Tryd.prog ((w1.alloc (.cells #[] 29)).alloc (.cells #[.int .u64 (x : Int)] 29)).drew = .ok (.slice a6B n6B c6B) w6B := r6B
  have r7B' : (Builtin.append_ #[26, 26] 26 #[.slice a6B n6B c6B, .slice (some ⟨w1.heap.size + 1, 0, none⟩) 1 1]).run Tryd.prog w6B = .ok (.slice a7B n7B c7B) w7B := r7B
  have r8B' : (Builtin.append_ #[26, 26] 26 #[.slice a7B n7B c7B, .slice na2 (L.length - k) (cap - k)]).run Tryd.prog w7B = .ok (.slice a8B n8B c8B) w8B := r8B
  have FB := hid_as (FIN.out w8B a8B n8B c8B i8B.1 i8B.2.2.2)
  have d6B := KB.out w6B (kd.trans i8B.2.1)
  have d6xB := KB.out (w6B.alloc (.cells #[.int .u64 (x : Int)] 29)) ((kd.trans i8B.2.1).alloc _)
  have d7B := KB.out w7B (kd.trans i8B.2.2.1)
  have d8B := KB.out w8B (kd.trans i8B.2.2.2)
  have f8B := FZ.out w8B (kd.trans i8B.2.2.2)
  obtain ⟨a6C, n6C, c6C, w6C, a7C, n7C, c7C, w7C, a8C, n8C, c8C, w8C, r6C, r7C, r8C, i8C⟩ := ins_Cw (W := w1.drew) okT_w64 (a1.kp kd) l1 zz1 (a2.kp kd) l2 zz2 x l3 26
  have r6C' : (Builtin.append_ #[26, 26] 26 #[.slice (some ⟨w1.heap.size + 1, 0, none⟩) 0 0, .slice na1 k cap]).run Tryd.prog ((w1.alloc (.cells #[.int .u64 (x : Int)] 29)).alloc (.cells #[] 29)).drew = .ok (.slice a6C n6C c6C) w6C := r6C
  have r7C' : (Builtin.append_ #[26, 26] 26 #[.slice a6C n6C c6C, .slice (some ⟨w1.heap.size, 0, none⟩) 1 1]).run Tryd.prog w6C = .ok (.slice a7C n7C c7C) w7C := r7C
  have r8C' : (Builtin.append_ #[26, 26] 26 #[.slice a7C n7C c7C, .slice na2 (L.length - k) (cap - k)]).run Tryd.prog w7C = .ok (.slice a8C n8C c8C) w8C := r8C
  have FC := hid_as (FIN.out w8C a8C n8C c8C i8C.1 i8C.2.2.2)
  have d6C := KB.out w6C (kd.trans i8C.2.1)
  have d6xC := KB.out (w6C.alloc (.cells #[.int .u64 (x : Int)] 29)) ((kd.trans i8C.2.1).alloc _)
  have d7C := KB.out w7C (kd.trans i8C.2.2.1)
  have d8C := KB.out w8C (kd.trans i8C.2.2.2)
  have f8C := FZ.out w8C (kd.trans i8C.2.2.2)
  have d0 := KB.out w1 (Kp.refl w1)
  have d1 := KB.out w1.drew kd
  have dE := KB.out (w1.alloc (.cells #[] 29)) ((Kp.refl w1).alloc _)
  have dX := KB.out (w1.alloc (.cells #[.int .u64 (x : Int)] 29)) ((Kp.refl w1).alloc _)
  have dEX := KB.out ((w1.alloc (.cells #[] 29)).alloc (.cells #[.int .u64 (x : Int)] 29)) (((Kp.refl w1).alloc _).alloc _)
  have dXE := KB.out ((w1.alloc (.cells #[.int .u64 (x : Int)] 29)).alloc (.cells #[] 29)) (((Kp.refl w1).alloc _).alloc _)
  clear KB FZ FIN R1 src q2 q3 s2 s3 a1 a2 zz1 zz2 l1 l2 l3 r6A r7A r8A i8A r6B r7B r8B i8B r6C r7C r8C i8C kd HH HZ HP hcap kw hk0
  obtain ⟨m2, hm2⟩ : ∃ m2, m2 = L.length - k := ⟨_, rfl⟩
  obtain ⟨p2, hp2⟩ : ∃ p2, p2 = cap - k := ⟨_, rfl⟩
  rw [← hm2, ← hp2] at s1
  rw [← hm2, ← hp2] at r8A' r8B' r8C'
  clear hm2 hp2
  obtain ⟨n, hn⟩ : ∃ n, n = L.length := ⟨_, rfl⟩
  rw [← hn] at q1 s1 d0 d1 dE dX dEX dXE d6A d6xA d7A d8A d6B d6xB d7B d8B d6C d6xC d7C d8C
  clear hn
  go_wp2_with fail
  go_region_law (first | ((with_reducible refine step_appw r6A' ?_ (.tmp 22) (.tmp 28) ?_ ?_ ?_ ?_ ?_); rfl; rfl; rfl; rfl; rfl) | ((with_reducible refine step_appw r6B' ?_ (.tmp 22) (.tmp 28) ?_ ?_ ?_ ?_ ?_); rfl; rfl; rfl; rfl; rfl) | ((with_reducible refine step_appw r6C' ?_ (.tmp 22) (.tmp 28) ?_ ?_ ?_ ?_ ?_); rfl; rfl; rfl; rfl; rfl) | ((with_reducible refine step_appw r7A' ?_ (.tmp 29) (.tmp 31) ?_ ?_ ?_ ?_ ?_); rfl; rfl; rfl; rfl; rfl) | ((with_reducible refine step_appw r7B' ?_ (.tmp 29) (.tmp 31) ?_ ?_ ?_ ?_ ?_); rfl; rfl; rfl; rfl; rfl) | ((with_reducible refine step_appw r7C' ?_ (.tmp 29) (.tmp 31) ?_ ?_ ?_ ?_ ?_); rfl; rfl; rfl; rfl; rfl) | ((with_reducible refine step_appw r8A' ?_ (.tmp 32) (.tmp 38) ?_ ?_ ?_ ?_ ?_); rfl; rfl; rfl; rfl; rfl) | ((with_reducible refine step_appw r8B' ?_ (.tmp 32) (.tmp 38) ?_ ?_ ?_ ?_ ?_); rfl; rfl; rfl; rfl; rfl) | ((with_reducible refine step_appw r8C' ?_ (.tmp 32) (.tmp 38) ?_ ?_ ?_ ?_ ?_); rfl; rfl; rfl; rfl; rfl))
  all_goals
    clear r6A' r7A' r8A' r6B' r7B' r8B' r6C' r7C' r8C' q1 s1
    go_wp2_with fail
    go_ret
    first | exact ⟨rfl, FA.out⟩ | exact ⟨rfl, FB.out⟩ | exact ⟨rfl, FC.out⟩
set_option maxHeartbeats 4000000 in
/-- Note. -/
theorem rlnote_any (h : RLg w r b on v L) (hb : b ≤ w.heap.size) (hl : L.length ≤ 100000) (x : Nat) :
    Calls Tryd.prog 17 #[.pointer (some ⟨r, 0, none⟩), .int .u64 (x : Int)] w fun e w' => e = .returned (.bool (on && !decide (x ∈ L))) ∧ ∃ L', RLo w w' r b on v L' ∧ L'.length ≤ L.length + 1 ∧ ∀ q, q ∈ L' ↔ q ∈ L ∨ (on = true ∧ q = x) := by
  by_cases c : x ∈ L
  · have ca := rlat_any h hl x
    rw [decide_eq_true c] at ca
    rw [decide_eq_true c, show (on && !true) = false by simp]
    have HS : Hid (∀ n, ∃ L', RLo w (w.drewN n) r b on v L' ∧ L'.length ≤ L.length + 1 ∧ ∀ q, q ∈ L' ↔ q ∈ L ∨ (on = true ∧ q = x)) := fun n => ⟨L, RLo.same h ((Kp.refl w).drewN n), by omega, fun q => ⟨.inl, fun e => e.elim id (fun e => by rw [e.2]; exact c)⟩⟩
    clear h hl c hb
    go_enter Tryd.func17, Tryd.ntmps17
    go_wp2_with fail
    with_reducible refine ca.mono ?_
    rintro e w1 ⟨k, rfl, _, _, _, nn, rfl⟩
    clear ca
    go_wp2_with fail
    go_ret
    exact ⟨rfl, HS.out nn⟩
  · cases on with
    | true =>
      have := rlins_any h hb hl x c
      rw [decide_eq_false c]
      refine this.mono ?_
      rintro e w' ⟨he, L', h1, h2, h3⟩
      exact ⟨he, L', h1, h2, fun q => by rw [h3]; simp⟩
    | false =>
      have ca := rlat_any h hl x
      rw [decide_eq_false c] at ca
      rw [decide_eq_false c]
      have HS : Hid (∀ n, ∃ L', RLo w (w.drewN n) r b false v L' ∧ L'.length ≤ L.length + 1 ∧ ∀ q, q ∈ L' ↔ q ∈ L ∨ (false = true ∧ q = x)) := fun n => ⟨L, RLo.same h ((Kp.refl w).drewN n), by omega, fun q => ⟨.inl, fun e => e.elim id (fun e => by cases e.1)⟩⟩
      have on0 : ∀ n, (w.drewN n).cell? ⟨r, 0, none⟩ = some (.bool false) := fun n => (h.kp ((Kp.refl w).drewN n)).c0
      clear h hl c hb
      go_enter Tryd.func17, Tryd.ntmps17
      go_wp2_with fail
      with_reducible refine ca.mono ?_
      rintro e w1 ⟨k, rfl, _, _, _, nn, rfl⟩
      have on1 := on0 nn
      clear ca on0
      go_wp2_with fail
      go_ret
      exact ⟨rfl, HS.out nn⟩
end

end Go.Proofs.YthkkcnnlfjchaaaDoor
