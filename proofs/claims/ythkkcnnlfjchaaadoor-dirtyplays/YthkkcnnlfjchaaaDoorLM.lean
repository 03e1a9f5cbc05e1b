/- dirty: the document's log: Start, Stop, Collect, Forget, Note. -/
import Derived.Test.YthkkcnnlfjchaaaDoorLF
import Derived.Deep.RegionLaw
import Derived.Deep.RegionHeld3
namespace Go.Proofs.YthkkcnnlfjchaaaDoor
open Go.RowKit Go.Maps
set_option maxRecDepth 10000

/-- What an act leaves of the document's log at r. -/
def RLo (w w' : World) (r b : Nat) (on : Bool) (v : Value) (L' : List Nat) : Prop := ∃ v', RLg w' r b on v' L' ∧ Fr (· = r) w w' ∧ (v' = v ∨ v'.ownBlock = none ∨ ∃ g, v'.ownBlock = some g ∧ w.heap.size ≤ g)
section
variable {w w' : World} {r b : Nat} {on : Bool} {v : Value} {L : List Nat}
theorem RLo.same (h : RLg w r b on v L) (k : Kp w w') : RLo w w' r b on v L := ⟨v, h.kp k, k.fr _, .inl rfl⟩
theorem RLg.put (h : RLg w r b on v L) {v' : Value} {L' : List Nat} (hx : AX LTw w b v' L') (hne : ∀ g, v'.ownBlock = some g → g ≠ r) (hr : L'.Pairwise (· < ·)) : RLg (w.setCell ⟨r, 1, none⟩ v') r b on v' L' :=
  ⟨two_set1 h.c v', hx.fr (Fr.set (S := (· = r)) (Fr.refl _ _) ⟨r, 1, none⟩ v' rfl) (fun g _ _ e s => hne g e s), hne, hr⟩
theorem RLg.turn (h : RLg w r b on v L) (n : Bool) : RLo w ((w.setCell ⟨r, 0, none⟩ (.bool n)).setCell ⟨r, 1, none⟩ (.slice none 0 0)) r b n v [] := by
  refine ⟨_, ⟨two_set1 (two_set0 h.c _) _, AX.nil _ _, (fun g e => by cases e), List.Pairwise.nil⟩, (Fr.set (S := (· = r)) (Fr.set (S := (· = r)) (Fr.refl _ _) ⟨r, 0, none⟩ _ rfl) ⟨r, 1, none⟩ _ rfl), .inr (.inl rfl)⟩
set_option maxHeartbeats 4000000 in
theorem rlstart_any (h : RLg w r b on v L) : Calls Tryd.prog 13 #[.pointer (some ⟨r, 0, none⟩)] w fun e w' => (on = true ∧ e = .returned (.int .i64 20) ∧ w' = w) ∨ (on = false ∧ e = .returned (.int .i64 0) ∧ RLo w w' r b true v []) := by
  have c0 := h.c0
  have c1 := h.c1
  have f0 := h.fz 0
  have f1 := h.fz 1
  cases on with
  | true =>
    clear h
    go_enter Tryd.func13, Tryd.ntmps13
    go_wp2_with fail
    go_ret
    exact .inl ⟨by trivial, rfl, rfl⟩
  | false =>
    have H := hid_as (h.turn true)
    clear h
    go_enter Tryd.func13, Tryd.ntmps13
    go_wp2_with fail
    go_ret
    exact .inr ⟨by trivial, rfl, H.out⟩
set_option maxHeartbeats 4000000 in
theorem rlstop_any (h : RLg w r b on v L) : Calls Tryd.prog 15 #[.pointer (some ⟨r, 0, none⟩)] w fun e w' => (on = false ∧ e = .returned (.int .i64 20) ∧ w' = w) ∨ (on = true ∧ e = .returned (.int .i64 0) ∧ RLo w w' r b false v []) := by
  have c0 := h.c0
  have c1 := h.c1
  have f0 := h.fz 0
  have f1 := h.fz 1
  cases on with
  | false =>
    clear h
    go_enter Tryd.func15, Tryd.ntmps15
    go_wp2_with fail
    go_ret
    exact .inl ⟨by trivial, rfl, rfl⟩
  | true =>
    have H := hid_as (h.turn false)
    clear h
    go_enter Tryd.func15, Tryd.ntmps15
    go_wp2_with fail
    go_ret
    exact .inr ⟨by trivial, rfl, H.out⟩
set_option maxHeartbeats 4000000 in
theorem rlcoll_any (h : RLg w r b on v L) : Calls Tryd.prog 10 #[.pointer (some ⟨r, 0, none⟩)] w fun e w' => (on = false ∧ e = .returned (.tuple #[.slice none 0 0, .int .i64 20]) ∧ w' = w) ∨ (on = true ∧ e = .returned (.tuple #[v, .int .i64 0]) ∧ RLo w w' r b true v [] ∧ AX LTw w' b v L) := by
  obtain ⟨na, cap, rfl, _, _, _⟩ := h.ax.form okT_w64
  have c0 := h.c0
  have c1 := h.c1
  have f1 := h.fz 1
  cases on with
  | false =>
    clear h
    go_enter Tryd.func10, Tryd.ntmps10
    go_wp2_with fail
    go_ret2
    exact .inl ⟨by trivial, rfl, rfl⟩
  | true =>
    have H : Hid (RLo w (w.setCell ⟨r, 1, none⟩ (.slice none 0 0)) r b true (.slice na L.length cap) [] ∧ AX LTw (w.setCell ⟨r, 1, none⟩ (.slice none 0 0)) b (.slice na L.length cap) L) :=
      have k : Fr (· = r) w (w.setCell ⟨r, 1, none⟩ (.slice none 0 0)) := Fr.set (S := (· = r)) (Fr.refl _ _) ⟨r, 1, none⟩ _ rfl
      ⟨⟨_, h.put (AX.nil _ _) (fun g e => by cases e) List.Pairwise.nil, k, .inr (.inl rfl)⟩, h.ax.fr k (fun g _ _ e s => h.ne g e s)⟩
    clear h
    go_enter Tryd.func10, Tryd.ntmps10
    go_wp2_with fail
    go_ret2
    exact .inr ⟨by trivial, rfl, H.out⟩
set_option maxHeartbeats 8000000 in
theorem rlforget_any (h : RLg w r b on v L) (hb : b ≤ w.heap.size) (hl : L.length ≤ 100000) (x : Nat) :
    Calls Tryd.prog 8 #[.pointer (some ⟨r, 0, none⟩), .int .u64 (x : Int)] w fun e w' => e = .returned (.bool (decide (x ∈ L))) ∧ ∃ L', RLo w w' r b on v L' ∧ L'.length ≤ L.length ∧ ∀ q, q ∈ L' ↔ q ∈ L ∧ q ≠ x := by
  have ca := rlat_any h hl x
  by_cases c2 : x ∈ L
  · rw [decide_eq_true c2] at ca ⊢
    have HH : Hid (RLg w r b on v L ∧ b ≤ w.heap.size ∧ L.length ≤ 100000 ∧ x ∈ L) := ⟨h, hb, hl, c2⟩
    obtain ⟨na, cap, ev, hcap, hform, _⟩ := h.ax.form okT_w64
    subst ev
    have hz : na = none → cap = 0 := fun e => by
      rcases hform with ⟨_, q, _⟩ | ⟨g, q, _⟩
      · exact q
      · rw [e] at q; cases q
    have HZ : Hid ((na = none → cap = 0) ∧ L.length ≤ cap) := ⟨hz, hcap⟩
    clear h hb hl c2 hform hz hcap
    go_enter Tryd.func8, Tryd.ntmps8
    go_wp2_with fail
    with_reducible refine ca.mono ?_
    rintro e w1 ⟨k, rfl, hk0, lo, hi, nn, rfl⟩
    clear ca
    have kw : Kp w (w.drewN nn) := (Kp.refl w).drewN nn
    generalize w.drewN nn = w1 at *
    have hx := (memT_at HH.out.1.rise lo hi).1 HH.out.2.2.2
    have hk := (List.getElem?_eq_some_iff.1 hx).1
    have HP := hid_as (cutT_rise HH.out.1.rise hx)
    clear lo hi hk0 hx
    have R1 := HH.out.1.kp kw
    have src := R1.ax.src okT_w64
    have hcap := HZ.out.2
    obtain ⟨na1, p1, p2, p3⟩ := part_hiw okT_w64 na L.length cap k (by omega)
    obtain ⟨na2, s1, s2, s3⟩ := part_low okT_w64 na L.length cap (k + 1) (by omega)
    change ∀ w, (Instr.slice 26 _ _ _ _).run Tryd.prog w = _ at p1
    change ∀ w, (Instr.slice 26 _ _ _ _).run Tryd.prog w = _ at s1
    have a1 := src.hiw okT_w64 k p2 p3
    have a2 := src.loww okT_w64 (k + 1) hcap s2 s3
    have z1 : L.take k = [] → na1 = none → cap = 0 := fun _ e => HZ.out.1 (part_nilw p3 src e)
    have z2 : L.drop (k + 1) = [] → na2 = none → cap - (k + 1) = 0 := fun _ e => by rw [HZ.out.1 (part_nilw2 s3 src e)]; omega
    have y18 : IntKind.i64.wrap ((k : Int) + 1) = ((k + 1 : Nat) : Int) := by rw [IntKind.wrap_i64]; have := HH.out.2.2.1; omega
    have l1 : k = (L.take k).length := by rw [List.length_take]; omega
    have l2 : L.length - (k + 1) = (L.drop (k + 1)).length := by rw [List.length_drop]
    generalize hkk : k + 1 = kk at *
    generalize hm : L.length - kk = m at *
    generalize hc2 : cap - kk = c2 at *
    have HM2 : Hid (k + m ≤ L.length) := by show k + m ≤ L.length; omega
    clear src p2 p3 s2 s3 hm hc2 hkk
    have d0 := R1.c1
    obtain ⟨we, hwe⟩ : ∃ we, we = (w1.alloc (.cells #[] 29)).drew := ⟨_, rfl⟩
    have ke : Kp w1 we := by rw [hwe]; exact ((Kp.refl w1).alloc _).drew
    have de := (R1.kp ((Kp.refl w1).alloc (.cells #[] 29))).c1
    have ax0 : AX LTw we w1.heap.size (.slice (some ⟨w1.heap.size, 0, none⟩) 0 0) [] := by rw [hwe]; exact (AX.empty (T := LTw) w1).kp (Kp.refl _).drew
    obtain ⟨na3, n3, cap3, w3, r3, hn3, o3, f3, k3, j3⟩ := ax0.app okT_w64 (by rw [hwe]; simp) (a1.kp ke) l1 z1 (by have := HH.out.2.2.1; simp only [List.length_take, List.length_nil]; omega) 26
    have K3 : Kp w1 w3 := k3 w1 (Nat.le_refl _) ke
    rw [List.nil_append] at o3
    obtain ⟨na4, n4, cap4, w4, r4, hn4, o4, f4, k4, j4⟩ := o3.app okT_w64 K3.size (a2.kp K3) l2 z2 (by have := HH.out.2.2.1; simp only [List.length_take, List.length_drop]; omega) 26
    have K4 : Kp w1 w4 := k4 w1 (Nat.le_refl _) K3
    have r3' : (Builtin.append_ #[26, 26] 26 #[.slice (some ⟨w1.heap.size, 0, none⟩) 0 0, .slice na1 k cap]).run Tryd.prog (w1.alloc (.cells #[] 29)).drew = .ok (.slice na3 n3 cap3) w3 := by rw [hwe] at r3; exact r3
    have r4' : (Builtin.append_ #[26, 26] 26 #[.slice na3 n3 cap3, .slice na2 m c2]).run Tryd.prog w3 = .ok (.slice na4 n4 cap4) w4 := r4
    have d3 := (R1.kp K3).c1
    have R4 := R1.kp K4
    have d4 := R4.c1
    have z4 := R4.fz 1
    have hne : ∀ g, (Value.slice na4 n4 cap4).ownBlock = some g → g ≠ r := fun g hg => by
      have := (o4.up g hg).1
      have := R1.lt
      omega
    have F : Hid (∃ L', RLo w (w4.setCell ⟨r, 1, none⟩ (.slice na4 n4 cap4)) r b on (.slice na L.length cap) L' ∧ L'.length ≤ L.length ∧ ∀ q, q ∈ L' ↔ q ∈ L ∧ q ≠ x) := by
      refine ⟨_, ⟨_, R4.put (o4.low (Nat.le_trans HH.out.2.1 kw.size)) hne HP.out.1, (((kw.trans K4).fr _)).set ⟨r, 1, none⟩ _ rfl, ?_⟩, ?_, HP.out.2⟩
      · cases e : (Value.slice na4 n4 cap4).ownBlock with
        | none => exact .inr (.inl rfl)
        | some g => exact .inr (.inr ⟨g, rfl, Nat.le_trans kw.size (o4.up g e).1⟩)
      · rw [List.length_append, ← l1, ← l2]
        exact HM2.out
    clear HH HP HZ hcap a1 a2 z1 z2 l1 l2 kw R1 hwe ke ax0 r3 hn3 o3 f3 k3 j3 K3 r4 hn4 o4 f4 k4 j4 K4 R4 hne
    obtain ⟨n, hn⟩ : ∃ n, n = L.length := ⟨_, rfl⟩
    rw [← hn] at d0 de d3 d4 p1 s1
    have HF : Hid (n = L.length) := hn
    clear hn
    go_wp2_with fail
    go_region_law (first | (refine step_appw r3' (by rfl) (.tmp 15) (.tmp 21) (by rfl) (by rfl) (by rfl) (by rfl) ?_) | (refine step_appw r4' (by rfl) (.tmp 22) (.tmp 29) (by rfl) (by rfl) (by rfl) (by rfl) ?_))
    all_goals
      clear r3' r4' p1 s1
      go_wp2
      go_ret
      exact ⟨rfl, F.out⟩
  · rw [decide_eq_false c2] at ca ⊢
    have HS : Hid (∀ n, ∃ L', RLo w (w.drewN n) r b on v L' ∧ L'.length ≤ L.length ∧ ∀ q, q ∈ L' ↔ q ∈ L ∧ q ≠ x) := fun n => ⟨L, RLo.same h ((Kp.refl w).drewN n), Nat.le_refl _, fun q => ⟨fun hq => ⟨hq, fun e => c2 (by rw [← e]; exact hq)⟩, fun hq => hq.1⟩⟩
    clear h hl c2 hb
    go_enter Tryd.func8, Tryd.ntmps8
    go_wp2_with fail
    with_reducible refine ca.mono ?_
    rintro e w1 ⟨k, rfl, _, _, _, nn, rfl⟩
    clear ca
    go_wp2_with fail
    go_ret
    exact ⟨rfl, HS.out nn⟩
end

end Go.Proofs.YthkkcnnlfjchaaaDoor
