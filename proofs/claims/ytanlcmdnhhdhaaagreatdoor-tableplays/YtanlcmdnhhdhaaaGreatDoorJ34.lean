/- Joined: R53, R54. -/
import Derived.Test.YtanlcmdnhhdhaaaGreatDoorR52
import Derived.Test.YtanlcmdnhhdhaaaGreatDoorJ05
import Derived.Deep.RegionHeld3
import Derived.Deep.RegionWith
/- The document's second stage: set, Need, New. -/
namespace Go.Proofs.YtanlcmdnhhdhaaaGreatDoor
open Go.RowKit
set_option maxRecDepth 10000

theorem tabL_le {L : List LV} (ok : okL L) : tabL L ≤ 3 * L.length := tabI_le ok L.length (Nat.le_refl _)
/-- Other leaves are laid, the free table pages are counted anew. -/
theorem RQ.laid {w w1 w2 : World} {br bf : Nat} {v : Value} {L L' : List LV} {fr fr' : Int} {gone : Bool} {v' : Value} (h : RQ w br bf v L fr gone) (o : RO w v' L') (ok : okL L') (hb : ∀ b, v'.ownBlock = some b → b ≠ br ∧ b ≠ bf) (k : Kp w w1) (k2 : Kp (w1.setCell ⟨bf, 0, none⟩ (.int .i64 fr')) w2) :
    RQ (w2.setCell ⟨br, 0, none⟩ v') br bf v' L' fr' gone ∧ Fr (fun i => i = br ∨ i = bf) w (w2.setCell ⟨br, 0, none⟩ v') ∧ w2.cell? ⟨br, 0, none⟩ = some v ∧ w2.frozen? ⟨br, 0, none⟩ = false := by
  have h1 := h.kp k
  have f0 : Fr (fun i => i = br ∨ i = bf) w1 w2 := ((Fr.refl _ w1).set _ _ (.inr rfl)).trans (k2.fr _)
  have f1 : Fr (fun i => i = br ∨ i = bf) w1 (w2.setCell ⟨br, 0, none⟩ v') := f0.set _ _ (.inl rfl)
  have e1 : (w1.setCell ⟨bf, 0, none⟩ (.int .i64 fr')).heap[br]? = some (.cells #[v, .pointer (some ⟨bf, 0, none⟩), .int .i64 2100, .bool gone] 69 (0, 0)) := (heap_setCell_other w1 ⟨bf, 0, none⟩ br _ h.ne).trans h1.b
  have e2 : (w1.setCell ⟨bf, 0, none⟩ (.int .i64 fr')).heap[bf]? = some (.cells #[.int .i64 fr'] 3 (0, 0)) := heap_setCell_same w1 bf 0 _ _ _ h1.f
  have e3 := (k2.block br (Array.getElem?_eq_some_iff.1 e1).1).trans e1
  have e4 := (k2.block bf (Array.getElem?_eq_some_iff.1 e2).1).trans e2
  refine ⟨⟨heap_setCell_same _ br 0 _ _ _ e3, (heap_setCell_other _ ⟨br, 0, none⟩ bf _ (fun c => h.ne c.symm)).trans e4, (o.kp k).fr f1 (fun b hb' c => c.elim (hb b hb').1 (hb b hb').2), hb, h.ne, ok⟩, (k.fr _).trans f1, ?_, frozen_of_row w2 br 0 _ _ e3⟩
  rw [cell_of_row w2 br 0 _ _ _ e3]; rfl
/-- Are there table pages enough? -/
def setB (fr : Int) (L L' : List LV) : Bool := decide ((tabL L' : Int) - (tabL L : Int) ≤ fr)
set_option maxHeartbeats 8000000 in
theorem rset_any {w : World} {br bf : Nat} {v : Value} {L L' : List LV} {fr : Int} {gone : Bool} {na : Option Addr} {n cap : Nat} (h : RQ w br bf v L fr gone) (hl : L.length ≤ 1000000) (o : RO w (.slice na n cap) L') (ok : okL L') (hl' : L'.length ≤ 1000000) (hb : ∀ b, (Value.slice na n cap).ownBlock = some b → b ≠ br ∧ b ≠ bf) (hf : -2000000000 ≤ fr ∧ fr ≤ 2000000000) :
    Calls Tryz.prog 73 #[.pointer (some ⟨br, 0, none⟩), .slice na n cap] w fun e w' => e = .returned (.bool (setB fr L L')) ∧ Hid ((setB fr L L' = true → RQ w' br bf (.slice na n cap) L' (fr - ((tabL L' : Int) - (tabL L : Int))) gone) ∧ (setB fr L L' = false → RQ w' br bf v L fr gone) ∧ Fr (fun i => i = br ∨ i = bf) w w') := by
  obtain ⟨na0, cap0, rfl, _⟩ := h.slice
  have KA : Aside (∀ P : KeptBy w, Calls Tryz.prog 80 #[.slice na n cap] P.v fun e w' => e = .returned (.int .i64 (tabL L' : Nat)) ∧ Kp P.v w') := fun P => rtables_any (o.kp P.k) ok hl'
  have KB : Aside (∀ P : KeptBy w, Calls Tryz.prog 80 #[.slice na0 L.length cap0] P.v fun e w' => e = .returned (.int .i64 (tabL L : Nat)) ∧ Kp P.v w') := fun P => rtables_any ((h.kp P.k).ol) h.ok hl
  have x0 : ∀ P : KeptBy w, P.v.cell? ⟨br, 0, none⟩ = some (.slice na0 L.length cap0) := fun P => (h.kp P.k).c0
  have NE : Nonempty (KeptBy w) := KeptBy.some
  have t1 := tabL_le h.ok
  have t2 := tabL_le ok
  unfold setB
  have z1 : (tabL L : Int) ≤ 3000000 := by omega
  have z2 : (tabL L' : Int) ≤ 3000000 := by omega
  have HH : Hid (RQ w br bf (.slice na0 L.length cap0) L fr gone ∧ RO w (.slice na n cap) L' ∧ okL L' ∧ (∀ b, (Value.slice na n cap).ownBlock = some b → b ≠ br ∧ b ≠ bf)) := ⟨h, o, ok, hb⟩
  obtain ⟨f1, f2⟩ := hf
  clear h o ok hl hl' hb t1 t2
  generalize tabL L = t at *
  generalize tabL L' = t' at *
  generalize hn0 : L.length = n0 at *
  clear hn0
  obtain ⟨bb, hbb⟩ : ∃ bb, bb = decide ((t' : Int) - (t : Int) ≤ fr) := ⟨_, rfl⟩
  obtain ⟨f', hf'⟩ : ∃ f', f' = fr - ((t' : Int) - (t : Int)) := ⟨_, rfl⟩
  rw [← hbb, ← hf']
  have HC : Hid (bb = decide ((t' : Int) - (t : Int) ≤ fr) ∧ f' = fr - ((t' : Int) - (t : Int))) := ⟨hbb, hf'⟩
  clear hbb hf'
  go_enter Tryz.func73, Tryz.ntmps73
  go_wp2_with fail
  refine wp_region_kept mixed (by kernel_rfl) ?_
  repeat (go_big_quiet_step (first | exact rfl | (go_at_call 80; go_must (first | (with_reducible refine Calls.kept_of (KA.out _)) | (with_reducible refine Calls.kept_of (KB.out _))))))
  refine wpQuiet_nil ?_
  intro _ hw'
  obtain ⟨⟨wq, kq⟩, hw''⟩ := hw'
  subst hw''
  rename_i w1
  have H1 : Hid (Kp w w1) := kq
  have R1 := HH.out.1.kp kq
  have c1 := R1.c1
  have cf := R1.cf
  have zf := R1.zf 0
  have zb := R1.zb 0
  have c0 := R1.c0
  obtain ⟨dd, hd⟩ : ∃ dd : Int, dd = (t' : Int) - (t : Int) := ⟨_, rfl⟩
  rw [← hd]
  have z3 : dd ≤ 3000000 := by omega
  have z4 : -3000000 ≤ dd := by omega
  have HC' : Hid (bb = decide (dd ≤ fr) ∧ f' = fr - dd) := by rw [hd]; exact HC.out
  clear HC
  clear KA KB x0 NE R1 kq hd
  by_cases c : dd ≤ fr
  · have y1 : ¬ fr < dd := by omega
    have y2 : decide (fr < dd) = false := decide_eq_false y1
    have HE := HH.out.1.laid HH.out.2.1 HH.out.2.2.1 HH.out.2.2.2 H1.out (fr' := f') (Kp.drew (Kp.refl _))
    obtain ⟨E1, E2, y4, y5⟩ := HE
    have HE' : Hid (RQ ((w1.setCell ⟨bf, 0, none⟩ (.int .i64 f')).drew.setCell ⟨br, 0, none⟩ (.slice na n cap)) br bf (.slice na n cap) L' f' gone ∧ Fr (fun i => i = br ∨ i = bf) w ((w1.setCell ⟨bf, 0, none⟩ (.int .i64 f')).drew.setCell ⟨br, 0, none⟩ (.slice na n cap))) := ⟨E1, E2⟩
    have y3 : fr - dd = f' := HC'.out.2.symm
    have hc : Hid (bb = true) := HC'.out.1.trans (decide_eq_true c)
    clear E1 E2 c y1 HC'
    go_wp2_with fail
    go_region
    go_wp2_with fail
    go_ret
    exact ⟨by rw [hc.out]; rfl, fun _ => HE'.out.1, fun c => (by rw [hc.out] at c; cases c), HE'.out.2⟩
  · have y1 : fr < dd := by omega
    have y2 : decide (fr < dd) = true := decide_eq_true y1
    have HE : Hid (RQ w1 br bf (.slice na0 n0 cap0) L fr gone ∧ Fr (fun i => i = br ∨ i = bf) w w1) := ⟨HH.out.1.kp H1.out, H1.out.fr _⟩
    have hc : Hid (bb = false) := HC'.out.1.trans (decide_eq_false c)
    clear c HC'
    go_wp2_with fail
    go_ret
    exact ⟨by rw [hc.out]; rfl, fun c => (by rw [hc.out] at c; cases c), fun _ => HE.out.1, HE.out.2⟩
theorem mem_with {L : List LV} {x v : LV} (h : v ∈ withL L x) : v ∈ L ∨ v = x := by
  unfold withL at h
  simp only [List.mem_append, List.mem_singleton] at h
  rcases h with (h | h) | h
  · exact .inl (List.mem_of_mem_take h)
  · exact .inr h
  · exact .inl (List.mem_of_mem_drop h)
theorem okL_with {L : List LV} {x : LV} (h : okL L) (hx : (x.l = 2 ∨ x.l = 3) ∧ x.g < 268435968 ∧ x.x < 2100 ∧ (x.l = 2 → x.x + 511 < 2100 ∧ x.g ≤ 268435456)) : okL (withL L x) := fun v hv => by
  rcases mem_with hv with c | c
  · exact h v c
  · rw [c]; exact hx
theorem len_with (L : List LV) (x : LV) : (withL L x).length = L.length + 1 := by
  have := kW_le L x.g
  unfold withL
  simp only [List.length_append, List.length_take, List.length_drop, List.length_cons, List.length_nil]
  omega
def nLf (page : Nat) : LV := ⟨page, 0, false, false, false, 0, 3⟩
def needL (gone : Bool) (L : List LV) (page : Nat) : Int := if gone = true ∨ 268435456 ≤ page ∨ 0 ≤ atI L page then 0 else (tabL (withL L (nLf page)) : Int) - (tabL L : Int)
set_option maxHeartbeats 8000000 in
theorem rneed_any {w : World} {br bf : Nat} {v : Value} {L : List LV} {fr : Int} {gone : Bool} (h : RQ w br bf v L fr gone) (hl : L.length ≤ 900000) (page : Nat) (hp : page < 18446744073709551616) :
    Calls Tryz.prog 43 #[.pointer (some ⟨br, 0, none⟩), .int .u64 (page : Int)] w fun e w' => e = .returned (.int .i64 (needL gone L page)) ∧ Kp w w' := by
  obtain ⟨na, cap, rfl, _⟩ := h.slice
  have c0 := h.c0
  have c3 := h.c3
  have ka := rat_any h (by omega) page hp
  unfold needL
  by_cases g1 : gone = true
  · subst g1
    rw [if_pos (.inl rfl)]
    clear h ka
    go_enter Tryz.func43, Tryz.ntmps43
    go_wp2_with fail
    go_ret
    exact ⟨rfl, Kp.refl _⟩
  · obtain rfl : gone = false := by simpa using g1
    by_cases g2 : 268435456 ≤ page
    · have y1 : decide ((268435456 : Int) ≤ (page : Int)) = true := decide_eq_true (by omega)
      have y2 : decide (268435456 ≤ page) = true := decide_eq_true g2
      rw [if_pos (.inr (.inl g2))]
      clear h ka g1 g2 hp
      go_enter Tryz.func43, Tryz.ntmps43
      go_wp2_with fail
      go_ret
      exact ⟨rfl, Kp.refl _⟩
    · have y1 : decide ((268435456 : Int) ≤ (page : Int)) = false := decide_eq_false (by omega)
      have y2 : decide (268435456 ≤ page) = false := decide_eq_false g2
      by_cases g3 : 0 ≤ atI L page
      · rw [if_pos (.inr (.inr g3))]
        generalize atI L page = k at *
        clear h g1 g2 hp
        go_enter Tryz.func43, Tryz.ntmps43
        go_wp2_with fail
        with_reducible refine ka.mono ?_
        rintro e w' ⟨rfl, rfl⟩
        go_wp2_with fail
        go_ret
        exact ⟨rfl, Kp.refl _⟩
      · rw [if_neg (fun c => c.elim g1 (fun c => c.elim g2 g3))]
        have y3 : ¬ 0 ≤ atI L page := g3
        have okx := okL_with (x := nLf page) h.ok ⟨.inr rfl, by show page < 268435968; omega, by show 0 < 2100; decide, fun c => by cases c⟩
        have lw := len_with L (nLf page)
        have KW : Aside (∀ v, Kp w v → Calls Tryz.prog 74 #[.slice na L.length cap, .agg #[.int .u64 (page : Int), .int .i64 0, .bool false, .bool false, .bool false, .int .i64 0, .int .i64 3]] v fun e w' => (∃ na' n' cap', e = .returned (.slice na' n' cap') ∧ Hid (RO w' (.slice na' n' cap') (withL L (nLf page)))) ∧ Kp v w') := fun v k => (rwith_any (h.kp k).ol (by omega) (nLf page)).mono fun e w' ⟨⟨a, b, c, e1, e2⟩, e3⟩ => ⟨⟨a, b, c, e1, e2.out.1⟩, e3⟩
        have KT : Aside (∀ v a b c, RO v (.slice a b c) (withL L (nLf page)) → Calls Tryz.prog 80 #[.slice a b c] v fun e w' => e = .returned (.int .i64 (tabL (withL L (nLf page)) : Nat)) ∧ Kp v w') := fun v a b c o => rtables_any o okx (by omega)
        have KL : Aside (∀ v, Kp w v → Calls Tryz.prog 80 #[.slice na L.length cap] v fun e w' => e = .returned (.int .i64 (tabL L : Nat)) ∧ Kp v w') := fun v k => rtables_any (h.kp k).ol h.ok (by omega)
        have t1 := tabL_le h.ok
        have t2 := tabL_le okx
        have z1 : (tabL L : Int) ≤ 3000000 := by omega
        have z2 : (tabL (withL L (nLf page)) : Int) ≤ 3000000 := by omega
        have KC : Aside (∀ v, Kp w v → v.cell? ⟨br, 0, none⟩ = some (.slice na L.length cap)) := fun v k => (h.kp k).c0
        generalize withL L (nLf page) = L' at *
        generalize tabL L = t at *
        generalize tabL L' = t' at *
        generalize atI L page = k at *
        generalize L.length = n0 at *
        clear h g1 g2 g3 hp okx lw t1 t2
        go_enter Tryz.func43, Tryz.ntmps43
        go_wp2_with fail
        with_reducible refine ka.mono ?_
        rintro e w' ⟨rfl, rfl⟩
        go_wp2_with fail
        go_region_held3 (fun v => v.cell? ⟨br, 0, none⟩ = some (.slice na n0 cap))
          (first | go_keep | exact KC.out _ K3 | exact KC.out _ K2 | exact KC.out _ K1)
          (first | (go_at_call 74; with_reducible refine (KW.out _ (Kp.drew (Kp.refl _))).mono ?_; rintro e w1 ⟨⟨a1, n1, p1, rfl, O1⟩, K1'⟩; have K1 := (Kp.drew (Kp.refl _)).trans K1') | (go_at_call 80; first | (with_reducible refine (KT.out _ _ _ _ O1.out).mono ?_; rintro e w2 ⟨rfl, K2'⟩; have K2 := K1.trans K2') | (with_reducible refine (KL.out _ K2).mono ?_; rintro e w3 ⟨rfl, K3'⟩; have K3 := K2.trans K3')))
        have hw : IntKind.i64.wrap ((t' : Int) - (t : Int)) = (t' : Int) - (t : Int) := by rw [IntKind.wrap_i64]; omega
        rw [hw]
        have HK : Hid (Kp _ w3) := K3
        clear hw KW KT KL KC O1 K1 K1' K2 K2' K3 K3' ka
        go_wp2_with fail
        go_ret
        exact ⟨rfl, HK.out⟩
end Go.Proofs.YtanlcmdnhhdhaaaGreatDoor

/- The document's second stage: Map. -/
namespace Go.Proofs.YtanlcmdnhhdhaaaGreatDoor
open Go.RowKit
set_option maxRecDepth 10000

/-- What a step of the document's leaves. -/
def RN (w w' : World) (br bf : Nat) (v : Value) (L' : List LV) (fr' : Int) (gone' : Bool) : Prop := ∃ v', RQ w' br bf v' L' fr' gone' ∧ Fr (fun i => i = br ∨ i = bf ∨ v.ownBlock = some i) w w' ∧ ∀ b, v'.ownBlock = some b → v.ownBlock = some b ∨ w.heap.size ≤ b
section
variable {w w' : World} {br bf : Nat} {v : Value} {L L' : List LV} {fq fq' : Int} {gone gone' : Bool}
theorem RN.same (h : RQ w br bf v L fq gone) (k : Kp w w') : RN w w' br bf v L fq gone := ⟨v, h.kp k, k.fr _, fun _ hb => .inl hb⟩
end
/-- A list was laid anew and set. -/
theorem rset_new {w w1 : World} {br bf : Nat} {v : Value} {L L' : List LV} {fr : Int} {gone : Bool} {na : Option Addr} {n cap : Nat} (h : RQ w br bf v L fr gone) (hl : L.length ≤ 1000000) (k : Kp w w1) (o : RO w1 (.slice na n cap) L') (ok : okL L') (hl' : L'.length ≤ 1000000) (hb : ∀ b, (Value.slice na n cap).ownBlock = some b → w.heap.size ≤ b) (hf : -2000000000 ≤ fr ∧ fr ≤ 2000000000) :
    Calls Tryz.prog 73 #[.pointer (some ⟨br, 0, none⟩), .slice na n cap] w1 fun e w' => e = .returned (.bool (setB fr L L')) ∧ Hid ((setB fr L L' = true → RN w w' br bf v L' (fr - ((tabL L' : Int) - (tabL L : Int))) gone) ∧ (setB fr L L' = false → RN w w' br bf v L fr gone)) := by
  have l1 := h.lt
  have l2 := h.ltf
  refine (rset_any (h.kp k) hl o ok hl' (fun b hb' => by have := hb b hb'; omega) hf).mono fun e w' ⟨e1, e2⟩ => ⟨e1, ?_⟩
  obtain ⟨a1, a2, a3⟩ := e2.out
  have f : Fr (fun i => i = br ∨ i = bf ∨ v.ownBlock = some i) w w' := (k.fr _).trans (a3.mono fun i _ c => c.elim .inl (fun c => .inr (.inl c)))
  exact ⟨fun c => ⟨_, a1 c, f, fun b hb' => .inr (hb b hb')⟩, fun c => ⟨_, a2 c, f, fun b hb' => .inl hb'⟩⟩
def rmapR (gone : Bool) (L : List LV) (fr : Int) (page : Nat) (f : Int) (x : LV) (r q : Bool) (s : Int) : Int := if gone = true then 23 else if badN page (decide (0 ≤ f) && decide (f < 2100)) r q s ≠ 0 then badN page (decide (0 ≤ f) && decide (f < 2100)) r q s else if 0 ≤ atI L page then 22 else if setB fr L (withL L x) = true then 0 else 11
set_option maxHeartbeats 8000000 in
theorem rmap_any {w : World} {br bf : Nat} {v : Value} {L : List LV} {fr : Int} {gone : Bool} (h : RQ w br bf v L fr gone) (hl : L.length ≤ 900000) (page : Nat) (hp : page < 18446744073709551616) (f : Int) (r q x : Bool) (s : Int) (hf : -1000000000 ≤ fr ∧ fr ≤ 1000000000) (y : LV) (hy : y = ⟨page, f.toNat, r, q, x, s, 3⟩) (rr : Int) (hrr : rr = rmapR gone L fr page f y r q s) :
    Calls Tryz.prog 30 #[.pointer (some ⟨br, 0, none⟩), .int .u64 (page : Int), .int .i64 f, .agg #[.bool r, .bool q, .bool x], .int .i64 s] w fun e w' => e = .returned (.int .i64 rr) ∧ Hid ((rr = 0 → RN w w' br bf v (withL L y) (fr - ((tabL (withL L y) : Int) - (tabL L : Int))) gone) ∧ (rr ≠ 0 → RN w w' br bf v L fr gone)) := by
  obtain ⟨na, cap, rfl, _⟩ := h.slice
  have HR : Hid (rr = rmapR gone L fr page f y r q s) := hrr
  obtain ⟨w1, hw1⟩ : ∃ w1, w1 = w.alloc (.cells #[.bool r, .bool q, .bool x] 39) := ⟨_, rfl⟩
  have k1 : Kp w w1 := by rw [hw1]; exact (Kp.refl w).alloc _
  have P1 : PX w1 w.heap.size r q x := by rw [hw1]; exact PX.made w r q x
  have h1 := h.kp k1
  have c3 := h1.c3
  have RS : Hid (∀ u, Kp w u → RN w u br bf (.slice na L.length cap) L fr gone) := fun u k => RN.same h k
  by_cases g1 : gone = true
  · have HE : Hid (rr = 23) := by show rr = 23; rw [HR.out]; unfold rmapR; rw [if_pos g1]
    subst g1
    rw [hw1] at c3
    have HK : Hid (Kp w (w.alloc (.cells #[.bool r, .bool q, .bool x] 39))) := by rw [← hw1]; exact k1
    clear h h1 hrr HR P1 k1 hw1
    go_enter Tryz.func30, Tryz.ntmps30
    go_wp2_with fail
    go_ret
    exact ⟨by rw [HE.out]; rfl, fun c => (by rw [HE.out] at c; cases c), fun _ => RS.out _ HK.out⟩
  obtain rfl : gone = false := by simpa using g1
  obtain ⟨fs, hfs⟩ : ∃ fs, fs = (decide (0 ≤ f) && decide (f < 2100)) := ⟨_, rfl⟩
  obtain ⟨bd, hbd⟩ : ∃ bd, bd = badN page fs r q s := ⟨_, rfl⟩
  have KB : Aside (∀ P : KeptBy w1, Calls Tryz.prog 71 #[.int .u64 (page : Int), .bool fs, .agg #[.bool r, .bool q, .bool x], .int .i64 s] P.v fun e w' => e = .returned (.int .i64 bd) ∧ Kp P.v w') := fun P => by rw [hbd]; exact rbad_any page fs r q x s P.v
  obtain ⟨k, hk⟩ : ∃ k, k = atI L page := ⟨_, rfl⟩
  have KA : Aside (∀ u, Kp w u → Calls Tryz.prog 72 #[.pointer (some ⟨br, 0, none⟩), .int .u64 (page : Int)] u fun e w' => e = .returned (.int .i64 k) ∧ w' = u) := fun u k' => by rw [hk]; exact rat_any (h.kp k') (by omega) page hp
  have x2 : ∀ P : KeptBy w1, P.v.cell? ⟨br, 2, none⟩ = some (.int .i64 2100) := fun P => (h1.kp P.k).c2
  have u0 : ∀ P : KeptBy w1, P.v.cell? ⟨w.heap.size, 0, none⟩ = some (.bool r) := fun P => (P1.kp P.k).c0
  have u1 : ∀ P : KeptBy w1, P.v.cell? ⟨w.heap.size, 1, none⟩ = some (.bool q) := fun P => (P1.kp P.k).c1
  have u2 : ∀ P : KeptBy w1, P.v.cell? ⟨w.heap.size, 2, none⟩ = some (.bool x) := fun P => (P1.kp P.k).c2
  have NE : Nonempty (KeptBy w1) := KeptBy.some
  have HB : Hid (∀ P : KeptBy w1, P.v.cell? ⟨w.heap.size, 0, none⟩ = some (.bool r) ∧ P.v.cell? ⟨w.heap.size, 1, none⟩ = some (.bool q) ∧ P.v.cell? ⟨w.heap.size, 2, none⟩ = some (.bool x) ∧ P.v.cell? ⟨br, 0, none⟩ = some (.slice na L.length cap) ∧ Kp w P.v) := fun P => ⟨u0 P, u1 P, u2 P, (h1.kp P.k).c0, k1.trans P.k⟩
  have HH : Hid (RQ w br bf (.slice na L.length cap) L fr false ∧ L.length ≤ 900000 ∧ (-1000000000 ≤ fr ∧ fr ≤ 1000000000) ∧ bd = badN page fs r q s ∧ fs = (decide (0 ≤ f) && decide (f < 2100)) ∧ rr = rmapR false L fr page f y r q s ∧ y = ⟨page, f.toNat, r, q, x, s, 3⟩ ∧ k = atI L page) := ⟨h, hl, hf, hbd, hfs, hrr, hy, hk⟩
  have hgd : (decide (0 ≤ f) = true ∧ fs = decide (f < 2100)) ∨ (decide (0 ≤ f) = false ∧ fs = false) := by
    by_cases c : 0 ≤ f
    · exact .inl ⟨decide_eq_true c, by rw [hfs, decide_eq_true c, Bool.true_and]⟩
    · exact .inr ⟨decide_eq_false c, by rw [hfs, decide_eq_false c, Bool.false_and]⟩
  clear h h1 hrr HR P1 g1 hfs hbd hy hf hl hp k1 hk
  rcases hgd with ⟨g2, rfl⟩ | ⟨g2, rfl⟩
  · go_enter Tryz.func30, Tryz.ntmps30
    rw [hw1] at c3
    go_wp2_with fail
    rw [← hw1]
    refine wp_region_kept mixed (by kernel_rfl) ?_
    repeat (go_big_quiet_step (first | exact rfl | (go_at_call 71; with_reducible refine Calls.kept_of (KB.out _))))
    refine wpQuiet_nil ?_
    intro _ hw'
    obtain ⟨⟨wq, kq⟩, hw''⟩ := hw'
    subst hw''
    rename_i w2
    have p0 : w2.cell? ⟨w.heap.size, 0, none⟩ = some (.bool r) := (HB.out ⟨w2, kq⟩).1
    have p1 : w2.cell? ⟨w.heap.size, 1, none⟩ = some (.bool q) := (HB.out ⟨w2, kq⟩).2.1
    have p2 : w2.cell? ⟨w.heap.size, 2, none⟩ = some (.bool x) := (HB.out ⟨w2, kq⟩).2.2.1
    have c0 : w2.cell? ⟨br, 0, none⟩ = some (.slice na L.length cap) := (HB.out ⟨w2, kq⟩).2.2.2.1
    have kw : Kp w w2 := (HB.out ⟨w2, kq⟩).2.2.2.2
    have RW : Hid (RN w w2 br bf (.slice na L.length cap) L fr false) := RS.out _ kw
    have ka := KA.out w2 kw
    have HW : Hid (Kp w w2) := kw
    clear x2 u0 u1 u2 NE KB HB kq hw1 c3 KA RS kw
    by_cases c1 : bd = 0
    · obtain ⟨h, hl, hf, a1, a2, a3, a4, a5⟩ := HH.out
      have er : rr = if 0 ≤ k then 22 else if setB fr L (withL L y) = true then 0 else 11 := by
        rw [a3]; unfold rmapR; rw [if_neg (by decide), ← a2, ← a1, if_neg (fun c => c c1), ← a5]
      have pg : page < 268435456 ∧ f < 2100 := by
        rw [c1] at a1
        unfold badN at a1
        by_cases c : 268435456 ≤ page ∨ decide (f < 2100) = false
        · rw [if_pos c] at a1; cases a1
        · refine ⟨?_, ?_⟩
          · exact Decidable.byContradiction fun c' => c (.inl (by omega))
          · exact Decidable.byContradiction fun c' => c (.inr (decide_eq_false c'))
      have y0 : 0 ≤ f := of_decide_eq_true g2
      obtain ⟨fn, rfl⟩ : ∃ fn : Nat, f = (fn : Int) := ⟨f.toNat, by omega⟩
      rw [Int.toNat_natCast] at a4
      have oky : okL (withL L y) := okL_with h.ok (by rw [a4]; exact ⟨.inr rfl, by show page < 268435968; omega, by show fn < 2100; omega, fun c => by cases c⟩)
      have lw := len_with L y
      have KW : Aside (∀ v, Kp w2 v → Calls Tryz.prog 74 #[.slice na L.length cap, .agg #[.int .u64 (page : Int), .int .i64 (fn : Int), .bool r, .bool q, .bool x, .int .i64 s, .int .i64 3]] v fun e w' => (∃ na' n' cap', e = .returned (.slice na' n' cap') ∧ Hid (RO w' (.slice na' n' cap') (withL L y) ∧ (∀ b, (Value.slice na' n' cap').ownBlock = some b → w.heap.size ≤ b) ∧ Kp w w')) ∧ Kp v w') := fun v k' => by
        have := rwith_any (h.kp (HW.out.trans k')).ol (by omega) y
        rw [a4] at this ⊢
        exact this.mono fun e w' ⟨⟨a, b, c, e1, e2⟩, e3⟩ => ⟨⟨a, b, c, e1, e2.out.1, fun b' hb' => Nat.le_trans (HW.out.trans k').size (e2.out.2 b' hb'), (HW.out.trans k').trans e3⟩, e3⟩
      have KS : Aside (∀ v a b c, (RO v (.slice a b c) (withL L y) ∧ (∀ b', (Value.slice a b c).ownBlock = some b' → w.heap.size ≤ b') ∧ Kp w v) → Calls Tryz.prog 73 #[.pointer (some ⟨br, 0, none⟩), .slice a b c] v fun e w' => e = .returned (.bool (setB fr L (withL L y))) ∧ Hid ((setB fr L (withL L y) = true → RN w w' br bf (.slice na L.length cap) (withL L y) (fr - ((tabL (withL L y) : Int) - (tabL L : Int))) false) ∧ (setB fr L (withL L y) = false → RN w w' br bf (.slice na L.length cap) L fr false))) := fun v a b c ⟨o1, o2, o3⟩ => rset_new h (by omega) o3 o1 oky (by omega) o2 (by omega)
      obtain ⟨sb, hsb⟩ : ∃ sb, sb = setB fr L (withL L y) := ⟨_, rfl⟩
      rw [← hsb] at KS er
      subst c1
      clear h hl hf a1 a2 a3 a4 a5 pg hsb oky lw HH y0
      go_wp2_with fail
      with_reducible refine ka.mono ?_
      rintro e w' ⟨rfl, rfl⟩
      clear ka
      by_cases c2 : 0 ≤ k
      · rw [if_pos c2] at er
        have HE : Hid (rr = 22) := er
        clear er KW KS
        go_wp2_with fail
        go_ret
        exact ⟨by rw [HE.out]; rfl, fun c => (by rw [HE.out] at c; cases c), fun _ => RW.out⟩
      · rw [if_neg c2] at er
        have HE : Hid (rr = if sb = true then 0 else 11) := er
        clear er
        go_wp2_with fail
        go_region_with (first | (go_at_call 74; with_reducible refine (KW.out _ (by first | exact Kp.refl _ | exact (Kp.refl _).drew | exact (Kp.refl _).drewN _)).mono ?_; rintro e w3 ⟨⟨a1, n1, p1, rfl, O1⟩, K3⟩) | (go_at_call 73; with_reducible refine (KS.out _ _ _ _ O1.out).mono ?_; rintro e w4 ⟨rfl, S4⟩))
        all_goals
          clear KW KS O1 K3
          cases sb
          · have HE' : Hid (rr = 11) := HE.out
            go_wp2_with fail
            go_ret
            exact ⟨by rw [HE'.out]; rfl, fun c => (by rw [HE'.out] at c; cases c), fun _ => S4.out.2 trivial⟩
          · have HE' : Hid (rr = 0) := HE.out
            go_wp2_with fail
            go_ret
            exact ⟨by rw [HE'.out]; rfl, fun _ => S4.out.1 trivial, fun c => absurd HE'.out c⟩
    · have HE : Hid (rr = bd ∧ bd ≠ 0) := ⟨by obtain ⟨_, _, _, a1, a2, a3, _⟩ := HH.out; rw [a3]; unfold rmapR; rw [if_neg (by decide), ← a2, ← a1, if_pos c1], c1⟩
      have y1 : (bd == 0) = false := by rw [beq_eq_false_iff_ne]; exact c1
      have y2 : (bd != 0) = true := by rw [bne_iff_ne]; exact c1
      have y3 : decide (bd = 0) = false := decide_eq_false c1
      clear ka
      go_wp2_with fail
      go_ret
      exact ⟨by rw [HE.out.1]; rfl, fun c => absurd (HE.out.1 ▸ c) HE.out.2, fun _ => RW.out⟩
  · go_enter Tryz.func30, Tryz.ntmps30
    rw [hw1] at c3
    go_wp2_with fail
    rw [← hw1]
    refine wp_region_kept mixed (by kernel_rfl) ?_
    repeat (go_big_quiet_step (first | exact rfl | (go_at_call 71; with_reducible refine Calls.kept_of (KB.out _))))
    refine wpQuiet_nil ?_
    intro _ hw'
    obtain ⟨⟨wq, kq⟩, hw''⟩ := hw'
    subst hw''
    rename_i w2
    have p0 : w2.cell? ⟨w.heap.size, 0, none⟩ = some (.bool r) := (HB.out ⟨w2, kq⟩).1
    have p1 : w2.cell? ⟨w.heap.size, 1, none⟩ = some (.bool q) := (HB.out ⟨w2, kq⟩).2.1
    have p2 : w2.cell? ⟨w.heap.size, 2, none⟩ = some (.bool x) := (HB.out ⟨w2, kq⟩).2.2.1
    have c0 : w2.cell? ⟨br, 0, none⟩ = some (.slice na L.length cap) := (HB.out ⟨w2, kq⟩).2.2.2.1
    have kw : Kp w w2 := (HB.out ⟨w2, kq⟩).2.2.2.2
    have RW : Hid (RN w w2 br bf (.slice na L.length cap) L fr false) := RS.out _ kw
    have ka := KA.out w2 kw
    have HW : Hid (Kp w w2) := kw
    clear x2 u0 u1 u2 NE KB HB kq hw1 c3 KA RS kw
    by_cases c1 : bd = 0
    · exfalso
      obtain ⟨_, _, _, a1, _⟩ := HH.out
      rw [c1] at a1
      unfold badN at a1
      rw [if_pos (.inr rfl)] at a1
      cases a1
    · have HE : Hid (rr = bd ∧ bd ≠ 0) := ⟨by obtain ⟨_, _, _, a1, a2, a3, _⟩ := HH.out; rw [a3]; unfold rmapR; rw [if_neg (by decide), ← a2, ← a1, if_pos c1], c1⟩
      have y1 : (bd == 0) = false := by rw [beq_eq_false_iff_ne]; exact c1
      have y2 : (bd != 0) = true := by rw [bne_iff_ne]; exact c1
      have y3 : decide (bd = 0) = false := decide_eq_false c1
      clear ka
      go_wp2_with fail
      go_ret
      exact ⟨by rw [HE.out.1]; rfl, fun c => absurd (HE.out.1 ▸ c) HE.out.2, fun _ => RW.out⟩
end Go.Proofs.YtanlcmdnhhdhaaaGreatDoor
