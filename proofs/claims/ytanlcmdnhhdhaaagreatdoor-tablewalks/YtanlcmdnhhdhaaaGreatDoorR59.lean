/- The document's second stage: Unmap. -/
import Derived.Test.YtanlcmdnhhdhaaaGreatDoorJ37
namespace Go.Proofs.YtanlcmdnhhdhaaaGreatDoor
open Go.RowKit
set_option maxRecDepth 10000

/-- What Unmap answers. -/
def runR (gone : Bool) (L : List LV) (fr : Int) (page : Nat) : Int := if gone = true ∨ ¬ 0 ≤ atI L page then 23 else if lL L (atI L page).toNat = 2 ∧ fr < 1 then 11 else 0
def RUn (w w' : World) (br bf : Nat) (v : Value) (L : List LV) (fr : Int) (page : Nat) (fx : Nat) : Prop :=
  ∃ (L1 : List LV) (fr1 : Int) (k : Nat) (x : LV), Sp1 L fr page L1 fr1 ∧ L1.findIdx? (hitL page) = some k ∧ L1[k]? = some x ∧ fx = x.x ∧ (setB fr1 L1 (rmvL L1 k) = true → RN w w' br bf v (rmvL L1 k) (fr1 - ((tabL (rmvL L1 k) : Int) - (tabL L1 : Int))) false) ∧ (setB fr1 L1 (rmvL L1 k) = false → RN w w' br bf v L1 fr1 false)
set_option maxHeartbeats 8000000 in
set_option maxRecDepth 100000 in
theorem runmap_any {w : World} {br bf : Nat} {v : Value} {L : List LV} {fr : Int} {gone : Bool} (h : RQ w br bf v L fr gone) (hl : L.length ≤ 900000) (page : Nat) (hp : page < 18446744073709551616) (hf : -1000000000 ≤ fr ∧ fr ≤ 1000000000) (rr : Int) (hrr : rr = runR gone L fr page) :
    Calls Tryz.prog 33 #[.pointer (some ⟨br, 0, none⟩), .int .u64 (page : Int)] w fun e w' => ∃ fx : Nat, e = .returned (.tuple #[.int .i64 (fx : Int), .int .i64 rr]) ∧ Hid ((rr = 0 → gone = false ∧ RUn w w' br bf v L fr page fx) ∧ (rr ≠ 0 → fx = 0 ∧ RN w w' br bf v L fr gone)) := by
  obtain ⟨na, cap, rfl, _⟩ := h.slice
  have ka := rat_any h (by omega) page hp
  have c0 := h.c0
  have c3 := h.c3
  have RW : Hid (RN w w br bf (.slice na L.length cap) L fr gone) := RN.same h (Kp.refl _)
  unfold runR at hrr
  by_cases g1 : gone = true
  · rw [if_pos (.inl g1)] at hrr
    have HE : Hid (rr = 23) := hrr
    subst g1
    generalize atI L page = k at *
    clear h hrr hp
    go_enter Tryz.func33, Tryz.ntmps33
    go_wp2_with fail
    with_reducible refine ka.mono ?_
    rintro e w' ⟨rfl, rfl⟩
    go_wp2_with fail
    go_ret2
    exact ⟨0, by rw [HE.out]; rfl, fun c => (by rw [HE.out] at c; cases c), fun _ => ⟨rfl, RW.out⟩⟩
  obtain rfl : gone = false := by simpa using g1
  by_cases g2 : 0 ≤ atI L page
  · rw [if_neg (fun c => c.elim g1 (fun c => c g2))] at hrr
    obtain ⟨k, b, f1, f2, f3, f4⟩ := at_some g2
    rw [f4, Int.toNat_natCast, (gL_at f2).2] at hrr
    rw [f4] at ka
    obtain ⟨g, rfl, hgl, hc⟩ := h.ol.at f2
    have d6 := hc 6 _ rfl
    have kn := (List.getElem?_eq_some_iff.1 f2).1
    have hok := h.ok b (List.mem_of_getElem? f2)
    have y1 : (k : Int) < L.length := by omega
    rcases hok.1 with g3 | g3
    · rw [g3] at d6
      rw [show ((2 : Nat) : Int) = 2 from rfl] at d6
      -- a Block
      obtain ⟨rs, hrs⟩ : ∃ rs, rs = rsplR false L fr page := ⟨_, rfl⟩
      have ks := rsplit_any h hl page hp hf rs hrs
      have ers : rs = if fr < 1 then 11 else 0 := by
        rw [hrs]; unfold rsplR
        rw [if_neg (fun c => c.elim g1 (fun c => c g2)), f4, Int.toNat_natCast, (gL_at f2).2, if_neg (by omega)]
      by_cases g5 : fr < 1
      · rw [if_pos ⟨g3, g5⟩] at hrr
        rw [if_pos g5] at ers
        have HE : Hid (rr = 11) := hrr
        subst ers
        clear h hrr hp hc hok f1 f2 f3 f4 g1 g2 g3 kn hrs g5
        go_enter Tryz.func33, Tryz.ntmps33
        go_wp2_with fail
        with_reducible refine ka.mono ?_
        rintro e w' ⟨rfl, rfl⟩
        go_wp2_with fail
        with_reducible refine ks.mono ?_
        rintro e w1 ⟨rfl, S1⟩
        go_wp2_with fail
        go_ret2
        exact ⟨0, by rw [HE.out]; rfl, fun c => (by rw [HE.out] at c; cases c), fun _ => ⟨rfl, S1.out.2 (by decide)⟩⟩
      · rw [if_neg (fun c => g5 c.2)] at hrr
        rw [if_neg g5] at ers
        have HE : Hid (rr = 0) := hrr
        subst ers
        have KU : Aside (∀ w1, RSp w w1 br bf (.slice (some ⟨g, 0, none⟩) L.length cap) L fr false page → ∃ v1 L1 fr1, U1 w w1 br bf (.slice (some ⟨g, 0, none⟩) L.length cap) L fr page v1 L1 fr1) := fun w1 r => r.u1 h.ok hl hf g2
        have HP : Hid (page < 18446744073709551616) := hp
        clear h hrr hp hc hok f1 f2 f3 f4 g1 g2 g3 kn hrs g5 RW
        go_enter Tryz.func33, Tryz.ntmps33
        go_wp2_with fail
        with_reducible refine ka.mono ?_
        rintro e w0 ⟨rfl, rfl⟩
        go_wp2_with fail
        with_reducible refine ks.mono ?_
        rintro e w1 ⟨rfl, S1⟩
        obtain ⟨v1, L1, fr1, UU⟩ := KU.out w1 (S1.out.1 trivial)
        have ka1 := rat_any UU.q (by have := UU.l; omega) page HP.out
        obtain ⟨k1, x1, f1, f2, f3, f4⟩ := at_some UU.a
        rw [f4] at ka1
        clear ks ka KU S1 c0 c3 d6
        go_wp2_with fail
        with_reducible refine ka1.mono ?_
        rintro e w9 ⟨rfl, rfl⟩
        clear ka1
        obtain ⟨na1, cap1, ev, hcap1⟩ := UU.q.slice
        subst ev
        obtain ⟨g1, eg1, hgl1, hc1⟩ := UU.q.ol.at f2
        subst eg1
        have q0 := UU.q.c0
        have d1 := hc1 1 _ rfl
        have kn1 := (List.getElem?_eq_some_iff.1 f2).1
        have hx1 := (UU.q.ok x1 (List.mem_of_getElem? f2)).2.2.1
        obtain ⟨n, hn⟩ : ∃ n, n = L1.length := ⟨_, rfl⟩
        have qs : ∀ u, Kp w9 u → u.cell? ⟨br, 0, none⟩ = some (.slice (some ⟨g1, 0, none⟩) n cap1) := fun u ku => by rw [hn]; exact (UU.q.kp ku).c0
        have ke : Kp w9 ((w9.alloc (.cells #[] 93)).drew) := ((Kp.refl _).alloc _).drew
        obtain ⟨na2, n2, cap2, w2, r1, hn2, o2, k2, b2⟩ := leaf_append (W := w9) (w := (w9.alloc (.cells #[] 93)).drew) (v := .slice (some ⟨w9.heap.size, 0, none⟩) 0 0) (L := []) (ro_empty w9) ke (fun b hb => by cases hb; exact Nat.le_refl _) (L1.take k1) ((UU.q.ol.take (k := k1) (by omega)).kp ke) (by have := UU.l; simp only [List.length_take, List.length_nil]; omega) 67
        rw [List.nil_append] at o2
        have e0 := qs _ ke
        have e1 := qs _ k2
        have e2 := qs _ ((Kp.refl w9).alloc (.cells #[] 93))
        have e3 := qs _ (Kp.refl w9)
        rw [← hn] at q0
        have y1 : (k1 : Int) < n := by omega
        have y2 : (n : Int) ≤ cap1 := by omega
        have y5 : (k1 : Int) + 1 ≤ cap1 := by omega
        have y6 : (k1 : Int) ≤ cap1 := by omega
        have y7 : (k1 : Int) + 1 ≤ n := by omega
        have y8 : k1 ≤ cap1 := by omega
        have y9 : k1 ≠ cap1 := by omega
        have y10 : ¬ cap1 = 0 := by omega
        have y11 : (k1 : Int) ≤ (k1 : Int) + 1 := by omega
        have y13 : (0 : Int) ≤ (k1 : Int) + 1 := by omega
        have z9 : (n : Int) ≤ 901000 := by have := UU.l; omega
        have y12 : IntKind.i64.wrap ((k1 : Int) + 1) = (k1 : Int) + 1 := by rw [IntKind.wrap_i64]; omega
        have okr : okL (rmvL L1 k1) := fun v hv => UU.q.ok v (mem_rmv hv)
        have lr := len_rmv L1 k1
        by_cases ec : cap1 = k1 + 1
        · have s3 := UU.q.ol.drop0 (k := k1 + 1) (by omega)
          obtain ⟨na3, n3, cap3, w3, r2, hn3, o3, k3, b3⟩ := leaf_append (W := w9) o2 k2 b2 (L1.drop (k1 + 1)) (s3.kp k2) (by have := UU.l; simp only [List.length_take, List.length_drop]; omega) 67
          have ks := rset_new UU.q (by have := UU.l; omega) k3 o3 okr (by have := UU.l; show (rmvL L1 k1).length ≤ 1000000; omega) b3 (by have := UU.n; omega)
          have HX : Hid (U1 w0 w9 br bf (.slice (some ⟨g, 0, none⟩) L.length cap) L fr page (.slice (some ⟨g1, 0, none⟩) L1.length cap1) L1 fr1 ∧ L1.findIdx? (hitL page) = some k1 ∧ L1[k1]? = some x1) := ⟨UU, f1, f2⟩
          obtain ⟨sb, hsb⟩ : ∃ sb, sb = setB fr1 L1 (rmvL L1 k1) := ⟨_, rfl⟩
          have hsb' : setB fr1 L1 (L1.take k1 ++ L1.drop (k1 + 1)) = sb := hsb.symm
          have ks' : Calls Tryz.prog 73 #[.pointer (some ⟨br, 0, none⟩), .slice na3 n3 cap3] w3 fun e w' => e = .returned (.bool sb) ∧ Hid ((setB fr1 L1 (rmvL L1 k1) = true → RN w9 w' br bf (.slice (some ⟨g1, 0, none⟩) L1.length cap1) (rmvL L1 k1) (fr1 - ((tabL (rmvL L1 k1) : Int) - (tabL L1 : Int))) false) ∧ (setB fr1 L1 (rmvL L1 k1) = false → RN w9 w' br bf (.slice (some ⟨g1, 0, none⟩) L1.length cap1) L1 fr1 false)) := ks.mono fun e w' ⟨a1, a2⟩ => ⟨by rw [a1, hsb]; rfl, a2⟩
          obtain ⟨kk, hkk⟩ : ∃ kk, kk = k1 + 1 := ⟨_, rfl⟩
          rw [← hkk] at ec
          have en : n = kk := by omega
          have y14 : (k1 : Int) + 1 = (kk : Int) := by omega
          have y15 : (k1 : Int) < kk := by omega
          have y16 : (kk : Int) ≤ 901001 := by omega
          have y17 : (k1 : Int) ≤ kk := by omega
          have y18 : IntKind.i64.wrap (kk : Int) = (kk : Int) := by rw [IntKind.wrap_i64]; omega
          clear y1 y2 y5 y6 y7 y8 y9 y10 y11 y12 y13 z9 hkk
          subst ec
          subst en
          clear s3 hn2 o2 k2 b2 hn3 o3 k3 b3 ks okr lr ke qs hn UU f1 f2 hcap1 hc1 kn1 hgl1 hsb hsb'
          go_wp2_with fail
          go_region_law (first | (refine step_append_of r1 (by rfl) (.tmp 47) (.tmp 53) (by rfl) (by rfl) (by rfl) (by rfl) ?_) | (refine step_append_of r2 (by rfl) (.tmp 54) (.tmp 61) (by rfl) (by rfl) (by rfl) (by rfl) ?_) | (refine step_call2 (by rfl) (by rfl) Tryz.func73 rfl (by decide) (by rfl) (by rfl) ks' ?_; intro w4 S4))
          all_goals
            clear r1 r2 ks'
            go_wp2
            go_ret2
            obtain ⟨UU, f1, f2⟩ := HX.out
            exact ⟨x1.x, by rw [HE.out]; rfl, fun _ => ⟨by first | rfl | trivial, _, _, _, _, UU.s, f1, f2, rfl, fun c => (S4.out.1 c).then UU.f UU.o, fun c => (S4.out.2 c).then UU.f UU.o⟩, fun c => absurd HE.out c⟩
        · have s3 := UU.q.ol.drop (k := k1 + 1) (by omega)
          rw [← hn] at s3
          obtain ⟨na3, n3, cap3, w3, r2, hn3, o3, k3, b3⟩ := leaf_append (W := w9) o2 k2 b2 (L1.drop (k1 + 1)) (s3.kp k2) (by have := UU.l; simp only [List.length_take, List.length_drop]; omega) 67
          have ks := rset_new UU.q (by have := UU.l; omega) k3 o3 okr (by have := UU.l; show (rmvL L1 k1).length ≤ 1000000; omega) b3 (by have := UU.n; omega)
          have HX : Hid (U1 w0 w9 br bf (.slice (some ⟨g, 0, none⟩) L.length cap) L fr page (.slice (some ⟨g1, 0, none⟩) L1.length cap1) L1 fr1 ∧ L1.findIdx? (hitL page) = some k1 ∧ L1[k1]? = some x1) := ⟨UU, f1, f2⟩
          obtain ⟨sb, hsb⟩ : ∃ sb, sb = setB fr1 L1 (rmvL L1 k1) := ⟨_, rfl⟩
          have hsb' : setB fr1 L1 (L1.take k1 ++ L1.drop (k1 + 1)) = sb := hsb.symm
          have ks' : Calls Tryz.prog 73 #[.pointer (some ⟨br, 0, none⟩), .slice na3 n3 cap3] w3 fun e w' => e = .returned (.bool sb) ∧ Hid ((setB fr1 L1 (rmvL L1 k1) = true → RN w9 w' br bf (.slice (some ⟨g1, 0, none⟩) L1.length cap1) (rmvL L1 k1) (fr1 - ((tabL (rmvL L1 k1) : Int) - (tabL L1 : Int))) false) ∧ (setB fr1 L1 (rmvL L1 k1) = false → RN w9 w' br bf (.slice (some ⟨g1, 0, none⟩) L1.length cap1) L1 fr1 false)) := ks.mono fun e w' ⟨a1, a2⟩ => ⟨by rw [a1, hsb]; rfl, a2⟩
          have y3 : ¬ cap1 = k1 + 1 := ec
          clear ec
          clear s3 hn2 o2 k2 b2 hn3 o3 k3 b3 ks okr lr ke qs hn UU f1 f2 hcap1 hc1 kn1 hgl1 hsb hsb'
          go_wp2_with fail
          go_region_law (first | (refine step_append_of r1 (by rfl) (.tmp 47) (.tmp 53) (by rfl) (by rfl) (by rfl) (by rfl) ?_) | (refine step_append_of r2 (by rfl) (.tmp 54) (.tmp 61) (by rfl) (by rfl) (by rfl) (by rfl) ?_) | (refine step_call2 (by rfl) (by rfl) Tryz.func73 rfl (by decide) (by rfl) (by rfl) ks' ?_; intro w4 S4))
          all_goals
            clear r1 r2 ks'
            go_wp2
            go_ret2
            obtain ⟨UU, f1, f2⟩ := HX.out
            exact ⟨x1.x, by rw [HE.out]; rfl, fun _ => ⟨by first | rfl | trivial, _, _, _, _, UU.s, f1, f2, rfl, fun c => (S4.out.1 c).then UU.f UU.o, fun c => (S4.out.2 c).then UU.f UU.o⟩, fun c => absurd HE.out c⟩
    · rw [g3] at d6
      rw [show ((3 : Nat) : Int) = 3 from rfl] at d6
      rw [if_neg (fun c => by omega)] at hrr
      have HE : Hid (rr = 0) := hrr
      have UU : U1 w w br bf (.slice (some ⟨g, 0, none⟩) L.length cap) L fr page (.slice (some ⟨g, 0, none⟩) L.length cap) L fr := ⟨h, Fr.refl _ _, fun b hb => .inl hb, ⟨k, b, f1, f2, .inl ⟨g3, rfl, rfl⟩⟩, g2, by omega, by omega⟩
      clear h hrr hp hc hok f3 f4 g1 g2 g3 kn RW hl hf
      obtain ⟨na1, cap1, ev, hcap1⟩ := UU.q.slice
      cases ev
      obtain ⟨g1, eg1, hgl1, hc1⟩ := UU.q.ol.at f2
      cases eg1
      have q0 := UU.q.c0
      have d1 := hc1 1 _ rfl
      have kn1 := (List.getElem?_eq_some_iff.1 f2).1
      have hb := (UU.q.ok b (List.mem_of_getElem? f2)).2.2.1
      obtain ⟨n, hn⟩ : ∃ n, n = L.length := ⟨_, rfl⟩
      have qs : ∀ u, Kp w u → u.cell? ⟨br, 0, none⟩ = some (.slice (some ⟨g, 0, none⟩) n cap) := fun u ku => by rw [hn]; exact (UU.q.kp ku).c0
      have ke : Kp w ((w.alloc (.cells #[] 93)).drew) := ((Kp.refl _).alloc _).drew
      obtain ⟨na2, n2, cap2, w2, r1, hn2, o2, k2, b2⟩ := leaf_append (W := w) (w := (w.alloc (.cells #[] 93)).drew) (v := .slice (some ⟨w.heap.size, 0, none⟩) 0 0) (L := []) (ro_empty w) ke (fun b hb => by cases hb; exact Nat.le_refl _) (L.take k) ((UU.q.ol.take (k := k) (by omega)).kp ke) (by have := UU.l; simp only [List.length_take, List.length_nil]; omega) 67
      rw [List.nil_append] at o2
      have e0 := qs _ ke
      have e1 := qs _ k2
      have e2 := qs _ ((Kp.refl w).alloc (.cells #[] 93))
      have e3 := qs _ (Kp.refl w)
      rw [← hn] at q0
      have y1 : (k : Int) < n := by omega
      have y2 : (n : Int) ≤ cap := by omega
      have y5 : (k : Int) + 1 ≤ cap := by omega
      have y6 : (k : Int) ≤ cap := by omega
      have y7 : (k : Int) + 1 ≤ n := by omega
      have y8 : k ≤ cap := by omega
      have y9 : k ≠ cap := by omega
      have y10 : ¬ cap = 0 := by omega
      have y11 : (k : Int) ≤ (k : Int) + 1 := by omega
      have y13 : (0 : Int) ≤ (k : Int) + 1 := by omega
      have z9 : (n : Int) ≤ 901000 := by have := UU.l; omega
      have y12 : IntKind.i64.wrap ((k : Int) + 1) = (k : Int) + 1 := by rw [IntKind.wrap_i64]; omega
      have okr : okL (rmvL L k) := fun v hv => UU.q.ok v (mem_rmv hv)
      have lr := len_rmv L k
      by_cases ec : cap = k + 1
      · have s3 := UU.q.ol.drop0 (k := k + 1) (by omega)
        obtain ⟨na3, n3, cap3, w3, r2, hn3, o3, k3, b3⟩ := leaf_append (W := w) o2 k2 b2 (L.drop (k + 1)) (s3.kp k2) (by have := UU.l; simp only [List.length_take, List.length_drop]; omega) 67
        have ks := rset_new UU.q (by have := UU.l; omega) k3 o3 okr (by have := UU.l; show (rmvL L k).length ≤ 1000000; omega) b3 (by have := UU.n; omega)
        have HX : Hid (U1 w w br bf (.slice (some ⟨g, 0, none⟩) L.length cap) L fr page (.slice (some ⟨g, 0, none⟩) L.length cap) L fr ∧ L.findIdx? (hitL page) = some k ∧ L[k]? = some b) := ⟨UU, f1, f2⟩
        obtain ⟨sb, hsb⟩ : ∃ sb, sb = setB fr L (rmvL L k) := ⟨_, rfl⟩
        have hsb' : setB fr L (L.take k ++ L.drop (k + 1)) = sb := hsb.symm
        have ks' : Calls Tryz.prog 73 #[.pointer (some ⟨br, 0, none⟩), .slice na3 n3 cap3] w3 fun e w' => e = .returned (.bool sb) ∧ Hid ((setB fr L (rmvL L k) = true → RN w w' br bf (.slice (some ⟨g, 0, none⟩) L.length cap) (rmvL L k) (fr - ((tabL (rmvL L k) : Int) - (tabL L : Int))) false) ∧ (setB fr L (rmvL L k) = false → RN w w' br bf (.slice (some ⟨g, 0, none⟩) L.length cap) L fr false)) := ks.mono fun e w' ⟨a1, a2⟩ => ⟨by rw [a1, hsb]; rfl, a2⟩
        obtain ⟨kk, hkk⟩ : ∃ kk, kk = k + 1 := ⟨_, rfl⟩
        rw [← hkk] at ec
        have en : n = kk := by omega
        have y14 : (k : Int) + 1 = (kk : Int) := by omega
        have y15 : (k : Int) < kk := by omega
        have y16 : (kk : Int) ≤ 901001 := by omega
        have y17 : (k : Int) ≤ kk := by omega
        have y18 : IntKind.i64.wrap (kk : Int) = (kk : Int) := by rw [IntKind.wrap_i64]; omega
        clear y1 y2 y5 y6 y7 y8 y9 y10 y11 y12 y13 z9 hkk
        subst ec
        subst en
        clear s3 hn2 o2 k2 b2 hn3 o3 k3 b3 ks okr lr ke qs hn UU f1 f2 hcap1 hc1 kn1 hgl1 hsb hsb' c0
        go_enter Tryz.func33, Tryz.ntmps33
        go_wp2_with fail
        with_reducible refine ka.mono ?_
        rintro e w' ⟨rfl, rfl⟩
        go_wp2_with fail
        go_region_law (first | (refine step_append_of r1 (by rfl) (.tmp 47) (.tmp 53) (by rfl) (by rfl) (by rfl) (by rfl) ?_) | (refine step_append_of r2 (by rfl) (.tmp 54) (.tmp 61) (by rfl) (by rfl) (by rfl) (by rfl) ?_) | (refine step_call2 (by rfl) (by rfl) Tryz.func73 rfl (by decide) (by rfl) (by rfl) ks' ?_; intro w4 S4))
        all_goals
          clear r1 r2 ks'
          go_wp2
          go_ret2
          obtain ⟨UU, f1, f2⟩ := HX.out
          exact ⟨b.x, by rw [HE.out]; rfl, fun _ => ⟨by first | rfl | trivial, _, _, _, _, UU.s, f1, f2, rfl, fun c => (S4.out.1 c).then UU.f UU.o, fun c => (S4.out.2 c).then UU.f UU.o⟩, fun c => absurd HE.out c⟩
      · have s3 := UU.q.ol.drop (k := k + 1) (by omega)
        rw [← hn] at s3
        obtain ⟨na3, n3, cap3, w3, r2, hn3, o3, k3, b3⟩ := leaf_append (W := w) o2 k2 b2 (L.drop (k + 1)) (s3.kp k2) (by have := UU.l; simp only [List.length_take, List.length_drop]; omega) 67
        have ks := rset_new UU.q (by have := UU.l; omega) k3 o3 okr (by have := UU.l; show (rmvL L k).length ≤ 1000000; omega) b3 (by have := UU.n; omega)
        have HX : Hid (U1 w w br bf (.slice (some ⟨g, 0, none⟩) L.length cap) L fr page (.slice (some ⟨g, 0, none⟩) L.length cap) L fr ∧ L.findIdx? (hitL page) = some k ∧ L[k]? = some b) := ⟨UU, f1, f2⟩
        obtain ⟨sb, hsb⟩ : ∃ sb, sb = setB fr L (rmvL L k) := ⟨_, rfl⟩
        have hsb' : setB fr L (L.take k ++ L.drop (k + 1)) = sb := hsb.symm
        have ks' : Calls Tryz.prog 73 #[.pointer (some ⟨br, 0, none⟩), .slice na3 n3 cap3] w3 fun e w' => e = .returned (.bool sb) ∧ Hid ((setB fr L (rmvL L k) = true → RN w w' br bf (.slice (some ⟨g, 0, none⟩) L.length cap) (rmvL L k) (fr - ((tabL (rmvL L k) : Int) - (tabL L : Int))) false) ∧ (setB fr L (rmvL L k) = false → RN w w' br bf (.slice (some ⟨g, 0, none⟩) L.length cap) L fr false)) := ks.mono fun e w' ⟨a1, a2⟩ => ⟨by rw [a1, hsb]; rfl, a2⟩
        have y3 : ¬ cap = k + 1 := ec
        clear ec
        clear s3 hn2 o2 k2 b2 hn3 o3 k3 b3 ks okr lr ke qs hn UU f1 f2 hcap1 hc1 kn1 hgl1 hsb hsb' c0
        go_enter Tryz.func33, Tryz.ntmps33
        go_wp2_with fail
        with_reducible refine ka.mono ?_
        rintro e w' ⟨rfl, rfl⟩
        go_wp2_with fail
        go_region_law (first | (refine step_append_of r1 (by rfl) (.tmp 47) (.tmp 53) (by rfl) (by rfl) (by rfl) (by rfl) ?_) | (refine step_append_of r2 (by rfl) (.tmp 54) (.tmp 61) (by rfl) (by rfl) (by rfl) (by rfl) ?_) | (refine step_call2 (by rfl) (by rfl) Tryz.func73 rfl (by decide) (by rfl) (by rfl) ks' ?_; intro w4 S4))
        all_goals
          clear r1 r2 ks'
          go_wp2
          go_ret2
          obtain ⟨UU, f1, f2⟩ := HX.out
          exact ⟨b.x, by rw [HE.out]; rfl, fun _ => ⟨by first | rfl | trivial, _, _, _, _, UU.s, f1, f2, rfl, fun c => (S4.out.1 c).then UU.f UU.o, fun c => (S4.out.2 c).then UU.f UU.o⟩, fun c => absurd HE.out c⟩
  · rw [if_pos (.inr g2)] at hrr
    have HE : Hid (rr = 23) := hrr
    rw [(at_neg g2).1] at ka
    clear h hrr hp g1 g2
    go_enter Tryz.func33, Tryz.ntmps33
    go_wp2_with fail
    with_reducible refine ka.mono ?_
    rintro e w' ⟨rfl, rfl⟩
    go_wp2_with fail
    go_ret2
    exact ⟨0, by rw [HE.out]; rfl, fun c => (by rw [HE.out] at c; cases c), fun _ => ⟨rfl, RW.out⟩⟩
end Go.Proofs.YtanlcmdnhhdhaaaGreatDoor
