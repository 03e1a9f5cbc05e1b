/- The document's second stage: Protect. -/
import Derived.Test.YtanlcmdnhhdhaaaGreatDoorJ25
import Derived.Test.YtanlcmdnhhdhaaaGreatDoorJ36
namespace Go.Proofs.YtanlcmdnhhdhaaaGreatDoor
open Go.RowKit
set_option maxRecDepth 10000

/-- A leaf with other permissions and soft bits. -/
def prV (x : LV) (r q e : Bool) (s : Int) : LV := ⟨x.g, x.x, r, q, e, s, x.l⟩
def prL (L : List LV) (k : Nat) (x : LV) (r q e : Bool) (s : Int) : List LV := L.set k (prV x r q e s)
theorem okL_pr {L : List LV} {k : Nat} {x : LV} {r q e : Bool} {s : Int} (h : okL L) (hx : x ∈ L) : okL (prL L k x r q e s) := fun v hv => by
  unfold prL at hv
  rcases List.mem_or_eq_of_mem_set hv with c | c
  · exact h v c
  · rw [c]; exact h x hx
/-- The four cells are laid. -/
def put4 (w : World) (g o : Nat) (r q e : Bool) (s : Int) : World := (((w.setCell ⟨g, o + 2, none⟩ (.bool r)).setCell ⟨g, o + 3, none⟩ (.bool q)).setCell ⟨g, o + 4, none⟩ (.bool e)).setCell ⟨g, o + 5, none⟩ (.int .i64 s)
theorem RO.put4 {w : World} {g n cap k : Nat} {L : List LV} {x : LV} (h : RO w (.slice (some ⟨g, 0, none⟩) n cap) L) (hx : L[k]? = some x) (r q e : Bool) (s : Int) :
    RO (put4 w g (k * 7) r q e s) (.slice (some ⟨g, 0, none⟩) n cap) (prL L k x r q e s) ∧ Fr (· = g) w (put4 w g (k * 7) r q e s) := by
  have kn := (List.getElem?_eq_some_iff.1 hx).1
  have s1 := OL.set encL_ok h (i := k) (j := 2) (x := x) (x' := ⟨x.g, x.x, r, x.q, x.e, x.f, x.l⟩) (u := .bool r) hx (by decide) rfl
  have s2 := OL.set encL_ok s1.1 (i := k) (j := 3) (x := ⟨x.g, x.x, r, x.q, x.e, x.f, x.l⟩) (x' := ⟨x.g, x.x, r, q, x.e, x.f, x.l⟩) (u := .bool q) (by rw [List.getElem?_set_self kn]) (by decide) rfl
  have s3 := OL.set encL_ok s2.1 (i := k) (j := 4) (x := ⟨x.g, x.x, r, q, x.e, x.f, x.l⟩) (x' := ⟨x.g, x.x, r, q, e, x.f, x.l⟩) (u := .bool e) (by rw [List.getElem?_set_self (by rw [List.length_set]; exact kn)]) (by decide) rfl
  have s4 := OL.set encL_ok s3.1 (i := k) (j := 5) (x := ⟨x.g, x.x, r, q, e, x.f, x.l⟩) (x' := prV x r q e s) (u := .int .i64 s) (by rw [List.getElem?_set_self (by rw [List.length_set, List.length_set]; exact kn)]) (by decide) rfl
  have e1 := s4.1
  rw [List.set_set, List.set_set, List.set_set] at e1
  exact ⟨e1, ((s1.2.trans s2.2).trans s3.2).trans s4.2⟩
/-- What Protect answers. -/
def rprR (gone : Bool) (L : List LV) (fr : Int) (page : Nat) (r q e : Bool) (s : Int) : Int := if gone = true then 23 else if canB r q s = false then 1 else if ¬ 0 ≤ atI L page then 23 else if lL L (atI L page).toNat = 2 ∧ ¬ (samP (L.getD (atI L page).toNat lvZ).r (L.getD (atI L page).toNat lvZ).q (L.getD (atI L page).toNat lvZ).e r q e && ((L.getD (atI L page).toNat lvZ).f == s)) = true ∧ fr < 1 then 11 else 0
/-- The page's Block is not so already. -/
def nsL (L : List LV) (page : Nat) (r q e : Bool) (s : Int) : Prop := ∀ (k : Nat) (x : LV), L.findIdx? (hitL page) = some k → L[k]? = some x → x.l = 2 → (samP x.r x.q x.e r q e && (x.f == s)) = false
/-- A Block that is so already stays; else the page's leaf is another. -/
def RPr (w w' : World) (br bf : Nat) (v : Value) (L : List LV) (fr : Int) (page : Nat) (r q e : Bool) (s : Int) : Prop :=
  (∃ (k : Nat) (x : LV), L.findIdx? (hitL page) = some k ∧ L[k]? = some x ∧ x.l = 2 ∧ (samP x.r x.q x.e r q e && (x.f == s)) = true ∧ RN w w' br bf v L fr false) ∨
  (∃ (L1 : List LV) (fr1 : Int) (k : Nat) (x : LV), nsL L page r q e s ∧ Sp1 L fr page L1 fr1 ∧ L1.findIdx? (hitL page) = some k ∧ L1[k]? = some x ∧ RN w w' br bf v (prL L1 k x r q e s) fr1 false)
theorem RN.kpp {w w1 w2 : World} {br bf : Nat} {v : Value} {L : List LV} {fq : Int} {g : Bool} (h : RN w w1 br bf v L fq g) (k : Kp w1 w2) : RN w w2 br bf v L fq g := by
  obtain ⟨v', a1, a2, a3⟩ := h
  exact ⟨v', a1.kp k, a2.trans (k.fr _), a3⟩
theorem RQ.pr {w w0 w1 : World} {br bf g n cap k page : Nat} {v : Value} {L L1 : List LV} {fr fr1 : Int} {x : LV} (U : U1 w w1 br bf v L fr page (.slice (some ⟨g, 0, none⟩) n cap) L1 fr1) (hx : L1[k]? = some x) (k0 : Kp w1 w0) (r q e : Bool) (s : Int) :
    RN w (put4 w0 g (k * 7) r q e s) br bf v (prL L1 k x r q e s) fr1 false := by
  have q0 := U.q.kp k0
  obtain ⟨a1, a2⟩ := q0.ol.put4 hx r q e s
  have nb := q0.nb g rfl
  refine ⟨_, ⟨(a2.block br q0.lt (fun c => nb.1 c.symm)).trans q0.b, (a2.block bf q0.ltf (fun c => nb.2 c.symm)).trans q0.f, a1, q0.nb, q0.ne, okL_pr q0.ok (List.mem_of_getElem? hx)⟩, ?_, U.o⟩
  refine Fr.trans2 U.f ((k0.fr (fun i => i = g)).trans a2) (fun i hi c => ?_)
  rcases U.o g rfl with o | o
  · rw [c]; exact .inr (.inr o)
  · omega
set_option maxHeartbeats 8000000 in
theorem rprot_any {w : World} {br bf : Nat} {v : Value} {L : List LV} {fr : Int} {gone : Bool} (h : RQ w br bf v L fr gone) (hl : L.length ≤ 900000) (page : Nat) (hp : page < 18446744073709551616) (r q x : Bool) (s : Int) (hf : -1000000000 ≤ fr ∧ fr ≤ 1000000000) (rr : Int) (hrr : rr = rprR gone L fr page r q x s) :
    Calls Tryz.prog 35 #[.pointer (some ⟨br, 0, none⟩), .int .u64 (page : Int), .agg #[.bool r, .bool q, .bool x], .int .i64 s] w fun e w' => e = .returned (.int .i64 rr) ∧ Hid ((rr = 0 → gone = false ∧ RPr w w' br bf v L fr page r q x s) ∧ (rr ≠ 0 → RN w w' br bf v L fr gone)) := by
  obtain ⟨na, cap, rfl, _⟩ := h.slice
  have k1 : Kp w (w.alloc (.cells #[.bool r, .bool q, .bool x] 39)) := (Kp.refl w).alloc _
  have c3 := (h.kp k1).c3
  have RS : Hid (∀ u, Kp w u → RN w u br bf (.slice na L.length cap) L fr gone) := fun u k => RN.same h k
  have P1 := PX.made w r q x
  unfold rprR at hrr
  by_cases g1 : gone = true
  · rw [if_pos g1] at hrr
    have HE : Hid (rr = 23) := hrr
    have HK : Hid (Kp w (w.alloc (.cells #[.bool r, .bool q, .bool x] 39))) := k1
    subst g1
    clear h hrr hp P1
    go_enter Tryz.func35, Tryz.ntmps35
    go_wp2_with fail
    go_ret
    exact ⟨by rw [HE.out]; rfl, fun c => (by rw [HE.out] at c; cases c), fun _ => RS.out _ HK.out⟩
  obtain rfl : gone = false := by simpa using g1
  rw [if_neg g1] at hrr
  have kb := rbad_any 0 true r q x s (w.alloc (.cells #[.bool r, .bool q, .bool x] 39))
  rw [show ((0 : Nat) : Int) = 0 from rfl] at kb
  have eb : badN 0 true r q s = if canB r q s = false then 1 else 0 := by unfold badN; rw [if_neg (by decide)]
  by_cases g2 : canB r q s = false
  · rw [if_pos g2] at hrr eb
    rw [eb] at kb
    have HE : Hid (rr = 1) := hrr
    have HK : Hid (Kp w (w.alloc (.cells #[.bool r, .bool q, .bool x] 39))) := k1
    have p0 := P1.c0
    have p1 := P1.c1
    have p2 := P1.c2
    clear h hrr hp P1 eb g2 g1
    go_enter Tryz.func35, Tryz.ntmps35
    go_wp2_with fail
    with_reducible refine kb.mono ?_
    rintro e w1 ⟨rfl, K1⟩
    clear kb
    go_wp2_with fail
    go_ret
    exact ⟨by rw [HE.out]; rfl, fun c => (by rw [HE.out] at c; cases c), fun _ => RS.out _ (HK.out.trans K1)⟩
  rw [if_neg g2] at hrr eb
  rw [eb] at kb
  have KA : Aside (∀ u, Kp w u → Calls Tryz.prog 72 #[.pointer (some ⟨br, 0, none⟩), .int .u64 (page : Int)] u fun e w' => e = .returned (.int .i64 (atI L page)) ∧ w' = u) := fun u k' => rat_any (h.kp k') (by omega) page hp
  have HK : Hid (Kp w (w.alloc (.cells #[.bool r, .bool q, .bool x] 39))) := k1
  have HP1 : Hid (PX (w.alloc (.cells #[.bool r, .bool q, .bool x] 39)) w.heap.size r q x) := P1
  have p0 := P1.c0
  have p1 := P1.c1
  have p2 := P1.c2
  by_cases g3 : 0 ≤ atI L page
  · rw [if_neg (fun c => c g3)] at hrr
    obtain ⟨k, b, f1, f2, f3, f4⟩ := at_some g3
    have ed : L.getD k lvZ = b := by rw [List.getD_eq_getElem?_getD, f2]; rfl
    rw [f4, Int.toNat_natCast, (gL_at f2).2, ed] at hrr
    rw [f4] at KA
    obtain ⟨g, rfl, hgl, hc⟩ := h.ol.at f2
    have kn := (List.getElem?_eq_some_iff.1 f2).1
    have hok := h.ok b (List.mem_of_getElem? f2)
    have y1 : (k : Int) < L.length := by omega
    have HC : Hid (∀ u, Kp w u → RQ u br bf (.slice (some ⟨g, 0, none⟩) L.length cap) L fr false ∧ ∀ j y, (encL b)[j]? = some y → u.cell? ⟨g, k * 7 + j, none⟩ = some y) := fun u ku => ⟨h.kp ku, fun j y hy => by rw [ku.cell (p := ⟨g, k * 7 + j, none⟩) hgl]; exact hc j y hy⟩
    obtain ⟨SS, hSS⟩ : ∃ SS, SS = (samP b.r b.q b.e r q x && (b.f == s)) := ⟨_, rfl⟩
    rw [← hSS] at hrr
    rcases hok.1 with g4 | g4
    · -- a Block
      cases SS
      · by_cases g5 : fr < 1
        · rw [if_pos ⟨g4, by decide, g5⟩] at hrr
          have HE : Hid (rr = 11) := hrr
          obtain ⟨rs, hrs⟩ : ∃ rs, rs = rsplR false L fr page := ⟨_, rfl⟩
          have ers : rs = 11 := by
            rw [hrs]; unfold rsplR
            rw [if_neg (fun c => c.elim g1 (fun c => c g3)), f4, Int.toNat_natCast, (gL_at f2).2, if_neg (by omega), if_pos g5]
          have KS : Aside (∀ u, Kp w u → Calls Tryz.prog 37 #[.pointer (some ⟨br, 0, none⟩), .int .u64 (page : Int)] u fun e w' => e = .returned (.int .i64 11) ∧ Hid (RN w w' br bf (.slice (some ⟨g, 0, none⟩) L.length cap) L fr false)) := fun u ku => (rsplit_any (h.kp ku) hl page hp hf rs hrs).mono fun e w' ⟨a1, a2⟩ => ⟨by rw [a1, ers], RN.then (ku.fr _) (fun b hb => .inl hb) (a2.out.2 (by rw [ers]; decide))⟩
          have HF : Hid (b.l = 2 ∧ false = (samP b.r b.q b.e r q x && (b.f == s))) := ⟨g4, hSS⟩
          clear h hrr hp hc hok f1 f2 f3 f4 g1 g2 g3 kn hl hf ed eb hSS P1 k1 RS hrs ers
          go_enter Tryz.func35, Tryz.ntmps35
          go_wp2_with fail
          with_reducible refine kb.mono ?_
          rintro e w1 ⟨rfl, K1⟩
          have HW : Hid (Kp w w1) := HK.out.trans K1
          have ka := KA.out w1 HW.out
          have PP := HP1.out.kp K1
          have HPP : Hid (PX w1 w.heap.size r q x) := PP
          obtain ⟨Q1, hc⟩ := HC.out w1 HW.out
          have c0 := Q1.c0
          have d2 := hc 2 _ rfl
          have d3 := hc 3 _ rfl
          have d4 := hc 4 _ rfl
          have d5 := hc 5 _ rfl
          have d6 := hc 6 _ rfl
          rw [HF.out.1, show ((2 : Nat) : Int) = 2 from rfl] at d6
          have u0 := PP.c0
          have u1 := PP.c1
          have u2 := PP.c2
          clear kb KA K1 HK HP1 p0 p1 p2 c3 hc
          go_wp2_with fail
          with_reducible refine ka.mono ?_
          rintro e w9 ⟨rfl, rfl⟩
          clear ka
          have hq := eq_permP b.r b.q b.e r q x
          obtain ⟨DD, hDD⟩ : ∃ DD, DD = samP b.r b.q b.e r q x := ⟨_, rfl⟩
          rw [← hDD] at hq
          have HD : Hid (DD = samP b.r b.q b.e r q x) := hDD
          clear hDD
          go_wp2_with fail
          have hcase : DD = false ∨ (DD = true ∧ (b.f == s) = false) := by
            have a := HF.out.2
            rw [← HD.out] at a
            cases DD
            · exact .inl rfl
            · exact .inr ⟨rfl, by simpa using a.symm⟩
          rcases hcase with rfl | ⟨rfl, hfs⟩
          all_goals
            go_quiet (fail)
            obtain ⟨wd, hwd⟩ : ∃ wd, wd = w9.drewN nq := ⟨_, rfl⟩
            rw [← hwd]
            have kwd : Kp w9 wd := by rw [hwd]; exact (Kp.refl _).drewN _
            have HWD : Hid (Kp w wd ∧ PX wd w.heap.size r q x) := ⟨HW.out.trans kwd, HPP.out.kp kwd⟩
            clear hwd kwd HW HPP PP c0 d2 d3 d4 d5 d6 u0 u1 u2 hq HD Q1 HC
            have ks := KS.out wd HWD.out.1
            clear KS
            go_wp2_with fail
            with_reducible refine ks.mono ?_
            rintro e w4 ⟨rfl, S4⟩
            go_wp2_with fail
            go_ret
            exact ⟨by first | (rw [HE.out]; rfl) | rw [HE.out], fun c => (by rw [HE.out] at c; cases c), fun _ => S4.out⟩
        · rw [if_neg (fun c => g5 c.2.2)] at hrr
          have HE : Hid (rr = 0) := hrr
          obtain ⟨rs, hrs⟩ : ∃ rs, rs = rsplR false L fr page := ⟨_, rfl⟩
          have ers : rs = 0 := by
            rw [hrs]; unfold rsplR
            rw [if_neg (fun c => c.elim g1 (fun c => c g3)), f4, Int.toNat_natCast, (gL_at f2).2, if_neg (by omega), if_neg g5]
          have KS : Aside (∀ u, Kp w u → Calls Tryz.prog 37 #[.pointer (some ⟨br, 0, none⟩), .int .u64 (page : Int)] u fun e w' => e = .returned (.int .i64 0) ∧ Hid (∃ v1 L1 fr1, U1 u w' br bf (.slice (some ⟨g, 0, none⟩) L.length cap) L fr page v1 L1 fr1)) := fun u ku => (rsplit_any (h.kp ku) hl page hp hf rs hrs).mono fun e w' ⟨a1, a2⟩ => ⟨by rw [a1, ers], (a2.out.1 ers).u1 h.ok hl hf g3⟩
          have HNS : Hid (nsL L page r q x s) := (show nsL L page r q x s from fun k' x' e1 e2 _ => by rw [f1] at e1; cases e1; rw [f2] at e2; cases e2; exact hSS.symm)
          have HF : Hid (b.l = 2 ∧ false = (samP b.r b.q b.e r q x && (b.f == s))) := ⟨g4, hSS⟩
          have HPG : Hid (page < 18446744073709551616 ∧ br < w.heap.size ∧ bf < w.heap.size ∧ g < w.heap.size) := ⟨hp, h.lt, h.ltf, hgl⟩
          clear h hrr hp hc hok f1 f2 f3 f4 g1 g2 g3 kn hl hf ed eb hSS P1 k1 RS hrs ers
          go_enter Tryz.func35, Tryz.ntmps35
          go_wp2_with fail
          with_reducible refine kb.mono ?_
          rintro e w1 ⟨rfl, K1⟩
          have HW : Hid (Kp w w1) := HK.out.trans K1
          have ka := KA.out w1 HW.out
          have PP := HP1.out.kp K1
          have HPP : Hid (PX w1 w.heap.size r q x) := PP
          obtain ⟨Q1, hc⟩ := HC.out w1 HW.out
          have c0 := Q1.c0
          have d2 := hc 2 _ rfl
          have d3 := hc 3 _ rfl
          have d4 := hc 4 _ rfl
          have d5 := hc 5 _ rfl
          have d6 := hc 6 _ rfl
          rw [HF.out.1, show ((2 : Nat) : Int) = 2 from rfl] at d6
          have u0 := PP.c0
          have u1 := PP.c1
          have u2 := PP.c2
          clear kb KA K1 HK HP1 p0 p1 p2 c3 hc
          go_wp2_with fail
          with_reducible refine ka.mono ?_
          rintro e w9 ⟨rfl, rfl⟩
          clear ka
          have hq := eq_permP b.r b.q b.e r q x
          obtain ⟨DD, hDD⟩ : ∃ DD, DD = samP b.r b.q b.e r q x := ⟨_, rfl⟩
          rw [← hDD] at hq
          have HD : Hid (DD = samP b.r b.q b.e r q x) := hDD
          clear hDD
          go_wp2_with fail
          have hcase : DD = false ∨ (DD = true ∧ (b.f == s) = false) := by
            have a := HF.out.2
            rw [← HD.out] at a
            cases DD
            · exact .inl rfl
            · exact .inr ⟨rfl, by simpa using a.symm⟩
          rcases hcase with rfl | ⟨rfl, hfs⟩
          all_goals
            go_quiet (fail)
            obtain ⟨wd, hwd⟩ : ∃ wd, wd = w9.drewN nq := ⟨_, rfl⟩
            rw [← hwd]
            have kwd : Kp w9 wd := by rw [hwd]; exact (Kp.refl _).drewN _
            have HWD : Hid (Kp w wd ∧ PX wd w.heap.size r q x) := ⟨HW.out.trans kwd, HPP.out.kp kwd⟩
            clear hwd kwd HW HPP PP c0 d2 d3 d4 d5 d6 u0 u1 u2 hq HD Q1 HC
            have ks := KS.out wd HWD.out.1
            clear KS
            go_wp2_with fail
            with_reducible refine ks.mono ?_
            rintro e w4 ⟨rfl, S4⟩
            obtain ⟨v1, L1, fr1, UU⟩ := S4.out
            have PP : PX w4 w.heap.size r q x := HWD.out.2.fr UU.f (fun c => by
              have hh := HPG.out
              rcases c with c | c | c
              · omega
              · omega
              · have c' : g = w.heap.size := Option.some.inj c
                omega)
            have ka1 := rat_any UU.q (by have := UU.l; omega) page HPG.out.1
            obtain ⟨k1, x1, e1, e2, e3, e4⟩ := at_some UU.a
            rw [e4] at ka1
            have HW : Hid (Kp w wd) := HWD.out.1
            clear ks S4
            go_wp2_with fail
            with_reducible refine ka1.mono ?_
            rintro e w5 ⟨rfl, rfl⟩
            clear ka1
            obtain ⟨na1, cap1, ev, hcap1⟩ := UU.q.slice
            subst ev
            obtain ⟨g1, eg1, hgl1, hc1⟩ := UU.q.ol.at e2
            subst eg1
            have q0 := UU.q.c0
            have j2 := hc1 2 _ rfl
            have j3 := hc1 3 _ rfl
            have j4 := hc1 4 _ rfl
            have j5 := hc1 5 _ rfl
            have z2 := OL.frz UU.q.ol (k1 * 7 + 2)
            have z3 := OL.frz UU.q.ol (k1 * 7 + 3)
            have z4 := OL.frz UU.q.ol (k1 * 7 + 4)
            have z5 := OL.frz UU.q.ol (k1 * 7 + 5)
            have kn1 := (List.getElem?_eq_some_iff.1 e2).1
            have yk : (k1 : Int) < L1.length := by omega
            have HZ : Hid (RPr w (put4 w5 g1 (k1 * 7) r q x s).drew br bf (.slice (some ⟨g, 0, none⟩) L.length cap) L fr page r q x s) := .inr ⟨L1, fr1, k1, x1, HNS.out, UU.s, e1, e2, RN.then (HW.out.fr _) (fun b hb => .inl hb) ((RQ.pr UU e2 (Kp.refl _) r q x s).kpp ((Kp.refl _).drew))⟩
            have p0 := PP.c0
            have p1 := PP.c1
            have p2 := PP.c2
            clear UU e1 e2 e3 e4 hc1 hgl1 hcap1 kn1 PP
            go_wp2_with fail
            go_region
            all_goals
              go_wp2_with fail
              go_ret
              exact ⟨by first | (rw [HE.out]; rfl) | rw [HE.out], fun _ => ⟨by first | rfl | trivial, HZ.out⟩, fun c => absurd HE.out c⟩
      · rw [if_neg (fun c => c.2.1 rfl)] at hrr
        have HE : Hid (rr = 0) := hrr
        have HF : Hid (b.l = 2 ∧ true = (samP b.r b.q b.e r q x && (b.f == s))) := ⟨g4, hSS⟩
        have HG : Hid (L.findIdx? (hitL page) = some k ∧ L[k]? = some b) := ⟨f1, f2⟩
        clear h hrr hp hc hok f1 f2 f3 f4 g1 g2 g3 kn hl hf ed eb hSS P1 k1
        go_enter Tryz.func35, Tryz.ntmps35
        go_wp2_with fail
        with_reducible refine kb.mono ?_
        rintro e w1 ⟨rfl, K1⟩
        have HW : Hid (Kp w w1) := HK.out.trans K1
        have ka := KA.out w1 HW.out
        have PP := HP1.out.kp K1
        have HPP : Hid (PX w1 w.heap.size r q x) := PP
        obtain ⟨Q1, hc⟩ := HC.out w1 HW.out
        have c0 := Q1.c0
        have d2 := hc 2 _ rfl
        have d3 := hc 3 _ rfl
        have d4 := hc 4 _ rfl
        have d5 := hc 5 _ rfl
        have d6 := hc 6 _ rfl
        rw [HF.out.1, show ((2 : Nat) : Int) = 2 from rfl] at d6
        have u0 := PP.c0
        have u1 := PP.c1
        have u2 := PP.c2
        clear kb KA K1 HK HP1 p0 p1 p2 c3 hc
        go_wp2_with fail
        with_reducible refine ka.mono ?_
        rintro e w9 ⟨rfl, rfl⟩
        clear ka
        have hq := eq_permP b.r b.q b.e r q x
        obtain ⟨DD, hDD⟩ : ∃ DD, DD = samP b.r b.q b.e r q x := ⟨_, rfl⟩
        rw [← hDD] at hq
        have HD : Hid (DD = samP b.r b.q b.e r q x) := hDD
        clear hDD
        go_wp2_with fail
        obtain rfl : DD = true := by
          have a := HF.out.2
          rw [← HD.out] at a
          cases DD
          · simp at a
          · rfl
        have hfs : (b.f == s) = true := by
          have a := HF.out.2.symm
          rw [Bool.and_eq_true] at a
          exact a.2
        go_quiet (fail)
        obtain ⟨wd, hwd⟩ : ∃ wd, wd = w9.drewN nq := ⟨_, rfl⟩
        rw [← hwd]
        have kwd : Kp w9 wd := by rw [hwd]; exact (Kp.refl _).drewN _
        have HWD : Hid (Kp w wd) := HW.out.trans kwd
        clear hwd kwd HW HPP PP c0 d2 d3 d4 d5 d6 u0 u1 u2 hq HD Q1 HC
        go_wp2_with fail
        go_ret
        exact ⟨by first | (rw [HE.out]; rfl) | rw [HE.out], fun _ => ⟨by first | rfl | trivial, .inl ⟨k, b, HG.out.1, HG.out.2, HF.out.1, HF.out.2.symm, RS.out _ HWD.out⟩⟩, fun c => absurd HE.out c⟩
    · -- a Page
      rw [if_neg (fun c => by omega)] at hrr
      have HE : Hid (rr = 0) := hrr
      have HNS : Hid (nsL L page r q x s) := (show nsL L page r q x s from fun k' x' e1 e2 e3 => by rw [f1] at e1; cases e1; rw [f2] at e2; cases e2; omega)
      have HF : Hid (L.findIdx? (hitL page) = some k ∧ L[k]? = some b ∧ b.l = 3 ∧ L.length ≤ 900000 ∧ (-1000000000 ≤ fr ∧ fr ≤ 1000000000) ∧ 0 ≤ atI L page) := ⟨f1, f2, g4, hl, hf, g3⟩
      clear h hrr hp hc hok f1 f2 f3 f4 g1 g2 g3 kn hl hf ed eb hSS P1 k1 RS
      go_enter Tryz.func35, Tryz.ntmps35
      go_wp2_with fail
      with_reducible refine kb.mono ?_
      rintro e w1 ⟨rfl, K1⟩
      have HW : Hid (Kp w w1) := HK.out.trans K1
      have ka := KA.out w1 HW.out
      have PP := HP1.out.kp K1
      obtain ⟨Q1, hc⟩ := HC.out w1 HW.out
      have c0 := Q1.c0
      have d6 := hc 6 _ rfl
      rw [HF.out.2.2.1, show ((3 : Nat) : Int) = 3 from rfl] at d6
      clear kb KA K1 HK HP1 p0 p1 p2 c3
      go_wp2_with fail
      with_reducible refine ka.mono ?_
      rintro e w9 ⟨rfl, rfl⟩
      have UU : U1 w9 w9 br bf (.slice (some ⟨g, 0, none⟩) L.length cap) L fr page (.slice (some ⟨g, 0, none⟩) L.length cap) L fr := ⟨Q1, Fr.refl _ _, fun b hb => .inl hb, ⟨k, b, HF.out.1, HF.out.2.1, .inl ⟨HF.out.2.2.1, rfl, rfl⟩⟩, HF.out.2.2.2.2.2, by have := HF.out.2.2.2.1; omega, by have := HF.out.2.2.2.2.1; omega⟩
      clear ka Q1 hc
      obtain ⟨na1, cap1, ev, hcap1⟩ := UU.q.slice
      cases ev
      obtain ⟨gg, eg1, hgl1, hc1⟩ := UU.q.ol.at HF.out.2.1
      cases eg1
      have q0 := UU.q.c0
      have j2 := hc1 2 _ rfl
      have j3 := hc1 3 _ rfl
      have j4 := hc1 4 _ rfl
      have j5 := hc1 5 _ rfl
      have z2 := OL.frz UU.q.ol (k * 7 + 2)
      have z3 := OL.frz UU.q.ol (k * 7 + 3)
      have z4 := OL.frz UU.q.ol (k * 7 + 4)
      have z5 := OL.frz UU.q.ol (k * 7 + 5)
      have kn1 := (List.getElem?_eq_some_iff.1 HF.out.2.1).1
      have yk : (k : Int) < L.length := by omega
      have HZ : Hid (RPr w (put4 w9 g (k * 7) r q x s).drew br bf (.slice (some ⟨g, 0, none⟩) L.length cap) L fr page r q x s) := .inr ⟨L, fr, k, b, HNS.out, UU.s, HF.out.1, HF.out.2.1, RN.then (HW.out.fr _) (fun b hb => .inl hb) ((RQ.pr UU HF.out.2.1 (Kp.refl _) r q x s).kpp ((Kp.refl _).drew))⟩
      have p0 := PP.c0
      have p1 := PP.c1
      have p2 := PP.c2
      clear UU hc1 hgl1 hcap1 kn1 PP
      go_wp2_with fail
      go_region
      all_goals
        go_wp2_with fail
        go_ret
        exact ⟨by first | (rw [HE.out]; rfl) | rw [HE.out], fun _ => ⟨by first | rfl | trivial, HZ.out⟩, fun c => absurd HE.out c⟩
  · rw [if_pos g3] at hrr
    have HE : Hid (rr = 23) := hrr
    rw [(at_neg g3).1] at KA
    clear h hrr hp P1 eb g2 g1 g3
    go_enter Tryz.func35, Tryz.ntmps35
    go_wp2_with fail
    with_reducible refine kb.mono ?_
    rintro e w1 ⟨rfl, K1⟩
    have HW : Hid (Kp w w1) := HK.out.trans K1
    have ka := KA.out w1 HW.out
    clear kb KA K1
    go_wp2_with fail
    with_reducible refine ka.mono ?_
    rintro e w9 ⟨rfl, rfl⟩
    go_wp2_with fail
    go_ret
    exact ⟨by rw [HE.out]; rfl, fun c => (by rw [HE.out] at c; cases c), fun _ => RS.out _ HW.out⟩
end Go.Proofs.YtanlcmdnhhdhaaaGreatDoor
