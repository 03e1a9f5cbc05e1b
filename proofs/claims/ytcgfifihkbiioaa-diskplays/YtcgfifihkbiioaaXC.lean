/- The document's device: Take, Write. -/
import Derived.Test.YtcgfifihkbiioaaXB
import Derived.RegionTactic
import Derived.BigRegion
import Derived.Deep.RegionLaw
namespace Go.Proofs.Ytcgfifihkbiioaa
open Go.RowKit Go.Maps

/-- Pages[x] = a new row. -/
theorem RMat.lay {w w1 w2 : World} {S : Nat → Prop} {q bo bp N c cap : Nat} {T : Slots} {v : Value} {A : List Bool} (h : RMat w S q bo bp N T v A) (x : Nat) (f : Nat → Nat) (hx : x < N) (k1 : Fr (· = bo) w w1) (on1 : ON w1 bo N (fun y => (putT T x f y).isSome)) (k2 : Kp w1 w2) (hc : w.heap.size ≤ c) (bs : BS w2 c 0 4096 f) :
    RMat (w2.setCell ⟨bp, x, none⟩ (.slice (some ⟨c, 0, none⟩) 4096 cap)) (fun k => S k ∨ k = c) q bo bp N (putT T x f) v A ∧ Fr S w (w2.setCell ⟨bp, x, none⟩ (.slice (some ⟨c, 0, none⟩) 4096 cap)) := by
  have hq := h.own q h.sq
  have ho := h.own bo h.so
  have hp := h.own bp h.sp
  have k12 : Fr (· = bo) w w2 := k1.trans (k2.fr _)
  have k3 : Fr (· = bp) w2 (w2.setCell ⟨bp, x, none⟩ (.slice (some ⟨c, 0, none⟩) 4096 cap)) := (Fr.refl _ w2).set _ _ rfl
  have cb : ∀ y, w2.cell? ⟨bp, y, none⟩ = w.cell? ⟨bp, y, none⟩ := fun y => k12.cell (a := ⟨bp, y, none⟩) hp (fun e => h.nop e.symm)
  have frS : Fr S w (w2.setCell ⟨bp, x, none⟩ (.slice (some ⟨c, 0, none⟩) 4096 cap)) := (k12.mono (fun i _ e => by rw [e]; exact h.so)).trans (k3.mono (fun i _ e => by rw [e]; exact h.sp))
  have frQ : Fr (fun i => i = bo ∨ i = bp) w (w2.setCell ⟨bp, x, none⟩ (.slice (some ⟨c, 0, none⟩) 4096 cap)) := (k12.mono (fun i _ e => .inl e)).trans (k3.mono (fun i _ e => .inr e))
  refine ⟨⟨fun i hi => ?_, .inl h.sq, .inl h.so, .inl h.sp, h.no, h.np, h.nop, (frQ.block q hq (fun e => e.elim (fun e => h.no e.symm) (fun e => h.np e.symm))).trans h.row, (on1.fr (k2.fr (fun _ => False)) id).fr k3 h.nop, fun y hy => ?_, fun y => ?_, fun y hy => by rw [putT_other _ _ _ _ (by omega)]; exact h.over y hy, h.n2, h.ah.fr frQ (fun b _ hb e => e.elim hb.2.2.1 hb.2.2.2) (fun b _ hb => ⟨.inl hb.1, hb.2⟩)⟩, frS⟩
  · rcases hi with hi | rfl
    · exact Nat.lt_of_lt_of_le (h.own i hi) frS.size
    · exact Nat.lt_of_lt_of_le bs.lt k3.size
  · obtain ⟨u, r1, r2⟩ := h.pg y hy
    by_cases e : y = x
    · subst e
      refine ⟨.slice (some ⟨c, 0, none⟩) 4096 cap, World.cell?_setCell_same _ _ _ ((cb y).trans r1), fun f' hf => ?_⟩
      rw [putT_same] at hf
      cases hf
      exact ⟨bs.byte, c, cap, rfl, .inr rfl, by omega, by omega, by omega, bs.fr k3 (by omega)⟩
    · refine ⟨u, ?_, fun f' hf => ?_⟩
      · rw [World.cell?_setCell_other _ _ _ _ (by intro z; simp only [Addr.mk.injEq] at z; omega)]
        exact (cb y).trans r1
      · rw [putT_other _ _ _ _ e] at hf
        obtain ⟨b1, c', cap', s1, s2, s3, s4, s5, s6⟩ := r2 f' hf
        exact ⟨b1, c', cap', s1, .inl s2, s3, s4, s5, s6.fr frQ (fun e => e.elim s4 s5)⟩
  · rw [World.frozen?_setCell]
    exact (World.frozen?_of_block (a := ⟨bp, y, none⟩) (k12.block bp hp (fun e => h.nop e.symm))).trans (h.pf y)

set_option maxHeartbeats 4000000 in
theorem rtake_any {w : World} {S : Nat → Prop} {q N : Nat} {T : Slots} {A : List Bool} (h : RK w S q N T A) :
    Calls Try.prog 10 #[.pointer (some ⟨q, 0, none⟩)] w fun e w' => e = .returned (.tuple #[.int .i64 (tkX N T : Nat), .int .i64 (tkR N T)]) ∧ ∃ S', RK w' S' q N (tkT N T) A ∧ Fr S w w' ∧ Less S S' w := by
  obtain ⟨bo, bp, v, h⟩ := h
  have c0 := h.c0
  have z1 : (N : Int) ≤ 4096 := by have := h.n2; omega
  have hll := lst_le T N
  have hta := tkn_all T N
  obtain ⟨m, hm⟩ : ∃ m, lst T N = m := ⟨_, rfl⟩
  have HM : Hid (lst T N = m) := hm
  have HO : Aside (∀ x, x < m → w.cell? ⟨bo, x, none⟩ = some (.bool true)) := fun x hx => by
    have := h.on.cell x (by omega)
    rwa [lst_on T N x (by omega)] at this
  have HH : Aside (RMat w S q bo bp N T v A) := h
  rw [hm] at hll hta
  clear h hm
  by_cases c : m = N
  · rw [show tkX N T = 0 from if_pos (hta.2 c), show tkR N T = 12 from if_pos (hta.2 c), show tkT N T = T from if_pos (hta.2 c)]
    have E : Hid (∃ S', RK w S' q N T A ∧ Fr S w w ∧ Less S S' w) := ⟨S, ⟨bo, bp, v, HH.out⟩, Fr.refl _ _, fun _ h => .inl h⟩
    subst c
    clear hta HM HH
    go_enter Try.func10, Try.ntmps10
    go_wp2_with fail
    go_loopg [4] (m + 1) (fun g v4 wq => ∃ (j : Nat), v4 = .int .i64 (j : Int) ∧ j ≤ m ∧ m + 1 - j ≤ g ∧ wq = w)
    case atStart => exact ⟨0, rfl, by omega, by omega, rfl⟩
    case round =>
      obtain ⟨j, rfl, hj, hgj, rfl⟩ := hrel
      by_cases hjn : j < m
      · have y7 : (j : Int) < m := by omega
        have d1 := HO.out j hjn
        go_wp2
        go_roundg (m + 1 - (j + 1))
        case measure => omega
        case rel => exact ⟨j + 1, by go_num, by omega, by omega, rfl⟩
      · have e : j = m := by omega
        subst e
        have y7 : ¬ (j : Int) < j := by omega
        go_wp2
        go_ret2
        exact ⟨rfl, E.out⟩
  · have hne : ¬ tkn T N = N := fun e => c (hta.1 e)
    rw [show tkX N T = m by unfold tkX; rw [if_neg hne, HM.out], show tkR N T = 0 from if_neg hne, show tkT N T = putT T m z0 by unfold tkT; rw [if_neg hne, HM.out]]
    have hmN : m < N := by omega
    have z2 : (m : Int) < N := by omega
    have hoff : T m = none := by have := lst_off T N (by rw [HM.out]; exact hmN); rwa [HM.out] at this
    have d0 := HH.out.on.cell m hmN
    rw [hoff] at d0
    have d0' : w.cell? ⟨bo, m, none⟩ = some (.bool false) := d0
    have df := HH.out.on.frz m
    obtain ⟨w1, h1⟩ : ∃ w1, w1 = w.setCell ⟨bo, m, none⟩ (.bool true) := ⟨_, rfl⟩
    have k1 : Fr (· = bo) w w1 := by rw [h1]; exact (Fr.refl _ w).set _ _ rfl
    have on1 : ON w1 bo N (fun y => (putT T m z0 y).isSome) := by
      rw [h1]
      exact (HH.out.on.set m hmN true).like (fun y _ => by
        by_cases e : y = m
        · rw [if_pos e, e, putT_same]; rfl
        · rw [if_neg e, putT_other _ _ _ _ e])
    have hmk := fun w => make_page w
    have hsz : w1.heap.size = w.heap.size := by rw [h1, World.size_setCell]
    have k2 : Kp w1 (w1.alloc (.cells (bytesOf z0 4096).toArray 5)) := (Kp.refl w1).alloc _
    have bs : BS (w1.alloc (.cells (bytesOf z0 4096).toArray 5)) w1.heap.size 0 4096 z0 := (RB.made w1 4096).bs z0_byte
    have L := HH.out.lay (cap := 4096) m z0 hmN k1 on1 k2 (by omega) bs
    have hq := HH.out.own q HH.out.sq
    have hp := HH.out.own bp HH.out.sp
    have c1 : w1.cell? ⟨q, 1, none⟩ = some (.slice (some ⟨bp, 0, none⟩) N N) := (k1.cell (a := ⟨q, 1, none⟩) hq (fun e => HH.out.no e.symm)).trans HH.out.c1
    have c1' := (k2.cell (p := ⟨q, 1, none⟩) (by rw [hsz]; exact hq)).trans c1
    obtain ⟨u, u1, _⟩ := HH.out.pg m hmN
    have u2 : (w1.alloc (.cells (bytesOf z0 4096).toArray 5)).cell? ⟨bp, m, none⟩ = some u := (k2.cell (p := ⟨bp, m, none⟩) (by rw [hsz]; exact hp)).trans ((k1.cell (a := ⟨bp, m, none⟩) hp (fun e => HH.out.nop e.symm)).trans u1)
    have u3 : (w1.alloc (.cells (bytesOf z0 4096).toArray 5)).frozen? ⟨bp, m, none⟩ = false := (k2.frz (p := ⟨bp, m, none⟩) (by rw [hsz]; exact hp)).trans ((World.frozen?_of_block (a := ⟨bp, m, none⟩) (k1.block bp hp (fun e => HH.out.nop e.symm))).trans (HH.out.pf m))
    have E : Hid (∃ S', RK ((w1.alloc (.cells (bytesOf z0 4096).toArray 5)).setCell ⟨bp, m, none⟩ (.slice (some ⟨w1.heap.size, 0, none⟩) 4096 4096)).drew S' q N (putT T m z0) A ∧ Fr S w ((w1.alloc (.cells (bytesOf z0 4096).toArray 5)).setCell ⟨bp, m, none⟩ (.slice (some ⟨w1.heap.size, 0, none⟩) 4096 4096)).drew ∧ Less S S' w) := ⟨_, RK.kp ⟨bo, bp, v, L.1⟩ (Kp.refl _).drew, L.2.drew, fun k hk => hk.elim .inl (fun e => .inr (by rw [e, hsz]; exact Nat.le_refl _))⟩
    have H1 : Hid (w1 = w.setCell ⟨bo, m, none⟩ (.bool true)) := h1
    clear hta hne hoff d0 k1 on1 k2 bs L hq hp u1 h1 hsz HH HM
    generalize (bytesOf z0 4096).toArray = ZA at *
    go_enter Try.func10, Try.ntmps10
    go_wp2_with fail
    go_loopg [4] (m + 1) (fun g v4 wq => ∃ (j : Nat), v4 = .int .i64 (j : Int) ∧ j ≤ m ∧ m + 1 - j ≤ g ∧ wq = w)
    case atStart => exact ⟨0, rfl, by omega, by omega, rfl⟩
    case round =>
      obtain ⟨j, rfl, hj, hgj, rfl⟩ := hrel
      have y7 : (j : Int) < N := by omega
      by_cases hjn : j < m
      · have d1 := HO.out j hjn
        clear d0' df
        go_wp2
        go_roundg (m + 1 - (j + 1))
        case measure => omega
        case rel => exact ⟨j + 1, by go_num, by omega, by omega, rfl⟩
      · have e : j = m := by omega
        subst e
        go_wp2_with fail
        rw [← H1.out]
        clear H1
        go_region
        all_goals
          go_wp2
          go_ret2
          exact ⟨rfl, E.out⟩

/-- An append whose run is known, at a step of a region that draws its order. -/
theorem step_append_of {P : Program} {w : World} {ops : Array Oper} {o : Oper} {a : Act} {K : Act → World → Prop} {Q : Exit → Act → World → Prop} {E : Prop} {t ty : TypeId} {vs vx v' : Value} {w' : World}
    (hr : (Builtin.append_ #[t, t] ty #[vs, vx]).run P w = .ok v' w') (hgd : o.guard = none) (s x : Operand) (ho : o.op = .call { callee := .builtin .append, args := #[s, x], argTypes := #[t, t] }) (hty : o.type = ty) (hs : a.eval s = vs) (hx : a.eval x = vx)
    (h : K (a.put o.dst v') w') : if Region.wanted o (yielded ops a.tmps) = true then Oper.wp P o a w K Q else E := by
  rw [if_pos (by simp [Region.wanted, hgd])]
  exact wp_append_of hr s x ho hty hs hx h

set_option maxHeartbeats 4000000 in
set_option maxRecDepth 20000 in
theorem rwrite_ok {w : World} {S : Nat → Prop} {q bo bp N : Nat} {T : Slots} {v : Value} {A : List Bool} (h : RMat w S q bo bp N T v A) (n : Nat) (c : (T n).isSome = true) (hh : A.headD false = false) (cb co cap : Nat) (f : Nat → Nat) (hf : Bytes f) (s1 : cb < w.heap.size) (s2 : ¬ S cb) (s3 : Cells w cb co 4096 f) :
    Calls Try.prog 15 #[.pointer (some ⟨q, 0, none⟩), .int .i64 (n : Int), .slice (some ⟨cb, co, none⟩) 4096 cap] w fun e w' => e = .returned (.int .i64 0) ∧ ∃ S', RK w' S' q N (putT T n f) A.tail ∧ Fr S w w' ∧ Less S S' w := by
  have k1 := rhas_any h (n : Int)
  have k2 := rfails_any h
  rw [hasT_nat, c] at k1
  rw [hh] at k2
  have hl : n < N := by
    by_cases e : n < N
    · exact e
    · rw [h.over n (by omega)] at c; cases c
  have y1 : (n : Int) < N := by omega
  have HS : Hid (¬ S cb ∧ Cells w cb co 4096 f ∧ Bytes f ∧ (T n).isSome = true) := ⟨s2, s3, hf, c⟩
  clear h c hh s2 s3 hf
  go_enter Try.func15, Try.ntmps15
  go_wp2_with (go_at_call 26; with_reducible refine k1.mono ?_; rintro e w' ⟨rfl, rfl⟩)
  with_reducible refine k2.mono ?_
  rintro e w1 ⟨rfl, ⟨v', M1⟩, F1⟩
  clear k1 k2
  have c1 := M1.c1
  replace M1 := M1.fr ((Kp.refl w1).drew.fr (fun _ => False)) (fun _ _ => id)
  replace F1 := F1.drew
  obtain ⟨g, cap', w2, r0, O2, K2⟩ := copy_any w1.drew cb co 4096 cap f (Nat.lt_of_lt_of_le s1 F1.size) (fun i hi => by rw [F1.cell (a := ⟨cb, co + i, none⟩) s1 HS.out.1]; exact HS.out.2.1 i hi) HS.out.2.2.1 (by omega)
  have r1 : (Builtin.append_ #[31, 31] 31 #[.slice (some ⟨w1.heap.size, 0, none⟩) 0 0, .slice (some ⟨cb, co, none⟩) 4096 cap]).run Try.prog (w1.alloc (.cells #[] 5)).drew = .ok (.slice (some ⟨g, 0, none⟩) 4096 cap') w2 := r0
  clear r0
  have L := M1.lay (cap := cap') n f hl (Fr.refl _ w1.drew) (M1.on.like (fun y _ => by
    by_cases e : y = n
    · rw [e, putT_same, HS.out.2.2.2]; rfl
    · rw [putT_other _ _ _ _ e])) K2 O2.facts.1 O2.bs
  have hM := M1.fr (K2.fr (fun _ => False)) (fun _ _ => id)
  have c2 := hM.c1
  have hA := M1.fr (((Kp.refl w1.drew).alloc (.cells #[] 5)).fr (fun _ => False)) (fun _ _ => id)
  have c3 : (w1.alloc (.cells #[] 5)).cell? ⟨q, 1, none⟩ = some (.slice (some ⟨bp, 0, none⟩) N N) := hA.c1
  obtain ⟨u, u1, _⟩ := hM.pg n hl
  have u2 := hM.pf n
  have E : Hid (∃ S', RK (w2.setCell ⟨bp, n, none⟩ (.slice (some ⟨g, 0, none⟩) 4096 cap')) S' q N (putT T n f) A.tail ∧ Fr S w' (w2.setCell ⟨bp, n, none⟩ (.slice (some ⟨g, 0, none⟩) 4096 cap')) ∧ Less S S' w') := ⟨_, ⟨bo, bp, v', L.1⟩, F1.trans L.2, fun k hk => hk.elim .inl (fun e => .inr (by rw [e]; exact Nat.le_trans F1.size O2.facts.1))⟩
  clear M1 F1 L hM hA O2 K2 HS
  generalize (4096 : Nat) = n4 at *
  go_wp2_with fail
  go_region_law (first | (refine step_append_of r1 (by rfl) (.tmp 24) (.tmp 25) (by rfl) (by rfl) (by rfl) (by rfl) ?_))
  all_goals
    go_wp2
    go_ret
    exact ⟨rfl, E.out⟩

set_option maxHeartbeats 2000000 in
theorem rwrite_any {w : World} {S : Nat → Prop} {q N : Nat} {T : Slots} {A : List Bool} (h : RK w S q N T A) (x : Int) (na : Option Addr) (n cap : Nat) (f : Nat → Nat) (hf : Bytes f) (hs : n = 4096 → ∃ c o, na = some ⟨c, o, none⟩ ∧ c < w.heap.size ∧ ¬ S c ∧ Cells w c o n f) :
    Calls Try.prog 15 #[.pointer (some ⟨q, 0, none⟩), .int .i64 x, .slice na n cap] w fun e w' => e = .returned (.int .i64 (wrR T A x n)) ∧ ∃ S', RK w' S' q N (wrT T A x n f) (wrA T A x n) ∧ Fr S w w' ∧ Less S S' w := by
  obtain ⟨bo, bp, v, h⟩ := h
  have k1 := rhas_any h x
  by_cases c : hasT T x = true
  · rw [c] at k1
    by_cases d : n = 4096
    · subst d
      obtain ⟨cb, co, rfl, s1, s2, s3⟩ := hs rfl
      have eA : wrA T A x 4096 = A.tail := if_pos ⟨c, rfl⟩
      cases hh : A.headD false
      · have eR : wrR T A x 4096 = 0 := by unfold wrR; rw [if_pos c, if_pos rfl, hh]; rfl
        have eT : wrT T A x 4096 f = putT T x.toNat f := if_pos ⟨c, rfl, hh⟩
        rw [eA, eR, eT]
        obtain ⟨ex, hl⟩ := h.has_nat c
        have := rwrite_ok h x.toNat ((hasT_iff T x).1 c).2 hh cb co cap f hf s1 s2 s3
        rw [ex] at this
        exact this
      · have eR : wrR T A x 4096 = 13 := by unfold wrR; rw [if_pos c, if_pos rfl, hh]; rfl
        have eT : wrT T A x 4096 f = T := if_neg (fun h => by rw [hh] at h; cases h.2.2)
        rw [eA, eR, eT]
        have k2 := rfails_any h
        rw [hh] at k2
        clear eA eR eT h hs c hh s1 s2 s3
        go_enter Try.func15, Try.ntmps15
        go_wp2_with (go_at_call 26; with_reducible refine k1.mono ?_; rintro e w' ⟨rfl, rfl⟩)
        with_reducible refine k2.mono ?_
        rintro e w1 ⟨rfl, ⟨v', M1⟩, F1⟩
        have E : Hid (∃ S', RK w1 S' q N T A.tail ∧ Fr S w' w1 ∧ Less S S' w') := ⟨S, ⟨bo, bp, v', M1⟩, F1, fun _ h => .inl h⟩
        clear M1 F1 k1 k2
        go_wp2
        go_ret
        exact ⟨rfl, E.out⟩
    · have eR : wrR T A x n = 1 := by unfold wrR; rw [if_pos c, if_neg d]
      have eT : wrT T A x n f = T := if_neg (fun h => d h.2.1)
      have eA : wrA T A x n = A := if_neg (fun h => d h.2)
      rw [eA, eR, eT]
      have E : Hid (∃ S', RK w S' q N T A ∧ Fr S w w ∧ Less S S' w) := ⟨S, ⟨bo, bp, v, h⟩, Fr.refl _ _, fun _ h => .inl h⟩
      have z : ¬ (n : Int) = 4096 := by omega
      clear eA eR eT h hs c d
      go_enter Try.func15, Try.ntmps15
      go_wp2_with (go_at_call 26; with_reducible refine k1.mono ?_; rintro e w' ⟨rfl, rfl⟩)
      go_ret
      exact ⟨rfl, E.out⟩
  · have eR : wrR T A x n = 23 := if_neg c
    have eT : wrT T A x n f = T := if_neg (fun h => c h.1)
    have eA : wrA T A x n = A := if_neg (fun h => c h.1)
    rw [eA, eR, eT]
    rw [show hasT T x = false by simpa using c] at k1
    have E : Hid (∃ S', RK w S' q N T A ∧ Fr S w w ∧ Less S S' w) := ⟨S, ⟨bo, bp, v, h⟩, Fr.refl _ _, fun _ h => .inl h⟩
    clear eA eR eT h hs c
    go_enter Try.func15, Try.ntmps15
    go_wp2_with (go_at_call 26; with_reducible refine k1.mono ?_; rintro e w' ⟨rfl, rfl⟩)
    go_ret
    exact ⟨rfl, E.out⟩

end Go.Proofs.Ytcgfifihkbiioaa
