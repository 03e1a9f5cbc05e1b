/- Joined: R26, R27, R34, R35. -/
import Derived.Test.YtanlcmdnhhdhaaaGreatDoorJ23
/- stage2: clear. -/
namespace Go.Proofs.YtanlcmdnhhdhaaaGreatDoor
open Go.RowKit
set_option maxRecDepth 10000

/-- At the label: the level a is next. -/
structure JC (W : World) (X : Nat → Prop) (w wr : World) (bt p pm N pool o : Nat) (M0 : Nat → Nat → Nat) (C0 : Nat → Nat) (Z : Nat → Bool) (root : Nat) (E0 : Nat → Nat → DV) (page b a : Nat) : Prop where
  ex : ∃ M C E, TS W X wr bt p pm N pool o M C Z root E ∧ CL root E0 E page a ∧ Ot Z M0 C0 M C
  wl : WL wr b (stps root E0 page)
  fr : Fr (Out W X) w wr
def clearJ (W : World) (X : Nat → Prop) (w : World) (bt p pm N pool o : Nat) (M0 : Nat → Nat → Nat) (C0 : Nat → Nat) (Z : Nat → Bool) (root : Nat) (E0 : Nat → Nat → DV) (page b : Nat) : Act → World → Prop := fun a' w' => ∃ (a : Nat) (u2 u3 u5 u6 u7 u8 u9 u10 u11 u12 u13 u14 u15 u16 u17 u18 u19 u20 u21 u22 u23 u24 u25 u26 u27 u28 u29 u30 u31 u32 u33 u34 u35 u36 u37 u38 u39 u40 u41 u42 u43 u44 u45 : Value),
  a' = { tmps := #[.pointer (some ⟨bt, 0, none⟩), .slice (some ⟨b, 0, none⟩) 4 4, u2, u3, .int .i64 (a : Int), u5, u6, u7, u8, u9, u10, u11, u12, u13, u14, u15, u16, u17, u18, u19, u20, u21, u22, u23, u24, u25, u26, u27, u28, u29, u30, u31, u32, u33, u34, u35, u36, u37, u38, u39, u40, u41, u42, u43, u44, u45], defers := [] } ∧ a ≤ 3 ∧ JC W X w w' bt p pm N pool (o + (3 - a)) M0 C0 Z root E0 page b a
section
variable {W w w' : World} {X Y : Nat → Prop} {bt p pm N pool o : Nat} {M : Nat → Nat → Nat} {C : Nat → Nat} {Z : Nat → Bool} {root : Nat} {E : Nat → Nat → DV}
set_option maxHeartbeats 8000000 in
theorem clear_any (h : TS W X w bt p pm N pool o M C Z root E) (ne : NE root E (fun _ _ => False)) (page b : Nat) (hp : page < 268435456) (ho : o < 4000000000000000000) (hlv : lvG E page = 3) (hL : WL w b (stps root E page)) (hb : X b) :
    Calls Tryz.prog 64 #[.pointer (some ⟨bt, 0, none⟩), .slice (some ⟨b, 0, none⟩) 4 4] w fun e w' => e = .returned (.tuple #[]) ∧ (∃ C' E', AC W X w w' bt p pm N pool (o + 4) M C Z root C' E' ∧ ∀ l j, l ≤ 3 → lfD E' l j = if l = 3 ∧ j = page then dN else lfD E l j) ∧ WL w' b (stps root E page) := by
  have hn := h.fw.nums
  have J0 : JC W X w w bt p pm N pool (o + (3 - 3)) M C Z root E page b 3 := ⟨⟨M, C, E, h, CL.start ne, Ot.refl _ _ _⟩, hL, Fr.refl _ _⟩
  have HJ : Hid (JC W X w w bt p pm N pool (o + (3 - 3)) M C Z root E page b 3) := J0
  have HH : Hid (pool ≤ 1048576 ∧ pool < N ∧ page < 268435456 ∧ o < 4000000000000000000 ∧ lvG E page = 3 ∧ X b) := ⟨by omega, by omega, hp, ho, hlv, hb⟩
  clear h ne hp ho hL hb hn J0 hlv
  go_enter Tryz.func64, Tryz.ntmps64
  go_wp2_with fail
  refine scope_again 0 (clearJ W X w bt p pm N pool o M C Z root E page b) (fun a' _ => (intOf (a'.tmps.getD 4 undef)).toNat) rfl (fun pass => ?_) ?_
  · have PASS : Aside (∀ a v, clearJ W X w bt p pm N pool o M C Z root E page b a v → _) := pass
    clear pass
    go_wp2_with fail
    go_step3
    rename_i hK
    exact hK _ _ (PASS.out _ _ ⟨3, _, _, _, _, _, _, _, _, _, _, _, _, _, _, _, _, _, _, _, _, _, _, _, _, _, _, _, _, _, _, _, _, _, _, _, _, _, _, _, _, _, _, _, rfl, by omega, HJ.out⟩)
  · rintro a' v ⟨a, u2, u3, u5, u6, u7, u8, u9, u10, u11, u12, u13, u14, u15, u16, u17, u18, u19, u20, u21, u22, u23, u24, u25, u26, u27, u28, u29, u30, u31, u32, u33, u34, u35, u36, u37, u38, u39, u40, u41, u42, u43, u44, u45, rfl, ha, J⟩
    obtain ⟨M1, C1, E1, T1, P1, O1⟩ := J.ex
    obtain ⟨q1, q2, q3, q4, q5, q6⟩ := HH.out
    obtain ⟨g1, g2, g3, g4, x, ex, hx⟩ := P1.cut T1.tg ha q3 q5
    have es : E1 a (qn page a) = E a (qn page a) := P1.same a (Nat.le_refl _)
    have et : tbX root E a (qn page a / 512) = x := by rw [← ex]; unfold tbX; rw [P1.tabl (Nat.le_refl _) ha]
    have st : stp root E page a = ⟨a, x * 4096 + 8 * (qn page a % 512), wdD (E1 a (qn page a)), E1 a (qn page a)⟩ := by unfold stp; rw [et, es]
    have hs : (stps root E page)[a]? = some (stp root E page a) := stps_get (by omega)
    rw [st] at hs
    have mx := T1.tg.mine a _ x ha hx
    have KR := replace_any T1.ft x (qn page a % 512) ⟨a, x * 4096 + 8 * (qn page a % 512), wdD (E1 a (qn page a)), E1 a (qn page a)⟩ dN rfl g4 (by omega) (Nat.mod_lt _ (by decide)) (okD_none ha) (by omega)
    rw [ex] at g1 g3
    obtain ⟨M2, hM2⟩ : ∃ M2, M2 = repM M1 x (qn page a % 512) (E1 a (qn page a)) dN := ⟨_, rfl⟩
    obtain ⟨C2, hC2⟩ : ∃ C2, C2 = repC C1 (E1 a (qn page a)) := ⟨_, rfl⟩
    obtain ⟨E2, hE2⟩ : ∃ E2, E2 = hang E1 a (qn page a) dN (fun _ => dN) := ⟨_, rfl⟩
    rw [← hM2, ← hC2] at g1 g3
    rw [← hE2] at g1 g2
    have hx2 : tbl root E2 a (qn page a / 512) = some x := by rw [g2.tb, ← P1.tabl (Nat.le_refl _) ha]; exact hx
    have KR2 : Aside (Calls Tryz.prog 79 #[.pointer (some ⟨bt, 0, none⟩), svV ⟨a, x * 4096 + 8 * (qn page a % 512), wdD (E1 a (qn page a)), E1 a (qn page a)⟩, dvV dN] v fun e w' => e = .returned (.tuple #[]) ∧ Hid (TS W X w' bt p pm N pool (o + (3 - a) + 1) M2 C2 Z root E2 ∧ CD root E E2 page a ∧ Ot Z M C M2 C2 ∧ WL w' b (stps root E page) ∧ Fr (Out W X) w w')) := KR.mono fun e w' ⟨e1, e2, e3⟩ => ⟨e1, by
      rw [show (⟨a, x * 4096 + 8 * (qn page a % 512), wdD (E1 a (qn page a)), E1 a (qn page a)⟩ : SV).d = E1 a (qn page a) from rfl, ← hM2, ← hC2] at e2
      exact ⟨e2.ts g1, g2, O1.trans g3, J.wl.fr e3 (fun c => c.2 q6), J.fr.trans e3⟩⟩
    have cc := fun j' y (hy : (encS ⟨a, x * 4096 + 8 * (qn page a % 512), wdD (E1 a (qn page a)), E1 a (qn page a)⟩)[j']? = some y) => J.wl.cell hs hy
    have HS : Hid ((stps root E page)[a]? = some ⟨a, x * 4096 + 8 * (qn page a % 512), wdD (E1 a (qn page a)), E1 a (qn page a)⟩) := hs
    have HX : Hid (tbl root E2 a (qn page a / 512) = some x ∧ x < pool ∧ (a = 0 → x = root) ∧ (a ≠ 0 → x ≠ root)) := ⟨hx2, mx.1, fun c => by
      subst c
      rw [(qn_zero q3).2] at hx
      exact (Option.some.inj hx).symm, fun c e => by
      subst e
      exact c (T1.tg.one a _ 0 0 x ha (by omega) hx rfl).1⟩
    generalize wdD (E1 a (qn page a)) = su at *
    generalize hsd : E1 a (qn page a) = sd at *
    obtain ⟨aa, haa⟩ : ∃ aa, aa = x * 4096 + 8 * (qn page a % 512) := ⟨_, rfl⟩
    obtain ⟨rr, hrr⟩ : ∃ rr, rr = 8 * (qn page a % 512) := ⟨_, rfl⟩
    obtain ⟨xa, hxa⟩ : ∃ xa, xa = x * 4096 := ⟨_, rfl⟩
    have m1 : (aa : Int).tmod 4096 = (rr : Int) := by
      rw [Int.tmod_eq_emod_of_nonneg (by omega)]
      have := Nat.mod_lt (qn page a) (show 0 < 512 by decide)
      omega
    have m2 : (aa : Int) % 4096 = (rr : Int) := by
      have := Nat.mod_lt (qn page a) (show 0 < 512 by decide)
      omega
    have m3 : (aa : Int) - (rr : Int) = (xa : Int) := by omega
    have m4 : (xa : Int) < 4294967296 := by omega
    have m5 : (aa : Int) < 4294967296 := by
      have := Nat.mod_lt (qn page a) (show 0 < 512 by decide)
      omega
    have HXA : Hid (xa = x * 4096) := hxa
    rw [← haa] at KR2 cc HS
    have y1 : (a : Int) ≤ 3 := by omega
    clear hM2 hC2 hE2 KR P1 O1 J T1 g1 g2 g3 g4 ex hx es et st hs mx q1 q2 q3 q4 q5 q6 hx2 haa hrr hxa hsd
    obtain ⟨dk, da, dr, dq, dx, df⟩ := sd
    have x0 := cc 0 _ rfl
    have x1 := cc 1 _ rfl
    have x2 := cc 2 _ rfl
    have x3 := cc 3 _ rfl
    have x4 := cc 4 _ rfl
    have x5 := cc 5 _ rfl
    have x6 := cc 6 _ rfl
    have x7 := cc 7 _ rfl
    have x8 := cc 8 _ rfl
    simp only [Nat.add_zero] at x0
    have kr := KR2.out
    simp only [svV, dvV, dN] at kr
    rw [show ((0 : Nat) : Int) = 0 from rfl] at kr
    clear cc KR2
    go_wp2_with fail
    with_reducible refine kr.mono ?_
    rintro _ w1 ⟨rfl, F2⟩
    have L1 := F2.out.2.2.2.1
    have z0 := L1.cell HS.out (j := 0) rfl
    have z1 : ∀ m, (w1.drewN m).cell? ⟨b, a * 9 + 1, none⟩ = some (.int .u64 (aa : Int)) := fun m => L1.cell HS.out (j := 1) rfl
    simp only [Nat.add_zero] at z0
    have c1 := F2.out.1.tx.c1
    clear kr L1 x0 x1 x2 x3 x4 x5 x6 x7 x8
    go_wp2_with fail
    go_quiet (fail)
    generalize hw2 : w1.drewN nq = w2 at *
    have k2 : Kp w1 w2 := by rw [← hw2]; exact (Kp.refl w1).drewN nq
    have F3 : Hid (TS W X w2 bt p pm N pool (o + (3 - a) + 1) M2 C2 Z root E2 ∧ CD root E E2 page a ∧ Ot Z M C M2 C2 ∧ WL w2 b (stps root E page) ∧ Fr (Out W X) w w2) := by
      obtain ⟨f1, f2, f3, f4, f5⟩ := F2.out
      exact ⟨f1.kps k2, f2, f3, f4.kp k2, f5.trans (k2.fr _)⟩
    have z0 := F3.out.2.2.2.1.cell HS.out (j := 0) rfl
    simp only [Nat.add_zero] at z0
    have c1 := F3.out.1.tx.c1
    clear F2 z1 hw2 k2 m1 m2 m3 m4 m5
    obtain ⟨ra, hra⟩ : ∃ ra, ra = root * 4096 := ⟨_, rfl⟩
    rw [← hra] at c1
    by_cases a0 : a = 0
    · have ne1 : ((xa : Int) != (ra : Int)) = false := by
        have := HX.out.2.2.1 a0
        have := HXA.out
        simp; omega
      have ne2 : decide ((xa : Int) = (ra : Int)) = true := by
        have := HX.out.2.2.1 a0
        have := HXA.out
        exact decide_eq_true (by omega)
      have FE : Hid (∃ C' E', AC W X w w2 bt p pm N pool (o + 4) M C Z root C' E' ∧ ∀ l j, l ≤ 3 → lfD E' l j = if l = 3 ∧ j = page then dN else lfD E l j) := by
        obtain ⟨f1, f2, f3, f4, f5⟩ := F3.out
        exact ⟨C2, E2, ⟨⟨M2, f1.le (by omega), f3⟩, f2.stop (.inl a0), f5⟩, f2.lf⟩
      have FL : Hid (WL w2 b (stps root E page)) := F3.out.2.2.2.1
      clear F3 HX HXA hra a0
      go_wp2_with fail
      (try simp only [Exit.jump])
      go_end0
      exact ⟨rfl, FE.out, FL.out⟩
    · have ne0 : ¬ xa = ra := by
        have := HX.out.2.2.2 a0
        have := HXA.out
        omega
      have ne1 : ((xa : Int) != (ra : Int)) = true := by simp; omega
      have ne2 : ((xa : Int) == (ra : Int)) = false := by rw [beq_eq_false_iff_ne]; omega
      have ne3 : ¬ (xa : Int) = (ra : Int) := by omega
      clear hra
      by_cases em : ∀ i, i < 512 → (E2 a (512 * (qn page a / 512) + i)).k = 0
      · have ke := isEmpty_any F3.out.1 ha HX.out.1 true ⟨fun _ => em, fun _ => rfl⟩
        have HE : Hid (∀ i, i < 512 → (E2 a (512 * (qn page a / 512) + i)).k = 0) := em
        rw [← HXA.out] at ke
        clear em
        go_wp2_with fail
        with_reducible refine ke.mono ?_
        rintro _ w3 ⟨rfl, k3⟩
        have FJ : Hid (JC W X w w3 bt p pm N pool (o + (3 - (a - 1))) M C Z root E page b (a - 1)) := by
          obtain ⟨f1, f2, f3, f4, f5⟩ := F3.out
          obtain ⟨n, rfl⟩ : ∃ n, a = n + 1 := ⟨a - 1, by omega⟩
          refine ⟨⟨M2, C2, E2, (f1.kps k3).le (by omega), f2.next ha HE.out, f3⟩, f4.kp k3, f5.trans (k3.fr _)⟩
        clear F3 HE ke k3
        go_wp2_with fail
        rw [show ((a : Int) - 1) = ((a - 1 : Nat) : Int) by omega]
        go_step3
        refine ⟨rfl, ⟨a - 1, _, _, _, _, _, _, _, _, _, _, _, _, _, _, _, _, _, _, _, _, _, _, _, _, _, _, _, _, _, _, _, _, _, _, _, _, _, _, _, _, _, _, _, rfl, by omega, ?_⟩, ?_⟩
        · exact FJ.out
        · simp [intOf]
          omega
      · have ke := isEmpty_any F3.out.1 ha HX.out.1 false ⟨(fun c => by cases c), fun c => absurd c em⟩
        have FE : ∀ v, Kp w2 v → Hid (∃ C' E', AC W X w v bt p pm N pool (o + 4) M C Z root C' E' ∧ ∀ l j, l ≤ 3 → lfD E' l j = if l = 3 ∧ j = page then dN else lfD E l j) := fun v kv => by
          obtain ⟨f1, f2, f3, f4, f5⟩ := F3.out
          have ex : ∃ i, i < 512 ∧ (E2 a (512 * (qn page a / 512) + i)).k ≠ 0 := by
            refine Classical.byContradiction fun c => em fun i hi => ?_
            refine Classical.byContradiction fun c2 => c ⟨i, hi, c2⟩
          exact ⟨C2, E2, ⟨⟨M2, (f1.kps kv).le (by omega), f3⟩, f2.stop (.inr ex), f5.trans (kv.fr _)⟩, f2.lf⟩
        have AE : Aside (∀ v, Kp w2 v → Hid (∃ C' E', AC W X w v bt p pm N pool (o + 4) M C Z root C' E' ∧ ∀ l j, l ≤ 3 → lfD E' l j = if l = 3 ∧ j = page then dN else lfD E l j)) := FE
        have FL : Hid (WL w2 b (stps root E page)) := F3.out.2.2.2.1
        rw [← HXA.out] at ke
        clear em FE F3
        go_wp2_with fail
        with_reducible refine ke.mono ?_
        rintro _ w3 ⟨rfl, k3⟩
        have FE := AE.out w3 k3
        have FL3 : Hid (WL w3 b (stps root E page)) := FL.out.kp k3
        clear ke k3 AE FL
        go_wp2_with fail
        (try simp only [Exit.jump])
        go_end0
        exact ⟨rfl, FE.out, FL3.out⟩
end
end Go.Proofs.YtanlcmdnhhdhaaaGreatDoor

/- stage2: Unmap of a Page; what is not mapped. -/
namespace Go.Proofs.YtanlcmdnhhdhaaaGreatDoor
open Go.RowKit
set_option maxRecDepth 10000

theorem field_d (s : SV) (w : World) : (Instr.field 64 (svV s) 3).run Tryz.prog w = .ok (dvV s.d) w := by unfold svV dvV; kernel_rfl
theorem field_k (d : DV) (w : World) : (Instr.field 62 (dvV d) 0).run Tryz.prog w = .ok (.int .i64 d.k) w := by unfold dvV; kernel_rfl
theorem field_a (d : DV) (w : World) : (Instr.field 62 (dvV d) 1).run Tryz.prog w = .ok (.int .u64 (d.a : Int)) w := by unfold dvV; kernel_rfl
section
variable {W w w' : World} {X Y : Nat → Prop} {bt p pm N pool o : Nat} {M : Nat → Nat → Nat} {C : Nat → Nat} {Z : Nat → Bool} {root : Nat} {E : Nat → Nat → DV}
set_option maxHeartbeats 4000000 in
theorem single_page (h : TS W X w bt p pm N pool o M C Z root E) (page : Nat) (hp : page < 268435456) (ho : o < 4000000000000000000) (hk : (enG E page).k = 3) (hl : lvG E page = 3) :
    Calls Tryz.prog 63 #[.pointer (some ⟨bt, 0, none⟩), .int .u64 (page : Int)] w fun e w' => e = .returned (.tuple #[.slice (some ⟨w.heap.size, 0, none⟩) 4 4, .int .i64 0]) ∧ WL w' w.heap.size (stps root E page) ∧ TS W (fun i => X i ∨ i = w.heap.size) w' bt p pm N pool (o + 4) M C Z root E ∧ Fr (Out W X) w w' := by
  have k1 := way_any h page hp ho
  rw [decide_eq_true (by rw [hk]; decide), hl] at k1
  have hs : (stps root E page)[3]? = some (stp root E page 3) := stps_get (by omega)
  have hd : (stp root E page 3).d.k = 3 := by have := hk; unfold enG at this; rw [hl] at this; exact this
  have f1 := field_d (stp root E page 3)
  have f2 := field_k (stp root E page 3).d
  rw [hd] at f2
  have HS : Hid ((stps root E page)[3]? = some (stp root E page 3)) := hs
  have K1 : Aside (Calls Tryz.prog 54 #[.pointer (some ⟨bt, 0, none⟩), .int .u64 (page : Int)] w fun e w' => e = .returned (.tuple #[.slice (some ⟨w.heap.size, 0, none⟩) 4 4, .bool true]) ∧ Hid (WL w' w.heap.size (stps root E page) ∧ TS W (fun i => X i ∨ i = w.heap.size) w' bt p pm N pool (o + 4) M C Z root E ∧ Fr (Out W X) w w')) := k1
  clear h hp ho hk hl k1 hs hd
  generalize stp root E page 3 = st at *
  generalize stps root E page = L at *
  generalize dvV st.d = dd at *
  go_enter Tryz.func63, Tryz.ntmps63
  go_wp2_with fail
  with_reducible refine K1.out.mono ?_
  rintro e w1 ⟨rfl, H1⟩
  have k2 := last_any H1.out.1 (by omega) HS.out
  clear K1
  go_wp2_with fail
  with_reducible refine k2.mono ?_
  rintro e w2 ⟨rfl, k3⟩
  have H2 : Hid (WL w2 w.heap.size L ∧ TS W (fun i => X i ∨ i = w.heap.size) w2 bt p pm N pool (o + 4) M C Z root E ∧ Fr (Out W X) w w2) := ⟨H1.out.1.kp k3, H1.out.2.1.kps k3, H1.out.2.2.trans (k3.fr _)⟩
  clear k2 k3 H1
  go_wp2
  go_ret2
  exact ⟨rfl, H2.out⟩
set_option maxHeartbeats 4000000 in
theorem single_none (h : TS W X w bt p pm N pool o M C Z root E) (page : Nat) (hp : page < 268435456) (ho : o < 4000000000000000000) (hk : (enG E page).k = 0) :
    Calls Tryz.prog 63 #[.pointer (some ⟨bt, 0, none⟩), .int .u64 (page : Int)] w fun e w' => e = .returned (.tuple #[.slice none 0 0, .int .i64 23]) ∧ TS W X w' bt p pm N pool (o + 4) M C Z root E ∧ Fr (Out W X) w w' := by
  have k1 := way_any h page hp ho
  rw [decide_eq_false (by simpa using hk)] at k1
  have HX : Hid (X bt) := h.xb
  clear h hp ho hk
  generalize stps root E page = L at *
  generalize lvG E page = l at *
  go_enter Tryz.func63, Tryz.ntmps63
  go_wp2_with fail
  with_reducible refine k1.mono ?_
  rintro e w1 ⟨rfl, _, t1, r1⟩
  have H1 : Hid (TS W X w1 bt p pm N pool (o + 4) M C Z root E ∧ Fr (Out W X) w w1) := ⟨t1.less (fun _ => .inl) HX.out, r1⟩
  clear k1 t1 r1
  go_wp2
  go_ret2
  exact ⟨rfl, H1.out⟩
set_option maxHeartbeats 4000000 in
theorem unmap_page (h : TS W X w bt p pm N pool o M C Z root E) (ne : NE root E (fun _ _ => False)) (page : Nat) (hp : page < 268435456) (ho : o < 3000000000000000000) (hk : (enG E page).k = 3) (hl : lvG E page = 3) :
    Calls Tryz.prog 23 #[.pointer (some ⟨bt, 0, none⟩), .int .u64 (page : Int)] w fun e w' => e = .returned (.tuple #[.int .i64 (((enG E page).a / 4096 : Nat) : Int), .int .i64 0]) ∧ ∃ C' E', AC W X w w' bt p pm N pool (o + 8) M C Z root C' E' ∧ ∀ l j, l ≤ 3 → lfD E' l j = if l = 3 ∧ j = page then dN else lfD E l j := by
  have k1 := single_page h page hp (by omega) hk hl
  have hs : (stps root E page)[3]? = some (stp root E page 3) := stps_get (by omega)
  have hd : (stp root E page 3).d.a = (enG E page).a := by unfold enG; rw [hl]; rfl
  have ha : (enG E page).a < 18446744073709551616 := by
    have := (h.tg.ok (lvG E page) (qn page (lvG E page)) (lvG_le _ _)).parts.2.2.2.2.2.2.1
    unfold enG; omega
  have f1 := field_d (stp root E page 3)
  have f2 := field_a (stp root E page 3).d
  rw [hd] at f2
  have kf := fun v => frameOf_any (enG E page).a v ha
  have KC : Aside (∀ v, WL v w.heap.size (stps root E page) → TS W (fun i => X i ∨ i = w.heap.size) v bt p pm N pool (o + 4) M C Z root E → Fr (Out W X) w v → Calls Tryz.prog 64 #[.pointer (some ⟨bt, 0, none⟩), .slice (some ⟨w.heap.size, 0, none⟩) 4 4] v fun e w' => e = .returned (.tuple #[]) ∧ Hid ((∃ C' E', AC W X w w' bt p pm N pool (o + 8) M C Z root C' E' ∧ ∀ l j, l ≤ 3 → lfD E' l j = if l = 3 ∧ j = page then dN else lfD E l j) ∧ WL w' w.heap.size (stps root E page))) := fun v a1 a2 a3 => (clear_any a2 ne page w.heap.size hp (by omega) hl a1 (.inr rfl)).mono fun e w' ⟨e1, ⟨C', E', e2, e3⟩, e4⟩ => ⟨e1, ⟨C', E', ⟨by obtain ⟨M', q1, q2⟩ := e2.ts; exact ⟨M', q1.less (fun _ => .inl) h.xb, q2⟩, e2.ne, a3.trans (e2.fr.less fun _ => .inl)⟩, e3⟩, e4⟩
  have HS : Hid ((stps root E page)[3]? = some (stp root E page 3)) := hs
  clear h ne hp ho hk hl hs hd ha
  generalize stp root E page 3 = st at *
  generalize stps root E page = L at *
  generalize dvV st.d = dd at *
  generalize (enG E page).a / 4096 = fr at *
  generalize (enG E page).a = fa at *
  go_enter Tryz.func23, Tryz.ntmps23
  go_wp2_with fail
  with_reducible refine k1.mono ?_
  rintro e w1 ⟨rfl, l1, t1, r1⟩
  have kc := KC.out w1 l1 t1 r1
  clear k1 KC l1 t1 r1
  go_wp2_with fail
  with_reducible refine kc.mono ?_
  rintro e w2 ⟨rfl, H2⟩
  have k2 := last_any H2.out.2 (by omega) HS.out
  clear kc
  go_wp2_with fail
  with_reducible refine k2.mono ?_
  rintro e w3 ⟨rfl, k3⟩
  have H3 : Hid (∃ C' E', AC W X w w3 bt p pm N pool (o + 8) M C Z root C' E' ∧ ∀ l j, l ≤ 3 → lfD E' l j = if l = 3 ∧ j = page then dN else lfD E l j) := by
    obtain ⟨C', E', e2, e3⟩ := H2.out.1
    obtain ⟨M', q1, q2⟩ := e2.ts
    exact ⟨C', E', ⟨⟨M', q1.kps k3, q2⟩, e2.ne, e2.fr.trans (k3.fr _)⟩, e3⟩
  clear k2 k3 H2
  go_wp2_with (go_at_call 65; with_reducible refine (kf _).mono ?_; rintro _ w' ⟨rfl, rfl⟩)
  go_ret2
  exact ⟨rfl, H3.out⟩
end
end Go.Proofs.YtanlcmdnhhdhaaaGreatDoor

/- stage2: a Block's Pages. -/
namespace Go.Proofs.YtanlcmdnhhdhaaaGreatDoor
open Go.RowKit
set_option maxRecDepth 10000

/-- The Page at the place i of those that are as good as the block. -/
def pgOf (d : DV) (i : Nat) : DV := ⟨3, d.a + i * 4096, d.r, d.q, d.x, d.f⟩
set_option maxHeartbeats 4000000 in
theorem pageOf_any (d : DV) (i : Nat) (w : World) (ha : d.a < 4294967296) (hi : i < 512) :
    Calls Tryz.prog 109 #[dvV d, .int .i64 (i : Int)] w fun e w' => e = .returned (dvV (pgOf d i)) ∧ Kp w w' := by
  have ka := fun v => addrOf_any i v (by omega)
  obtain ⟨k, a, r, q, x, f⟩ := d
  simp only at ha
  unfold pgOf dvV
  simp only
  have hb : i * 4096 < 2097152 := by omega
  generalize i * 4096 = ib at *
  have z1 : (a : Int) < 4294967296 := by omega
  have z2 : (ib : Int) < 2097152 := by omega
  rw [show ((a + ib : Nat) : Int) = (a : Int) + (ib : Int) by omega]
  clear ha hb hi
  go_enter Tryz.func109, Tryz.ntmps109
  go_wp2_with fail
  go_region_with (go_at_call 29; with_reducible refine (ka _).mono ?_; rintro _ w' ⟨rfl, rfl⟩)
  all_goals
    go_wp2
    refine bodyPost_ret (res_d (b := w.heap.size + 1) (k := 3) (a := (a : Int) + (ib : Int)) (r := r) (q := q) (x := x) (f := f) rfl rfl ?_) rfl ⟨rfl, by first | exact (((Kp.refl w).alloc _).alloc _).drew | exact (((Kp.refl w).alloc _).alloc _).drewN _⟩
    have := heap_alloc_new (w.alloc (.cells #[.int .i64 3, .int .u64 ((a : Int) + (ib : Int)), .bool r, .bool q, .bool x, .int .i64 f] 62)) (.cells #[.int .i64 3, .int .u64 ((a : Int) + (ib : Int)), .bool r, .bool q, .bool x, .int .i64 f] 62)
    rw [show (w.alloc (.cells #[.int .i64 3, .int .u64 ((a : Int) + (ib : Int)), .bool r, .bool q, .bool x, .int .i64 f] 62)).heap.size = w.heap.size + 1 by simp] at this
    exact this
end Go.Proofs.YtanlcmdnhhdhaaaGreatDoor

/- stage2: split. -/
namespace Go.Proofs.YtanlcmdnhhdhaaaGreatDoor
open Go.RowKit
set_option maxRecDepth 10000

/-- Words of a frame of which the first k are those of a Block's Pages. -/
def filM (M : Nat → Nat → Nat) (y : Nat) (d : DV) (k : Nat) : Nat → Nat → Nat := fun z j => if z = y ∧ j < k then wdD (pgOf d j) else M z j
theorem filM_zero (M : Nat → Nat → Nat) (y : Nat) (d : DV) : filM M y d 0 = M := by
  funext z j; unfold filM; rw [if_neg (by omega)]
theorem filM_succ (M : Nat → Nat → Nat) (y : Nat) (d : DV) (k : Nat) : updM (filM M y d k) y k (wdD (pgOf d k)) = filM M y d (k + 1) := by
  funext z j
  unfold updM filM
  by_cases c : z = y ∧ j = k
  · obtain ⟨rfl, rfl⟩ := c
    rw [if_pos ⟨rfl, rfl⟩, if_pos ⟨rfl, by omega⟩]
  · rw [if_neg c]
    by_cases c2 : z = y ∧ j < k
    · rw [if_pos c2, if_pos ⟨c2.1, by omega⟩]
    · rw [if_neg c2, if_neg (by omega)]
/-- The words behind a split. -/
def splM (M : Nat → Nat → Nat) (x i y : Nat) (d : DV) : Nat → Nat → Nat := updM (filM (zerM M y) y d 512) x i (wdD (dT y))
theorem SBk.six {w : World} {b : Nat} {l pp u a : Nat} {k f : Int} {r q e : Bool} (h : SBk w b ⟨l, pp, u, k, a, r, q, e, f⟩) : w.cell? ⟨b, 3, none⟩ = some (.int .i64 k) ∧ w.cell? ⟨b, 4, none⟩ = some (.int .u64 (a : Int)) ∧ w.cell? ⟨b, 5, none⟩ = some (.bool r) ∧ w.cell? ⟨b, 6, none⟩ = some (.bool q) ∧ w.cell? ⟨b, 7, none⟩ = some (.bool e) ∧ w.cell? ⟨b, 8, none⟩ = some (.int .i64 f) :=
  ⟨h.c 3 rfl, h.c 4 rfl, h.c 5 rfl, h.c 6 rfl, h.c 7 rfl, h.c 8 rfl⟩
section
variable {W w w' : World} {X Y : Nat → Prop} {bt p pm N pool o : Nat} {M : Nat → Nat → Nat} {C : Nat → Nat} {Z : Nat → Bool} {root : Nat} {E : Nat → Nat → DV}
set_option maxHeartbeats 4000000 in
theorem split_state (bt : Nat) (s : SV) (w : World) (hl : s.l ≠ 2) (h3 : s.l ≤ 3) :
    Calls Tryz.prog 76 #[.pointer (some ⟨bt, 0, none⟩), svV s] w fun e w' => e = .returned (.int .i64 20) ∧ Kp w w' := by
  obtain ⟨l, pp, u, k, a, r, q, e, f⟩ := s
  unfold svV
  simp only at *
  have z1 : ¬ (l : Int) = 2 := by omega
  have z2 : ((l : Int) == 2) = false := by rw [beq_eq_false_iff_ne]; exact z1
  have z3 : ((l : Int) != 2) = true := by rw [bne_iff_ne]; exact z1
  clear hl h3
  go_enter Tryz.func76, Tryz.ntmps76
  go_wp2
  go_ret
  exact ⟨rfl, (Kp.refl _).alloc _⟩
set_option maxHeartbeats 4000000 in
theorem split_none (h : FT W X w bt p pm N pool o M C root) (s : SV) (hl : s.l = 2) (hr : TkR (fT pool C) 0 none) :
    Calls Tryz.prog 76 #[.pointer (some ⟨bt, 0, none⟩), svV s] w fun e w' => e = .returned (.int .i64 11) ∧ FT W X w' bt p pm N pool o M C root ∧ Fr (Out W X) w w' := by
  have KT : Aside (∀ v, Kp w v → Calls Tryz.prog 28 #[.pointer (some ⟨p, 0, none⟩)] v fun e w' => e = .returned (.tuple #[.int .i64 0, .int .i64 11]) ∧ Hid (FT W X w' bt p pm N pool o M C root ∧ Fr (Out W X) w w')) := fun v kv => (wtable_none (h.fw.kps kv) hr).mono fun e w' ⟨e1, e2, e3⟩ => ⟨e1, (h.kps kv).next e2 e3, (kv.fr _).trans e3⟩
  have c0 := fun ob => (h.tx.kp ((Kp.refl w).alloc ob)).c0
  obtain ⟨l, pp, u, k, a, r, q, e, f⟩ := s
  unfold svV
  simp only at *
  subst hl
  rw [show ((2 : Nat) : Int) = 2 from rfl]
  clear h hr
  go_enter Tryz.func76, Tryz.ntmps76
  go_wp2_with fail
  with_reducible refine (KT.out _ ((Kp.refl w).alloc _)).mono ?_
  rintro _ w1 ⟨rfl, H1⟩
  clear KT c0
  go_wp2
  go_ret
  exact ⟨rfl, H1.out⟩
set_option maxHeartbeats 8000000 in
theorem split_go (h : FT W X w bt p pm N pool o M C root) (s : SV) (x i y : Nat) (hs : s.p = x * 4096 + 8 * i) (hl : s.l = 2) (hx : x < N) (hi : i < 512) (ok : ∀ j, j < 512 → okD 3 (pgOf s.d j)) (ha : s.d.a < 4294967296) (hr : TkR (fT pool C) 0 (some y)) (ho : o < 4000000000000000000) :
    Calls Tryz.prog 76 #[.pointer (some ⟨bt, 0, none⟩), svV s] w fun e w' => e = .returned (.int .i64 0) ∧ FT W X w' bt p pm N pool (o + 513) (splM M x i y s.d) (putC C y 1) root ∧ Fr (Out W X) w w' := by
  have hn := h.fw.nums
  have fy := hr.free
  have xb := h.xb
  have c0 := fun ob => (h.tx.kp ((Kp.refl w).alloc ob)).c0
  have KT : Aside (∀ v, Kp w v → w.heap.size < v.heap.size → SBk v w.heap.size s → Calls Tryz.prog 28 #[.pointer (some ⟨p, 0, none⟩)] v fun e w' => e = .returned (.tuple #[.int .i64 (y : Int), .int .i64 0]) ∧ Hid (FT W (fun i => X i ∨ i = w.heap.size) w' bt p pm N pool (o + 0) (filM (zerM M y) y s.d 0) (putC C y 1) root ∧ Fr (Out W X) w w' ∧ SBk w' w.heap.size s)) := fun v kv hv sb => by
    have h1 := h.more kv w.heap.size (Nat.le_refl _) hv
    rw [filM_zero]
    exact (wtable_some h1.fw y hr).mono fun e w' ⟨e1, e2, e3⟩ => ⟨e1, h1.next e2 e3, (kv.fr _).trans (e3.less fun _ => .inl), sb.fr e3 (fun c => c.2 (.inr rfl))⟩
  have KP : Aside (∀ (j : Nat) (v : World), j < 512 → Calls Tryz.prog 109 #[.agg #[.int .i64 s.d.k, .int .u64 (s.d.a : Int), .bool s.d.r, .bool s.d.q, .bool s.d.x, .int .i64 s.d.f], .int .i64 (j : Int)] v fun e w' => e = .returned (dvV (pgOf s.d j)) ∧ Kp v w') := fun j v hj => pageOf_any s.d j v ha hj
  have KE : Aside (∀ (j : Nat) (v : World), j < 512 → Calls Tryz.prog 108 #[.int .u64 ((y * 4096 : Nat) : Int), .int .i64 (j : Int)] v fun e w' => e = .returned (.int .u64 ((y * 4096 + 8 * j : Nat) : Int)) ∧ w' = v) := fun j v hj => entryAt_any y j v (by omega) hj
  have KA := addrOf_any y
  have K2 : Aside (∀ (j : Nat) (v : World), j < 512 → FT W (fun i => X i ∨ i = w.heap.size) v bt p pm N pool (o + j) (filM (zerM M y) y s.d j) (putC C y 1) root → Fr (Out W X) w v → SBk v w.heap.size s → Calls Tryz.prog 75 #[.pointer (some ⟨bt, 0, none⟩), .int .u64 ((y * 4096 + 8 * j : Nat) : Int), .int .i64 3, dvV (pgOf s.d j)] v fun e w' => e = .returned (.tuple #[]) ∧ Hid (FT W (fun i => X i ∨ i = w.heap.size) w' bt p pm N pool (o + (j + 1)) (filM (zerM M y) y s.d (j + 1)) (putC C y 1) root ∧ Fr (Out W X) w w' ∧ SBk w' w.heap.size s)) := fun j v hj h1 fr sb => by
    rw [← filM_succ]
    exact (put_any h1 y j 3 (pgOf s.d j) (by omega) hj (ok j hj) (by omega)).mono fun e w' ⟨e1, e2, e3⟩ => ⟨e1, e2, fr.trans (e3.less fun _ => .inl), sb.fr e3 (fun c => c.2 (.inr rfl))⟩
  have K3 : Aside (∀ v, FT W (fun i => X i ∨ i = w.heap.size) v bt p pm N pool (o + 512) (filM (zerM M y) y s.d 512) (putC C y 1) root → Fr (Out W X) w v → Calls Tryz.prog 75 #[.pointer (some ⟨bt, 0, none⟩), .int .u64 (s.p : Int), .int .i64 2, .agg #[.int .i64 1, .int .u64 ((y * 4096 : Nat) : Int), .bool false, .bool false, .bool false, .int .i64 0]] v fun e w' => e = .returned (.tuple #[]) ∧ Hid (FT W X w' bt p pm N pool (o + 513) (splM M x i y s.d) (putC C y 1) root ∧ Fr (Out W X) w w')) := fun v h1 fr => by
    rw [hs]
    exact (put_any h1 x i 2 (dT y) hx hi (okD_table (by omega) (by omega)) (by omega)).mono fun e w' ⟨e1, e2, e3⟩ => ⟨e1, e2.less (fun _ => .inl) xb, fr.trans (e3.less fun _ => .inl)⟩
  have z1 : (y : Int) < 1048576 := by omega
  have ka := fun v => KA v (by omega)
  clear h hs hx hi ok ha hr ho hn fy KA
  generalize splM M x i y s.d = M3 at *
  generalize y * 4096 = ya at *
  obtain ⟨l, pp, u, k, a, r, q, e, f⟩ := s
  unfold svV
  simp only at *
  subst hl
  rw [show ((2 : Nat) : Int) = 2 from rfl]
  have kt := KT.out (w.alloc (.cells #[.int .i64 2, .int .u64 (pp : Int), .int .u64 (u : Int), .int .i64 k, .int .u64 (a : Int), .bool r, .bool q, .bool e, .int .i64 f] 64)) ((Kp.refl w).alloc _) (by simp) (SBk.made w ⟨2, pp, u, k, a, r, q, e, f⟩)
  clear KT
  go_enter Tryz.func76, Tryz.ntmps76
  go_wp2_with fail
  with_reducible refine kt.mono ?_
  rintro _ w1 ⟨rfl, H1⟩
  clear kt c0
  go_wp2_with (go_at_call 29; with_reducible refine (ka _).mono ?_; rintro _ w' ⟨rfl, rfl⟩)
  clear ka
  go_loopg [25] 514 (fun g v25 wr => ∃ j : Nat, v25 = .int .i64 (j : Int) ∧ j ≤ 512 ∧ 513 - j ≤ g ∧ Hid (FT W (fun i => X i ∨ i = w.heap.size) wr bt p pm N pool (o + j) (filM (zerM M y) y ⟨k, a, r, q, e, f⟩ j) (putC C y 1) root ∧ Fr (Out W X) w wr ∧ SBk wr w.heap.size ⟨2, pp, u, k, a, r, q, e, f⟩))
  case atStart => exact ⟨0, rfl, by omega, by omega, H1⟩
  case round =>
    obtain ⟨j, rfl, hj, hg, HI⟩ := hrel
    by_cases ej : j < 512
    · have z2 : (j : Int) < 512 := by omega
      have ke := fun v => KE.out j v ej
      have kp := fun v => KP.out j v ej
      have k2 := fun v (kv : Kp wr v) => K2.out j v ej (HI.out.1.kps kv) (HI.out.2.1.trans (kv.fr _)) (HI.out.2.2.kp kv)
      have S0 := HI.out.2.2
      have HS : Aside (∀ v, Kp wr v → SBk v w.heap.size ⟨2, pp, u, k, a, r, q, e, f⟩) := fun v kv => S0.kp kv
      clear KE KP K2 HI K3 H1
      generalize ya + 8 * j = aj at *
      generalize dvV (pgOf ⟨k, a, r, q, e, f⟩ j) = dj at *
      go_wp2_with fail
      go_region_held3 (fun v => v.cell? ⟨w.heap.size, 3, none⟩ = some (.int .i64 k) ∧ v.cell? ⟨w.heap.size, 4, none⟩ = some (.int .u64 (a : Int)) ∧ v.cell? ⟨w.heap.size, 5, none⟩ = some (.bool r) ∧ v.cell? ⟨w.heap.size, 6, none⟩ = some (.bool q) ∧ v.cell? ⟨w.heap.size, 7, none⟩ = some (.bool e) ∧ v.cell? ⟨w.heap.size, 8, none⟩ = some (.int .i64 f)) (first | exact S0.six | exact S4.six | exact H5.out.2.2.six | go_keep)
        (first | (go_at_call 108; with_reducible refine (ke _).mono ?_; rintro _ w' ⟨rfl, rfl⟩) | (go_at_call 109; with_reducible refine (kp _).mono ?_; rintro _ w4 ⟨rfl, K4⟩; have K5 : Kp wr w4 := Kp.trans (by first | exact Kp.refl _ | exact (Kp.refl _).drew | exact (Kp.refl _).drewN _) K4; have S4 := HS.out w4 K5) | (go_at_call 75; with_reducible refine (k2 _ (by first | exact K5 | exact K5.drew | exact K5.drewN _)).mono ?_; rintro _ w5 ⟨rfl, H5⟩))
      clear ke kp k2 S0 HS
      go_wp2_with fail
      go_roundg (513 - (j + 1))
      case measure => omega
      case rel => exact ⟨j + 1, rfl, by omega, by omega, H5⟩
    · have ei : j = 512 := by omega
      subst ei
      have k3 := K3.out wr HI.out.1 HI.out.2.1
      have g0 := HI.out.2.2.c 0 rfl
      have g1 := HI.out.2.2.c 1 rfl
      rw [show ((2 : Nat) : Int) = 2 from rfl] at g0
      clear KE KP K2 K3 HI H1
      go_wp2_with fail
      with_reducible refine k3.mono ?_
      rintro _ w3 ⟨rfl, H3⟩
      clear k3
      go_wp2
      go_ret
      exact ⟨rfl, H3.out⟩
end
end Go.Proofs.YtanlcmdnhhdhaaaGreatDoor
