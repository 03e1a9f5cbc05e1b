/- vmid: Drop, Get. -/
import Derived.Test.YtclheedcdogkbaaI2
import Derived.Test.YtclheedcdogkbaaSG
import Derived.OwnWalk
namespace Go.Proofs.Ytclheedcdogkbaa
open Go.RowKit
set_option maxRecDepth 10000

section
variable {w : World} {b n : Nat} {s : IV}
set_option maxHeartbeats 2000000 in
theorem vdrop_any (h : VI w b n s) (ok : okV n s) (x : Int) :
    Calls Try.prog 10 #[.pointer (some ⟨b, 0, none⟩), .int .i64 x] w fun e w' => e = .returned (.bool (hs s x != 0)) ∧ VI w' b n (drpS s x) ∧ Fr (· = b) w w' := by
  have k1 := vhas_any h ok x
  unfold drpS
  by_cases c : hs s x = 0
  · rw [if_pos c]
    rw [c] at k1 ⊢
    have HH : Hid (VI w b n s) := h
    clear h ok c
    go_enter Try.func10, Try.ntmps10
    go_wp2_with fail
    with_reducible refine k1.mono ?_
    rintro e w ⟨rfl, rfl⟩
    go_wp2
    go_ret
    exact ⟨rfl, HH.out, Fr.refl _ _⟩
  · rw [if_neg c]
    have hle := hs_le s x
    have g1 := ok.g
    have n2 := ok.n2
    obtain ⟨k, hk⟩ : ∃ k, hs s x = k := ⟨_, rfl⟩
    rw [hk] at k1 c hle ⊢
    have y1 : k ≤ 255 := by omega
    have y2 : (k : Int) ≤ 255 := by omega
    have y3 : 1 ≤ k := by omega
    have h2 := h.seto k 0 (by omega)
    have f2 : Fr (· = b) w (w.setCell ⟨b, 3 + k, none⟩ (.int .i64 ((0 : Nat) : Int))) := (Fr.refl _ w).set _ _ rfl
    have HH : Hid (VI (w.setCell ⟨b, 3 + k, none⟩ (.int .i64 0)) b n ⟨s.t, s.g, updI s.f k 0⟩ ∧ Fr (· = b) w (w.setCell ⟨b, 3 + k, none⟩ (.int .i64 0))) := ⟨h2, f2⟩
    have c1 := h.own (i := k) (by omega)
    have c2 := h.fz (3 + k)
    have bz : (k != 0) = true := by simp; omega
    rw [bz] at k1 ⊢
    generalize s.f k = u at *
    clear h ok h2 f2 hle g1 n2 hk c bz
    go_enter Try.func10, Try.ntmps10
    go_wp2_with fail
    with_reducible refine k1.mono ?_
    rintro e w ⟨rfl, rfl⟩
    go_wp2
    go_ret
    exact ⟨rfl, HH.out⟩

/-- What Get tells: the ID, whether the turn rolled, the error; what it leaves. -/
def getS (n : Nat) (s : IV) (x : Int) : IV := if isG x = true then (if hs s x ≠ 0 then s else if s.g = n then givS (rolS s) x else givS s x) else s
def getB (n : Nat) (s : IV) (x : Int) : Bool := if isG x = true then (if hs s x ≠ 0 then false else decide (s.g = n)) else false
def getI (n : Nat) (s : IV) (x : Int) : Nat := if isG x = true then (if hs s x ≠ 0 then hs s x else if s.g = n then 1 else s.g + 1) else 0
def getE (x : Int) : Int := if isG x = true then 0 else 1
theorem okV.get {n : Nat} {s : IV} (h : okV n s) (x : Int) : okV n (getS n s x) := by
  unfold getS
  split
  · rename_i hx
    split
    · exact h
    · split
      · exact h.roll.give hx (by have := h.n1; show (0 : Nat) ≠ n; omega)
      · rename_i c; exact h.give hx c
  · exact h
theorem getS_t (n : Nat) (s : IV) (x : Int) : (getS n s x).t = s.t + (if getB n s x = true then 1 else 0) := by
  unfold getS getB
  split
  · split
    · simp
    · by_cases c : s.g = n
      · rw [if_pos c, decide_eq_true c, if_pos rfl]; rfl
      · rw [if_neg c, decide_eq_false c, if_neg (by decide)]; rfl
  · simp
theorem hs_give {s : IV} {x : Int} (hx : isG x = true) (h0 : hs s x = 0) : hs (givS s x) x = s.g + 1 := by
  have hg := isG_iff.1 hx
  unfold hs at h0 ⊢
  rw [if_pos hx] at h0 ⊢
  show hsN (updI s.f (s.g + 1) x.toNat) x (s.g + 1) 1 = s.g + 1
  have hn := hsN_none (Nat.le_refl 1) h0
  have key : ∀ m j, j + m = s.g + 1 → 1 ≤ j → hsN (updI s.f (s.g + 1) x.toNat) x (m + 1) j = s.g + 1 := by
    intro m
    induction m with
    | zero =>
      intro j hj h1
      unfold hsN
      rw [if_pos (by unfold updI; rw [if_pos (by omega)]; omega)]
      omega
    | succ m ih =>
      intro j hj h1
      unfold hsN
      rw [if_neg (by unfold updI; rw [if_neg (by omega)]; exact hn j h1 (by omega))]
      exact ih (j + 1) (by omega) (by omega)
  exact key s.g 1 (by omega) (Nat.le_refl _)
theorem hs_roll (s : IV) {x : Int} : hs (rolS s) x = 0 := by
  unfold hs
  split <;> rfl
/-- On the way through Get: p turns of the loop to come. -/
def Ph (n : Nat) (x : Int) (S : IV) (R : Bool) (I : Nat) : Nat → IV → Bool → Prop
  | 0, s, r => s = S ∧ r = R ∧ hs s x = I ∧ I ≠ 0
  | p + 1, s, r => hs s x = 0 ∧ (s.g = n → s.t < 1000000 ∧ Ph n x S R I p (rolS s) true) ∧ (s.g ≠ n → Ph n x S R I p (givS s x) r)
theorem ph_any {n : Nat} {s : IV} (ok : okV n s) {x : Int} (hx : isG x = true) (ht : s.t < 1000000) : ∃ p, Ph n x (getS n s x) (getB n s x) (getI n s x) p s false := by
  have n1 := ok.n1
  unfold getS getB getI
  rw [if_pos hx, if_pos hx, if_pos hx]
  by_cases c : hs s x = 0
  · have c' : ¬ hs s x ≠ 0 := fun e => e c
    rw [if_neg c', if_neg c', if_neg c']
    by_cases d : s.g = n
    · rw [if_pos d, if_pos d, decide_eq_true d]
      refine ⟨2, c, fun _ => ⟨ht, hs_roll s, fun e => ?_, fun _ => ⟨rfl, rfl, ?_, by decide⟩⟩, fun e => absurd d e⟩
      · have : (0 : Nat) = n := e; omega
      · exact hs_give hx (hs_roll s)
    · rw [if_neg d, if_neg d, decide_eq_false d]
      exact ⟨1, c, fun e => absurd e d, fun _ => ⟨rfl, rfl, hs_give hx c, by omega⟩⟩
  · have c' : hs s x ≠ 0 := c
    rw [if_pos c', if_pos c', if_pos c']
    exact ⟨0, rfl, rfl, rfl, c⟩

def gJ (w0 : World) (b n : Nat) (x : Int) (S : IV) (R : Bool) (I : Nat) (p : Nat) : Act → World → Prop := fun a' w' => ∃ (s : IV) (r : Bool), Ph n x S R I p s r ∧ okV n s ∧ VI w' b n s ∧ Fr (· = b) w0 w' ∧ ∃ (u2 u3 u4 u6 u7 u8 u9 u10 u11 u12 u13 u14 u15 u16 u17 u18 u19 u20 u21 u22 u23 u24 u25 u26 u27 u28 u29 u30 u31 u32 u33 u34 u35 : Value), a' = { tmps := #[.pointer (some ⟨b, 0, none⟩), .int .i64 x, u2, u3, u4, .bool r, u6, u7, u8, u9, u10, u11, u12, u13, u14, u15, u16, u17, u18, u19, u20, u21, u22, u23, u24, u25, u26, u27, u28, u29, u30, u31, u32, u33, u34, u35], defers := [] }

set_option maxHeartbeats 4000000 in
theorem vget_any (h : VI w b n s) (ok : okV n s) (x : Int) (ht : s.t < 1000000) :
    Calls Try.prog 8 #[.pointer (some ⟨b, 0, none⟩), .int .i64 x] w fun e w' => e = .returned (.tuple #[.int .i64 (getI n s x : Int), .bool (getB n s x), .int .i64 (getE x)]) ∧ VI w' b n (getS n s x) ∧ Fr (· = b) w w' := by
  have ci := isg_any x
  cases hx : isG x
  · have HH : Hid (VI w b n s) := h
    unfold getI getB getS getE
    simp only [hx]
    rw [hx] at ci
    clear h ok hx
    go_enter Try.func8, Try.ntmps8
    go_wp2_with fail
    refine scope_again 0 (fun _ _ => False) (fun _ _ => 0) rfl (fun pass => ?_) (fun _ _ h => h.elim)
    clear pass
    go_wp2_with (go_at_call 16; with_reducible refine (ci _).mono ?_; rintro e w ⟨rfl, rfl⟩)
    simp only [Exit.jump]
    go_ret3
    exact ⟨rfl, HH.out, Fr.refl _ _⟩
  · obtain ⟨p, hp⟩ := ph_any ok hx ht
    have he : getE x = 0 := by unfold getE; rw [if_pos hx]
    rw [he]
    have hok := ok.get x
    generalize getS n s x = S at *
    generalize getB n s x = R at *
    generalize getI n s x = I at *
    rw [hx] at ci
    have HH : Hid (Ph n x S R I p s false ∧ okV n s ∧ VI w b n s ∧ isG x = true) := ⟨hp, ok, h, hx⟩
    clear h ok hx hp he ht hok
    go_enter Try.func8, Try.ntmps8
    go_wp2_with fail
    refine scope_again_g 0 (gJ w b n x S R I) rfl (fun pass => ?_) ?_
    · have PASS : Aside (∀ p a w', gJ w b n x S R I p a w' → _) := pass
      clear pass
      go_wp2_with (go_at_call 16; with_reducible refine (ci _).mono ?_; rintro e w ⟨rfl, rfl⟩)
      go_wp2_with fail
      go_step3
      rename_i hK
      refine hK _ _ (PASS.out p _ _ ⟨s, false, HH.out.1, HH.out.2.1, HH.out.2.2.1, Fr.refl _ _, _, _, _, _, _, _, _, _, _, _, _, _, _, _, _, _, _, _, _, _, _, _, _, _, _, _, _, _, _, _, _, _, _, rfl⟩)
    · rintro p a' w' ⟨s, r, hp, ok, h, hf, u2, u3, u4, u6, u7, u8, u9, u10, u11, u12, u13, u14, u15, u16, u17, u18, u19, u20, u21, u22, u23, u24, u25, u26, u27, u28, u29, u30, u31, u32, u33, u34, u35, rfl⟩
      have k1 := vhas_any h ok x
      cases p with
      | zero =>
        obtain ⟨rfl, rfl, e1, e2⟩ := hp
        have bz : (hs s x != 0) = true := by simp; omega
        rw [bz, e1] at k1
        have HE : Hid (VI w' b n s ∧ Fr (· = b) w w') := ⟨h, hf⟩
        clear h ok hf HH ci e1 e2 bz
        go_wp2_with fail
        with_reducible refine k1.mono ?_
        rintro e w' ⟨rfl, rfl⟩
        go_wp2
        simp only [Exit.jump]
        go_ret3
        exact ⟨rfl, HE.out⟩
      | succ p =>
        obtain ⟨e1, e2, e3⟩ := hp
        rw [e1] at k1
        have c0 := h.c0
        have c2 := h.c2
        have hx := HH.out.2.2.2
        by_cases c : s.g = n
        · have k2 := fun m => vroll_any (h.kp ((Kp.refl _).drewN m)) (e2 c).1
          have HE : Hid (Ph n x S R I p (rolS s) true ∧ okV n (rolS s) ∧ Fr (· = b) w w') := ⟨(e2 c).2, ok.roll, hf⟩
          have b1 : ((s.g : Int) == (n : Int)) = true := by rw [c]; simp
          have b2 : (s.g == n) = true := by simpa using c
          generalize rolS s = s1 at *
          clear h ok hf HH ci e1 e2 e3 hx
          generalize s.g = g at *
          clear c
          go_wp2_with fail
          with_reducible refine k1.mono ?_
          rintro e w' ⟨rfl, rfl⟩
          go_wp2_with fail
          go_quiet (fail)
          go_wp2_with fail
          with_reducible refine (k2 _).mono ?_
          rintro e w2 ⟨rfl, V2, F2⟩
          have HV : Hid (VI w2 b n s1 ∧ Fr (· = b) w w2) := ⟨V2, (HE.out.2.2.trans (((Kp.refl _).drewN _).fr _)).trans F2⟩
          clear V2 F2 k1 k2 c0 c2
          go_wp2_with fail
          go_step3
          exact ⟨rfl, p, by omega, s1, true, HE.out.1, HE.out.2.1, HV.out.1, HV.out.2, _, _, _, _, _, _, _, _, _, _, _, _, _, _, _, _, _, _, _, _, _, _, _, _, _, _, _, _, _, _, _, _, _, rfl⟩
        · have k2 := fun m => vgive_any (h.kp ((Kp.refl _).drewN m)) ok x hx c
          have HE : Hid (Ph n x S R I p (givS s x) r ∧ okV n (givS s x) ∧ Fr (· = b) w w') := ⟨e3 c, ok.give hx c, hf⟩
          have b1 : ((s.g : Int) == (n : Int)) = false := by rw [beq_eq_false_iff_ne]; omega
          have b2 : (s.g == n) = false := by rw [beq_eq_false_iff_ne]; exact c
          generalize givS s x = s1 at *
          clear h ok hf HH ci e1 e2 e3 hx
          generalize s.g = g at *
          clear c
          go_wp2_with fail
          with_reducible refine k1.mono ?_
          rintro e w' ⟨rfl, rfl⟩
          go_wp2_with fail
          go_quiet (fail)
          go_wp2_with fail
          with_reducible refine (k2 _).mono ?_
          rintro e w2 ⟨rfl, V2, F2⟩
          have HV : Hid (VI w2 b n s1 ∧ Fr (· = b) w w2) := ⟨V2, (HE.out.2.2.trans (((Kp.refl _).drewN _).fr _)).trans F2⟩
          clear V2 F2 k1 k2 c0 c2
          go_wp2_with fail
          go_step3
          exact ⟨rfl, p, by omega, s1, r, HE.out.1, HE.out.2.1, HV.out.1, HV.out.2, _, _, _, _, _, _, _, _, _, _, _, _, _, _, _, _, _, _, _, _, _, _, _, _, _, _, _, _, _, _, _, _, _, rfl⟩
end

end Go.Proofs.Ytclheedcdogkbaa
