/- ledger: Count. -/
import Derived.Test.YtjeahpekcbogeaaG6
import Derived.Test.YtjeahpekcbogeaaG3
namespace Go.Proofs.Ytjeahpekcbogeaa
open Go.RowKit Go.Maps

variable {w w' : World} {p bm N : Nat} {E : Int → Int × Int}
/-- The frames that have the state and the party. -/
def lsE (E : Int → Int × Int) (N : Nat) (st pt : Int) : List Int := fl (fun x => isN (E x) st pt) N
theorem lsE_le (E : Int → Int × Int) (N : Nat) (st pt : Int) : (lsE E N st pt).length ≤ N := fl_le _ _
theorem EOk.free_no (h : EOk N E) {pt : Int} (hp : isN (0, 0) 0 pt = false) : lsE E N 0 pt = [] := by
  unfold lsE
  rw [show (fun x => isN (E x) 0 pt) = fun _ => false from funext fun x => ?_, fl_none]
  by_cases e : (E x).1 = 0
  · rw [h.free x e]; exact hp
  · unfold isN; rw [decide_eq_false e]; rfl
theorem EOk.free_yes (h : EOk N E) {pt : Int} (hp : isN (0, 0) 0 pt = true) : (fun x => isN (E x) 0 pt) = fun x => !nf E x := by
  funext x
  unfold nf
  by_cases e : (E x).1 = 0
  · rw [h.free x e, hp]; rfl
  · rw [decide_eq_true e]; unfold isN; rw [decide_eq_false e]; rfl
theorem EOk.free_len (h : EOk N E) {pt : Int} (hp : isN (0, 0) 0 pt = true) : ((lsE E N 0 pt).length : Int) = (N : Int) - ((fl (nf E) N).length : Nat) := by
  unfold lsE
  rw [h.free_yes hp]
  have := fl_len (nf E) N
  omega

set_option maxHeartbeats 2000000 in
theorem lcfree_any (h : LG w p bm N E) (pt : Int) :
    Calls Try.prog 26 #[.pointer (some ⟨p, 0, none⟩), .int .i64 pt] w fun e w' => e = .returned (.int .i64 ((lsE E N 0 pt).length : Nat)) ∧ Kp w w' := by
  have cI := is_any 0 0 0 pt w
  cases hb : isN (0, 0) 0 pt
  · rw [h.me.ok.free_no hb]
    rw [hb] at cI
    clear h hb
    go_enter Try.func26, Try.ntmps26
    go_wp2_with (first | (go_at_call 27; with_reducible refine cI.mono ?_; rintro e w1 ⟨rfl, K1⟩))
    go_ret
    exact ⟨rfl, K1⟩
  · rw [h.me.ok.free_len hb]
    rw [hb] at cI
    have HH : Hid (LG w p bm N E) := h
    have n2 := h.n2
    have hle := fl_le (nf E) N
    obtain ⟨m, hm⟩ : ∃ m, (fl (nf E) N).length = m := ⟨_, rfl⟩
    have HM : Hid ((fl (nf E) N).length = m) := hm
    rw [hm] at hle ⊢
    clear h hb hm
    have y1 : (m : Int) ≤ N := by omega
    have y2 : (N : Int) ≤ 1048576 := by omega
    go_enter Try.func26, Try.ntmps26
    go_wp2_with (first | (go_at_call 27; with_reducible refine cI.mono ?_; rintro e w1 ⟨rfl, K1⟩))
    have c0 := (HH.out.kp K1).c0
    have c1 := (HH.out.kp K1).c1
    have l : ∀ ty, (Builtin.len_ #[45] ty #[.map (some bm)]).run Try.prog w1.drew = .ok (.int .i64 (m : Nat)) w1.drew := fun ty => by
      have := ((HH.out.kp K1).me.kp (Kp.refl w1).drew).len ty
      rw [HM.out] at this
      exact this
    go_region
    go_wp2_with fail
    go_ret
    exact ⟨rfl, K1.drew⟩

theorem isN_nf {e : Int × Int} {st pt : Int} (hs : st ≠ 0) (h : isN e st pt = true) : e.1 ≠ 0 := by
  unfold isN at h
  simp only [Bool.and_eq_true, decide_eq_true_eq] at h
  rw [h.1]; exact hs
/-- What has been met: all but what is left. -/
def met (E : Int → Int × Int) (st pt : Int) (left : Int → Bool) : Int → Bool := fun x => isN (E x) st pt && !left x
theorem met_start {st pt : Int} (hs : st ≠ 0) : fl (met E st pt (nf E)) N = [] := by
  rw [show met E st pt (nf E) = fun _ => false from funext fun x => ?_, fl_none]
  unfold met
  cases hb : isN (E x) st pt
  · rfl
  · have := isN_nf hs hb
    unfold nf
    rw [decide_eq_true this]; rfl
theorem met_end {st pt : Int} {left : Int → Bool} (h : ∀ x, left x = false) : fl (met E st pt left) N = lsE E N st pt := by
  unfold lsE
  congr 1
  funext x
  unfold met
  rw [h x, Bool.not_false, Bool.and_true]
theorem met_off {st pt x : Int} {left : Int → Bool} (h : isN (E x) st pt = false) : met E st pt (fun y => left y && !decide (y = x)) = met E st pt left := by
  funext y
  show (isN (E y) st pt && !(left y && !decide (y = x))) = (isN (E y) st pt && !left y)
  by_cases e : y = x
  · subst e; rw [h, Bool.false_and, Bool.false_and]
  · rw [decide_eq_false e, Bool.not_false, Bool.and_true]
theorem met_on {st pt x : Int} {left : Int → Bool} (h : isN (E x) st pt = true) (hl : left x = true) (h0 : 0 ≤ x) (h1 : x < (N : Int)) : (fl (met E st pt (fun y => left y && !decide (y = x))) N).Perm (fl (met E st pt left) N ++ [x]) := by
  refine fl_on (by unfold met; rw [hl, Bool.not_true, Bool.and_false]) (fun y => ?_) N h0 h1
  show (isN (E y) st pt && !(left y && !decide (y = x))) = (decide (y = x) || (isN (E y) st pt && !left y))
  by_cases e : y = x
  · subst e; rw [h, decide_eq_true rfl, hl]; rfl
  · rw [decide_eq_false e, Bool.not_false, Bool.and_true, Bool.false_or]

set_option maxHeartbeats 2000000 in
theorem lcount_any (h : LG w p bm N E) (st pt : Int) :
    Calls Try.prog 17 #[.pointer (some ⟨p, 0, none⟩), .int .i64 st, .int .i64 pt] w fun e w' => e = .returned (.int .i64 ((lsE E N st pt).length : Nat)) ∧ Kp w w' := by
  by_cases hs : st = 0
  · subst hs
    have cF := lcfree_any h pt
    generalize (lsE E N 0 pt).length = m at *
    clear h
    go_enter Try.func17, Try.ntmps17
    go_wp2_with (first | (go_at_call 26; with_reducible refine cF.mono ?_; rintro e w1 ⟨rfl, K1⟩))
    go_ret
    exact ⟨rfl, K1⟩
  · have HH : Hid (LG w p bm N E) := h
    have HS : Hid (st ≠ 0) := hs
    have c1 := h.c1
    have y : (st == 0) = false := by simpa using hs
    have n2 := h.n2
    obtain ⟨m, hm⟩ : ∃ m, (lsE E N st pt).length = m := ⟨_, rfl⟩
    have HM : Hid ((lsE E N st pt).length = m) := hm
    have y2 : (N : Int) ≤ 1048576 := by omega
    rw [hm]
    clear h hm hs
    go_enter Try.func17, Try.ntmps17
    go_wp2_with (first | (at_range; refine wp_range_me HH.out.me _ rfl rfl rfl ?_; intro w0 k0 R0 hk0 K0 hs0))
    go_frame
    have HR : Hid (RG w0 bm w.heap.size N E (nf E) k0 ∧ Kp w w0) := ⟨R0, K0⟩
    clear R0 K0 hs0 c1
    go_loopg [7] (N + 1) (fun g v7 wr => ∃ (n c : Nat) (left : Int → Bool), v7 = .int .i64 (n : Int) ∧ c < g ∧ n ≤ N ∧ Hid (RG wr bm w.heap.size N E left c ∧ Kp w wr ∧ (∀ x, left x = true → nf E x = true) ∧ (fl (met E st pt left) N).length = n))
    case atStart => exact ⟨0, k0, nf E, rfl, by omega, by omega, HR.out.1, HR.out.2, fun _ h => h, by rw [met_start HS.out]; rfl⟩
    case round =>
      obtain ⟨n, c, left, rfl, hc, hn, HL⟩ := hrel
      go_wp2_with (first | (at_next; refine wp_next_me HL.out.1 _ rfl rfl rfl ?_ ?_))
      · intro hl
        have e : n = m := by rw [← HL.out.2.2.2, met_end hl]; exact HM.out
        subst e
        have HK : Hid (Kp w wr) := HL.out.2.1
        clear HL hl
        go_wp2_with fail
        go_ret
        exact ⟨rfl, HK.out⟩
      · intro x s q w1 c1 he hl R1 hc1 F1 hen
        have cI := is_any s q st pt
        have hnf := HL.out.2.2.1 x hl
        have hd := HH.out.me.ok.dom x (of_decide_eq_true hnf)
        have K1 : Kp w w1 := F1.kp HL.out.2.1 (fun i hi => by rw [hi]; exact Nat.le_refl _)
        have HL2 : ∀ y, (left y && !decide (y = x)) = true → nf E y = true := fun y hy => HL.out.2.2.1 y (by simp at hy; exact hy.1)
        cases hb : isN (s, q) st pt
        · have HN : Hid (RG w1 bm w.heap.size N E (fun y => left y && !decide (y = x)) c1 ∧ Kp w w1 ∧ (∀ y, (left y && !decide (y = x)) = true → nf E y = true) ∧ (fl (met E st pt (fun y => left y && !decide (y = x))) N).length = n) := ⟨R1, K1, HL2, by rw [met_off (by rw [he]; exact hb)]; exact HL.out.2.2.2⟩
          rw [hb] at cI
          clear HL R1 F1 K1 HL2 he hl hb hnf hd
          go_wp2_with (first | (go_at_call 27; with_reducible refine (cI _).mono ?_; rintro e w2 ⟨rfl, K2⟩))
          have K3 : Kp w1 w2 := ((Kp.refl w1).alloc _).trans K2
          have HN2 : Hid (RG w2 bm w.heap.size N E (fun y => left y && !decide (y = x)) c1 ∧ Kp w w2 ∧ (∀ y, (left y && !decide (y = x)) = true → nf E y = true) ∧ (fl (met E st pt (fun y => left y && !decide (y = x))) N).length = n) := ⟨HN.out.1.kp K3, HN.out.2.1.trans K3, HN.out.2.2⟩
          clear HN K3 K2 hen
          go_roundg (c1 + 1)
          case measure => omega
          case rel => exact ⟨n, c1, _, rfl, by omega, hn, HN2⟩
        · have hp := (met_on (E := E) (st := st) (pt := pt) (N := N) (left := left) (by rw [he]; exact hb) hl hd.1 hd.2).length_eq
          rw [List.length_append, HL.out.2.2.2] at hp
          have hle := fl_le (met E st pt (fun y => left y && !decide (y = x))) N
          have HN : Hid (RG w1 bm w.heap.size N E (fun y => left y && !decide (y = x)) c1 ∧ Kp w w1 ∧ (∀ y, (left y && !decide (y = x)) = true → nf E y = true) ∧ (fl (met E st pt (fun y => left y && !decide (y = x))) N).length = n + 1) := ⟨R1, K1, HL2, hp⟩
          have hn1 : n + 1 ≤ N := by rw [hp] at hle; simpa using hle
          rw [hb] at cI
          clear HL R1 F1 K1 HL2 he hl hb hnf hd hp hle
          go_wp2_with (first | (go_at_call 27; with_reducible refine (cI _).mono ?_; rintro e w2 ⟨rfl, K2⟩))
          have K3 : Kp w1 w2 := ((Kp.refl w1).alloc _).trans K2
          have HN2 : Hid (RG w2 bm w.heap.size N E (fun y => left y && !decide (y = x)) c1 ∧ Kp w w2 ∧ (∀ y, (left y && !decide (y = x)) = true → nf E y = true) ∧ (fl (met E st pt (fun y => left y && !decide (y = x))) N).length = n + 1) := ⟨HN.out.1.kp K3, HN.out.2.1.trans K3, HN.out.2.2⟩
          clear HN K3 K2 hen
          go_roundg (c1 + 1)
          case measure => omega
          case rel => exact ⟨n + 1, c1, _, by go_num, by omega, hn1, HN2⟩

end Go.Proofs.Ytjeahpekcbogeaa
