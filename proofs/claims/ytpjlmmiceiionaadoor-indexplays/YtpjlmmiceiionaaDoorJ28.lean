/- Joined: CD, CE. -/
import Derived.Test.YtpjlmmiceiionaaDoorCB
import Derived.Deep.RegionHeld3
/- index: Add. -/
namespace Go.Proofs.YtpjlmmiceiionaaDoor
open Go.RowKit Go.Maps
set_option maxRecDepth 10000

section
variable {w : World} {S Sm : Nat → Prop} {p pm N ops : Nat} {Sg : Nat → Option CN} {F : Nat → Nat → Nat}
/-- What an act leaves of the index. -/
def IXo (w w' : World) (S : Nat → Prop) (p pm : Nat) (Sg : Nat → Option CN) (N : Nat) : Prop := ∃ S', IX w' S' p pm Sg N ∧ Fr S w w' ∧ ∀ k, S' k → S k ∨ w.heap.size ≤ k
theorem IXo.same {w' : World} (h : IX w S p pm Sg N) (k : Kp w w') : IXo w w' S p pm Sg N := ⟨S, h.kp k, k.fr _, fun _ hk => .inl hk⟩
theorem sgI_neg (Sg : Nat → Option CN) {x : Int} (h : x < 0) : sgI Sg x = none := by unfold sgI; rw [if_neg (by omega)]
theorem sgI_set (Sg : Nat → Option CN) (f : Nat) (d : Option CN) : sgI (setS Sg f d) = setg (sgI Sg) (f : Int) (d.map cK) := by
  funext x
  by_cases c : x = (f : Int)
  · subst c; rw [setg_same, sgI_nat, setS_same]
  · rw [setg_other _ _ c]
    unfold sgI
    split
    · rw [setS_other _ _ (by omega)]
    · rfl

set_option maxHeartbeats 4000000 in
theorem iadd_no (h : IX w S p pm Sg N) (hm : PM w Sm pm N ops F) (x : Int) (hx : hasF N x = false) :
    Calls Tryd.prog 8 #[.pointer (some ⟨p, 0, none⟩), .int .i64 x] w fun e w' => e = .returned (.int .i64 2) ∧ w' = w := by
  obtain ⟨bs, bf, Ks, G, Kf, h⟩ := h
  have c0 := h.c0
  have cg := pget_no hm x hx
  clear h hm hx
  go_enter Tryd.func8, Tryd.ntmps8
  go_wp2_with fail
  with_reducible refine cg.mono ?_
  rintro e w' ⟨rfl, rfl⟩
  go_wp2_with fail
  go_ret
  exact ⟨rfl, rfl⟩
set_option maxHeartbeats 4000000 in
theorem iadd_there (h : IX w S p pm Sg N) (hm : PM w Sm pm N ops F) (f : Nat) (hf : f < N) (hs : (Sg f).isSome = true) :
    Calls Tryd.prog 8 #[.pointer (some ⟨p, 0, none⟩), .int .i64 (f : Int)] w fun e w' => e = .returned (.int .i64 22) ∧ Kp w w' := by
  have HH : Hid (IX w S p pm Sg N ∧ f < N ∧ (Sg f).isSome = true ∧ N ≤ 64) := ⟨h, hf, hs, by obtain ⟨_, _, _, _, _, q⟩ := h; exact q.nN⟩
  obtain ⟨bs, bf, Ks, G, Kf, h⟩ := h
  have c0 := h.c0
  have cg := pget_ok hm f hf
  clear h hm hs hf
  go_enter Tryd.func8, Tryd.ntmps8
  go_wp2_with fail
  with_reducible refine cg.mono ?_
  rintro e w1 ⟨rfl, rb, k1⟩
  have K1 : Hid (Kp w w1) := k1
  have ch := ihas_any (HH.out.1.kp k1) (f : Int) (by unfold okI; exact WalkArith.wf_i64 (by have := HH.out.2.1; have := HH.out.2.2.2; omega))
  rw [sgI_nat, Option.isSome_map, HH.out.2.2.1] at ch
  clear rb k1 cg
  go_wp2_with fail
  with_reducible refine ch.mono ?_
  rintro e w' ⟨rfl, rfl⟩
  go_wp2_with fail
  go_ret
  exact ⟨rfl, K1.out⟩
end

end Go.Proofs.YtpjlmmiceiionaaDoor

/- index: a frame put in. -/
namespace Go.Proofs.YtpjlmmiceiionaaDoor
open Go.RowKit Go.Maps
set_option maxRecDepth 10000

theorem hid_up {p : Prop} (h : p) : Hid p := h
/-- A set with a frame more, whatever it was. -/
theorem iwith_any {w : World} {v : Value} {m f : Nat} (hf : f < 64) (h : SWd w 0 v m) (hn : m = 0 → v = .slice none 0 0) (hl : m < 18446744073709551616) :
    Calls Tryd.prog 28 #[v, .int .i64 (f : Int)] w fun e w' => ∃ g cap, e = .returned (.slice (some ⟨g, 0, none⟩) 1 cap) ∧ SWd w' 0 (.slice (some ⟨g, 0, none⟩) 1 cap) (m ||| 2 ^ f) ∧ Fr (fun k => v.ownBlock = some k) w w' ∧ (v.ownBlock = some g ∨ w.heap.size ≤ g) ∧ g < w'.heap.size := by
  by_cases hm : m = 0
  · subst hm
    rw [hn rfl]
    refine (iwith_0 f hf w).mono ?_
    rintro e w' ⟨g, cap, rfl, h1, h2⟩
    have hne : 2 ^ f ≠ 0 := Nat.ne_of_gt (Nat.two_pow_pos f)
    obtain ⟨c1, c2, _, _⟩ := h1.cells hne
    rw [Nat.zero_or]
    exact ⟨g, cap, rfl, AX.low h1 (Nat.zero_le _), h2.fr _, .inr c2, c1⟩
  · obtain ⟨g, cap, rfl, _, hg⟩ := h.form hm
    refine (iwith_1 g cap m f hf hm hl h).mono ?_
    rintro e w' ⟨rfl, h1, h2⟩
    refine ⟨g, cap, rfl, h1, h2.mono (fun k _ hk => by rw [hk]; rfl), .inl rfl, Nat.lt_of_lt_of_le hg h2.size⟩

section
variable {w w1 w2 w3 w4 : World} {S : Nat → Prop} {p pm bs bf N f g cap : Nat} {Sg : Nat → Option CN} {Ks Ks' : List Int} {G : CN → Option Value} {Kf Kf' : List CN} {d : CN} {v : Value}
theorem IXd.added (h : IXd w S p pm bs bf Sg N Ks G Kf) (hf : f < N) (h0 : Sg f = none) (hd : okC d) (hv : v = (G d).getD (.slice none 0 0))
    (k1 : Kp w w1) (m2 : EMp iK okI w2 bs (setg (sgI Sg) (f : Int) (some (cK d))) Ks') (f2 : Fr (· = bs) w1 w2)
    (s3 : SWd w3 0 (.slice (some ⟨g, 0, none⟩) 1 cap) (mkD Sg N d ||| 2 ^ f)) (f3 : Fr (fun k => v.ownBlock = some k) w2 w3) (hg : v.ownBlock = some g ∨ w2.heap.size ≤ g) (hg3 : g < w3.heap.size)
    (m4 : EMp cK okC w4 bf (setg G d (some (.slice (some ⟨g, 0, none⟩) 1 cap))) Kf') (f4 : Fr (· = bf) w3 w4) :
    IXo w w4 S p pm (setS Sg f (some d)) N := by
  have hvb : ∀ k, v.ownBlock = some k → S k ∧ k ≠ p ∧ k ≠ bs ∧ k ≠ bf ∧ ∃ u, G d = some u ∧ u.ownBlock = some k := by
    intro k hk
    cases e : G d with
    | none => rw [hv, e] at hk; cases hk
    | some u =>
      rw [hv, e] at hk
      obtain ⟨_, _, g', c', rfl, q1, q2, q3, q4, _⟩ := h.hit _ _ e
      cases hk
      exact ⟨q1, q2, q3, q4, _, rfl, rfl⟩
  have z12 : w.heap.size ≤ w2.heap.size := Nat.le_trans k1.size f2.size
  have hgn : g ≠ p ∧ g ≠ bs ∧ g ≠ bf := by
    rcases hg with hg | hg
    · obtain ⟨_, a, b, c, _⟩ := hvb g hg; exact ⟨a, b, c⟩
    · have := h.own p h.sp; have := h.own bs h.ss; have := h.own bf h.sf
      exact ⟨by omega, by omega, by omega⟩
  have fA : Fr S w w4 := (((k1.fr S).trans (f2.mono (fun k _ e => by rw [e]; exact h.ss))).trans (f3.mono (fun k _ e => (hvb k e).1))).trans (f4.mono (fun k _ e => by rw [e]; exact h.sf))
  have keep : ∀ k, k < w.heap.size → k ≠ bs → v.ownBlock ≠ some k → k ≠ bf → w4.heap[k]? = w.heap[k]? := fun k hk a b c => by
    have l1 := k1.size; have l2 := f2.size; have l3 := f3.size
    rw [f4.block k (by omega) c, f3.block k (by omega) b, f2.block k (by omega) a, k1.block k hk]
  refine ⟨fun k => S k ∨ k = g, ⟨bs, bf, Ks', setg G d (some (.slice (some ⟨g, 0, none⟩) 1 cap)), Kf', ?_⟩, fA, fun k hk => ?_⟩
  · refine ⟨fun k hk => ?_, .inl h.sp, .inl h.ss, .inl h.sf, h.n1, h.n2, h.n3, ?_, ?_, m4, fun i e he => ?_, fun e u he => ?_, fun e he => ?_, fun e e' u u' he he' heq => ?_, h.nN⟩
    · rcases hk with hk | rfl
      · exact Nat.lt_of_lt_of_le (h.own k hk) fA.size
      · exact Nat.lt_of_lt_of_le hg3 f4.size
    · rw [keep p (h.own p h.sp) h.n1 (fun c => (hvb p c).2.1 rfl) h.n2]; exact h.row
    · rw [sgI_set]
      exact (m2.fr f3 (fun c => (hvb bs c).2.2.1 rfl)).fr f4 h.n3
    · by_cases c : i = f
      · subst c; rw [setS_same] at he; cases he; exact ⟨hd, hf⟩
      · rw [setS_other _ _ c] at he; exact h.ok i e he
    · by_cases c : e = d
      · subst c
        rw [setg_same] at he
        cases he
        rw [mkD_add hf h0]
        exact ⟨hd, or_ne0 _ _, g, cap, rfl, .inr rfl, hgn.1, hgn.2.1, hgn.2.2, s3.fr f4 (fun q hq => by cases hq; exact hgn.2.2)⟩
      · rw [setg_other _ _ c] at he
        obtain ⟨q0, q1, g', c', rfl, q2, q3, q4, q5, q6⟩ := h.hit e u he
        have hb : v.ownBlock ≠ some g' := fun hk => by
          obtain ⟨_, _, _, _, u2, hu2, hu3⟩ := hvb g' hk
          exact c (h.inj _ _ _ _ he hu2 (by rw [hu3]; rfl))
        rw [mkD_add_other h0 c]
        refine ⟨q0, q1, g', c', rfl, .inl q2, q3, q4, q5, ?_⟩
        exact AX.fr q6 (S := fun k => k = bs ∨ v.ownBlock = some k ∨ k = bf) (((k1.fr _).trans (f2.mono (fun k _ e => .inl e))).trans (f3.mono (fun k _ e => .inr (.inl e))) |>.trans (f4.mono (fun k _ e => .inr (.inr e)))) (fun q _ _ hq hs => by
          cases hq
          rcases hs with hs | hs | hs
          · exact q4 hs
          · exact hb hs
          · exact q5 hs)
    · by_cases c : e = d
      · subst c; rw [setg_same] at he; cases he
      · rw [setg_other _ _ c] at he
        rw [mkD_add_other h0 c]
        exact h.non e he
    · have other : ∀ e u, e ≠ d → G e = some u → u.ownBlock ≠ some g := fun e u c he hk => by
        rcases hg with hg | hg
        · obtain ⟨_, _, _, _, u2, hu2, hu3⟩ := hvb g hg
          exact c (h.inj _ _ _ _ he hu2 (by rw [hu3, hk]))
        · obtain ⟨_, _, g', c', rfl, q2, _⟩ := h.hit e u he
          have e1 := h.own g' q2
          have e2 : g' = g := by injection hk
          omega
      by_cases c : e = d
      · subst c
        rw [setg_same] at he
        cases he
        by_cases c' : e' = e
        · exact c'.symm
        · rw [setg_other _ _ c'] at he'
          exact absurd heq.symm (other e' u' c' he')
      · rw [setg_other _ _ c] at he
        by_cases c' : e' = d
        · subst c'
          rw [setg_same] at he'
          cases he'
          exact absurd heq (other e u c he)
        · rw [setg_other _ _ c'] at he'
          exact h.inj e e' u u' he he' heq
  · rcases hk with hk | hk
    · exact .inl hk
    · subst hk
      rcases hg with hg | hg
      · exact .inl (hvb _ hg).1
      · exact .inr (by omega)
end

section
variable {w : World} {S Sm : Nat → Prop} {p pm N ops : Nat} {Sg : Nat → Option CN} {F : Nat → Nat → Nat}
set_option maxHeartbeats 8000000 in
theorem iadd_ok (h : IX w S p pm Sg N) (hm : PM w Sm pm N ops F) (f : Nat) (hf : f < N) (h0 : Sg f = none) :
    Calls Tryd.prog 8 #[.pointer (some ⟨p, 0, none⟩), .int .i64 (f : Int)] w fun e w' => e = .returned (.int .i64 0) ∧ IXo w w' S p pm (setS Sg f (some (dgt (F f)))) N := by
  have hb : Bytes (F f) := by obtain ⟨_, _, hm⟩ := hm; exact hm.byte f
  obtain ⟨bs, bf, Ks, G, Kf, hd⟩ := h
  have hN := hd.nN
  have c0 := hd.c0
  have cg := pget_ok hm f hf
  have okf : okI (f : Int) := WalkArith.wf_i64 (by omega)
  have HH : Hid (IXd w S p pm bs bf Sg N Ks G Kf ∧ f < N ∧ Sg f = none ∧ okI (f : Int) ∧ okC (dgt (F f))) := ⟨hd, hf, h0, okf, dgt_ok hb⟩
  clear hm hf h0 hN
  go_enter Tryd.func8, Tryd.ntmps8
  go_wp2_with fail
  with_reducible refine cg.mono ?_
  rintro e w1 ⟨rfl, rb, k1⟩
  have K1 : Hid (Kp w w1) := k1
  have ch := ihas_any (show IX w1 S p pm Sg N from ⟨bs, bf, Ks, G, Kf, hd.fr (k1.fr (fun _ => False)) (fun _ _ => id)⟩) (f : Int) okf
  rw [sgI_nat, HH.out.2.2.1, Option.map_none, Option.isSome_none] at ch
  have co := dgof_any w.heap.size 0 4096 (F f) w1 (rb.bs hb) (Nat.le_refl _)
  clear rb cg hb
  go_wp2_with fail
  with_reducible refine ch.mono ?_
  rintro e w1 ⟨rfl, rfl⟩
  clear ch
  go_wp2_with fail
  with_reducible refine co.mono ?_
  rintro e w1 ⟨rfl, rfl⟩
  clear co
  have h1 := hd.fr (k1.fr (fun _ => False)) (fun _ _ => id)
  obtain ⟨w2, r2, m2, f2⟩ := EMp.store kv_i Tryd.underlying64 h1.ms (f : Int) okf (cK (dgt (F f)))
  unfold iK at r2
  have cs1 := h1.c1
  clear k1 c0 okf
  obtain ⟨d, ed⟩ : ∃ d, d = dgt (F f) := ⟨_, rfl⟩
  have ED : Hid (d = dgt (F f)) := ed
  rw [← ed] at r2 m2 HH ⊢
  clear ed
  have f2' : Hid (Fr (· = bs) w1 w2) := f2
  have m2' : Hid (∃ Ks', EMp iK okI w2 bs (setg (sgI Sg) (f : Int) (some (cK d))) Ks') := ⟨_, m2⟩
  have h2 : EMp cK okC w2 bf G Kf := h1.mf.fr f2 (fun e => h1.n3 e.symm)
  have cs2 : w2.cell? ⟨p, 2, none⟩ = some (.map (some bf)) := (f2.cell (a := ⟨p, 2, none⟩) (h1.own p h1.sp) h1.n1).trans h1.c2
  have hl := EMp.look kv_c Tryd.underlying65 zero_s h2 d HH.out.2.2.2.2 false
  rw [if_neg (by decide)] at hl
  obtain ⟨v, hv⟩ : ∃ v, v = (G d).getD (.slice none 0 0) := ⟨_, rfl⟩
  rw [← hv] at hl
  have hl2 : (Instr.lookup 65 (.map (some bf)) (cK d) false).run Tryd.prog w2.drew = .ok v w2.drew := by
    have := EMp.look kv_c Tryd.underlying65 zero_s (h2.kp (Kp.refl w2).drew) d HH.out.2.2.2.2 false
    rw [if_neg (by decide), ← hv] at this
    exact this
  have sw : SWd w2 0 v (mkD Sg N d) := by
    rw [hv]
    cases e : G d with
    | none => rw [h1.non _ e]; exact AX.nil w2 0
    | some u =>
      obtain ⟨_, _, g', _, rfl, _, _, q, _, s⟩ := h1.hit _ _ e
      exact s.fr f2 (fun k hk => by cases hk; exact q)
  have cw := iwith_any (f := f) (Nat.lt_of_lt_of_le HH.out.2.1 hd.nN) (sw.kpt (Kp.refl w2).drew) (fun e => by
    rw [hv]
    cases e2 : G d with
    | none => rfl
    | some u => exact absurd e (hd.hit _ _ e2).2.1) (mkD_lt Sg N d hd.nN)
  have hbf : ∀ k, v.ownBlock = some k → k ≠ p ∧ k ≠ bf := fun k hk => by
    cases e : G d with
    | none => rw [hv, e] at hk; cases hk
    | some u =>
      rw [hv, e] at hk
      obtain ⟨_, _, g', c', rfl, _, q2, _, q4, _⟩ := h1.hit _ _ e
      cases hk
      exact ⟨q2, q4⟩
  have cv := cw.mono (R' := fun e w3 => ∃ g cap w4, e = .returned (.slice (some ⟨g, 0, none⟩) 1 cap) ∧ (Instr.mapUpdate 65 (.map (some bf)) (cK d) (.slice (some ⟨g, 0, none⟩) 1 cap)).run Tryd.prog w3 = .ok () w4 ∧ Fr (fun k => v.ownBlock = some k ∨ k = bf) w2 w3 ∧ Fr (fun k => v.ownBlock = some k ∨ k = bf) w2 w4 ∧
      (SWd w3 0 (.slice (some ⟨g, 0, none⟩) 1 cap) (mkD Sg N d ||| 2 ^ f) ∧ Fr (fun k => v.ownBlock = some k) w2 w3 ∧ (v.ownBlock = some g ∨ w2.heap.size ≤ g) ∧ g < w3.heap.size ∧ (∃ Kf', EMp cK okC w4 bf (setg G d (some (.slice (some ⟨g, 0, none⟩) 1 cap))) Kf') ∧ Fr (· = bf) w3 w4)) (fun e w3 hp => by
    obtain ⟨g, cap, he, a1, a2, a3, a4⟩ := hp
    have fA : Fr (fun k => v.ownBlock = some k) w2 w3 := ((Kp.refl w2).drew.fr _).trans a2
    obtain ⟨w4, r4, m4, f4⟩ := EMp.store kv_c Tryd.underlying65 (h2.fr fA (fun e => absurd rfl (hbf bf e).2)) d HH.out.2.2.2.2 (.slice (some ⟨g, 0, none⟩) 1 cap)
    have k3 : Fr (fun k => v.ownBlock = some k ∨ k = bf) w2 w3 := fA.mono (fun k _ e => .inl e)
    exact ⟨g, cap, w4, he, r4, k3, k3.trans (f4.mono (fun k _ e => .inr e)), a1, fA, a3, a4, ⟨_, m4⟩, f4⟩)
  have HV : Hid (v = (G d).getD (.slice none 0 0) ∧ EMp cK okC w2 bf G Kf ∧ bf < w2.heap.size ∧ p < w2.heap.size ∧ (∀ k, v.ownBlock = some k → k ≠ p ∧ k ≠ bf)) := ⟨hv, h2, h2.lt, Nat.lt_of_lt_of_le (h1.own p h1.sp) f2.size, fun k hk => by
    cases e : G d with
    | none => rw [hv, e] at hk; cases hk
    | some u =>
      rw [hv, e] at hk
      obtain ⟨_, _, g', c', rfl, _, q2, _, q4, _⟩ := h1.hit _ _ e
      cases hk
      exact ⟨q2, q4⟩⟩
  clear h1 f2 m2 h2 hl hv sw hd cw hbf
  go_wp2_with fail
  clear r2 cs1
  have KS : Aside (∀ u, Fr (fun k => v.ownBlock = some k ∨ k = bf) w2 u → u.cell? ⟨p, 2, none⟩ = some (.map (some bf))) := fun u ku => (ku.cell (a := ⟨p, 2, none⟩) HV.out.2.2.2.1 (fun e => by
    rcases e with e | e
    · exact (HV.out.2.2.2.2 p e).1 rfl
    · exact HH.out.1.n2 e)).trans cs2
  go_region_held3 (fun u => u.cell? ⟨p, 2, none⟩ = some (.map (some bf)))
    (first | exact KS.out _ ((Kp.refl _).drew.fr _) | exact KS.out _ k3.out | exact KS.out _ k4.out)
    (first | (go_at_call 28; with_reducible refine cv.mono ?_; rintro e w3 ⟨g, cap, w4, rfl, r4, k3, k4, a1⟩; replace k3 := hid_up k3; replace k4 := hid_up k4; replace a1 := hid_up a1))
  all_goals
    clear KS
    go_wp2_with fail
    go_ret
    obtain ⟨b1, b2, b3, b4, ⟨_, b5⟩, b6⟩ := a1.out
    obtain ⟨_, c5⟩ := m2'.out
    rw [← ED.out]
    exact ⟨rfl, HH.out.1.added HH.out.2.1 HH.out.2.2.1 HH.out.2.2.2.2 HV.out.1 K1.out c5 f2'.out b1 b2 b3 b4 b5 b6⟩
end

end Go.Proofs.YtpjlmmiceiionaaDoor
