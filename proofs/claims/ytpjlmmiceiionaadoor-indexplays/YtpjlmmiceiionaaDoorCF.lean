/- index: a frame taken out. -/
import Derived.Test.YtpjlmmiceiionaaDoorJ28
namespace Go.Proofs.YtpjlmmiceiionaaDoor
open Go.RowKit Go.Maps
set_option maxRecDepth 10000

section
variable {w w1 w2 w3 : World} {S : Nat → Prop} {p pm bs bf N f g cap : Nat} {Sg : Nat → Option CN} {Ks Ks' : List Int} {G G' : CN → Option Value} {Kf Kf' : List CN} {d : CN}
theorem IXd.dropped (h : IXd w S p pm bs bf Sg N Ks G Kf) (hf : f < N) (hs : Sg f = some d) (hG : G d = some (.slice (some ⟨g, 0, none⟩) 1 cap))
    (m1 : EMp iK okI w1 bs (setg (sgI Sg) (f : Int) none) Ks') (f1 : Fr (· = bs) w w1) (f2 : Fr (· = g) w1 w2) (f3 : Fr (· = bf) w2 w3) (m3 : EMp cK okC w3 bf G' Kf')
    (z1 : mkD (setS Sg f none) N d ≠ 0 → G' = setg G d (some (.slice (some ⟨g, 0, none⟩) 1 cap)) ∧ SWd w2 0 (.slice (some ⟨g, 0, none⟩) 1 cap) (mkD (setS Sg f none) N d)) (z0 : mkD (setS Sg f none) N d = 0 → G' = setg G d none) :
    IXo w w3 S p pm (setS Sg f none) N := by
  obtain ⟨hdc, _, g0, c0, e0, sg, gp, gs, gf, _⟩ := h.hit _ _ hG
  cases e0
  have fA : Fr S w w3 := ((f1.mono (fun k _ e => by rw [e]; exact h.ss)).trans (f2.mono (fun k _ e => by rw [e]; exact sg))).trans (f3.mono (fun k _ e => by rw [e]; exact h.sf))
  have keep : ∀ k, k < w.heap.size → k ≠ bs → k ≠ g → k ≠ bf → w3.heap[k]? = w.heap[k]? := fun k hk a b c => by
    have l1 := f1.size; have l2 := f2.size
    rw [f3.block k (by omega) c, f2.block k (by omega) b, f1.block k hk a]
  have other : ∀ e, e ≠ d → G' e = G e := fun e he => by
    by_cases z : mkD (setS Sg f none) N d = 0
    · rw [z0 z, setg_other _ _ he]
    · rw [(z1 z).1, setg_other _ _ he]
  refine ⟨S, ⟨bs, bf, Ks', G', Kf', ?_⟩, fA, fun k hk => .inl hk⟩
  refine ⟨fun k hk => Nat.lt_of_lt_of_le (h.own k hk) fA.size, h.sp, h.ss, h.sf, h.n1, h.n2, h.n3, ?_, ?_, m3, fun i e he => ?_, fun e u he => ?_, fun e he => ?_, fun e e' u u' he he' heq => ?_, h.nN⟩
  · rw [keep p (h.own p h.sp) h.n1 (fun c => gp c.symm) h.n2]; exact h.row
  · rw [sgI_set]
    exact (m1.fr f2 (fun c => gs c.symm)).fr f3 h.n3
  · by_cases c : i = f
    · subst c; rw [setS_same] at he; cases he
    · rw [setS_other _ _ c] at he; exact h.ok i e he
  · by_cases c : e = d
    · subst c
      by_cases z : mkD (setS Sg f none) N e = 0
      · rw [z0 z, setg_same] at he; cases he
      · obtain ⟨q1, q2⟩ := z1 z
        rw [q1, setg_same] at he
        cases he
        exact ⟨hdc, z, g, cap, rfl, sg, gp, gs, gf, q2.fr f3 (fun q hq => by cases hq; exact gf)⟩
    · rw [other e c] at he
      obtain ⟨q0, q1, g', c', rfl, q2, q3, q4, q5, q6⟩ := h.hit e u he
      rw [mkD_del_other hs c]
      refine ⟨q0, q1, g', c', rfl, q2, q3, q4, q5, ?_⟩
      exact AX.fr q6 (S := fun k => k = bs ∨ k = g ∨ k = bf) (((f1.mono (fun k _ e => .inl e)).trans (f2.mono (fun k _ e => .inr (.inl e)))).trans (f3.mono (fun k _ e => .inr (.inr e)))) (fun q _ _ hq hs => by
        cases hq
        rcases hs with hs | hs | hs
        · exact q4 hs
        · exact c (h.inj _ _ _ _ he hG (congrArg some hs))
        · exact q5 hs)
  · by_cases c : e = d
    · subst c
      refine Classical.byContradiction fun z => ?_
      rw [(z1 z).1, setg_same] at he
      cases he
    · rw [other e c] at he
      rw [mkD_del_other hs c]
      exact h.non e he
  · have back : ∀ e u, G' e = some u → ∃ u0, G e = some u0 ∧ u0.ownBlock = u.ownBlock := fun e u he => by
      by_cases c : e = d
      · subst c
        by_cases z : mkD (setS Sg f none) N e = 0
        · rw [z0 z, setg_same] at he; cases he
        · rw [(z1 z).1, setg_same] at he; cases he; exact ⟨_, hG, rfl⟩
      · rw [other e c] at he; exact ⟨u, he, rfl⟩
    obtain ⟨u0, a1, a2⟩ := back e u he
    obtain ⟨u1, b1, b2⟩ := back e' u' he'
    exact h.inj e e' u0 u1 a1 b1 (by rw [a2, b2, heq])
end
section
variable {w : World} {S : Nat → Prop} {p pm N : Nat} {Sg : Nat → Option CN}
set_option maxHeartbeats 4000000 in
theorem idrop_no (h : IX w S p pm Sg N) (x : Int) (hx : okI x) (hs : sgI Sg x = none) :
    Calls Tryd.prog 10 #[.pointer (some ⟨p, 0, none⟩), .int .i64 x] w fun e w' => e = .returned (.int .i64 23) ∧ w' = w := by
  obtain ⟨bs, bf, Ks, G, Kf, h⟩ := h
  have c1 := h.c1
  have hl := EMp.look kv_i Tryd.underlying64 zero_c h.ms x hx true
  rw [if_pos rfl, hs, Option.getD_none, Option.isSome_none] at hl
  unfold iK at hl
  clear h hs
  generalize cK (0, 0) = y at *
  go_enter Tryd.func10, Tryd.ntmps10
  go_wp2
  go_ret
  exact ⟨rfl, rfl⟩

set_option maxHeartbeats 8000000 in
theorem idrop_ok (h : IX w S p pm Sg N) (f : Nat) (hf : f < N) (d : CN) (hs : Sg f = some d) :
    Calls Tryd.prog 10 #[.pointer (some ⟨p, 0, none⟩), .int .i64 (f : Int)] w fun e w' => e = .returned (.int .i64 0) ∧ IXo w w' S p pm (setS Sg f none) N := by
  obtain ⟨bs, bf, Ks, G, Kf, hd⟩ := h
  have hN := hd.nN
  have okf : okI (f : Int) := WalkArith.wf_i64 (by omega)
  have hm : mkD Sg N d ≠ 0 := (mkD_ne Sg N d).2 ⟨f, hf, hs⟩
  obtain ⟨v, hG⟩ : ∃ v, G d = some v := by
    cases e : G d with
    | none => exact absurd (hd.non _ e) hm
    | some v => exact ⟨v, rfl⟩
  obtain ⟨hdc, _, g, cap, rfl, sg, gp, gs, gf, sw⟩ := hd.hit _ _ hG
  have c1 := hd.c1
  have hl := EMp.look kv_i Tryd.underlying64 zero_c hd.ms (f : Int) okf true
  rw [if_pos rfl, sgI_nat, hs, Option.map_some, Option.getD_some, Option.isSome_some] at hl
  unfold iK at hl
  obtain ⟨w1, r1, m1, f1⟩ := EMp.drop kv_i Tryd.underlying64 hd.ms (f : Int) okf 0
  unfold iK at r1
  have c2 : w1.cell? ⟨p, 2, none⟩ = some (.map (some bf)) := (f1.cell (a := ⟨p, 2, none⟩) (hd.own p hd.sp) hd.n1).trans hd.c2
  have h1 : EMp cK okC w1 bf G Kf := hd.mf.fr f1 (fun e => hd.n3 e.symm)
  have hl2 : (Instr.lookup 65 (.map (some bf)) (cK d) false).run Tryd.prog w1.drew = .ok (.slice (some ⟨g, 0, none⟩) 1 cap) w1.drew := by
    have := EMp.look kv_c Tryd.underlying65 zero_s (h1.kp (Kp.refl w1).drew) d hdc false
    rw [if_neg (by decide), hG] at this
    exact this
  have cw := iwithout_1 g cap (mkD Sg N d) f (by omega) hm (mkD_lt Sg N d hN) ((sw.fr f1 (fun k hk => by cases hk; exact gs)).kpt (Kp.refl w1).drew)
  rw [← mkD_del hN hf d] at cw
  obtain ⟨z, hz⟩ : ∃ z, z = mkD (setS Sg f none) N d := ⟨_, rfl⟩
  rw [← hz] at cw
  have cv := cw.mono (R' := fun e w2 => ∃ u w3, e = .returned u ∧ (Instr.mapUpdate 65 (.map (some bf)) (cK d) u).run Tryd.prog w2 = .ok () w3 ∧ Fr (fun k => k = g ∨ k = bf) w1 w2 ∧ Fr (fun k => k = g ∨ k = bf) w1 w3 ∧
      ((∃ Kf', EMp cK okC w3 bf (setg G d (some u)) Kf') ∧ Fr (· = g) w1 w2 ∧ Fr (· = bf) w2 w3 ∧ ((z ≠ 0 ∧ u = .slice (some ⟨g, 0, none⟩) 1 cap ∧ SWd w2 0 (.slice (some ⟨g, 0, none⟩) 1 cap) z) ∨ (z = 0 ∧ ∃ na c, u = .slice na 0 c)))) (fun e w2 hp => by
    obtain ⟨a1, a2⟩ := hp
    have fA : Fr (· = g) w1 w2 := ((Kp.refl w1).drew.fr _).trans a1
    have key : ∀ u, e = .returned u → ((z ≠ 0 ∧ u = .slice (some ⟨g, 0, none⟩) 1 cap ∧ SWd w2 0 (.slice (some ⟨g, 0, none⟩) 1 cap) z) ∨ (z = 0 ∧ ∃ na c, u = .slice na 0 c)) → ∃ u w3, e = .returned u ∧ (Instr.mapUpdate 65 (.map (some bf)) (cK d) u).run Tryd.prog w2 = .ok () w3 ∧ Fr (fun k => k = g ∨ k = bf) w1 w2 ∧ Fr (fun k => k = g ∨ k = bf) w1 w3 ∧
      ((∃ Kf', EMp cK okC w3 bf (setg G d (some u)) Kf') ∧ Fr (· = g) w1 w2 ∧ Fr (· = bf) w2 w3 ∧ ((z ≠ 0 ∧ u = .slice (some ⟨g, 0, none⟩) 1 cap ∧ SWd w2 0 (.slice (some ⟨g, 0, none⟩) 1 cap) z) ∨ (z = 0 ∧ ∃ na c, u = .slice na 0 c))) := fun u he hu => by
      obtain ⟨w3, r3, m3, f3⟩ := EMp.store kv_c Tryd.underlying65 (h1.fr fA (fun e => gf e.symm)) d hdc u
      have k3 : Fr (fun k => k = g ∨ k = bf) w1 w2 := fA.mono (fun k _ e => .inl e)
      exact ⟨u, w3, he, r3, k3, k3.trans (f3.mono (fun k _ e => .inr e)), ⟨_, m3⟩, fA, f3, hu⟩
    rcases a2 with ⟨z1, e1, e2⟩ | ⟨z1, na, c, e1⟩
    · exact key _ e1 (.inl ⟨z1, rfl, e2⟩)
    · exact key _ e1 (.inr ⟨z1, na, c, rfl⟩))
  have HH : Hid (IXd w S p pm bs bf Sg N Ks G Kf ∧ f < N ∧ Sg f = some d ∧ G d = some (.slice (some ⟨g, 0, none⟩) 1 cap) ∧ Fr (· = bs) w w1 ∧ (∃ Ks', EMp iK okI w1 bs (setg (sgI Sg) (f : Int) none) Ks') ∧ p < w1.heap.size ∧ z = mkD (setS Sg f none) N d ∧ g ≠ p ∧ okC d) :=
    ⟨hd, hf, hs, hG, f1, ⟨_, m1⟩, Nat.lt_of_lt_of_le (hd.own p hd.sp) f1.size, hz, gp, hdc⟩
  have KS : Aside (∀ u, Fr (fun k => k = g ∨ k = bf) w1 u → u.cell? ⟨p, 2, none⟩ = some (.map (some bf))) := fun u ku => (ku.cell (a := ⟨p, 2, none⟩) HH.out.2.2.2.2.2.2.1 (fun e => by
    rcases e with e | e
    · exact HH.out.2.2.2.2.2.2.2.2.1 e.symm
    · exact HH.out.1.n2 e)).trans c2
  clear hd hN okf hm hG sg gp gs gf sw m1 f1 h1 cw hz hf hs hdc
  go_enter Tryd.func10, Tryd.ntmps10
  go_wp2_with fail
  clear r1 hl c1
  go_region_held3 (fun u => u.cell? ⟨p, 2, none⟩ = some (.map (some bf)))
    (first | exact KS.out _ ((Kp.refl _).drew.fr _) | exact KS.out _ k3.out | exact KS.out _ k4.out)
    (first | (go_at_call 32; with_reducible refine cv.mono ?_; rintro e w2 ⟨u, w3, rfl, r3, k3, k4, a1⟩; replace k3 := hid_up k3; replace k4 := hid_up k4; replace a1 := hid_up a1))
  all_goals
    obtain ⟨⟨Kf', m3⟩, f12, f23, hu⟩ := a1.out
    have d2 : w3.cell? ⟨p, 2, none⟩ = some (.map (some bf)) := KS.out _ k4.out
    have l3 := EMp.look kv_c Tryd.underlying65 zero_s m3 d HH.out.2.2.2.2.2.2.2.2.2 false
    rw [if_neg (by decide), setg_same, Option.getD_some] at l3
    obtain ⟨_, m1⟩ := HH.out.2.2.2.2.2.1
    rcases hu with ⟨z1, rfl, sw⟩ | ⟨z1, na, c, rfl⟩
    · have E : Hid (IXo w w3 S p pm (setS Sg f none) N) := HH.out.1.dropped HH.out.2.1 HH.out.2.2.1 HH.out.2.2.2.1 m1 HH.out.2.2.2.2.1 f12 f23 m3 (fun _ => ⟨rfl, by rw [← HH.out.2.2.2.2.2.2.2.1]; exact sw⟩) (fun e => absurd (HH.out.2.2.2.2.2.2.2.1.trans e) z1)
      clear KS a1 k3 k4 m3 f12 f23 sw m1 z1 r3 c2 hl2 HH
      go_wp2_with fail
      go_ret
      exact ⟨rfl, E.out⟩
    · obtain ⟨w4, r4, m4, f4⟩ := EMp.drop kv_c Tryd.underlying65 m3 d HH.out.2.2.2.2.2.2.2.2.2 0
      have eg : setg (setg G d (some (.slice na 0 c))) d none = setg G d none := by funext x; unfold setg; split <;> rfl
      have E : Hid (IXo w w4 S p pm (setS Sg f none) N) := HH.out.1.dropped HH.out.2.1 HH.out.2.2.1 HH.out.2.2.2.1 m1 HH.out.2.2.2.2.1 f12 (f23.trans f4) m4 (fun e => absurd (HH.out.2.2.2.2.2.2.2.1.symm.trans z1) e) (fun _ => eg)
      clear KS a1 k3 k4 m3 f12 f23 m1 z1 r3 c2 hl2 HH m4 f4 eg
      go_wp2_with fail
      go_ret
      exact ⟨rfl, E.out⟩
end

end Go.Proofs.YtpjlmmiceiionaaDoor
