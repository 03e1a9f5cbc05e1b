/- The document's memory: set. -/
import Derived.Test.YtjnkmmfppkpgbaaDoorP17
import Derived.Deep.RegionLaw
namespace Go.Proofs.YtjnkmmfppkpgbaaDoor
open Go.RowKit Go.Maps
set_option maxRecDepth 10000

theorem info_pair : ∃ i, Tryd.prog.info? 95 = some i ∧ i.zero = some (.agg #[.int .u64 0, .int .u8 0]) ∧ i.size = 2 ∧ i.bytes = 16 := by
  have h : (Tryd.prog.info? 95).map (fun i => (i.zero, i.size, i.bytes)) = some (some (.agg #[.int .u64 0, .int .u8 0]), 2, 16) := by kernel_rfl
  obtain ⟨i, hi, e⟩ := Option.map_eq_some_iff.1 h
  simp only [Prod.mk.injEq] at e
  exact ⟨i, hi, e.1, e.2.1, e.2.2⟩

/-- append of pairs. -/
theorem pair_append {w : World} {v : Value} {L : List (Nat × Nat)} (h : OL encP 95 2 w v L) (M : List (Nat × Nat)) (na : Option Addr) (m c : Nat) (hm : m = M.length) (hsrc : (na = none ∧ m = 0 ∧ c = 0) ∨ ∃ b o, na = some ⟨b, o, none⟩ ∧ ∀ j u, (M.flatMap encP)[j]? = some u → w.cell? ⟨b, o + j, none⟩ = some u)
    (hl : L.length + M.length ≤ 8000000000) (ty : TypeId) :
    ∃ na' cap' w', (Builtin.append_ #[60, 60] ty #[v, .slice na m c]).run Tryd.prog w = .ok (.slice na' (L ++ M).length cap') w' ∧ OL encP 95 2 w' (.slice na' (L ++ M).length cap') (L ++ M) ∧ w.grownBy w' v.ownBlock ∧ ((Value.slice na' (L ++ M).length cap').ownBlock = v.ownBlock ∨ (Value.slice na' (L ++ M).length cap').ownBlock = some w.heap.size) := by
  obtain ⟨i0, hi, hz0, hz1, hz2⟩ := info_pair
  obtain ⟨v', w', r1, r2, r3, r4⟩ := h.append encP_enc (P := Tryd.prog) (t := 60) Tryd.underlying60 hi hz0 hz1 hz2 rfl M na m c hm hsrc hl (by omega) ty
  obtain ⟨na', cap', e, _⟩ := r2.form
  subst e
  exact ⟨na', cap', w', r1, r2, r3, r4⟩
theorem ol_empty (w : World) : OL encP 95 2 (w.alloc (.cells #[] 95)) (.slice (some ⟨w.heap.size, 0, none⟩) 0 0) [] :=
  ⟨rfl, .inr ⟨w.heap.size, 0, #[], rfl, Nat.zero_le _, heap_alloc_new w _, Nat.le_refl _, Nat.zero_le _, rfl, rfl⟩⟩

/-- An append whose run is known, at a step of a region that draws its order. -/
theorem step_append_of {P : Program} {w : World} {ops : Array Oper} {o : Oper} {a : Act} {K : Act → World → Prop} {Q : Exit → Act → World → Prop} {E : Prop} {t ty : TypeId} {vs vx v' : Value} {w' : World}
    (hr : (Builtin.append_ #[t, t] ty #[vs, vx]).run P w = .ok v' w') (hgd : o.guard = none) (s x : Operand) (ho : o.op = .call { callee := .builtin .append, args := #[s, x], argTypes := #[t, t] }) (hty : o.type = ty) (hs : a.eval s = vs) (hx : a.eval x = vx)
    (h : K (a.put o.dst v') w') : if Region.wanted o (yielded ops a.tmps) = true then Oper.wp P o a w K Q else E := by
  rw [if_pos (by simp [Region.wanted, hgd])]
  exact wp_append_of hr s x ho hty hs hx h

/-- A new list is laid into the struct. -/
theorem RMat.relist {w w1 : World} {S T : Nat → Prop} {q N ops : Nat} {na na' : Option Addr} {cap cap' : Nat} {L L' : List (Nat × Nat)} (h : RMat w T q N ops na cap L) (k : Fr S w w1) (hS : ∀ i, i < w.heap.size → S i → T i ∧ i ≠ q) (h' : OL encP 95 2 w1 (.slice na' L'.length cap') L')
    (hb : ∀ g, (Value.slice na' L'.length cap').ownBlock = some g → (T g ∧ g ≠ q) ∨ w.heap.size ≤ g) :
    RMat (w1.setCell ⟨q, 1, none⟩ (.slice na' L'.length cap')) (fun i => T i ∨ (Value.slice na' L'.length cap').ownBlock = some i) q N ops na' cap' L' ∧ Fr T w (w1.setCell ⟨q, 1, none⟩ (.slice na' L'.length cap')) ∧ Less T (fun i => T i ∨ (Value.slice na' L'.length cap').ownBlock = some i) w := by
  have hq := h.own q h.sq
  have hbq : ∀ g, (Value.slice na' L'.length cap').ownBlock = some g → g ≠ q := fun g hg => (hb g hg).elim (·.2) (fun h => by omega)
  have k2 : Fr (· = q) w1 (w1.setCell ⟨q, 1, none⟩ (.slice na' L'.length cap')) := (Fr.refl _ w1).set _ _ rfl
  have row1 := (k.block q hq (fun s => (hS q hq s).2 rfl)).trans h.row
  refine ⟨⟨fun i hi => ?_, .inl h.sq, ?_, h'.fr k2 hbq, fun g hg => ⟨.inr hg, hbq g hg⟩, h.n1, h.n2⟩, ?_, fun i hi => ?_⟩
  · rw [World.size_setCell]
    rcases hi with hi | hi
    · exact Nat.lt_of_lt_of_le (h.own i hi) k.size
    · exact (World.ownsRow.lt h' i hi).2
  · rw [heap_setCell_same w1 q 1 _ _ _ row1]
    simp
  · refine Fr.trans2 (k.mono (fun i hi s => (hS i hi s).1)) k2 (fun i _ e => by rw [e]; exact h.sq)
  · rcases hi with hi | hi
    · exact .inl hi
    · exact (hb i hi).elim (fun h => .inl h.1) .inr

theorem RMat.put {w : World} {T : Nat → Prop} {q N ops g : Nat} {cap : Nat} {L : List (Nat × Nat)} (h : RMat w T q N ops (some ⟨g, 0, none⟩) cap L) {i : Nat} {p : Nat × Nat} (hp : L[i]? = some p) (p' : Nat × Nat) (he : p'.1 = p.1) :
    RMat (w.setCell ⟨g, i * 2 + 1, none⟩ (.int .u8 (p'.2 : Nat))) T q N ops (some ⟨g, 0, none⟩) cap (L.set i p') ∧ Fr T w (w.setCell ⟨g, i * 2 + 1, none⟩ (.int .u8 (p'.2 : Nat))) := by
  have hb := h.blk g rfl
  obtain ⟨o1, k⟩ := h.sl.set encP_enc (j := 1) (u := .int .u8 (p'.2 : Nat)) (x' := p') hp (by decide) (by unfold encP; rw [he]; rfl)
  refine ⟨⟨fun j hj => by rw [World.size_setCell]; exact h.own j hj, h.sq, ?_, ?_, ?_, h.n1, h.n2⟩, k.mono (fun j _ e => by rw [e]; exact hb.1)⟩
  · rw [List.length_set]; exact (k.block q (h.own q h.sq) (fun e => hb.2 e.symm)).trans h.row
  · rw [List.length_set]; exact o1
  · rw [List.length_set]; exact h.blk

theorem good_set {N : Nat} {F : Nat → Nat → Nat} {L : List (Nat × Nat)} (G : Good N F L) (x i b : Nat) (hx : x < N) (hi : i < 4096) (hb : b < 256) : Good N (putFr F x (upd (F x) i b)) (setL L (x * 4096 + i) b) := by
  refine ⟨setL_tidy G.tidy _ _ (by omega) hb, fun y j hj => ?_⟩
  rw [lk_setL G.tidy _ _ _ (by omega) hb]
  unfold putFr upd
  by_cases e : y = x
  · subst e
    rw [if_pos rfl]
    by_cases e2 : j = i
    · subst e2; rw [if_pos rfl, if_pos rfl]
    · rw [if_neg (by omega), if_neg e2]; exact G.like y j hj
  · rw [if_neg (by omega), if_neg e]; exact G.like y j hj

/-! The four ways. -/
set_option maxHeartbeats 8000000 in
set_option maxRecDepth 100000 in
theorem rset_low {w : World} {T : Nat → Prop} {q N ops : Nat} {na : Option Addr} {cap : Nat} {L : List (Nat × Nat)} (h : RMat w T q N ops na cap L) (hl : L.length ≤ 4294967296) (a b : Nat) (hb : b < 256) :
    Calls Tryd.prog 44 #[.pointer (some ⟨q, 0, none⟩), .int .u64 (a : Int), .int .u8 (b : Int)] w fun e w' => e = .returned (.tuple #[]) ∧ ∃ na' cap' T', RMat w' T' q N ops na' cap' (setL L a b) ∧ Fr T w w' ∧ Less T T' w := by
  have c1 := h.c1
  have f1 := h.frz 1
  have hi := ix_le L a
  have HH : Aside (RMat w T q N ops na cap L) := h
  have z0 : (L.length : Int) ≤ 4294967296 := by omega
  have z1 : (b : Int) < 256 := by omega
  obtain ⟨L', hL'⟩ : ∃ L', L' = setL L a b := ⟨_, rfl⟩
  rw [← hL']
  have HL : Hid (L' = setL L a b) := hL'
  clear h hb hL'
  go_enter Tryd.func44, Tryd.ntmps44
  go_wp2_with fail
  go_loopg [6] (L.length + 1) (fun g v6 wr => ∃ i : Nat, v6 = .int .i64 (i : Int) ∧ i ≤ ix L a ∧ L.length + 1 - i ≤ g ∧ wr = w)
  case atStart => exact ⟨0, rfl, by omega, by omega, rfl⟩
  case round =>
    obtain ⟨i, rfl, h1, hg, rfl⟩ := hrel
    by_cases e : i < ix L a
    · obtain ⟨p, hp⟩ : ∃ p, L[i]? = some p := ⟨_, List.getElem?_eq_getElem (by omega)⟩
      obtain ⟨g, rfl, d1, d2, _⟩ := HH.out.at_ hp
      have hne := ix_miss L a i p hp e
      have y1 : (i : Int) < L.length := by omega
      have y2 : ((p.1 : Int) == (a : Int)) = false := by rw [beq_eq_false_iff_ne]; omega
      generalize p.1 = u at *
      go_wp2
      go_roundg (L.length + 1 - (i + 1))
      case measure => omega
      case rel => exact ⟨i + 1, by go_num, by omega, by omega, rfl⟩
    · have ei : i = ix L a := by omega
      by_cases c : ix L a < L.length
      · obtain ⟨p, hp, h2, h3⟩ := ix_hit L a c
        obtain ⟨g, rfl, d1, d2, d3, hTg, hgq⟩ := HH.out.at_ hp
        rw [h2, ← ei] at d1
        rw [← ei] at d2 d3 hp
        have y1 : (i : Int) < L.length := by omega
        by_cases eb : b = 0
        · have el : L' = L.take i ++ L.drop (i + 1) := by
            rw [HL.out]; unfold setL
            rw [if_pos c, if_pos eb, ← ei, List.eraseIdx_eq_take_drop_succ]
          have hcap : L.length ≤ cap := by
            obtain ⟨_, _, e, e2, _⟩ := HH.out.sl.form
            cases e; exact e2
          have hgl : g < wr.heap.size := HH.out.own g hTg
          have hql := HH.out.own q HH.out.sq
          -- the first append
          have K1 : Kp wr ((wr.alloc (.cells #[] 95)).drew) := ((Kp.refl wr).alloc _).drew
          have O1 : OL encP 95 2 ((wr.alloc (.cells #[] 95)).drew) (.slice (some ⟨wr.heap.size, 0, none⟩) 0 0) [] := ol_empty wr
          have src1 : ∀ j u, ((L.take i).flatMap encP)[j]? = some u → ((wr.alloc (.cells #[] 95)).drew).cell? ⟨g, 0 + j, none⟩ = some u := fun j u hu => by
            rw [K1.cell (p := ⟨g, 0 + j, none⟩) hgl, Nat.zero_add]
            rw [← flat_take encP_enc] at hu
            have hj := (List.getElem?_eq_some_iff.1 hu).1
            rw [List.length_take, flat_len encP_enc] at hj
            rw [World.ownsRow.cellAt HH.out.sl j (by omega), ← hu, List.getElem?_take, if_pos (by omega)]
          obtain ⟨na1, cap1, w1, r1, O2, g1, b1⟩ := pair_append O1 (L.take i) (some ⟨g, 0, none⟩) i cap (by rw [List.length_take]; omega) (.inr ⟨g, 0, rfl, src1⟩) (by rw [List.length_take]; simp; omega) 60
          rw [List.nil_append] at r1 O2 b1
          have K2 : Kp wr w1 := kp_grown K1 (fun k hk => by cases hk; exact Nat.le_refl _) g1
          have hb1 : ∀ k, (Value.slice na1 (L.take i).length cap1).ownBlock = some k → wr.heap.size ≤ k := fun k hk => by
            rcases b1 with b1 | b1
            · rw [hk] at b1; cases b1; exact Nat.le_refl _
            · rw [hk] at b1; cases b1; exact K1.size
          have tl : (L.take i).length = i := by rw [List.length_take]; omega
          rw [tl] at r1 O2 hb1
          clear b1
          have b1 : True := trivial
          by_cases ec : cap = i + 1
          · skip
            have src2 : ∀ j u, ((L.drop (i + 1)).flatMap encP)[j]? = some u → w1.cell? ⟨g, 0 + j, none⟩ = some u := fun j u hu => by
              rw [List.drop_of_length_le (by omega)] at hu
              simp at hu
            obtain ⟨na2, cap2, w2, r2, O3, g2, b2⟩ := pair_append O2 (L.drop (i + 1)) (some ⟨g, 0, none⟩) 0 0 (by rw [List.length_drop]; omega) (.inr ⟨g, 0, rfl, src2⟩) (by rw [List.length_take, List.length_drop]; omega) 60
            rw [← el] at r2 O3 b2
            have K3 : Kp wr w2 := kp_grown K2 (fun k hk => (hb1 k hk)) g2
            have RL := HH.out.relist (K3.fr (fun _ => False)) (fun _ _ h => h.elim) O3 (fun k hk => .inr (by
              rcases b2 with b2 | b2
              · exact hb1 k (by rw [← b2]; exact hk)
              · rw [hk] at b2; cases b2; exact K2.size))
            have c2 : w2.cell? ⟨q, 1, none⟩ = some (.slice (some ⟨g, 0, none⟩) L.length cap) := by rw [K3.cell (p := ⟨q, 1, none⟩) hql]; exact c1
            have f2 : w2.frozen? ⟨q, 1, none⟩ = false := by rw [K3.frz (p := ⟨q, 1, none⟩) hql]; exact f1
            have E : Hid (∃ na' cap' T', RMat (w2.setCell ⟨q, 1, none⟩ (.slice na2 L'.length cap2)) T' q N ops na' cap' L' ∧ Fr T wr (w2.setCell ⟨q, 1, none⟩ (.slice na2 L'.length cap2)) ∧ Less T T' wr) := ⟨_, _, _, RL⟩
            have y2 : (L.length : Int) ≤ cap := by omega
            have y4 : (b : Int) = 0 := by omega
            have y5 : (i : Int) + 1 ≤ cap := by omega
            have y6 : (i : Int) ≤ cap := by omega
            have y7 : (i : Int) + 1 ≤ L.length := by omega
            have y8 : i ≤ cap := by omega
            have y9 : i ≠ cap := by omega
            have y10 : ¬ cap = 0 := by omega
            have y11 : (i : Int) ≤ (i : Int) + 1 := by omega
            have y13 : (0 : Int) ≤ (i : Int) + 1 := by omega
            have y12 : IntKind.i64.wrap ((i : Int) + 1) = (i : Int) + 1 := by rw [IntKind.wrap_i64]; omega
            have c3 : w1.cell? ⟨q, 1, none⟩ = some (.slice (some ⟨g, 0, none⟩) L.length cap) := by rw [K2.cell (p := ⟨q, 1, none⟩) hql]; exact c1
            subst ec
            clear RL O1 O2 O3 g1 g2 b1 b2 K1 K2 K3 hb1 src1 src2 el h2 h3 hp ei e c h1 eb tl
            go_wp2_with fail
            go_region_law (first | (refine step_append_of r1 (by rfl) (.tmp 29) (.tmp 35) (by rfl) (by rfl) (by rfl) (by rfl) ?_) | (refine step_append_of r2 (by rfl) (.tmp 36) (.tmp 43) (by rfl) (by rfl) (by rfl) (by rfl) ?_))
            all_goals
              go_wp2
              refine bodyPost_ret (results_none rfl _ _ _) rfl ?_
              exact ⟨rfl, E.out⟩
          · skip
            have src2 : ∀ j u, ((L.drop (i + 1)).flatMap encP)[j]? = some u → w1.cell? ⟨g, (i + 1) * 2 + j, none⟩ = some u := fun j u hu => by
              rw [K2.cell (p := ⟨g, (i + 1) * 2 + j, none⟩) hgl]
              rw [← flat_drop encP_enc, List.getElem?_drop] at hu
              have hj := (List.getElem?_eq_some_iff.1 hu).1
              rw [flat_len encP_enc] at hj
              rw [World.ownsRow.cellAt HH.out.sl _ hj, ← hu]
            obtain ⟨na2, cap2, w2, r2, O3, g2, b2⟩ := pair_append O2 (L.drop (i + 1)) (some ⟨g, (i + 1) * 2, none⟩) (L.length - (i + 1)) (cap - (i + 1)) (by rw [List.length_drop]) (.inr ⟨g, (i + 1) * 2, rfl, src2⟩) (by rw [List.length_take, List.length_drop]; omega) 60
            rw [← el] at r2 O3 b2
            have K3 : Kp wr w2 := kp_grown K2 (fun k hk => (hb1 k hk)) g2
            have RL := HH.out.relist (K3.fr (fun _ => False)) (fun _ _ h => h.elim) O3 (fun k hk => .inr (by
              rcases b2 with b2 | b2
              · exact hb1 k (by rw [← b2]; exact hk)
              · rw [hk] at b2; cases b2; exact K2.size))
            have c2 : w2.cell? ⟨q, 1, none⟩ = some (.slice (some ⟨g, 0, none⟩) L.length cap) := by rw [K3.cell (p := ⟨q, 1, none⟩) hql]; exact c1
            have f2 : w2.frozen? ⟨q, 1, none⟩ = false := by rw [K3.frz (p := ⟨q, 1, none⟩) hql]; exact f1
            have E : Hid (∃ na' cap' T', RMat (w2.setCell ⟨q, 1, none⟩ (.slice na2 L'.length cap2)) T' q N ops na' cap' L' ∧ Fr T wr (w2.setCell ⟨q, 1, none⟩ (.slice na2 L'.length cap2)) ∧ Less T T' wr) := ⟨_, _, _, RL⟩
            have y2 : (L.length : Int) ≤ cap := by omega
            have y3 : ¬ cap = i + 1 := ec
            clear ec
            have y4 : (b : Int) = 0 := by omega
            have y5 : (i : Int) + 1 ≤ cap := by omega
            have y6 : (i : Int) ≤ cap := by omega
            have y7 : (i : Int) + 1 ≤ L.length := by omega
            have y8 : i ≤ cap := by omega
            have y9 : i ≠ cap := by omega
            have y10 : ¬ cap = 0 := by omega
            have y11 : (i : Int) ≤ (i : Int) + 1 := by omega
            have y13 : (0 : Int) ≤ (i : Int) + 1 := by omega
            have y12 : IntKind.i64.wrap ((i : Int) + 1) = (i : Int) + 1 := by rw [IntKind.wrap_i64]; omega
            have c3 : w1.cell? ⟨q, 1, none⟩ = some (.slice (some ⟨g, 0, none⟩) L.length cap) := by rw [K2.cell (p := ⟨q, 1, none⟩) hql]; exact c1
            clear RL O1 O2 O3 g1 g2 b1 b2 K1 K2 K3 hb1 src1 src2 el h2 h3 hp ei e c h1 eb tl
            go_wp2_with fail
            go_region_law (first | (refine step_append_of r1 (by rfl) (.tmp 29) (.tmp 35) (by rfl) (by rfl) (by rfl) (by rfl) ?_) | (refine step_append_of r2 (by rfl) (.tmp 36) (.tmp 43) (by rfl) (by rfl) (by rfl) (by rfl) ?_))
            all_goals
              go_wp2
              refine bodyPost_ret (results_none rfl _ _ _) rfl ?_
              exact ⟨rfl, E.out⟩
        · have el : L' = L.set i (a, b) := by
            rw [HL.out]; unfold setL
            rw [if_pos c, if_neg eb, ← ei]
          have RP := HH.out.put hp (a, b) h2.symm
          rw [← el] at RP
          have E : Hid (∃ na' cap' T', RMat (wr.setCell ⟨g, i * 2 + 1, none⟩ (.int .u8 (b : Nat))) T' q N ops na' cap' L' ∧ Fr T wr (wr.setCell ⟨g, i * 2 + 1, none⟩ (.int .u8 (b : Nat))) ∧ Less T T' wr) := ⟨_, _, _, RP.1, RP.2, fun k hk => .inl hk⟩
          have y4 : ((b : Int) == 0) = false := by rw [beq_eq_false_iff_ne]; omega
          clear RP el ei e c h1 eb h2 h3 hp
          go_wp2
          refine bodyPost_ret (results_none rfl _ _ _) rfl ?_
          exact ⟨rfl, E.out⟩
      · have y1 : ¬ (i : Int) < L.length := by omega
        by_cases eb : b = 0
        · have el : L' = L := by
            rw [HL.out]; unfold setL
            rw [if_neg c, if_pos eb]
          have E : Hid (∃ na' cap' T', RMat wr T' q N ops na' cap' L' ∧ Fr T wr wr ∧ Less T T' wr) := ⟨na, cap, T, by rw [el]; exact HH.out, Fr.refl _ _, fun k hk => .inl hk⟩
          have y4 : (b : Int) = 0 := by omega
          clear el ei e c h1 eb
          go_wp2
          go_end0
          exact ⟨rfl, E.out⟩
        · have el : L' = L ++ [(a, b)] := by
            rw [HL.out]; unfold setL
            rw [if_neg c, if_neg eb]
          have hql := HH.out.own q HH.out.sq
          have K1 : Kp wr (wr.alloc (.cells #[.int .u64 (a : Nat), .int .u8 (b : Nat)] 95)) := (Kp.refl wr).alloc _
          have O1 := HH.out.sl.fr (K1.fr (fun _ => False)) (fun _ _ h => h)
          obtain ⟨na2, cap2, w2, r2, O3, g2, b2⟩ := pair_append O1 [(a, b)] (some ⟨wr.heap.size, 0, none⟩) 1 1 rfl (.inr ⟨wr.heap.size, 0, rfl, fun j u hu => by
            rw [Nat.zero_add, cell_of_row _ wr.heap.size j _ _ _ (heap_alloc_new wr _)]
            simpa [encP] using hu⟩) (by simp; omega) 60
          rw [← el] at r2 O3 b2
          have K3 : Fr (fun k => (Value.slice na L.length cap).ownBlock = some k) wr w2 := (K1.fr _).trans (Fr.grown g2 (fun k hk => hk))
          have RL := HH.out.relist K3 (fun k _ hk => HH.out.blk k hk) O3 (fun k hk => by
            rcases b2 with b2 | b2
            · exact .inl (HH.out.blk k (by rw [← b2]; exact hk))
            · right; rw [hk] at b2; cases b2; exact K1.size)
          have hnq : ¬ (Value.slice na L.length cap).ownBlock = some q := fun h => (HH.out.blk q h).2 rfl
          have c2 : w2.cell? ⟨q, 1, none⟩ = some (.slice na L.length cap) := by rw [World.cell?_of_block (a := ⟨q, 1, none⟩) (K3.block q hql hnq)]; exact c1
          have f2 : w2.frozen? ⟨q, 1, none⟩ = false := by rw [World.frozen?_of_block (a := ⟨q, 1, none⟩) (K3.block q hql hnq)]; exact f1
          have E : Hid (∃ na' cap' T', RMat (w2.setCell ⟨q, 1, none⟩ (.slice na2 L'.length cap2)) T' q N ops na' cap' L' ∧ Fr T wr (w2.setCell ⟨q, 1, none⟩ (.slice na2 L'.length cap2)) ∧ Less T T' wr) := ⟨_, _, _, RL⟩
          have y4 : ((b : Int) == 0) = false := by rw [beq_eq_false_iff_ne]; omega
          have y5 : ((b : Int) != 0) = true := by rw [bne_iff_ne]; omega
          clear RL O1 O3 g2 b2 K1 K3 el ei e c h1 eb hnq
          repeat' (first | ((with_reducible refine wp_append_of r2 (.tmp 61) (.tmp 65) ?_ ?_ ?_ ?_ ?_); rfl; rfl; rfl; rfl) | go_values | go_skip | go_guarded | go_step | go_upon | go_back | (simp only []) | (go_values <;> (try go_simp)) | (go_ite <;> go_prune <;> (try go_simp)))
          go_end0
          exact ⟨rfl, E.out⟩

end Go.Proofs.YtjnkmmfppkpgbaaDoor
