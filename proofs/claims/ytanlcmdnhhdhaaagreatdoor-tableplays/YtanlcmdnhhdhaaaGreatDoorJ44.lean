/- Joined: R76, R77, R7B. -/
import Derived.Test.YtanlcmdnhhdhaaaGreatDoorJ43
import Derived.Test.YtanlcmdnhhdhaaaGreatDoorJ40
import Derived.Test.YtanlcmdnhhdhaaaGreatDoorJ41
import Derived.Test.YtanlcmdnhhdhaaaGreatDoorJ29
/- TablePlays: Split, Unmap, Protect. -/
namespace Go.Proofs.YtanlcmdnhhdhaaaGreatDoor
open Go.RowKit
set_option maxRecDepth 10000

theorem set_self {α : Type} {L : List α} {k : Nat} {b : α} (h : L[k]? = some b) : L.set k b = L := by
  refine List.ext_getElem? fun i => ?_
  rw [List.getElem?_set]
  by_cases c : k = i
  · subst c
    rw [if_pos rfl, if_pos (List.getElem?_eq_some_iff.1 h).1, h]
  · rw [if_neg c]
section
variable {M M1 M' : Nat → Nat → Nat} {C C1 C' : Nat → Nat} {pool root page : Nat} {Z : Nat → Bool} {E E1 E' : Nat → Nat → DV} {L L1 L' : List LV} {fr fr1 fr' : Int} {d : DV} {u v b x y : LV} {k n fx fy : Nat} {xx yy : Int}
theorem spR_iff (hfr : fr = (cnt (fT pool C) pool : Int)) : spR pool C ≠ 0 ↔ fr < 1 := by
  unfold spR
  by_cases c : cnt (fT pool C) pool = 0
  · rw [if_pos c]
    exact ⟨fun _ => by omega, fun _ => by decide⟩
  · rw [if_neg c]
    exact ⟨fun a => absurd rfl a, fun a => by omega⟩
/-- The Block that has a page. -/
theorem RL.blk (r : RL E L) (h : TG M C pool Z root E) (hk : (enG E page).k = 2) : ∃ k b, L.findIdx? (hitL page) = some k ∧ L[k]? = some b ∧ Lf E b ∧ b.l = 2 ∧ b.g = page / 512 * 512 ∧ (lfD E 2 (page / 512)).k ≠ 0 ∧ b = tellN (page / 512 * 512) 2 (lfD E 2 (page / 512)) ∧ b = tellN b.g 2 (enG E page) := by
  have lk := h.leafK (page := page) (by rw [hk]; decide)
  have l2 : lvG E page = 2 := by
    rcases lk with c | c
    · exact c.2
    · have := c.1; omega
  obtain ⟨k, b, e1, e2, lb, _, q1, q2, q3⟩ := r.hit h (page := page) (by rw [hk]; decide)
  rw [l2] at q1
  rw [if_pos q1] at q3
  rcases lb.of h with c | ⟨_, _, c3, c4⟩
  · omega
  · have e : b.g / 512 = page / 512 := by omega
    rw [e] at c3 c4
    exact ⟨k, b, e1, e2, lb, q1, q3, by omega, by rw [← q3]; exact c4, by rw [q1] at q2; exact q2⟩
theorem RL.pag (r : RL E L) (h : TG M C pool Z root E) (hk : (enG E page).k = 3) : ∃ k b, L.findIdx? (hitL page) = some k ∧ L[k]? = some b ∧ Lf E b ∧ b.l = 3 ∧ b.g = page ∧ lfD E 3 page = enG E page ∧ b = tellN (pgE 3 page) 3 (enG E page) := by
  have lk := h.leafK (page := page) (by rw [hk]; decide)
  have l3 : lvG E page = 3 := by
    rcases lk with c | c
    · have := c.1; omega
    · exact c.2
  obtain ⟨k, b, e1, e2, lb, _, q1, q2, q3⟩ := r.hit h (page := page) (by rw [hk]; decide)
  rw [l3] at q1
  rw [if_neg (by omega)] at q3
  have en : enG E page = E 3 page := by unfold enG; rw [l3, qn_three]
  exact ⟨k, b, e1, e2, lb, q1, q3, by rw [en, h.lf3], by rw [show pgE 3 page = page from Nat.mul_one page]; rw [q3, q1] at q2; exact q2⟩
/-- The one that is split, where the pool has a page. -/
theorem split_one (r : RL E L) (h : TG M C pool Z root E) (h1 : TG M1 C1 pool Z root E1) (hk : (enG E page).k = 2) (s : SpL E E1 (page / 512)) (e1 : L.findIdx? (hitL page) = some k) (e2 : L[k]? = some b) : RL E1 (halvL L k b) ∧ tabL (halvL L k b) ≤ tabL L + 1 := by
  obtain ⟨k', b', f1, f2, lb, q1, q2, q3, q4, _⟩ := r.blk h hk
  rw [e1] at f1
  cases f1
  rw [e2] at f2
  cases f2
  have r1 := r.halv (E' := E1) h e2 q1 (Lf_halv h q3 s q4)
  refine ⟨r1, tab_halv (r.lo h) (r1.lo h1) (List.mem_of_getElem? e2) q1 (by omega) (lb.lt h) fun v hv => ?_⟩
  exact mem_halv hv
theorem both_split (r : RL E L) (h : TG M C pool Z root E) (hfr : fr = (cnt (fT pool C) pool : Int)) (h1 : TG M1 C1 pool Z root E1) (lr : LR pool C C1 E E1 page) (sp : Sp1 L fr page L1 fr1) : RL E1 L1 ∧ 0 ≤ fr1 := by
  obtain ⟨k, b, e1, e2, sp⟩ := sp
  rcases lr with ⟨hk, rfl, rfl⟩ | ⟨hk, _, s⟩
  · obtain ⟨k', b', f1, f2, _, q1, _⟩ := r.pag h hk
    rw [e1] at f1
    cases f1
    rw [e2] at f2
    cases f2
    rcases sp with ⟨_, rfl, rfl⟩ | ⟨c, _⟩
    · exact ⟨r, by omega⟩
    · omega
  · obtain ⟨k', b', f1, f2, _, q1, _⟩ := r.blk h hk
    rw [e1] at f1
    cases f1
    rw [e2] at f2
    cases f2
    have o := split_one r h h1 hk s e1 e2
    rcases sp with ⟨c, _⟩ | ⟨_, c, ⟨_, rfl, rfl⟩ | ⟨c2, _⟩⟩
    · omega
    · exact ⟨o.1, by omega⟩
    · unfold setB at c2
      rw [decide_eq_false_iff_not] at c2
      omega
theorem hit_k (r : RL E L) (h : TG M C pool Z root E) (hk : (enG E page).k ≠ 0) : (lL L (Go.Proofs.YtanlcmdnhhdhaaaGreatDoor.atI L page).toNat = 2 ↔ (enG E page).k = 2) ∧ (lL L (Go.Proofs.YtanlcmdnhhdhaaaGreatDoor.atI L page).toNat = 3 ↔ (enG E page).k = 3) := by
  obtain ⟨k, b, e1, e2, lb, _, q1, _⟩ := r.hit h hk
  rw [(get_at e1 e2).2.2, q1]
  rcases h.leafK hk with ⟨a, b⟩ | ⟨a, b⟩
  · rw [a, b]; exact ⟨⟨fun _ => rfl, fun _ => rfl⟩, ⟨fun c => (by cases c), fun c => (by cases c)⟩⟩
  · rw [a, b]; exact ⟨⟨fun c => (by cases c), fun c => (by cases c)⟩, ⟨fun _ => rfl, fun _ => rfl⟩⟩
/-! ### Split -/
theorem did_split (r : RL E L) (h : TG M C pool Z root E) (h' : TG M' C' pool Z root E') (hfr : fr = (cnt (fT pool C) pool : Int)) (hx : Sam xx (spP pool C E page)) (hp : PSpl pool C E page xx C' E') (hd : DSpl false L fr page yy L' fr') : xx = yy ∧ RL E' L' := by
  have eq : spP pool C E page = rsplR false L fr page := by
    unfold spP rsplR
    rw [isP_en h]
    by_cases hk : (enG E page).k = 0
    · rw [decide_eq_false (fun c => c hk), if_pos rfl, if_pos (.inr (fun c => (r.atI h page).1 c hk))]
    · have hh := hit_k r h hk
      rw [decide_eq_true hk, if_neg (by decide), if_neg (c := false = true ∨ ¬ 0 ≤ Go.Proofs.YtanlcmdnhhdhaaaGreatDoor.atI L page) (fun c => c.elim (fun c => by cases c) (fun c => c ((r.atI h page).2 hk)))]
      by_cases h3 : (enG E page).k = 3
      · rw [if_pos h3, if_pos (hh.2.2 h3)]
      · rw [if_neg h3, if_neg (fun c => h3 (hh.2.1 c))]
        have := spR_iff (pool := pool) (C := C) hfr
        by_cases c : fr < 1
        · rw [if_pos c]
          unfold spR
          rw [if_pos (by omega)]
        · rw [if_neg c]
          exact Decidable.not_not.1 fun a => c (this.1 a)
  have e : xx = yy := hx.trans (eq.trans hd.1.symm)
  refine ⟨e, ?_⟩
  rcases hd.2 with ⟨a, k, b, e1, e2, b2, f1, ds⟩ | ⟨a, rfl, _⟩
  · have x0 : xx = 0 := e.trans a
    have hk : (enG E page).k = 2 := by
      have q := hx.symm.trans x0
      unfold spP at q
      rw [isP_en h] at q
      by_cases hk : (enG E page).k = 0
      · rw [decide_eq_false (fun c => c hk), if_pos rfl] at q; cases q
      · rw [decide_eq_true hk, if_neg (by decide)] at q
        rcases h.leafK hk with c | c
        · exact c.1
        · rw [if_pos c.1] at q; cases q
    have o := split_one r h h' hk (hp.2 x0).2 e1 e2
    rcases ds with ⟨_, rfl, _⟩ | ⟨c, _⟩
    · exact o.1
    · unfold setB at c
      rw [decide_eq_false_iff_not] at c
      have := o.2
      omega
  · have := hp.1 (by rw [e]; exact a)
    rw [this.2]
    exact r
/-! ### Unmap -/
theorem did_unmap (r : RL E L) (h : TG M C pool Z root E) (h' : TG M' C' pool Z root E') (hfr : fr = (cnt (fT pool C) pool : Int)) (hx : Sam xx (unR pool C E page)) (hp : PUnm pool C Z root E page fx xx C' E') (hd : DUnm false L fr page fy yy L' fr') : xx = yy ∧ fx = fy ∧ RL E' L' := by
  have eq : unR pool C E page = runR false L fr page := by
    unfold unR runR
    rw [isP_en h]
    by_cases hk : (enG E page).k = 0
    · rw [decide_eq_false (fun c => c hk), if_pos rfl, if_pos (.inr (fun c => (r.atI h page).1 c hk))]
    · have hh := hit_k r h hk
      rw [decide_eq_true hk, if_neg (by decide), if_neg (c := false = true ∨ ¬ 0 ≤ Go.Proofs.YtanlcmdnhhdhaaaGreatDoor.atI L page) (fun c => c.elim (fun c => by cases c) (fun c => c ((r.atI h page).2 hk)))]
      have sr := spR_iff (pool := pool) (C := C) hfr
      by_cases c : (enG E page).k = 2 ∧ spR pool C ≠ 0
      · rw [if_pos c, if_pos ⟨hh.1.2 c.1, sr.1 c.2⟩]
      · rw [if_neg c, if_neg fun a => c ⟨hh.1.1 a.1, sr.2 a.2⟩]
  have e : xx = yy := hx.trans (eq.trans hd.1.symm)
  refine ⟨e, ?_⟩
  rcases hd.2 with ⟨a, L1, fr1, k, b, sp, e1, e2, rfl, ds⟩ | ⟨a, rfl, rfl, _⟩
  · have x0 : xx = 0 := e.trans a
    obtain ⟨M1, C1, E1, h1, lr, rfl, s⟩ := hp.2 x0
    obtain ⟨r1, f0⟩ := both_split r h hfr h1 lr sp
    have hk3 : (enG E1 page).k = 3 := by
      rcases lr with ⟨c, _, rfl⟩ | ⟨_, _, c⟩
      · exact c
      · exact (h1.spl c).1
    obtain ⟨k', b', g1, g2, lb, q1, q2, q3, q4⟩ := r1.pag h1 hk3
    rw [e1] at g1
    cases g1
    rw [e2] at g2
    cases g2
    have lf := Lf_set (d := dN) (b := b) h1 (show 2 ≤ 3 by omega) (Nat.le_refl 3) s (by rw [q3]; exact q4)
    have r' : RL E' (rmvL L1 k) := r1.rmv e2 fun v => by
      rw [lf]
      exact ⟨fun c => c.elim id fun c => absurd rfl c.1, fun c => .inl c⟩
    refine ⟨?_, ?_⟩
    · rw [q4]
      show _ = (enG E1 page).a / 4096 + (if 3 = 2 then _ else 0)
      rw [if_neg (by decide)]
      rfl
    · rcases ds with ⟨_, rfl, _⟩ | ⟨c, _⟩
      · exact r'
      · exfalso
        have := tab_sub (r1.lo h1) (r'.lo h') fun c hc => by
          obtain ⟨v, hv, w⟩ := tB_iff.1 hc
          exact tB_iff.2 ⟨v, mem_rmv hv, w⟩
        unfold setB at c
        rw [decide_eq_false_iff_not] at c
        omega
  · have := hp.1 (by rw [e]; exact a)
    exact ⟨this.1, by rw [this.2.2]; exact r⟩
/-! ### Protect -/
theorem did_prot (r : RL E L) (h : TG M C pool Z root E) (hfr : fr = (cnt (fT pool C) pool : Int)) {pr pq px : Bool} {s : Int} (hx : Sam xx (prR pool C E page pr pq px s)) (hp : PPro pool C Z root E page pr pq px s xx C' E') (hd : DPro false L fr page pr pq px s yy L' fr') : xx = yy ∧ RL E' L' := by
  have sm : (enG E page).k ≠ 0 → ∀ k b, L.findIdx? (hitL page) = some k → L[k]? = some b → (samP b.r b.q b.e pr pq px && (b.f == s)) = same4 (enG E page) pr pq px s := fun hk k b e1 e2 => by
    obtain ⟨k', b', f1, f2, _, _, _, q2, _⟩ := r.hit h hk
    rw [e1] at f1
    cases f1
    rw [e2] at f2
    cases f2
    rw [q2]
    rfl
  have eq : prR pool C E page pr pq px s = rprR false L fr page pr pq px s := by
    unfold prR rprR
    rw [isP_en h, if_neg (c := false = true) (by decide)]
    by_cases c0 : canB pr pq s = false
    · rw [if_pos c0, if_pos c0]
    · rw [if_neg c0, if_neg c0]
      by_cases hk : (enG E page).k = 0
      · rw [decide_eq_false (fun c => c hk), if_pos rfl, if_pos (fun c => (r.atI h page).1 c hk)]
      · have hh := hit_k r h hk
        obtain ⟨k, b, e1, e2, _⟩ := r.hit h hk
        rw [decide_eq_true hk, if_neg (by decide), if_neg (c := ¬ 0 ≤ Go.Proofs.YtanlcmdnhhdhaaaGreatDoor.atI L page) (fun c => c ((r.atI h page).2 hk)), (get_at e1 e2).2.1, sm hk k b e1 e2]
        have sr := spR_iff (pool := pool) (C := C) hfr
        by_cases c3 : same4 (enG E page) pr pq px s = true
        · rw [if_pos c3, if_neg (fun c => c.2.1 c3)]
        · rw [if_neg c3]
          by_cases c : (enG E page).k = 2 ∧ spR pool C ≠ 0
          · rw [if_pos c, if_pos ⟨hh.1.2 c.1, c3, sr.1 c.2⟩]
          · rw [if_neg c, if_neg fun a => c ⟨hh.1.1 a.1, sr.2 a.2.2⟩]
  have e : xx = yy := hx.trans (eq.trans hd.1.symm)
  refine ⟨e, ?_⟩
  rcases hd.2 with ⟨a, dd⟩ | ⟨a, rfl, _⟩
  · have x0 : xx = 0 := e.trans a
    have hk : (enG E page).k ≠ 0 := by
      have q := hx.symm.trans x0
      unfold prR at q
      split at q
      · cases q
      · rw [isP_en h] at q
        intro c
        rw [decide_eq_false (fun a => a c), if_pos rfl] at q
        cases q
    rcases hp.2 x0 with ⟨p1, rfl, rfl⟩ | ⟨M1, E1, p1, h1, lr, s'⟩
    · rcases dd with ⟨k, b, e1, e2, b2, _, rfl, rfl⟩ | ⟨L1, fr1, k, b, ns, sp, e1, e2, rfl, rfl⟩
      · exact r
      · obtain ⟨k0, b0, g1, g2, sp⟩ := sp
        rcases sp with ⟨b3, rfl, rfl⟩ | ⟨b2, _⟩
        · rw [e1] at g1
          cases g1
          rw [e2] at g2
          cases g2
          have t := sm hk k b e1 e2
          rw [p1, Bool.and_eq_true, samP_eq, beq_iff_eq] at t
          have : prL L1 k b pr pq px s = L1 := by
            unfold prL
            rw [show prV b pr pq px s = b by unfold prV; rw [← t.1.1, ← t.1.2.1, ← t.1.2.2, ← t.2]]
            exact set_self e2
          rw [this]
          exact r
        · have a1 := ns k0 b0 g1 g2 b2
          rw [sm hk k0 b0 g1 g2, p1] at a1
          cases a1
    · rcases dd with ⟨k, b, e1, e2, b2, t, rfl, rfl⟩ | ⟨L1, fr1, k, b, ns, sp, e1, e2, rfl, rfl⟩
      · rw [sm hk k b e1 e2, p1] at t
        cases t
      · obtain ⟨r1, _⟩ := both_split r h hfr h1 lr sp
        have hk3 : (enG E1 page).k = 3 := by
          rcases lr with ⟨c, _, rfl⟩ | ⟨_, _, c⟩
          · exact c
          · exact (h1.spl c).1
        obtain ⟨k', b', g1, g2, lb, q1, q2, q3, q4⟩ := r1.pag h1 hk3
        rw [e1] at g1
        cases g1
        rw [e2] at g2
        cases g2
        have lf := Lf_set (d := ⟨3, (enG E1 page).a, pr, pq, px, s⟩) (b := b) h1 (show 2 ≤ 3 by omega) (Nat.le_refl 3) s' (by rw [q3]; exact q4)
        unfold prL
        refine r1.put e2 rfl fun v => ?_
        rw [lf]
        have te : tellN (pgE 3 page) 3 ⟨3, (enG E1 page).a, pr, pq, px, s⟩ = prV b pr pq px s := by rw [q4]; rfl
        rw [te]
        exact ⟨fun c => c.imp id (fun c => c.2), fun c => c.imp id (fun c => ⟨show (3 : Int) ≠ 0 by decide, c⟩)⟩
  · have := hp.1 (by rw [e]; exact a)
    rw [this.2]
    exact r
end

end Go.Proofs.YtanlcmdnhhdhaaaGreatDoor

/- TablePlays: Join; each step, both beside one another. -/
namespace Go.Proofs.YtanlcmdnhhdhaaaGreatDoor
open Go.RowKit
set_option maxRecDepth 10000

theorem okD_unit {a : Nat} {r q x : Bool} {f : Int} (h : okD 2 ⟨2, a, r, q, x, f⟩) : a % 2097152 = 0 := by
  have h' : dchk 2 2 2 a r q x f = 0 := h
  unfold dchk at h'
  split at h'
  · cases h'
  split at h'
  · cases h'
  split at h'
  · cases h'
  split at h'
  · cases h'
  · rename_i c
    exact Decidable.not_not.1 c
section
variable {M M1 M' : Nat → Nat → Nat} {C C1 C' : Nat → Nat} {pool root page : Nat} {Z : Nat → Bool} {E E1 E' : Nat → Nat → DV} {L L1 L' : List LV} {fr fr1 fr' : Int} {d : DV} {u v b x y : LV} {k n fx fy : Nat} {xx yy aa bb : Int}
theorem join_to (r : RL E L) (h : TG M C pool Z root E) (hk : (enG E page).k = 3) (hJ : joinB E page) : ∃ n x, JnC L page n x := by
  obtain ⟨wb, ok⟩ := hJ
  obtain ⟨j, hj⟩ : ∃ j, j = page / 512 := ⟨_, rfl⟩
  rw [← hj] at wb ok
  have wb' : ∀ i, i < 512 → E 3 (512 * j + i) = pgOf (bkD (E 3 (512 * j))) i := wb
  have lf : ∀ i, i < 512 → tellN (512 * j + i) 3 (E 3 (512 * j + i)) ∈ L := fun i hi => by
    rw [r.mem, ← h.lf3]
    refine Lf.three ?_
    rw [h.lf3, wb' i hi]
    show (3 : Int) ≠ 0
    decide
  have gl : ∀ i, (tellN (512 * j + i) 3 (E 3 (512 * j + i))).g = 512 * j + i := fun _ => rfl
  obtain ⟨n, hn⟩ := List.mem_iff_getElem?.1 (lf 0 (by omega))
  have all : ∀ i, i < 512 → L[n + i]? = some (tellN (512 * j + i) 3 (E 3 (512 * j + i))) := by
    intro i
    induction i with
    | zero => intro _; exact hn
    | succ i ih =>
      intro hi
      have a := ih (by omega)
      obtain ⟨m, hm⟩ := List.mem_iff_getElem?.1 (lf (i + 1) hi)
      have lm := (List.getElem?_eq_some_iff.1 hm).1
      have gt : n + i < m := Nat.lt_of_not_le fun c => by
        by_cases e : m = n + i
        · rw [e] at hm; rw [a] at hm
          have := congrArg LV.g (Option.some.inj hm)
          rw [gl, gl] at this
          omega
        · have := pair_at r.up hm a (by omega)
          rw [gl, gl] at this
          omega
      obtain ⟨z, hz⟩ : ∃ z, L[n + (i + 1)]? = some z := ⟨_, List.getElem?_eq_getElem (by omega)⟩
      have l1 := pair_at r.up a hz (by omega)
      rw [gl] at l1
      by_cases e : n + (i + 1) = m
      · rw [e]; exact hm
      · have l2 := pair_at r.up hz hm (by omega)
        rw [gl] at l2
        omega
  obtain ⟨k, b, e1, e2, _, b3, _⟩ := r.pag h hk
  have x0 := lf 0 (by omega)
  have hh : hitL (page / 512 * 512) (tellN (512 * j + 0) 3 (E 3 (512 * j + 0))) = true := by
    unfold hitL
    rw [gl, show 512 * j + 0 = page / 512 * 512 by omega]
    simp
  have q := hit_leaf h ((r.mem _).1 x0) hh
  obtain ⟨k', b', f1, f2, _, _, q1, _, q3⟩ := r.hit h q.1
  have l3 : b'.l = 3 := by rw [q1, ← q.2.1]; rfl
  rw [if_neg (by omega)] at q3
  have kn : k' = n := pair_le r.up f2 hn (by rw [gl, q3]; omega)
  rw [kn] at f1
  have len := (List.getElem?_eq_some_iff.1 (all 511 (by omega))).1
  have unit := okD_unit (a := (E 3 (512 * j)).a) ok
  refine ⟨n, _, ⟨k, b, e1, e2, b3⟩, f1, hn, by omega, ?_, fun i hi => ⟨_, all i hi, ?_, ?_, ?_, ?_⟩⟩
  · show ((E 3 (512 * j + 0)).a / 4096 + 0) % 512 = 0
    rw [Nat.add_zero (512 * j)]
    omega
  · rw [gl]; omega
  · show (E 3 (512 * j + i)).a / 4096 + 0 = (E 3 (512 * j + 0)).a / 4096 + 0 + i
    rw [wb' i hi, Nat.add_zero (512 * j)]
    show ((E 3 (512 * j)).a + i * 4096) / 4096 + 0 = _
    omega
  · rw [samP_eq]
    show (E 3 (512 * j + i)).r = (E 3 (512 * j + 0)).r ∧ (E 3 (512 * j + i)).q = (E 3 (512 * j + 0)).q ∧ (E 3 (512 * j + i)).x = (E 3 (512 * j + 0)).x
    rw [wb' i hi]
    exact ⟨rfl, rfl, rfl⟩
  · show (E 3 (512 * j + i)).f = (E 3 (512 * j + 0)).f
    rw [wb' i hi]
    rfl
/-- What a join of the list says of the entries. -/
theorem join_of (r : RL E L) (h : TG M C pool Z root E) (hc : JnC L page n x) : (enG E page).k = 3 ∧ x.g = page / 512 * 512 ∧ x ∈ L ∧ x = tellN (page / 512 * 512) 3 (E 3 (512 * (page / 512))) ∧ joinB E page := by
  obtain ⟨⟨k, b, e1, e2, b3⟩, f1, f2, len, al, ps⟩ := hc
  have hk : (enG E page).k = 3 := by
    have nz : (enG E page).k ≠ 0 := fun c => by rw [r.miss h c] at e1; cases e1
    obtain ⟨k', b', g1, g2, _, _, q1, _⟩ := r.hit h nz
    rw [e1] at g1
    cases g1
    rw [e2] at g2
    cases g2
    rcases h.leafK nz with c | c
    · omega
    · exact c.1
  have l3 : lvG E page = 3 := by
    rcases h.leafK (page := page) (by rw [hk]; decide) with c | c
    · have := c.1; omega
    · exact c.2
  obtain ⟨j, hj⟩ : ∃ j, j = page / 512 := ⟨_, rfl⟩
  rw [← hj] at ps ⊢
  have pg : ∀ i, i < 512 → ∃ y, y ∈ L ∧ y = tellN (512 * j + i) 3 (E 3 (512 * j + i)) ∧ (E 3 (512 * j + i)).k = 3 ∧ (E 3 (512 * j + i)).a / 4096 = x.x + i ∧ samP (E 3 (512 * j + i)).r (E 3 (512 * j + i)).q (E 3 (512 * j + i)).x x.r x.q x.e = true ∧ (E 3 (512 * j + i)).f = x.f ∧ L[n + i]? = some y := fun i hi => by
    obtain ⟨y, a1, a2, a3, a4, a5⟩ := ps i hi
    have ly := (r.mem y).1 (List.mem_of_getElem? a1)
    have eg : y.g = 512 * j + i := by omega
    rcases ly.of h with ⟨c1, c2, c3⟩ | ⟨c1, c2, _⟩
    · rw [h.lf3, eg] at c2 c3
      have c3' := c3
      rw [c3] at a3 a4 a5
      exact ⟨y, List.mem_of_getElem? a1, c3', c2, by simpa [tellN] using a3, a4, a5, a1⟩
    · exfalso
      have hh : hitL page y = true := by
        unfold hitL
        rw [c1, show y.g = page / 512 * 512 by omega]
        simp
      have := (hit_leaf h ly hh).2.1
      omega
  obtain ⟨x', m0, x1, x2, x3, x4, x5, x6⟩ := pg 0 (by omega)
  rw [Nat.add_zero] at x6
  rw [f2] at x6
  cases x6
  rw [Nat.add_zero] at x1 x2 x3 x4 x5
  rw [samP_eq] at x4
  have al0 := (h.ok 3 (512 * j) (by omega)).parts
  refine ⟨hk, by rw [x1]; show 512 * j = _; omega, m0, by rw [show j * 512 = 512 * j by omega]; exact x1, ?_⟩
  unfold joinB
  rw [← hj]
  refine ⟨fun i hi => ?_, ?_⟩
  · show E 3 (512 * j + i) = pgOf (bkD (E 3 (512 * j + 0))) i
    rw [Nat.add_zero]
    obtain ⟨y, _, _, y2, y3, y4, y5, _⟩ := pg i hi
    rw [samP_eq] at y4
    have ali := (h.ok 3 (512 * j + i) (by omega)).parts.2.2.2.2.2.1
    refine dv_eq (by rw [y2]; rfl) ?_ (y4.1.trans x4.1.symm) (y4.2.1.trans x4.2.1.symm) (y4.2.2.trans x4.2.2.symm) (y5.trans x5.symm)
    show (E 3 (512 * j + i)).a = (E 3 (512 * j)).a + i * 4096
    have := al0.2.2.2.2.2.1
    omega
  · have e : bkD (E 3 (512 * j)) = ⟨2, (E 3 (512 * j)).a / 4096 * 4096, (E 3 (512 * j)).r, (E 3 (512 * j)).q, (E 3 (512 * j)).x, (E 3 (512 * j)).f⟩ := by
      unfold bkD
      rw [show (E 3 (512 * j)).a / 4096 * 4096 = (E 3 (512 * j)).a by have := al0.2.2.2.2.2.1; omega]
    rw [e]
    exact okD_block (by have := al0.2.2.2.2.2.2.1; omega) (by omega) al0.2.2.2.2.2.2.2.2.2.2 al0.2.2.2.1 al0.2.2.2.2.1
theorem did_join (r : RL E L) (h : TG M C pool Z root E) (h' : TG M' C' pool Z root E') (hfr : fr = (cnt (fT pool C) pool : Int)) (hp : PJoi pool C E page xx C' E') (hd : DJoi false L fr page yy L' fr') : xx = yy ∧ RL E' L' := by
  have an := r.atI h page
  have is : isP E page = true ↔ (enG E page).k ≠ 0 := by rw [isP_en h]; exact decide_eq_true_iff
  rcases hp with ⟨rfl, p1, _, e2⟩ | ⟨rfl, p1, p2, _, e2⟩ | ⟨rfl, p1, p2, p3, _, p5⟩
  · have k0 : ¬ (enG E page).k ≠ 0 := fun c => by rw [is.2 c] at p1; cases p1
    rcases hd with ⟨rfl, _, rfl, _⟩ | ⟨_, _, d2, _⟩ | ⟨_, _, n, x, d3, _⟩
    · exact ⟨rfl, by rw [e2]; exact r⟩
    · exact absurd (an.1 d2) k0
    · have := (join_of r h d3).1
      omega
  · have k0 := is.1 p1
    rcases hd with ⟨_, d1, _⟩ | ⟨rfl, _, _, _, rfl, _⟩ | ⟨_, _, n, x, d3, _⟩
    · rcases d1 with d1 | d1
      · cases d1
      · exact absurd (an.2 k0) d1
    · exact ⟨rfl, by rw [e2]; exact r⟩
    · have j := join_of r h d3
      rcases p2 with c | c
      · have := j.1; omega
      · exact absurd j.2.2.2.2 c.2
  · have k0 := is.1 p1
    rcases hd with ⟨_, d1, _⟩ | ⟨_, _, _, d3, _⟩ | ⟨rfl, _, n, x, d3, ds⟩
    · rcases d1 with d1 | d1
      · cases d1
      · exact absurd (an.2 k0) d1
    · obtain ⟨n, x, c⟩ := join_to r h p2 p3
      exact absurd c (d3 n x)
    · have j := join_of r h d3
      obtain ⟨j1, j2, j3, j4, _⟩ := j
      have l3 : (lfD E 3 page).k ≠ 0 := by
        obtain ⟨_, _, _, _, _, _, _, c, _⟩ := r.pag h p2
        rw [c, p2]
        decide
      have lf := Lf_join h (h.nob l3) (show (bkD (E 3 (512 * (page / 512)))).k ≠ 0 from (show (2 : Int) ≠ 0 by decide)) p5
      have te : tellN (page / 512 * 512) 2 (bkD (E 3 (512 * (page / 512)))) = bkV x := by
        rw [j4]
        unfold tellN bkV bkD
        dsimp only
        rw [if_pos rfl, if_neg (by decide), show page / 512 * 512 % 512 = 0 by omega]
      rw [te] at lf
      obtain ⟨_, _, f2, len, _, ps⟩ := d3
      have r' : RL E' (jnL L n x) := r.jn f2 len (by rw [j2]; omega) (fun i hi => by
        obtain ⟨y, a1, a2, _⟩ := ps i hi
        exact ⟨y, a1, by rw [j2]; exact a2⟩) fun v => by
          rw [lf, j2, show page / 512 * 512 / 512 = page / 512 by omega]
      refine ⟨rfl, ?_⟩
      rcases ds with ⟨_, rfl, _⟩ | ⟨c, _⟩
      · exact r'
      · exfalso
        have := tab_sub (r.lo h) (r'.lo h') fun c hc => by
          obtain ⟨v, hv, w1, w2, w3⟩ := tB_iff.1 hc
          rcases mem_jn hv with e | e
          · exact tB_iff.2 ⟨v, e, w1, w2, w3⟩
          · rw [e] at w2 w3
            have w2' : c % 4 ≤ 2 := w2
            have x3 : x.l = 3 := by rw [j4]; rfl
            exact tB_iff.2 ⟨x, j3, w1, by omega, w3⟩
        unfold setB at c
        rw [decide_eq_false_iff_not] at c
        omega
/-! ### any step -/
theorem SR.both (r : RL E L) (h : TG M C pool Z root E) (ne : NE root E (fun _ _ => False)) (h' : TG M' C' pool Z root E') (ne' : NE root E' (fun _ _ => False)) (hfr : fr = (cnt (fT pool C) pool : Int)) (sr : SR pool Z root C E L fr C' E' L' fr' xx yy aa bb) (sum : DSum L fr L' fr') : xx = yy ∧ aa = bb ∧ RL E' L' ∧ fr' = (cnt (fT pool C') pool : Int) := by
  have key : xx = yy ∧ aa = bb ∧ RL E' L' := by
    obtain ⟨page, f, pr, pq, px, s, _, ⟨s1, s2, s3, rfl, rfl⟩ | ⟨s1, s2, s3, rfl, rfl⟩ | ⟨fx, fy, rfl, rfl, s1, s2, s3⟩ | ⟨s1, s2, s3, rfl, rfl⟩ | ⟨s1, s2, s3, rfl, rfl⟩ | ⟨s1, s2, rfl, rfl⟩ | ⟨rfl, rfl, rfl, rfl, rfl, rfl, rfl, rfl⟩⟩ := sr
    · have := did_map r h ne hfr s1 s2 s3; exact ⟨this.1, rfl, this.2⟩
    · have := did_mapb r h ne hfr s1 s2 s3; exact ⟨this.1, rfl, this.2⟩
    · have := did_unmap r h h' hfr s1 s2 s3; exact ⟨this.1, by rw [this.2.1], this.2.2⟩
    · have := did_prot r h hfr s1 s2 s3; exact ⟨this.1, rfl, this.2⟩
    · have := did_split r h h' hfr s1 s2 s3; exact ⟨this.1, rfl, this.2⟩
    · have := did_join r h h' hfr s1 s2; exact ⟨this.1, rfl, this.2⟩
    · exact ⟨rfl, rfl, r⟩
  refine ⟨key.1, key.2.1, key.2.2, ?_⟩
  have a := r.free h ne
  have b := key.2.2.free h' ne'
  have := sum.1
  omega
theorem ans_true (r : RL E L) (h : TG M C pool Z root E) (ne : NE root E (fun _ _ => False)) (page : Nat) (hx : xx = yy) (ha : aa = bb) : ansB E L page xx yy aa bb = true := by
  unfold ansB
  rw [both_is r h page, both_get r h page, both_need r h ne page, hx, ha]
  unfold samL
  simp [samP]
end

end Go.Proofs.YtanlcmdnhhdhaaaGreatDoor

/- TablePlays: a table that is gone, and a step on it. -/
namespace Go.Proofs.YtanlcmdnhhdhaaaGreatDoor
open Go.RowKit
set_option maxRecDepth 10000

/-- What a step on a side leaves of others' blocks. -/
structure SYk (w0 w : World) (X0 X : Nat → Prop) (bt br bf : Nat) (v0 v : Value) : Prop where
  wide : ∀ i, X0 i → X i
  new : ∀ i, X i → X0 i ∨ w0.heap.size ≤ i
  keep : ∀ i, X0 i → i ≠ bt → i ≠ br → i ≠ bf → v0.ownBlock ≠ some i → w.heap[i]? = w0.heap[i]?
  own : ∀ b, v.ownBlock = some b → v0.ownBlock = some b ∨ w0.heap.size ≤ b
  size : w0.heap.size ≤ w.heap.size
  lim : ∀ i, X0 i → i < w0.heap.size
section
variable {w0 w1 w2 w w' : World} {X0 X1 X2 X : Nat → Prop} {bt br bf : Nat} {v0 v1 v2 v : Value}
theorem SXk.yk (h : SXk w0 w X0 X br bf v0 v) (bt : Nat) : SYk w0 w X0 X bt br bf v0 v := ⟨h.wide, h.new, fun i hi _ => h.keep i hi, h.own, h.size, h.lim⟩
theorem SYk.refl (bt : Nat) (h : ∀ i, X i → i < w.heap.size) : SYk w w X X bt br bf v v := (SXk.refl h).yk bt
theorem SYk.kp (h : SYk w0 w X0 X bt br bf v0 v) (k : Kp w w') : SYk w0 w' X0 X bt br bf v0 v := ⟨h.wide, h.new, fun i hi n0 n1 n2 n3 => (k.block i (Nat.lt_of_lt_of_le (h.lim i hi) h.size)).trans (h.keep i hi n0 n1 n2 n3), h.own, Nat.le_trans h.size k.size, h.lim⟩
end
theorem FW.wide {W w w' : World} {X X' Y : Nat → Prop} {p pm N pool o : Nat} {M : Nat → Nat → Nat} {C : Nat → Nat} (h : FW W X w p pm N pool o M C) (k : Fr Y w w') (hY : ∀ i, Y i → W.heap.size ≤ i ∧ X i) (hX : ∀ i, X' i → X i ∨ (w.heap.size ≤ i ∧ i < w'.heap.size)) : FW W X' w' p pm N pool o M C := by
  have h' := h.frX k hY
  obtain ⟨ops, B, h1, h2, S, f⟩ := h
  have t0 := f.t0
  exact ⟨ops, B, h1, h2, S, f.fs.fr k (fun i hi c => (f.out i hi).2 (hY i c).2) (fun c => by have := (hY _ c).1; omega), h'.kp, fun i hi => ⟨(f.out i hi).1, fun c => (hX i c).elim (f.out i hi).2 (fun c => by have := f.fs.own i hi; omega)⟩, fun i hi => (hX i hi).elim (fun hi => Nat.lt_of_lt_of_le (f.lt i hi) k.size) (fun c => c.2), f.t0⟩
/-- A side that is gone. -/
structure GJ (W : World) (X : Nat → Prop) (w : World) (bt p pm pool o : Nat) (M : Nat → Nat → Nat) (C : Nat → Nat) (br bf : Nat) (v : Value) (fr : Int) : Prop where
  fw : FW W X w p pm 2100 pool o M C
  tx : TXn w bt
  xb : X bt
  bw : W.heap.size ≤ bt
  rq : RQ w br bf v [] fr true
  xs : ∀ i, (i = br ∨ i = bf ∨ v.ownBlock = some i) → W.heap.size ≤ i ∧ X i ∧ i ≠ bt
section
variable {W w0 w w' : World} {X X0 : Nat → Prop} {bt p pm pool o o' : Nat} {M : Nat → Nat → Nat} {C : Nat → Nat} {br bf : Nat} {v v0 : Value} {fr : Int}
theorem GJ.kps (h : GJ W X w bt p pm pool o M C br bf v fr) (k : Kp w w') : GJ W X w' bt p pm pool o M C br bf v fr := ⟨h.fw.kps k, h.tx.kp k, h.xb, h.bw, h.rq.kp k, h.xs⟩
theorem GJ.le (h : GJ W X w bt p pm pool o M C br bf v fr) (ho : o ≤ o') : GJ W X w bt p pm pool o' M C br bf v fr := ⟨h.fw.le ho, h.tx, h.xb, h.bw, h.rq, h.xs⟩
end
/-- .. a step under way since w0. -/
structure SG9 (W w0 : World) (X0 : Nat → Prop) (v0 : Value) (bt p pm pool o : Nat) (M : Nat → Nat → Nat) (C : Nat → Nat) (br bf : Nat) (fr : Int) (w : World) : Prop where
  ex : ∃ X v, GJ W X w bt p pm pool o M C br bf v fr ∧ SYk w0 w X0 X bt br bf v0 v
section
variable {W w0 w w' : World} {X0 : Nat → Prop} {bt p pm pool o o' : Nat} {M : Nat → Nat → Nat} {C : Nat → Nat} {br bf : Nat} {v0 : Value} {fr : Int}
theorem SG9.kp (h : SG9 W w0 X0 v0 bt p pm pool o M C br bf fr w) (k : Kp w w') : SG9 W w0 X0 v0 bt p pm pool o M C br bf fr w' := by
  obtain ⟨X, v, h1, h2⟩ := h.ex
  exact ⟨X, v, h1.kps k, h2.kp k⟩
theorem SG9.tx (h : SG9 W w0 X0 v0 bt p pm pool o M C br bf fr w) : TXn w bt := by
  obtain ⟨X, v, h1, h2⟩ := h.ex
  exact h1.tx
/-- The document's own step on what is gone. -/
theorem gj_rn {X : Nat → Prop} {v : Value} {gone : Bool} {L : List LV} {fq : Int} (hx : ∀ i, (i = br ∨ i = bf ∨ v.ownBlock = some i) → W.heap.size ≤ i ∧ X i ∧ i ≠ bt) (fw : FW W X w p pm 2100 pool o M C) (tx : TXn w bt) (xb : X bt) (bw : W.heap.size ≤ bt) (h2 : SYk w0 w X0 X bt br bf v0 v) (r : RN w w' br bf v [] fr true) (_rq : RQ w br bf v L fq gone) : SG9 W w0 X0 v0 bt p pm pool o M C br bf fr w' := by
  obtain ⟨v', a1, a2, a3⟩ := r
  have hb : ∀ b, v'.ownBlock = some b → b < w'.heap.size := fun b hb => by
    obtain ⟨na, cap, e, _, hc⟩ := OL.form a1.ol
    rcases hc with ⟨rfl, rfl, _⟩ | ⟨g, rfl, hg⟩
    · rw [e] at hb; cases hb
    · rw [e] at hb; cases hb; exact hg
  refine ⟨fun i => X i ∨ v'.ownBlock = some i, v', ⟨fw.wide a2 (fun i hi => ⟨(hx i hi).1, (hx i hi).2.1⟩) (fun i hi => ?_), tx.fr a2 (fun c => (hx bt c).2.2 rfl), .inl xb, bw, a1, fun i hi => ?_⟩, ⟨fun i hi => .inl (h2.wide i hi), fun i hi => ?_, fun i hi n0 n1 n2 n3 => ?_, fun c hc => ?_, Nat.le_trans h2.size a2.size, h2.lim⟩⟩
  · rcases hi with hi | hi
    · exact .inl hi
    · rcases a3 i hi with c | c
      · exact .inl (hx i (.inr (.inr c))).2.1
      · exact .inr ⟨c, hb i hi⟩
  · rcases hi with hi | hi | hi
    · obtain ⟨b1, b2, b3⟩ := hx i (.inl hi); exact ⟨b1, .inl b2, b3⟩
    · obtain ⟨b1, b2, b3⟩ := hx i (.inr (.inl hi)); exact ⟨b1, .inl b2, b3⟩
    · rcases a3 i hi with c | c
      · obtain ⟨b1, b2, b3⟩ := hx i (.inr (.inr c)); exact ⟨b1, .inl b2, b3⟩
      · have s1 := fw.kp.size
        have s2 := tx.lt
        exact ⟨by omega, .inr hi, by omega⟩
  · rcases hi with hi | hi
    · exact h2.new i hi
    · rcases a3 i hi with c | c
      · exact h2.new i (hx i (.inr (.inr c))).2.1
      · exact .inr (Nat.le_trans h2.size c)
  · refine (a2.block i (Nat.lt_of_lt_of_le (h2.lim i hi) h2.size) (fun c => ?_)).trans (h2.keep i hi n0 n1 n2 n3)
    rcases c with c | c | c
    · exact n1 c
    · exact n2 c
    · rcases h2.own i c with d | d
      · exact n3 d
      · have := h2.lim i hi; omega
  · rcases a3 c hc with d | d
    · exact h2.own c d
    · exact .inr (Nat.le_trans h2.size d)
end
theorem gone_map {fr : Int} {page : Nat} {f s rr : Int} {r q x : Bool} {L' : List LV} {fr' : Int} (d : DMap true [] fr page f r q x s rr L' fr') : rr = 23 ∧ L' = [] ∧ fr' = fr := by
  have e : rr = 23 := d.1.trans (by unfold rmapR; rw [if_pos rfl])
  rcases d.2 with ⟨c, _⟩ | ⟨_, c⟩
  · omega
  · exact ⟨e, c⟩
theorem gone_mapb {fr : Int} {page : Nat} {f s rr : Int} {r q x : Bool} {L' : List LV} {fr' : Int} (d : DMpb true [] fr page f r q x s rr L' fr') : rr = 23 ∧ L' = [] ∧ fr' = fr := by
  have e : rr = 23 := d.1.trans (by unfold rmapbR; rw [if_pos rfl])
  rcases d.2 with ⟨c, _⟩ | ⟨_, c⟩
  · omega
  · exact ⟨e, c⟩
theorem gone_split {fr : Int} {page : Nat} {rr : Int} {L' : List LV} {fr' : Int} (d : DSpl true [] fr page rr L' fr') : rr = 23 ∧ L' = [] ∧ fr' = fr := by
  have e : rr = 23 := d.1.trans (by unfold rsplR; rw [if_pos (.inl rfl)])
  rcases d.2 with ⟨c, _⟩ | ⟨_, c⟩
  · omega
  · exact ⟨e, c⟩
theorem gone_unmap {fr : Int} {page fx : Nat} {rr : Int} {L' : List LV} {fr' : Int} (d : DUnm true [] fr page fx rr L' fr') : rr = 23 ∧ fx = 0 ∧ L' = [] ∧ fr' = fr := by
  have e : rr = 23 := d.1.trans (by unfold runR; rw [if_pos (.inl rfl)])
  rcases d.2 with ⟨c, _⟩ | ⟨_, c⟩
  · omega
  · exact ⟨e, c⟩
theorem gone_prot {fr : Int} {page : Nat} {s rr : Int} {r q x : Bool} {L' : List LV} {fr' : Int} (d : DPro true [] fr page r q x s rr L' fr') : rr = 23 ∧ L' = [] ∧ fr' = fr := by
  have e : rr = 23 := d.1.trans (by unfold rprR; rw [if_pos rfl])
  rcases d.2 with ⟨c, _⟩ | ⟨_, c⟩
  · omega
  · exact ⟨e, c⟩
theorem gone_join {fr : Int} {page : Nat} {rr : Int} {L' : List LV} {fr' : Int} (d : DJoi true [] fr page rr L' fr') : rr = 23 ∧ L' = [] ∧ fr' = fr := by
  rcases d with ⟨c, _, d⟩ | ⟨_, c, _⟩ | ⟨_, c, _⟩
  · exact ⟨c, d⟩
  · cases c
  · cases c
theorem gone_idle (page : Nat) : isL true [] page = false ∧ getL true [] page = lvZ ∧ needL true [] page = 0 := ⟨rfl, by unfold getL; rw [if_pos (.inl rfl)], by unfold needL; rw [if_pos (.inl rfl)]⟩
set_option maxHeartbeats 4000000 in
/-- A step on a side that is gone. -/
theorem gone_swc {W w : World} {X : Nat → Prop} {v : Value} {bt p pm pool o : Nat} {M : Nat → Nat → Nat} {C : Nat → Nat} {br bf : Nat} {fr : Int} (h : GJ W X w bt p pm pool o M C br bf v fr) (hX : ∀ i, X i → i < w.heap.size) (hf : -1000000000 ≤ fr ∧ fr ≤ 1000000000) (b9 p3 : Nat) (f3 s : Int) (R Q Y : Bool) (hp : p3 < 18446744073709551616) (hb9 : w.heap.size ≤ b9) (m : Nat) (fm : Int) :
    SWC bt br b9 p3 f3 s R Q Y m fm w (fun u => Kp w u ∧ PX u b9 R Q Y) (fun xx aa u => xx = 23 ∧ aa = 0 ∧ Kp w u ∧ PX u b9 R Q Y) (fun u => SG9 W w X v bt p pm pool o M C br bf fr u) (fun u z n u' => u = lvZ ∧ z = false ∧ n = 0 ∧ SG9 W w X v bt p pm pool o M C br bf fr u') (fun u z n u' => u = lvZ ∧ z = false ∧ n = 0 ∧ SG9 W w X v bt p pm pool o M C br bf fr u') (fun u z n u' => u = lvZ ∧ z = false ∧ n = 0 ∧ SG9 W w X v bt p pm pool o M C br bf fr u') (fun u => SG9 W w X v bt p pm pool o M C br bf fr u) := by
  have l1 := h.rq.lt
  have l2 := h.rq.ltf
  have l3 : ∀ b, v.ownBlock = some b → b < w.heap.size := fun b e => hX b (h.xs b (.inr (.inr e))).2.1
  have rnp : ∀ {u u' : World}, Kp w u → PX u b9 R Q Y → RN u u' br bf v [] fr true → SG9 W w X v bt p pm pool o M C br bf fr u' ∧ PX u' b9 R Q Y := fun {u u'} k px rn => by
    have g := h.kps k
    refine ⟨gj_rn g.xs g.fw g.tx g.xb g.bw ((SYk.refl bt hX).kp k) rn g.rq, ?_⟩
    obtain ⟨v', _, a2, _⟩ := rn
    exact px.fr a2 fun c => by
      rcases c with c | c | c
      · omega
      · omega
      · have := l3 b9 c; omega
  refine { start := fun u k px => ⟨k, px⟩, px := fun u h => h.2, kp := fun u u' h k => ⟨h.1.trans k, h.2.kp k⟩, map := fun _ u hu => ?_, rmap := fun _ u xx hu => ?_, mapb := fun _ u hu => ?_, rmapb := fun _ u xx hu => ?_, prot := fun _ u hu => ?_, rprot := fun _ u xx hu => ?_, split := fun _ u hu => ?_, rsplit := fun _ u xx hu => ?_, join := fun _ u hu => ?_, rjoin := fun _ u xx hu => ?_, free := fun _ _ u hu => ?_, rfree := fun _ _ u xx hu => ?_, unmap := fun _ u hu => ?_, runmap := fun _ u xx fx hu => ?_, idle := fun _ u hu => ⟨X, v, h.kps hu.1, (SYk.refl bt hX).kp hu.1⟩, get := fun u hu => ?_, k1 := fun u z n a b hu k => ⟨hu.1, hu.2.1, hu.2.2.1, hu.2.2.2.kp k⟩, rget := fun u z n a hu => ?_, k2 := fun u z n a b hu k => ⟨hu.1, hu.2.1, hu.2.2.1, hu.2.2.2.kp k⟩, need := fun u z n a hu => ?_, rneed := fun u z n a hu => ?_ }
  · refine (map_gone (h.kps hu.1).tx p3 f3 R Q Y s).mono ?_
    rintro e u' ⟨e1, k⟩
    exact ⟨23, e1, ⟨rfl, rfl, hu.1.trans k, hu.2.kp k⟩, hu.2.kp k⟩
  · refine (dmap_any (h.kps hu.2.2.1).rq (by simp) p3 hp f3 R Q Y s hf).mono ?_
    rintro e u' ⟨rr, L', fr', e1, rn, d, _⟩
    obtain ⟨d1, rfl, rfl⟩ := gone_map d
    have := rnp hu.2.2.1 hu.2.2.2 rn
    exact ⟨by rw [e1, d1, hu.1], this.1, this.2⟩
  · refine (mapb_gone (h.kps hu.1).tx p3 f3 R Q Y s).mono ?_
    rintro e u' ⟨e1, k⟩
    exact ⟨23, e1, ⟨rfl, rfl, hu.1.trans k, hu.2.kp k⟩, hu.2.kp k⟩
  · refine (dmapb_any (h.kps hu.2.2.1).rq (by simp) p3 f3 R Q Y s hf).mono ?_
    rintro e u' ⟨rr, L', fr', e1, rn, d, _⟩
    obtain ⟨d1, rfl, rfl⟩ := gone_mapb d
    have := rnp hu.2.2.1 hu.2.2.2 rn
    exact ⟨by rw [e1, d1, hu.1], this.1, this.2⟩
  · refine (protect_gone (h.kps hu.1).tx p3 R Q Y s).mono ?_
    rintro e u' ⟨e1, k⟩
    exact ⟨23, e1, ⟨rfl, rfl, hu.1.trans k, hu.2.kp k⟩, hu.2.kp k⟩
  · refine (dprot_any (h.kps hu.2.2.1).rq (by simp) p3 hp R Q Y s hf).mono ?_
    rintro e u' ⟨rr, L', fr', e1, rn, d, _⟩
    obtain ⟨d1, rfl, rfl⟩ := gone_prot d
    have := rnp hu.2.2.1 hu.2.2.2 rn
    exact ⟨by rw [e1, d1, hu.1], this.1, this.2⟩
  · refine (split_nw (.inl (h.kps hu.1).tx)).mono ?_
    rintro e u' ⟨e1, rfl⟩
    exact ⟨23, e1, rfl, rfl, hu⟩
  · refine (dsplit_any (h.kps hu.2.2.1).rq (by simp) p3 hp hf).mono ?_
    rintro e u' ⟨rr, L', fr', e1, rn, d, _⟩
    obtain ⟨d1, rfl, rfl⟩ := gone_split d
    exact ⟨by rw [e1, d1, hu.1], (rnp hu.2.2.1 hu.2.2.2 rn).1⟩
  · refine (join_nw (.inl (h.kps hu.1).tx)).mono ?_
    rintro e u' ⟨e1, rfl⟩
    exact ⟨23, e1, rfl, rfl, hu⟩
  · refine (djoin_any (h.kps hu.2.2.1).rq (by simp) p3 hp hf).mono ?_
    rintro e u' ⟨rr, L', fr', e1, rn, d, _⟩
    obtain ⟨d1, rfl, rfl⟩ := gone_join d
    exact ⟨by rw [e1, d1, hu.1], (rnp hu.2.2.1 hu.2.2.2 rn).1⟩
  · refine (free_gone (h.kps hu.1).tx).mono ?_
    rintro e u' ⟨e1, rfl⟩
    exact ⟨23, e1, rfl, rfl, hu⟩
  · refine (rdrop_any (h.kps hu.2.2.1).rq (by simp) hf 23 rfl).mono ?_
    rintro e u' ⟨e1, e2⟩
    exact ⟨by rw [e1, hu.1], (rnp hu.2.2.1 hu.2.2.2 (e2.out.2 (by decide))).1⟩
  · refine (unmap_nw (.inl (h.kps hu.1).tx)).mono ?_
    rintro e u' ⟨e1, rfl⟩
    exact ⟨0, 23, e1, rfl, rfl, hu⟩
  · refine (dunmap_any (h.kps hu.2.2.1).rq (by simp) p3 hp hf).mono ?_
    rintro e u' ⟨fy, rr, e1, L', fr', rn, d, _⟩
    obtain ⟨d1, rfl, rfl, rfl⟩ := gone_unmap d
    exact ⟨by rw [e1, d1, hu.1, hu.2.1]; rfl, (rnp hu.2.2.1 hu.2.2.2 rn).1⟩
  · exact ⟨lvZ, false, 0, (get_no (.inl hu.tx)).mono fun e u' ⟨e1, k⟩ => ⟨e1, rfl, rfl, rfl, hu.kp k⟩⟩
  · obtain ⟨rfl, rfl, rfl, hu⟩ := hu
    obtain ⟨X', v', g, _⟩ := hu.ex
    refine (rget_any g.rq (by simp) p3 hp).mono ?_
    rintro e u' ⟨e1, k⟩
    have i := gone_idle p3
    rw [i.1, i.2.1] at e1
    exact ⟨e1, ⟨rfl, rfl, rfl, hu.kp k⟩, k⟩
  · obtain ⟨rfl, rfl, rfl, hu⟩ := hu
    exact (need_no (.inl hu.tx)).mono fun e u' ⟨e1, e2⟩ => ⟨e1, rfl, rfl, rfl, by rw [e2]; exact hu⟩
  · obtain ⟨rfl, rfl, rfl, hu⟩ := hu
    obtain ⟨X', v', g, _⟩ := hu.ex
    refine (rneed_any g.rq (by simp) p3 hp).mono ?_
    rintro e u' ⟨e1, k⟩
    rw [(gone_idle p3).2.2] at e1
    exact ⟨e1, hu.kp k⟩

end Go.Proofs.YtanlcmdnhhdhaaaGreatDoor
