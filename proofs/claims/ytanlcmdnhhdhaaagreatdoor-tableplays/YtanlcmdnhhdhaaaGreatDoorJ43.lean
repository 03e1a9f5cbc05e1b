/- Joined: R73, R74, R75. -/
import Derived.Test.YtanlcmdnhhdhaaaGreatDoorJ42
/- TablePlays: what each change of the entries' leaves makes of the list. -/
namespace Go.Proofs.YtanlcmdnhhdhaaaGreatDoor
open Go.RowKit
set_option maxRecDepth 10000

section
variable {M : Nat → Nat → Nat} {C : Nat → Nat} {pool root page : Nat} {Z : Nat → Bool} {E E' : Nat → Nat → DV} {L : List LV} {d : DV} {u v b x : LV} {k n : Nat}
theorem mem_takeI : v ∈ L.take k ↔ ∃ j, j < k ∧ L[j]? = some v := by
  rw [List.mem_iff_getElem?]
  constructor
  · rintro ⟨j, hj⟩
    rw [List.getElem?_take] at hj
    by_cases c : j < k
    · rw [if_pos c] at hj; exact ⟨j, c, hj⟩
    · rw [if_neg c] at hj; cases hj
  · rintro ⟨j, c, hj⟩
    exact ⟨j, by rw [List.getElem?_take, if_pos c]; exact hj⟩
theorem mem_dropI : v ∈ L.drop k ↔ ∃ j, k ≤ j ∧ L[j]? = some v := by
  rw [List.mem_iff_getElem?]
  constructor
  · rintro ⟨j, hj⟩
    rw [List.getElem?_drop] at hj
    exact ⟨k + j, by omega, hj⟩
  · rintro ⟨j, c, hj⟩
    exact ⟨j - k, by rw [List.getElem?_drop, show k + (j - k) = j by omega]; exact hj⟩
theorem pair_le (up : L.Pairwise (fun x y => x.g < y.g)) {i j : Nat} {x y : LV} (hi : L[i]? = some x) (hj : L[j]? = some y) (hg : x.g = y.g) : i = j := by
  rcases Nat.lt_trichotomy i j with c | c | c
  · have := pair_at up hi hj c; omega
  · exact c
  · have := pair_at up hj hi c; omega
theorem sorted_mid (up : L.Pairwise (fun x y => x.g < y.g)) (hkn : k ≤ n) {B : List LV} (hB : B.Pairwise (fun x y => x.g < y.g)) (h1 : ∀ j x, j < k → L[j]? = some x → ∀ y ∈ B, x.g < y.g) (h2 : ∀ j z, n ≤ j → L[j]? = some z → ∀ y ∈ B, y.g < z.g) : (L.take k ++ B ++ L.drop n).Pairwise (fun x y => x.g < y.g) := by
  rw [List.pairwise_append, List.pairwise_append]
  refine ⟨⟨up.sublist (List.take_sublist _ _), hB, fun a ha y hy => ?_⟩, up.sublist (List.drop_sublist _ _), fun a ha z hz => ?_⟩
  · obtain ⟨j, hj, e⟩ := mem_takeI.1 ha
    exact h1 j a hj e y hy
  · obtain ⟨j, hj, e⟩ := mem_dropI.1 hz
    rcases List.mem_append.1 ha with c | c
    · obtain ⟨i, hi, e'⟩ := mem_takeI.1 c
      exact pair_at up e' e (by omega)
    · exact h2 j z hj e a c
theorem mem_off (up : L.Pairwise (fun x y => x.g < y.g)) (hk : L[k]? = some b) : v ∈ L.take k ∨ v ∈ L.drop (k + 1) ↔ v ∈ L ∧ v ≠ b := by
  rw [mem_takeI, mem_dropI]
  constructor
  · rintro (⟨j, hj, e⟩ | ⟨j, hj, e⟩)
    · refine ⟨List.mem_of_getElem? e, fun c => ?_⟩
      subst c
      have := pair_le up e hk rfl
      omega
    · refine ⟨List.mem_of_getElem? e, fun c => ?_⟩
      subst c
      have := pair_le up e hk rfl
      omega
  · rintro ⟨hv, hn⟩
    obtain ⟨j, e⟩ := List.mem_iff_getElem?.1 hv
    rcases Nat.lt_trichotomy j k with c | c | c
    · exact .inl ⟨j, c, e⟩
    · subst c; rw [hk] at e; cases e; exact absurd rfl hn
    · exact .inr ⟨j, c, e⟩
/-- One leaf more. -/
theorem RL.more (r : RL E L) (hx : ∀ v ∈ L, v.g ≠ x.g) (hm : ∀ v, Lf E' v ↔ Lf E v ∨ v = x) : RL E' (withL L x) := by
  unfold withL
  refine ⟨sorted_mid r.up (Nat.le_refl _) (List.pairwise_singleton _ _) (fun j y hj hy z hz => ?_) (fun j z hj hz y hy => ?_), fun v => ?_⟩
  · rw [List.mem_singleton] at hz
    rw [hz]
    exact kW_lt hj hy
  · rw [List.mem_singleton] at hy
    rw [hy]
    have hjl := (List.getElem?_eq_some_iff.1 hz).1
    obtain ⟨t, ht⟩ : ∃ t, L[kW L x.g]? = some t := ⟨_, List.getElem?_eq_getElem (by omega)⟩
    have a := kW_ge ht
    have b := hx t (List.mem_of_getElem? ht)
    by_cases c : kW L x.g = j
    · rw [c] at ht; rw [ht] at hz; cases hz; omega
    · have := pair_at r.up ht hz (by omega); omega
  · rw [hm, ← r.mem, List.mem_append, List.mem_append, List.mem_singleton]
    have : v ∈ L ↔ v ∈ L.take (kW L x.g) ∨ v ∈ L.drop (kW L x.g) := by
      conv => lhs; rw [← List.take_append_drop (kW L x.g) L]
      rw [List.mem_append]
    rw [this]
    constructor
    · rintro ((a | a) | a)
      · exact .inl (.inl a)
      · exact .inr a
      · exact .inl (.inr a)
    · rintro ((a | a) | a)
      · exact .inl (.inl a)
      · exact .inr a
      · exact .inl (.inr a)
/-- A Block is split. -/
theorem RL.halv (r : RL E L) (h : TG M C pool Z root E) (hk : L[k]? = some b) (h2 : b.l = 2) (hm : ∀ v, Lf E' v ↔ (Lf E v ∧ v ≠ b) ∨ ∃ i, i < 512 ∧ v = pgV b i) : RL E' (halvL L k b) := by
  unfold halvL
  have hb := (r.mem b).1 (List.mem_of_getElem? hk)
  have b512 : b.g % 512 = 0 := by
    rcases hb.of h with c | c
    · omega
    · exact c.2.1
  have pm : ∀ y, y ∈ pgsV b 512 ↔ ∃ i, i < 512 ∧ y = pgV b i := fun y => by
    unfold pgsV
    rw [List.mem_map]
    constructor
    · rintro ⟨i, hi, rfl⟩; exact ⟨i, List.mem_range.1 hi, rfl⟩
    · rintro ⟨i, hi, rfl⟩; exact ⟨i, List.mem_range.2 hi, rfl⟩
  have pg : ∀ i, (pgV b i).g = b.g + i := fun _ => rfl
  refine ⟨sorted_mid r.up (by omega) ?_ (fun j y hj hy z hz => ?_) (fun j z hj hz y hy => ?_), fun v => ?_⟩
  · unfold pgsV
    rw [List.pairwise_map]
    exact List.Pairwise.imp (fun {i j} hij => by rw [pg, pg]; omega) List.pairwise_lt_range
  · obtain ⟨i, hi, rfl⟩ := (pm z).1 hz
    have := pair_at r.up hy hk hj
    rw [pg]
    omega
  · obtain ⟨i, hi, rfl⟩ := (pm y).1 hy
    have l := pair_at r.up hk hz (by omega)
    have hz' := (r.mem z).1 (List.mem_of_getElem? hz)
    have : z.g / 512 ≠ b.g / 512 := fun c => by
      have := Lf.apart h hb hz' h2 c
      rw [this] at l
      omega
    rw [pg]
    omega
  · rw [hm, ← r.mem, ← mem_off r.up hk, ← pm, List.mem_append, List.mem_append]
    constructor
    · rintro ((a | a) | a)
      · exact .inl (.inl a)
      · exact .inr a
      · exact .inl (.inr a)
    · rintro ((a | a) | a)
      · exact .inl (.inl a)
      · exact .inr a
      · exact .inl (.inr a)
/-- A leaf goes. -/
theorem RL.rmv (r : RL E L) (hk : L[k]? = some b) (hm : ∀ v, Lf E' v ↔ Lf E v ∧ v ≠ b) : RL E' (rmvL L k) := by
  unfold rmvL
  refine ⟨?_, fun v => by rw [hm, ← r.mem, ← mem_off r.up hk, List.mem_append]⟩
  have := sorted_mid (B := []) r.up (show k ≤ k + 1 by omega) List.Pairwise.nil (fun _ _ _ _ y hy => absurd hy List.not_mem_nil) (fun _ _ _ _ y hy => absurd hy List.not_mem_nil)
  rwa [List.append_nil] at this
/-- A leaf is another, at its place. -/
theorem RL.put (r : RL E L) (hk : L[k]? = some b) (hg : x.g = b.g) (hm : ∀ v, Lf E' v ↔ (Lf E v ∧ v ≠ b) ∨ v = x) : RL E' (L.set k x) := by
  have kl := (List.getElem?_eq_some_iff.1 hk).1
  have e : L.set k x = L.take k ++ [x] ++ L.drop (k + 1) := by
    rw [List.set_eq_take_append_cons_drop, if_pos kl, List.append_assoc]
    rfl
  rw [e]
  refine ⟨sorted_mid r.up (by omega) (List.pairwise_singleton _ _) (fun j y hj hy z hz => ?_) (fun j z hj hz y hy => ?_), fun v => ?_⟩
  · rw [List.mem_singleton] at hz
    rw [hz, hg]
    exact pair_at r.up hy hk hj
  · rw [List.mem_singleton] at hy
    rw [hy, hg]
    exact pair_at r.up hk hz (by omega)
  · rw [hm, ← r.mem, ← mem_off r.up hk, List.mem_append, List.mem_append, List.mem_singleton]
    constructor
    · rintro ((a | a) | a)
      · exact .inl (.inl a)
      · exact .inr a
      · exact .inl (.inr a)
    · rintro ((a | a) | a)
      · exact .inl (.inl a)
      · exact .inr a
      · exact .inl (.inr a)
/-- Pages are joined. -/
theorem RL.jn (r : RL E L) (hn : L[n]? = some x) (_hl : n + 512 ≤ L.length) (h0 : x.g % 512 = 0) (hp : ∀ i, i < 512 → ∃ y, L[n + i]? = some y ∧ y.g = x.g + i) (hm : ∀ v, Lf E' v ↔ (Lf E v ∧ v.g / 512 ≠ x.g / 512) ∨ v = bkV x) : RL E' (jnL L n x) := by
  unfold jnL
  have far : ∀ j z, n + 512 ≤ j → L[j]? = some z → x.g + 511 < z.g := fun j z hj hz => by
    obtain ⟨y, hy, e⟩ := hp 511 (by omega)
    have := pair_at r.up hy hz (by omega)
    omega
  have bg : (bkV x).g = x.g := rfl
  refine ⟨sorted_mid r.up (by omega) (List.pairwise_singleton _ _) (fun j y hj hy z hz => ?_) (fun j z hj hz y hy => ?_), fun v => ?_⟩
  · rw [List.mem_singleton] at hz
    rw [hz, bg]
    exact pair_at r.up hy hn hj
  · rw [List.mem_singleton] at hy
    rw [hy, bg]
    have := far j z hj hz
    omega
  · rw [hm, ← r.mem, List.mem_append, List.mem_append, List.mem_singleton, mem_takeI, mem_dropI]
    constructor
    · rintro ((⟨j, hj, e⟩ | a) | ⟨j, hj, e⟩)
      · have := pair_at r.up e hn hj
        exact .inl ⟨List.mem_of_getElem? e, by omega⟩
      · exact .inr a
      · have := far j v hj e
        exact .inl ⟨List.mem_of_getElem? e, by omega⟩
    · rintro (⟨hv, hg⟩ | a)
      · obtain ⟨j, e⟩ := List.mem_iff_getElem?.1 hv
        by_cases c1 : j < n
        · exact .inl (.inl ⟨j, c1, e⟩)
        · by_cases c2 : n + 512 ≤ j
          · exact .inr ⟨j, c2, e⟩
          · obtain ⟨y, hy, ey⟩ := hp (j - n) (by omega)
            rw [show n + (j - n) = j by omega, e] at hy
            cases hy
            omega
      · exact .inl (.inr a)
/-- The entries' leaves, by their change. -/
theorem Lf_put {l e0 : Nat} (hl : l ≤ 3) (hd : d.k ≠ 0) (h0 : (lfD E l e0).k = 0) (s : ∀ a b, a ≤ 3 → lfD E' a b = if a = l ∧ b = e0 then d else lfD E a b) (v : LV) : Lf E' v ↔ Lf E v ∨ v = tellN (pgE l e0) l d := by
  constructor
  · rintro ⟨m, e, hm, hk, hv⟩
    rw [s m e hm] at hk hv
    by_cases c : m = l ∧ e = e0
    · rw [if_pos c] at hv
      rw [c.1, c.2] at hv
      exact .inr hv
    · rw [if_neg c] at hk hv
      exact .inl ⟨m, e, hm, hk, hv⟩
  · rintro (⟨m, e, hm, hk, hv⟩ | rfl)
    · have c : ¬ (m = l ∧ e = e0) := fun c => by rw [c.1, c.2] at hk; exact hk h0
      exact ⟨m, e, hm, by rw [s m e hm, if_neg c]; exact hk, by rw [s m e hm, if_neg c]; exact hv⟩
    · exact ⟨l, e0, hl, by rw [s l e0 hl, if_pos ⟨rfl, rfl⟩]; exact hd, by rw [s l e0 hl, if_pos ⟨rfl, rfl⟩]⟩
/-- The place of a leaf. -/
theorem tell_inj {m e m' e' : Nat} {d d' : DV} (h2 : 2 ≤ m) (hm : m ≤ 3) (h : tellN (pgE m e) m d = tellN (pgE m' e') m' d') : m = m' ∧ e = e' := by
  have a : m = m' := congrArg LV.l h
  subst a
  have b : pgE m e = pgE m e' := congrArg LV.g h
  refine ⟨rfl, ?_⟩
  unfold pgE at b
  rcases (by omega : m = 2 ∨ m = 3) with rfl | rfl
  · rw [show 2 ^ (27 - 9 * 2) = 512 from rfl] at b; omega
  · rw [show 2 ^ (27 - 9 * 3) = 1 from rfl] at b; omega
/-- .. at a place where a leaf was: another one, or none. -/
theorem Lf_set (h : TG M C pool Z root E) {l e0 : Nat} (_h2 : 2 ≤ l) (hl : l ≤ 3) (s : ∀ a b, a ≤ 3 → lfD E' a b = if a = l ∧ b = e0 then d else lfD E a b) (hb : b = tellN (pgE l e0) l (lfD E l e0)) (v : LV) : Lf E' v ↔ (Lf E v ∧ v ≠ b) ∨ (d.k ≠ 0 ∧ v = tellN (pgE l e0) l d) := by
  constructor
  · rintro ⟨m, e, hm, hk, hv⟩
    rw [s m e hm] at hk hv
    by_cases c : m = l ∧ e = e0
    · rw [if_pos c] at hk hv
      rw [c.1, c.2] at hv
      exact .inr ⟨hk, hv⟩
    · rw [if_neg c] at hk hv
      refine .inl ⟨⟨m, e, hm, hk, hv⟩, fun cv => c ?_⟩
      rw [hv, hb] at cv
      have q := (h.lfk hm hk).2.2
      exact tell_inj (by omega) hm cv
  · rintro (⟨⟨m, e, hm, hk, hv⟩, hn⟩ | ⟨hk, rfl⟩)
    · have c : ¬ (m = l ∧ e = e0) := fun c => by rw [c.1, c.2] at hv; exact hn (hv.trans hb.symm)
      exact ⟨m, e, hm, by rw [s m e hm, if_neg c]; exact hk, by rw [s m e hm, if_neg c]; exact hv⟩
    · exact ⟨l, e0, hl, by rw [s l e0 hl, if_pos ⟨rfl, rfl⟩]; exact hk, by rw [s l e0 hl, if_pos ⟨rfl, rfl⟩]⟩
theorem Lf_halv (h : TG M C pool Z root E) {j : Nat} (hk2 : (lfD E 2 j).k ≠ 0) (s : SpL E E' j) (hb : b = tellN (j * 512) 2 (lfD E 2 j)) (v : LV) : Lf E' v ↔ (Lf E v ∧ v ≠ b) ∨ ∃ i, i < 512 ∧ v = pgV b i := by
  have e2 := (h.lfk (m := 2) (by omega) hk2).1
  have pgs : ∀ i, i < 512 → pgV b i = tellN (pgE 3 (512 * j + i)) 3 (pgOf (E 2 j) i) := fun i hi => by
    rw [hb, show pgE 3 (512 * j + i) = 512 * j + i from Nat.mul_one _, e2]
    unfold pgV tellN pgOf
    dsimp only
    rw [if_pos rfl, if_neg (by omega), show j * 512 + i = 512 * j + i by omega, show (E 2 j).a / 4096 + j * 512 % 512 + i = ((E 2 j).a + i * 4096) / 4096 + 0 by omega]
  have bp : b = tellN (pgE 2 j) 2 (lfD E 2 j) := hb
  constructor
  · rintro ⟨m, e, hm, hk, hv⟩
    rw [s m e hm] at hk hv
    by_cases c : m = 2 ∧ e = j
    · rw [if_pos c] at hk; exact absurd rfl hk
    · rw [if_neg c] at hk hv
      by_cases c3 : m = 3 ∧ e / 512 = j
      · rw [if_pos c3] at hv
        refine .inr ⟨e % 512, Nat.mod_lt _ (by omega), ?_⟩
        rw [pgs _ (Nat.mod_lt _ (by omega)), show 512 * j + e % 512 = e by omega, hv, c3.1]
      · rw [if_neg c3] at hk hv
        refine .inl ⟨⟨m, e, hm, hk, hv⟩, fun cv => c ?_⟩
        rw [hv, bp] at cv
        have q := (h.lfk hm hk).2.2
        exact tell_inj (by omega) hm cv
  · rintro (⟨⟨m, e, hm, hk, hv⟩, hn⟩ | ⟨i, hi, rfl⟩)
    · have c : ¬ (m = 2 ∧ e = j) := fun c => by rw [c.1, c.2] at hv; exact hn (hv.trans bp.symm)
      have c3 : ¬ (m = 3 ∧ e / 512 = j) := fun c3 => by
        rw [c3.1] at hk
        have := h.nob hk
        rw [c3.2] at this
        exact hk2 this
      exact ⟨m, e, hm, by rw [s m e hm, if_neg c, if_neg c3]; exact hk, by rw [s m e hm, if_neg c, if_neg c3]; exact hv⟩
    · have sp := s 3 (512 * j + i) (by omega)
      rw [if_neg (by omega), if_pos ⟨rfl, by omega⟩, show (512 * j + i) % 512 = i by omega] at sp
      exact ⟨3, 512 * j + i, by omega, by rw [sp]; show (3 : Int) ≠ 0; decide, by rw [sp]; exact pgs i hi⟩
theorem Lf_join (h : TG M C pool Z root E) {j : Nat} (h20 : (lfD E 2 j).k = 0) (hd : d.k ≠ 0) (s : JnL E E' j d) (v : LV) : Lf E' v ↔ (Lf E v ∧ v.g / 512 ≠ j) ∨ v = tellN (j * 512) 2 d := by
  have pg3 : ∀ e, pgE 3 e = e := fun e => Nat.mul_one e
  have pg2 : ∀ e, pgE 2 e = e * 512 := fun e => rfl
  constructor
  · rintro ⟨m, e, hm, hk, hv⟩
    rw [s m e hm] at hk hv
    by_cases c : m = 2 ∧ e = j
    · rw [if_pos c] at hv
      rw [c.1, c.2, pg2] at hv
      exact .inr hv
    · rw [if_neg c] at hk hv
      by_cases c3 : m = 3 ∧ e / 512 = j
      · rw [if_pos c3] at hk; exact absurd rfl hk
      · rw [if_neg c3] at hk hv
        refine .inl ⟨⟨m, e, hm, hk, hv⟩, ?_⟩
        have eg : v.g = pgE m e := by rw [hv]; rfl
        rcases (h.lfk hm hk).2.2 with q | q
        · rw [q.1, pg2] at eg; omega
        · rw [q.1, pg3] at eg; omega
  · rintro (⟨⟨m, e, hm, hk, hv⟩, hn⟩ | rfl)
    · have eg : v.g = pgE m e := by rw [hv]; rfl
      have c : ¬ (m = 2 ∧ e = j) := fun c => by rw [c.1, c.2] at hk; exact hk h20
      have c3 : ¬ (m = 3 ∧ e / 512 = j) := fun c3 => by rw [c3.1, pg3] at eg; omega
      exact ⟨m, e, hm, by rw [s m e hm, if_neg c, if_neg c3]; exact hk, by rw [s m e hm, if_neg c, if_neg c3]; exact hv⟩
    · have sp := s 2 j (by omega)
      rw [if_pos ⟨rfl, rfl⟩] at sp
      exact ⟨2, j, by omega, by rw [sp]; exact hd, by rw [sp]; rfl⟩
end

end Go.Proofs.YtanlcmdnhhdhaaaGreatDoor

/- TablePlays: what one page more wants; what both tell of a page. -/
namespace Go.Proofs.YtanlcmdnhhdhaaaGreatDoor
open Go.RowKit
set_option maxRecDepth 10000

theorem qn_div {p k m : Nat} (hk : k ≤ 2) (hm : m ≤ k) : qn p k / 512 ^ (k - m) = qn p m := by
  unfold qn
  rcases (by omega : (k = 0 ∧ m = 0) ∨ (k = 1 ∧ m = 0) ∨ (k = 1 ∧ m = 1) ∨ (k = 2 ∧ m = 0) ∨ (k = 2 ∧ m = 1) ∨ (k = 2 ∧ m = 2)) with ⟨rfl, rfl⟩ | ⟨rfl, rfl⟩ | ⟨rfl, rfl⟩ | ⟨rfl, rfl⟩ | ⟨rfl, rfl⟩ | ⟨rfl, rfl⟩
  · show p / 2 ^ 27 / 512 ^ 0 = p / 2 ^ 27
    omega
  · show p / 2 ^ 18 / 512 ^ 1 = p / 2 ^ 27
    omega
  · show p / 2 ^ 18 / 512 ^ 0 = p / 2 ^ 18
    omega
  · show p / 2 ^ 9 / 512 ^ 2 = p / 2 ^ 27
    omega
  · show p / 2 ^ 9 / 512 ^ 1 = p / 2 ^ 18
    omega
  · show p / 2 ^ 9 / 512 ^ 0 = p / 2 ^ 9
    omega
theorem mem_withI {L : List LV} {x v : LV} : v ∈ withL L x ↔ v ∈ L ∨ v = x := by
  unfold withL
  have : v ∈ L ↔ v ∈ L.take (kW L x.g) ∨ v ∈ L.drop (kW L x.g) := by
    conv => lhs; rw [← List.take_append_drop (kW L x.g) L]
    rw [List.mem_append]
  rw [this, List.mem_append, List.mem_append, List.mem_singleton]
  constructor
  · rintro ((a | a) | a)
    · exact .inl (.inl a)
    · exact .inr a
    · exact .inl (.inr a)
  · rintro ((a | a) | a)
    · exact .inl (.inl a)
    · exact .inr a
    · exact .inl (.inr a)
theorem with_up {L : List LV} {x : LV} (up : L.Pairwise (fun x y => x.g < y.g)) (hx : ∀ v ∈ L, v.g ≠ x.g) : (withL L x).Pairwise (fun x y => x.g < y.g) := by
  unfold withL
  refine sorted_mid up (Nat.le_refl _) (List.pairwise_singleton _ _) (fun j y hj hy z hz => ?_) (fun j z hj hz y hy => ?_)
  · rw [List.mem_singleton] at hz
    rw [hz]
    exact kW_lt hj hy
  · rw [List.mem_singleton] at hy
    rw [hy]
    have hjl := (List.getElem?_eq_some_iff.1 hz).1
    obtain ⟨t, ht⟩ : ∃ t, L[kW L x.g]? = some t := ⟨_, List.getElem?_eq_getElem (by omega)⟩
    have a := kW_ge ht
    have b := hx t (List.mem_of_getElem? ht)
    by_cases c : kW L x.g = j
    · rw [c] at ht; rw [ht] at hz; cases hz; omega
    · have := pair_at up ht hz (by omega); omega
theorem LO.add {L : List LV} (lo : LO L) {x : LV} (kd : (x.l = 2 ∨ x.l = 3) ∧ x.g < 268435968) (hx : ∀ v ∈ L, v.g / 512 = x.g / 512 → v.l = 3 ∧ x.l = 3 ∧ v.g ≠ x.g) : LO (withL L x) where
  up := with_up lo.up fun v hv e => (hx v hv (by rw [e])).2.2 e
  kd v hv := (mem_withI.1 hv).elim (lo.kd v) (fun e => by rw [e]; exact kd)
  ap u hu v hv h2 he := by
    rcases mem_withI.1 hu with a | a
    · rcases mem_withI.1 hv with b | b
      · exact lo.ap u a v b h2 he
      · subst b
        have := (hx u a he.symm).1
        omega
    · subst a
      rcases mem_withI.1 hv with b | b
      · have := (hx v b he).2.1
        omega
      · exact b
section
variable {M : Nat → Nat → Nat} {C : Nat → Nat} {pool root page : Nat} {Z : Nat → Bool} {E E' : Nat → Nat → DV} {L : List LV} {d : DV} {u v b x y : LV} {k n : Nat}
theorem TG.lv_on (h : TG M C pool Z root E) (hk : k ≤ 2) : (E k (qn page k)).k = 1 ↔ k < lvG E page := by
  refine ⟨fun c => Nat.lt_of_not_le fun n => ?_, lvG_on⟩
  have last := h.last page
  unfold enG at last
  by_cases e : lvG E page = k
  · rw [e] at last
    exact last c
  · have := h.over (l := k) (j := qn page k) (by omega) (by omega) (lvG E page) (by omega)
    rw [qn_div hk n] at this
    exact last this
/-- Which tables of a page's way are there. -/
theorem RL.way (r : RL E L) (h : TG M C pool Z root E) (ne : NE root E (fun _ _ => False)) (page : Nat) (hk : k ≤ 2) : Go.Proofs.YtanlcmdnhhdhaaaGreatDoor.tB L (cdT page (k + 1)) = decide (k + 1 ≤ lvG E page) := by
  have cm := cdT_mod (g := page) (k := k + 1) (by omega)
  have e : page / 2 ^ (9 * (4 - (k + 1))) = qn page k := by
    unfold qn
    rw [show 9 * (4 - (k + 1)) = 27 - 9 * k by omega]
  refine Bool.eq_iff_iff.2 ?_
  rw [r.tB h ne, cm.1, cm.2, e, tbl_succ, decide_eq_true_eq]
  by_cases c : (E k (qn page k)).k = 1
  · rw [if_pos c]
    have := (h.lv_on hk).1 c
    exact ⟨fun _ => this, fun _ => ⟨by omega, rfl⟩⟩
  · rw [if_neg c]
    exact ⟨fun a => (by cases a.2), fun a => absurd ((h.lv_on hk).2 a) c⟩
theorem RL.wants (r : RL E L) (h : TG M C pool Z root E) (ne : NE root E (fun _ _ => False)) (page : Nat) {l : Nat} (hl : l ≤ 3) : cnt (fun k => !Go.Proofs.YtanlcmdnhhdhaaaGreatDoor.tB L (cdT page (k + 1))) l = l - lvG E page := by
  refine (cnt_like (F := fun k => !decide (k + 1 ≤ lvG E page)) l fun k hk => ?_).trans (cnt_from _ _)
  rw [r.way h ne page (by omega)]
theorem RL.with (r : RL E L) (h : TG M C pool Z root E) (ne : NE root E (fun _ _ => False)) (hp : y.g < 268435456) (hl : y.l = 2 ∨ y.l = 3) (hx : ∀ v ∈ L, v.g / 512 = y.g / 512 → v.l = 3 ∧ y.l = 3 ∧ v.g ≠ y.g) : tabL (withL L y) = tabL L + (y.l - lvG E y.g) := by
  rw [(r.lo h).more ((r.lo h).add ⟨hl, by omega⟩ hx) (fun v => mem_withI), r.wants h ne y.g (by omega)]
/-- Where no leaf has the page, its block has Pages alone. -/
theorem RL.bare (r : RL E L) (h : TG M C pool Z root E) (hk : (enG E page).k = 0) : ∀ v ∈ L, v.g / 512 = page / 512 → v.l = 3 ∧ v.g ≠ page := fun v hv he => by
  have nh : hitL page v = false := by
    cases e : hitL page v
    · rfl
    · exact absurd hk (hit_leaf h ((r.mem v).1 hv) e).1
  unfold hitL at nh
  rw [Bool.or_eq_false_iff, Bool.and_eq_false_iff] at nh
  simp only [beq_eq_false_iff_ne] at nh
  rcases ((r.mem v).1 hv).of h with c | c
  · exact ⟨c.1, nh.1⟩
  · have := c.2.1
    have := c.1
    have := nh.2
    omega
theorem RL.need (r : RL E L) (h : TG M C pool Z root E) (ne : NE root E (fun _ _ => False)) (hp : page < 268435456) (hk : (enG E page).k = 0) (hy : y.g = page) (hl : y.l = 3) : tabL (withL L y) = tabL L + (3 - lvG E page) := by
  have := r.with (y := y) h ne (by omega) (.inr hl) fun v hv he => by
    have := r.bare h hk v hv (by rw [← hy]; exact he)
    exact ⟨this.1, hl, by rw [hy]; exact this.2⟩
  rw [this, hl, hy]
/-- Need: both tell the same. -/
theorem both_need (r : RL E L) (h : TG M C pool Z root E) (ne : NE root E (fun _ _ => False)) (page : Nat) : (needP E page : Int) = needL false L page := by
  unfold needP needL needN
  by_cases hp : page < 268435456
  · rw [if_pos hp]
    by_cases hk : (enG E page).k = 0
    · have na : ¬ 0 ≤ Go.Proofs.YtanlcmdnhhdhaaaGreatDoor.atI L page := fun c => (r.atI h page).1 c hk
      rw [if_neg (fun c => c hk), if_neg (fun c => c.elim (fun c => by cases c) (fun c => c.elim (fun c => by omega) na)), r.need h ne hp hk (y := nLf page) rfl rfl]
      omega
    · have ya : 0 ≤ Go.Proofs.YtanlcmdnhhdhaaaGreatDoor.atI L page := (r.atI h page).2 hk
      rw [if_pos hk, if_pos (.inr (.inr ya))]
      rfl
  · rw [if_neg hp, if_pos (.inr (.inl (by omega)))]
    rfl
/-- MapBlock: is anything of the block mapped? -/
theorem RL.any (r : RL E L) (h : TG M C pool Z root E) (ne : NE root E (fun _ _ => False)) (hp : page % 512 = 0) : anyB L page = true ↔ (enG E page).k ≠ 0 ∨ 2 < lvG E page := by
  unfold anyB
  rw [List.any_eq_true]
  have q2 : qn page 2 = page / 512 := rfl
  constructor
  · rintro ⟨z, hz, e⟩
    rw [beq_iff_eq] at e
    have lz := (r.mem z).1 hz
    rcases lz.of h with ⟨a, b, _⟩ | ⟨a, b, _⟩
    · right
      rw [h.lf3] at b
      have := h.above (m := 2) (e := z.g) (by omega) (by rw [b]; decide)
      rw [show z.g / 512 = qn page 2 by rw [q2]; omega] at this
      exact (h.lv_on (by omega)).1 this
    · left
      have hh : hitL page z = true := by unfold hitL; rw [show z.g = page by omega]; simp
      exact (hit_leaf h lz hh).1
  · rintro (c | c)
    · obtain ⟨v, hv, hh⟩ := leaf_hit h c
      have q := (hit_leaf h hv hh).2.2.2
      refine ⟨v, (r.mem v).2 hv, ?_⟩
      rw [beq_iff_eq]
      split at q <;> omega
    · have k1 := (h.lv_on (page := page) (k := 2) (by omega)).2 c
      rw [q2] at k1
      obtain ⟨x, hx⟩ : ∃ x, tbl root E 3 (page / 512) = some x := ⟨_, by rw [tbl_succ, if_pos k1]⟩
      obtain ⟨i, hi, hk⟩ := ne 3 (page / 512) x (by omega) (by omega) (fun c => c) hx
      rw [← h.lf3] at hk
      refine ⟨_, (r.mem _).2 (Lf.three hk), ?_⟩
      rw [beq_iff_eq]
      show (512 * (page / 512) + i) / 512 * 512 = page
      omega
theorem RL.block (r : RL E L) (h : TG M C pool Z root E) (ne : NE root E (fun _ _ => False)) (hp : page < 268435456) (h5 : page % 512 = 0) (hn : anyB L page = false) (hy : y.g = page) (hl : y.l = 2) : tabL (withL L y) = tabL L + (2 - lvG E page) := by
  have := r.with (y := y) h ne (by omega) (.inl hl) fun v hv he => by
    exfalso
    have : anyB L page = true := by
      unfold anyB
      rw [List.any_eq_true]
      exact ⟨v, hv, by rw [beq_iff_eq]; rw [hy] at he; omega⟩
    rw [hn] at this
    cases this
  rw [this, hl, hy]
end

end Go.Proofs.YtanlcmdnhhdhaaaGreatDoor

/- TablePlays: each step tells the same and leaves the same leaves. -/
namespace Go.Proofs.YtanlcmdnhhdhaaaGreatDoor
open Go.RowKit
set_option maxRecDepth 10000

theorem cnt_mono {F G : Nat → Bool} : ∀ n, (∀ k, k < n → F k = true → G k = true) → cnt F n ≤ cnt G n
  | 0, _ => Nat.le_refl _
  | n + 1, h => by
    have ih := cnt_mono n fun k hk => h k (by omega)
    have a := h n (by omega)
    show cnt F n + (if F n = true then 1 else 0) ≤ cnt G n + if G n = true then 1 else 0
    by_cases c : F n = true
    · rw [if_pos c, if_pos (a c)]; omega
    · rw [if_neg c]; omega
theorem tab_sub {L L' : List LV} (lo : LO L) (lo' : LO L') (hs : ∀ c, tB L' c = true → tB L c = true) : tabL L' ≤ tabL L := by
  rw [lo.tab (Nat.le_refl _), lo'.tab (Nat.le_refl _)]
  exact cnt_mono _ fun k _ => hs k
theorem tab_halv {L L' : List LV} (lo : LO L) (lo' : LO L') {b : LV} (hb : b ∈ L) (h2 : b.l = 2) (h5 : b.g % 512 = 0) (hg : b.g < 268435456) (hs : ∀ v ∈ L', v ∈ L ∨ ∃ i, i < 512 ∧ v = pgV b i) : tabL L' ≤ tabL L + 1 := by
  have e : cnt (tB L') 1073741824 ≤ cnt (fun c => tB L c || wyB b.g 3 c) 1073741824 := cnt_mono _ fun c _ hc => by
    obtain ⟨v, hv, a1, a2, a3⟩ := tB_iff.1 hc
    rw [Bool.or_eq_true]
    rcases hs v hv with d | ⟨i, hi, rfl⟩
    · exact .inl (tB_iff.2 ⟨v, d, a1, a2, a3⟩)
    · right
      unfold wyB
      have a2' : c % 4 ≤ 3 := a2
      have a3' : (b.g + i) / 2 ^ (9 * (4 - c % 4)) = c / 4 := a3
      rw [decide_eq_true a1, decide_eq_true a2', Bool.true_and, Bool.true_and, decide_eq_true_eq, ← a3']
      rcases (by omega : c % 4 = 1 ∨ c % 4 = 2 ∨ c % 4 = 3) with q | q | q
      · rw [q, show 9 * (4 - 1) = 27 from rfl]; omega
      · rw [q, show 9 * (4 - 2) = 18 from rfl]; omega
      · rw [q, show 9 * (4 - 3) = 9 from rfl]; omega
  rw [cnt_way (Nat.le_refl _) (by omega) 3 (by omega), ← lo.tab (Nat.le_refl _), ← lo'.tab (Nat.le_refl _)] at e
  have on : ∀ k, k < 2 → tB L (cdT b.g (k + 1)) = true := fun k hk => by
    have cm := cdT_mod (g := b.g) (k := k + 1) (by omega)
    exact tB_iff.2 ⟨b, hb, by rw [cm.1]; omega, by rw [cm.1, h2]; omega, by rw [cm.1, cm.2]⟩
  have f : cnt (fun k => !tB L (cdT b.g (k + 1))) 3 ≤ 1 := by
    show 0 + (if (!tB L (cdT b.g (0 + 1))) = true then 1 else 0) + (if (!tB L (cdT b.g (1 + 1))) = true then 1 else 0) + (if (!tB L (cdT b.g (2 + 1))) = true then 1 else 0) ≤ 1
    rw [on 0 (by omega), on 1 (by omega)]
    cases tB L (cdT b.g (2 + 1)) <;> decide
  omega
section
variable {M M1 M' : Nat → Nat → Nat} {C C1 C' : Nat → Nat} {pool root page : Nat} {Z : Nat → Bool} {E E1 E' : Nat → Nat → DV} {L L1 L' : List LV} {fr fr1 fr' : Int} {d : DV} {u v b x y : LV} {k n : Nat} {xx yy : Int}
theorem TG.none (h : TG M C pool Z root E) (hk : (enG E page).k = 0) : (lfD E 3 page).k = 0 ∧ (lfD E 2 (page / 512)).k = 0 := by
  have a : ¬ (pgD E page).k ≠ 0 := fun c => h.pg.1.2 c hk
  unfold pgD at a
  by_cases c : (lfD E 3 page).k ≠ 0
  · rw [if_pos c] at a; exact absurd c a
  · rw [if_neg c] at a
    exact ⟨Decidable.not_not.1 c, Decidable.not_not.1 a⟩
theorem plR_ok {l : Nat} (e : plR pool C E page l = 0) : (enG E page).k = 0 ∧ lvG E page ≤ l ∧ l - lvG E page ≤ cnt (fT pool C) pool := by
  unfold plR at e
  split at e
  · cases e
  · rename_i c
    split at e
    · cases e
    · rename_i c2
      exact ⟨Decidable.byContradiction fun a => c (.inl a), Nat.le_of_not_lt fun a => c (.inr a), by omega⟩
/-! ### Map -/
theorem map_both (r : RL E L) (h : TG M C pool Z root E) (ne : NE root E (fun _ _ => False)) (hfr : fr = (cnt (fT pool C) pool : Int)) (page : Nat) (f : Int) (pr pq px : Bool) (s : Int) : mapR 2100 pool C E page f pr pq s = rmapR false L fr page f ⟨page, f.toNat, pr, pq, px, s, 3⟩ pr pq s := by
  have hb : (decide (0 ≤ f) && decide (f < 2100)) = hasN 2100 f 1 := by
    unfold hasN
    congr 1
    exact decide_eq_decide.2 ⟨fun a => by omega, fun a => by omega⟩
  unfold mapR rmapR badN
  rw [hb, if_neg (c := false = true) (by decide)]
  generalize hasN 2100 f 1 = t
  by_cases c1 : 268435456 ≤ page ∨ t = false
  · rw [if_pos c1, if_pos c1]
    rfl
  · rw [if_neg c1, if_neg c1]
    by_cases c2 : canB pr pq s = false
    · rw [if_pos c2, if_pos c2]
      rfl
    · rw [if_neg c2, if_neg c2]
      have hp : page < 268435456 := Nat.lt_of_not_le fun a => c1 (.inl a)
      rw [if_neg (c := ((0 : Int) ≠ 0)) (fun a => a rfl)]
      unfold plR setB
      have l3 := lvG_le E page
      by_cases hk : (enG E page).k = 0
      · have na : ¬ 0 ≤ Go.Proofs.YtanlcmdnhhdhaaaGreatDoor.atI L page := fun c => (r.atI h page).1 c hk
        rw [if_neg (show ¬ ((enG E page).k ≠ 0 ∨ 3 < lvG E page) from fun c => c.elim (fun c => c hk) (fun c => by omega)), if_neg na, r.need h ne hp hk (y := ⟨page, f.toNat, pr, pq, px, s, 3⟩) rfl rfl, hfr]
        by_cases c3 : cnt (fT pool C) pool < 3 - lvG E page
        · rw [if_pos c3, if_neg (by rw [decide_eq_true_eq]; omega)]
        · rw [if_neg c3, if_pos (by rw [decide_eq_true_eq]; omega)]
      · rw [if_pos (.inl hk), if_pos ((r.atI h page).2 hk)]
theorem did_map (r : RL E L) (h : TG M C pool Z root E) (ne : NE root E (fun _ _ => False)) (hfr : fr = (cnt (fT pool C) pool : Int)) {f s : Int} {pr pq px : Bool} (hx : Sam xx (mapR 2100 pool C E page f pr pq s)) (hp : PMap pool C E 3 page ⟨3, f.toNat * 4096, pr, pq, px, s⟩ xx C' E') (hd : DMap false L fr page f pr pq px s yy L' fr') : xx = yy ∧ RL E' L' := by
  have e : xx = yy := hx.trans ((map_both r h ne hfr page f pr pq px s).trans hd.1.symm)
  refine ⟨e, ?_⟩
  rcases hd.2 with ⟨a, rfl, _⟩ | ⟨a, rfl, _⟩
  · have x0 : xx = 0 := e.trans a
    have ok := mapR_ok (hx.symm.trans x0)
    have hk := (plR_ok ok.2.2.2.2.2.2).1
    have sp := (hp.2 x0).2
    have q3 : qn page 3 = page := qn_three page
    rw [q3] at sp
    have lf := Lf_put (d := ⟨3, f.toNat * 4096, pr, pq, px, s⟩) (show 3 ≤ 3 by omega) (show (3 : Int) ≠ 0 by decide) (h.none hk).1 sp
    have te : tellN (pgE 3 page) 3 ⟨3, f.toNat * 4096, pr, pq, px, s⟩ = ⟨page, f.toNat, pr, pq, px, s, 3⟩ := by
      rw [show pgE 3 page = page from Nat.mul_one page]
      unfold tellN
      rw [if_neg (by decide), show f.toNat * 4096 / 4096 + 0 = f.toNat by omega]
    rw [te] at lf
    exact r.more (fun v hv c => (r.bare h hk v hv (by rw [c])).2 c) lf
  · have := hp.1 (by rw [e]; exact a)
    rw [this.2]
    exact r
/-! ### MapBlock -/
theorem mapb_both (r : RL E L) (h : TG M C pool Z root E) (ne : NE root E (fun _ _ => False)) (hfr : fr = (cnt (fT pool C) pool : Int)) (page : Nat) (f : Int) (pr pq px : Bool) (s : Int) : mapbR 2100 pool C E page f pr pq s = rmapbR false L fr page f ⟨page, f.toNat, pr, pq, px, s, 2⟩ pr pq s := by
  have hb : (decide (0 ≤ f) && decide (f ≤ 1588)) = hasN 2100 f 512 := by
    unfold hasN
    congr 1
  unfold mapbR rmapbR badN
  rw [hb, if_neg (c := false = true) (by decide)]
  generalize hasN 2100 f 512 = t
  by_cases c1 : 268435456 ≤ page ∨ t = false
  · rw [if_pos c1, if_pos c1]
    rfl
  · rw [if_neg c1, if_neg c1]
    by_cases c2 : canB pr pq s = false
    · rw [if_pos c2, if_pos c2]
      rfl
    · rw [if_neg c2, if_neg c2]
      have hp : page < 268435456 := Nat.lt_of_not_le fun a => c1 (.inl a)
      rw [if_neg (c := ((0 : Int) ≠ 0)) (fun a => a rfl)]
      by_cases c5 : page % 512 ≠ 0 ∨ f % 512 ≠ 0
      · rw [if_pos c5, if_pos c5]
      · rw [if_neg c5, if_neg c5]
        have h5 : page % 512 = 0 := Decidable.byContradiction fun a => c5 (.inl a)
        unfold plR setB
        have an := r.any h ne h5
        by_cases c6 : (enG E page).k ≠ 0 ∨ 2 < lvG E page
        · rw [if_pos c6, if_pos (an.2 c6)]
        · have nb : anyB L page = false := by
            cases e : anyB L page
            · rfl
            · exact absurd (an.1 e) c6
          rw [if_neg c6, if_neg (c := anyB L page = true) (by rw [nb]; decide), r.block h ne hp h5 nb (y := ⟨page, f.toNat, pr, pq, px, s, 2⟩) rfl rfl, hfr]
          by_cases c3 : cnt (fT pool C) pool < 2 - lvG E page
          · rw [if_pos c3, if_neg (by rw [decide_eq_true_eq]; omega)]
          · rw [if_neg c3, if_pos (by rw [decide_eq_true_eq]; omega)]
theorem did_mapb (r : RL E L) (h : TG M C pool Z root E) (ne : NE root E (fun _ _ => False)) (hfr : fr = (cnt (fT pool C) pool : Int)) {f s : Int} {pr pq px : Bool} (hx : Sam xx (mapbR 2100 pool C E page f pr pq s)) (hp : PMap pool C E 2 page ⟨2, f.toNat * 4096, pr, pq, px, s⟩ xx C' E') (hd : DMpb false L fr page f pr pq px s yy L' fr') : xx = yy ∧ RL E' L' := by
  have e : xx = yy := hx.trans ((mapb_both r h ne hfr page f pr pq px s).trans hd.1.symm)
  refine ⟨e, ?_⟩
  rcases hd.2 with ⟨a, rfl, _⟩ | ⟨a, rfl, _⟩
  · have x0 : xx = 0 := e.trans a
    have ok : page % 512 = 0 ∧ plR pool C E page 2 = 0 := by
      have q := hx.symm.trans x0
      unfold mapbR at q
      split at q
      · cases q
      split at q
      · cases q
      split at q
      · cases q
      · rename_i _ _ c
        exact ⟨Decidable.byContradiction fun a => c (.inl a), q⟩
    have hk := (plR_ok ok.2).1
    have sp := (hp.2 x0).2
    have q2 : qn page 2 = page / 512 := rfl
    rw [q2] at sp
    have lf := Lf_put (d := ⟨2, f.toNat * 4096, pr, pq, px, s⟩) (show 2 ≤ 3 by omega) (show (2 : Int) ≠ 0 by decide) (h.none hk).2 sp
    have te : tellN (pgE 2 (page / 512)) 2 ⟨2, f.toNat * 4096, pr, pq, px, s⟩ = ⟨page, f.toNat, pr, pq, px, s, 2⟩ := by
      have eg : pgE 2 (page / 512) = page := by
        show page / 512 * 512 = page
        omega
      rw [eg]
      unfold tellN
      rw [if_pos rfl, show f.toNat * 4096 / 4096 + page % 512 = f.toNat by omega]
    rw [te] at lf
    exact r.more (fun v hv c => (r.bare h hk v hv (by rw [c])).2 c) lf
  · have := hp.1 (by rw [e]; exact a)
    rw [this.2]
    exact r
end

end Go.Proofs.YtanlcmdnhhdhaaaGreatDoor
