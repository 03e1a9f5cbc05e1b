/- index: groups, told alike. -/
import Derived.Test.YtpjlmmiceiionaaDoorJ34
import Derived.Test.YtpjlmmiceiionaaDoorCY
namespace Go.Proofs.YtpjlmmiceiionaaDoor
open Go.RowKit
set_option maxRecDepth 10000
section
variable {w : World}
set_option maxHeartbeats 4000000 in
theorem intsF_dr {va vb : Value} {L M : List Nat} (hA : SVw LTfr w va L) (hB : SVw LTfr w vb M) (hl : L.length ≤ 2000000) :
    Calls Tryd.prog 40 #[va, vb] w fun e w' => e = .returned (.bool (decide (L = M))) ∧ Dr w w' := by
  obtain ⟨na, ca, rfl, fA⟩ := hA
  obtain ⟨nb, cb, rfl, fB⟩ := hB
  by_cases he : L.length = M.length
  · obtain ⟨n, hn⟩ : ∃ n, M.length = n := ⟨_, rfl⟩
    have HN : Hid (M.length = n ∧ L.length = n) := ⟨hn, by omega⟩
    rw [he, hn]
    have FA : Aside (AS LTfr w na L) := fA
    have FB : Aside (AS LTfr w nb M) := fB
    have y1 : (n : Int) ≤ 2000000 := by omega
    clear fA fB he hn hl
    obtain ⟨r, hr⟩ : ∃ r, decide (L = M) = r := ⟨_, rfl⟩
    have HR : Hid (decide (L = M) = r) := hr
    rw [hr]
    clear hr
    go_enter Tryd.func40, Tryd.ntmps40
    go_wp2_with fail
    go_loopg [5] (n + 1) (fun g v5 wr => ∃ (i : Nat), v5 = .int .i64 (i : Int) ∧ i ≤ n ∧ n + 1 - i ≤ g ∧ Hid (Dr w wr ∧ ∀ j, j < i → L[j]? = M[j]?))
    case atStart => exact ⟨0, rfl, by omega, by omega, Dr.refl w, fun j hj => by omega⟩
    case round =>
      obtain ⟨i, rfl, hi, hg, HL⟩ := hrel
      have y2 : (i : Int) ≤ n := by omega
      by_cases e : i < n
      · have z1 : (i : Int) < n := by omega
        have lx : i < L.length := by have := HN.out.2; omega
        have ly : i < M.length := by have := HN.out.1; omega
        obtain ⟨x, hx⟩ : ∃ x, L[i]? = some x := ⟨_, List.getElem?_eq_getElem lx⟩
        obtain ⟨y, hy⟩ : ∃ y, M[i]? = some y := ⟨_, List.getElem?_eq_getElem ly⟩
        obtain ⟨ga, oa, rfl, hca⟩ := (FA.out.kp HL.out.1.kp).elem LTfr_ok hx
        obtain ⟨gb, ob, rfl, hcb⟩ := (FB.out.kp HL.out.1.kp).elem LTfr_ok hy
        have cA := hca 0 _ rfl
        have cB := hcb 0 _ rfl
        simp only [show LTfr.sz = 1 from rfl, Nat.add_zero, Nat.mul_one] at cA cB
        clear FA FB hca hcb lx ly
        by_cases exy : x = y
        · have qt : ((x : Int) == (y : Int)) = true := by rw [exy]; exact beq_self_eq_true _
          have hxy : L[i]? = M[i]? := by rw [hx, hy, exy]
          have HL2 : Hid (Dr w wr ∧ ∀ j, j < i + 1 → L[j]? = M[j]?) := ⟨HL.out.1, fun j hj => by
            by_cases ej : j = i
            · rw [ej]; exact hxy
            · exact HL.out.2 j (by omega)⟩
          clear HL hx hy exy hxy
          go_wp2_with fail
          go_quiet (fail)
          go_wp2_with fail
          go_roundg (n + 1 - (i + 1))
          case measure => omega
          case rel => exact ⟨i + 1, by go_num, by omega, by omega, HL2.out.1.trans ⟨_, rfl⟩, HL2.out.2⟩
        · have qf : ((x : Int) == (y : Int)) = false := by rw [beq_eq_false_iff_ne]; omega
          have er : r = false := by
            rw [← HR.out]
            exact decide_eq_false (fun h => exy (by rw [h, hy] at hx; exact (Option.some.inj hx).symm))
          subst er
          have HK : Hid (Dr w wr) := HL.out.1
          clear HL hx hy exy
          go_wp2_with fail
          go_quiet (fail)
          go_wp2_with fail
          go_ret
          exact ⟨rfl, HK.out.trans ⟨_, rfl⟩⟩
      · have ei : i = n := by omega
        subst ei
        have er : r = true := by
          rw [← HR.out]
          refine decide_eq_true (List.ext_getElem? fun j => ?_)
          by_cases hj : j < i
          · exact HL.out.2 j hj
          · rw [List.getElem?_eq_none (by have := HN.out.2; omega), List.getElem?_eq_none (by have := HN.out.1; omega)]
        subst er
        have HK : Hid (Dr w wr) := HL.out.1
        clear HL
        go_wp2_with fail
        go_ret
        exact ⟨rfl, HK.out⟩
  · have er : decide (L = M) = false := decide_eq_false (fun h => he (by rw [h]))
    rw [er]
    have yy : ((L.length : Int) == (M.length : Int)) = false := by rw [beq_eq_false_iff_ne]; omega
    have yn : ¬ (L.length : Int) = (M.length : Int) := by omega
    generalize L.length = a at *
    generalize M.length = c at *
    clear fA fB er he hl
    go_enter Tryd.func40, Tryd.ntmps40
    go_wp2_with fail
    go_ret
    exact ⟨rfl, Dr.refl w⟩
end


theorem list_uniqI : ∀ A B : List Int, A.Pairwise (· < ·) → B.Pairwise (· < ·) → (∀ x, x ∈ A ↔ x ∈ B) → A = B
  | [], [], _, _, _ => rfl
  | [], b :: _, _, _, h => absurd ((h b).2 List.mem_cons_self) List.not_mem_nil
  | a :: _, [], _, _, h => absurd ((h a).1 List.mem_cons_self) List.not_mem_nil
  | a :: A, b :: B, pa, pb, h => by
    rw [List.pairwise_cons] at pa pb
    have e : a = b := by
      rcases List.mem_cons.1 ((h a).1 List.mem_cons_self) with c | c
      · exact c
      · rcases List.mem_cons.1 ((h b).2 List.mem_cons_self) with d | d
        · exact d.symm
        · have := pa.1 b d; have := pb.1 a c; omega
    subst e
    have : A = B := list_uniqI A B pa.2 pb.2 fun x => by
      have hx := h x
      simp only [List.mem_cons] at hx
      constructor
      · intro hm
        rcases hx.1 (.inr hm) with c | c
        · have := pa.1 x hm; rw [c] at this; omega
        · exact c
      · intro hm
        rcases hx.2 (.inr hm) with c | c
        · have := pb.1 x hm; rw [c] at this; omega
        · exact c
    rw [this]
/-- All groups of frames of one digest, by their heads. -/
structure GrT (w : World) (v : Value) (L : List GE) (Sg : Nat → Option CN) : Prop where
  ax : AX LTge w 0 v L
  all : ∀ e ∈ L, ∃ d, 1 < (blF (mkD Sg 12 d)).length ∧ AX LTfr w 0 (geV e) (blF (mkD Sg 12 d)) ∧ e.2 = hdF (blF (mkD Sg 12 d))
  back : ∀ d, 1 < (blF (mkD Sg 12 d)).length → ∃ e ∈ L, e.2 = hdF (blF (mkD Sg 12 d))
  pw : L.Pairwise (fun x y => x.2 < y.2)
section
variable {w w' : World} {v v' : Value} {L L' : List GE} {Sg : Nat → Option CN}
theorem GrT.of {b : Nat} {D : CN → Prop} (h : GrS w b v L D (mkD Sg 12)) (hD : ∀ d, mkD Sg 12 d ≠ 0 → D d) (hp : L.Pairwise (fun x y => x.2 < y.2)) : GrT w v L Sg :=
  ⟨h.ax.low (Nat.zero_le _), fun e he => by
    obtain ⟨d, _, q1, q2, q3⟩ := h.all e he
    exact ⟨d, q1, q2.low (Nat.zero_le _), q3⟩, fun d hd => h.back d (hD d (fun c => by rw [c, blF_0] at hd; simp at hd)) hd, hp⟩
theorem GrT.kp (h : GrT w v L Sg) (k : Kp w w') : GrT w' v L Sg :=
  ⟨h.ax.kp k, fun e he => by
    obtain ⟨d, q1, q2, q3⟩ := h.all e he
    exact ⟨d, q1, q2.kp k, q3⟩, h.back, h.pw⟩
theorem GrT.heads (h : GrT w v L Sg) (h' : GrT w v' L' Sg) : L.map (·.2) = L'.map (·.2) := by
  refine list_uniqI _ _ ?_ ?_ fun x => ?_
  · rw [List.pairwise_map]; exact h.pw
  · rw [List.pairwise_map]; exact h'.pw
  · rw [List.mem_map, List.mem_map]
    constructor
    · rintro ⟨e, he, rfl⟩
      obtain ⟨d, q1, _, q3⟩ := h.all e he
      obtain ⟨e', he', q⟩ := h'.back d q1
      exact ⟨e', he', by rw [q, q3]⟩
    · rintro ⟨e, he, rfl⟩
      obtain ⟨d, q1, _, q3⟩ := h'.all e he
      obtain ⟨e', he', q⟩ := h.back d q1
      exact ⟨e', he', by rw [q, q3]⟩
theorem GrT.at (h : GrT w v L Sg) (h' : GrT w v' L' Sg) {i : Nat} {e e' : GE} (he : L[i]? = some e) (he' : L'[i]? = some e') : ∃ xs, AX LTfr w 0 (geV e) xs ∧ AX LTfr w 0 (geV e') xs ∧ xs.length ≤ 64 := by
  have hh := congrArg (fun l : List Int => l[i]?) (h.heads h')
  simp only [List.getElem?_map, he, he', Option.map_some, Option.some.injEq] at hh
  obtain ⟨d, q1, q2, q3⟩ := h.all e (List.mem_of_getElem? he)
  obtain ⟨d', q1', q2', q3'⟩ := h'.all e' (List.mem_of_getElem? he')
  have hd : d' = d := Classical.byContradiction fun c => hd_apart c q1 q1' (by rw [← q3, ← q3', hh])
  subst hd
  refine ⟨_, q2, q2', ?_⟩
  refine nodup_below 64 _ ?_ (fun x hx => ((blF_mem _ _).1 hx).1)
  unfold blF
  exact List.nodup_range.filter _
theorem GrT.few (h : GrT w v L Sg) : L.length ≤ 12 := by
  have e : ∀ x ∈ L, ∃ k : Nat, x.2 = (k : Int) ∧ k < 12 := fun x hx => by
    obtain ⟨d, q1, _, q3⟩ := h.all x hx
    cases c : blF (mkD Sg 12 d) with
    | nil => rw [c] at q1; simp at q1
    | cons k l =>
      have hk : k ∈ blF (mkD Sg 12 d) := by rw [c]; simp
      have := ((blF_mem _ _).1 hk).2
      rw [mkD_bit] at this
      simp at this
      exact ⟨k, by rw [q3, c]; rfl, this.1⟩
  have := nodup_below 12 (L.map fun x => x.2.toNat) (by
    rw [List.nodup_iff_pairwise_ne, List.pairwise_map]
    exact h.pw.imp_of_mem (fun {x y} hx hy hne => by
      obtain ⟨k1, a1, _⟩ := e x hx
      obtain ⟨k2, a2, _⟩ := e y hy
      omega)) (fun k hk => by
    obtain ⟨x, hx, rfl⟩ := List.mem_map.1 hk
    obtain ⟨k1, a1, a2⟩ := e x hx
    rw [a1, Int.toNat_natCast]
    exact a2)
  simpa using this
set_option maxHeartbeats 8000000 in
theorem groups_any (h : GrT w v L Sg) (h' : GrT w v' L' Sg) :
    Calls Tryd.prog 18 #[v, v'] w fun e w' => e = .returned (.bool true) ∧ Dr w w' := by
  have HH : Hid (GrT w v L Sg ∧ GrT w v' L' Sg) := ⟨h, h'⟩
  obtain ⟨na, ca, rfl, _, _, _⟩ := h.ax.form LTge_ok
  obtain ⟨nb, cb, rfl, _, _, _⟩ := h'.ax.form LTge_ok
  have hlen : L'.length = L.length := by
    have := congrArg List.length (h.heads h')
    simpa using this.symm
  have hfew := h.few
  rw [hlen] at HH ⊢
  obtain ⟨n, hn⟩ : ∃ n, n = L.length := ⟨_, rfl⟩
  rw [← hn] at HH hfew ⊢
  have HN : Hid (n = L.length ∧ L'.length = n) := ⟨hn, by omega⟩
  have bn : (n : Int) ≤ 12 := by omega
  have y1 : ((n : Int) == (n : Int)) = true := beq_self_eq_true _
  clear h h' hlen hn hfew
  go_enter Tryd.func18, Tryd.ntmps18
  go_wp2_with fail
  go_loopg [5] (n + 1) (fun g v5 wr => ∃ (i : Nat), v5 = .int .i64 (i : Int) ∧ i ≤ n ∧ n + 1 - i ≤ g ∧ Hid (Dr w wr))
  case atStart => exact ⟨0, rfl, by omega, by omega, Dr.refl w⟩
  case round =>
    obtain ⟨i, rfl, hi, hg, HD⟩ := hrel
    by_cases e : i < n
    · have z1 : (i : Int) < n := by omega
      obtain ⟨x, hx⟩ : ∃ x, L[i]? = some x := ⟨_, List.getElem?_eq_getElem (by have := HN.out.1; omega)⟩
      obtain ⟨y, hy⟩ : ∃ y, L'[i]? = some y := ⟨_, List.getElem?_eq_getElem (by have := HN.out.2; omega)⟩
      have G1 := HH.out.1.kp HD.out.kp
      have G2 := HH.out.2.kp HD.out.kp
      obtain ⟨ga, oa, rfl, hca⟩ := (G1.ax.src LTge_ok).elem LTge_ok hx
      obtain ⟨gb, ob, rfl, hcb⟩ := (G2.ax.src LTge_ok).elem LTge_ok hy
      have cA := hca 0 _ rfl
      have cB := hcb 0 _ rfl
      simp only [show LTge.sz = 1 from rfl, Nat.add_zero, Nat.mul_one] at cA cB
      have HE : Hid (∃ xs, AX LTfr wr 0 (geV x) xs ∧ AX LTfr wr 0 (geV y) xs ∧ xs.length ≤ 64) := G1.at G2 hx hy
      have ci : ∀ m, Calls Tryd.prog 40 #[geV x, geV y] (wr.drewN m) fun e w' => e = .returned (.bool true) ∧ Dr (wr.drewN m) w' := fun m => by
        obtain ⟨xs, a1, a2, a3⟩ := HE.out
        have km : Kp wr (wr.drewN m) := (Kp.refl wr).drewN m
        have := intsF_dr ((a1.kp km).sv LTfr_ok) ((a2.kp km).sv LTfr_ok) (by omega)
        rwa [decide_eq_true rfl] at this
      obtain ⟨vx, hvx⟩ : ∃ vx, geV x = vx := ⟨_, rfl⟩
      obtain ⟨vy, hvy⟩ : ∃ vy, geV y = vy := ⟨_, rfl⟩
      rw [hvx] at cA ci
      rw [hvy] at cB ci
      clear hca hcb hvx hvy hx hy G1 G2 HE
      go_wp2_with fail
      go_quiet (first | (refine (ci _).mono ?_; rintro e w' ⟨rfl, n2, rfl⟩; exact ⟨rfl, _, World.drewN_drewN _ _ _⟩))
      have K2 : Hid (Dr w (wr.drewN nq)) := HD.out.trans ⟨_, rfl⟩
      clear ci cA cB
      go_wp2_with fail
      go_roundg (n + 1 - (i + 1))
      case measure => exact measW e hg
      case rel => exact ⟨i + 1, by go_num, e, Nat.le_refl _, K2⟩
    · have ei : i = n := by omega
      subst ei
      have z1 : ¬ (i : Int) < i := by omega
      go_wp2_with fail
      go_ret
      exact ⟨rfl, HD.out⟩
end

end Go.Proofs.YtpjlmmiceiionaaDoor
