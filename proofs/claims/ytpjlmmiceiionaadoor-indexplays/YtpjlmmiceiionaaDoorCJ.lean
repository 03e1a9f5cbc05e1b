/- index: Alike: the groups, told. -/
import Derived.Test.YtpjlmmiceiionaaDoorJ30
import Derived.Test.YtpjlmmiceiionaaDoorCB
import Derived.Test.YtpjlmmiceiionaaDoorJ31
namespace Go.Proofs.YtpjlmmiceiionaaDoor
open Go.RowKit Go.Maps
set_option maxRecDepth 10000

set_option maxHeartbeats 2000000 in
theorem collect_any {w : World} {v : Value} {xs : List Nat} (T : TAB w) (hit : EachOk w v xs) (hx : xs.length ≤ 1000) :
    Calls Tryd.prog 41 #[.func (.func 38) #[v] #[]] w fun e w' => ∃ u, e = .returned u ∧ AX LTfr w' w.heap.size u xs ∧ Kp w w' := by
  have cs := appendSeq_any T hit hx
  clear T hit
  go_enter Tryd.func41, Tryd.ntmps41
  go_wp2_with fail
  with_reducible refine cs.mono ?_
  rintro e w1 ⟨u, rfl, h1, h2⟩
  have H := hidG (And.intro h1 h2)
  clear h1 h2 cs
  go_wp2_with fail
  go_ret
  exact ⟨u, rfl, H.out⟩

/-- Groups as they lie. -/
def LTge : LT GE := ⟨fun e => [geV e], 1, 46, 49⟩
theorem LTge_ok : LTok LTge where
  E := ⟨fun _ => rfl, fun _ u hu => by
    simp only [LTge, List.mem_cons, List.not_mem_nil, or_false] at hu
    subst hu; rfl, by decide⟩
  ht := Tryd.underlying49
  hi := ⟨_, _, rfl, rfl, rfl, by decide, rfl⟩
  hs w := by kernel_rfl
theorem AX.block {α : Type} {T : LT α} {w : World} {b : Nat} {v : Value} {L : List α} (h : AX T w b v L) {g : Nat} (hg : v.ownBlock = some g) : ∃ cur, w.heap[g]? = some (Obj.cells cur T.e (0, 0)) := by
  obtain ⟨_, h2⟩ := h.ol
  rcases h2 with ⟨rfl, _⟩ | ⟨g', cap, cur, rfl, _, h4, _⟩
  · cases hg
  · cases hg; exact ⟨cur, h4⟩
/-- The frame that a list begins with. -/
def hdF (xs : List Nat) : Int := ((xs.headD 0 : Nat) : Int)
/-- The groups L of the digests D. -/
structure GrS (w : World) (b : Nat) (v : Value) (L : List GE) (D : CN → Prop) (mk : CN → Nat) : Prop where
  ax : AX LTge w b v L
  nil : L = [] → v = .slice none 0 0
  all : ∀ e ∈ L, ∃ d, D d ∧ 1 < (blF (mk d)).length ∧ AX LTfr w b (geV e) (blF (mk d)) ∧ e.2 = hdF (blF (mk d))
  back : ∀ d, D d → 1 < (blF (mk d)).length → ∃ e ∈ L, e.2 = hdF (blF (mk d))
  nd : (L.map (·.2)).Nodup
section
variable {w w' : World} {b : Nat} {v : Value} {L : List GE} {D : CN → Prop} {mk : CN → Nat}
theorem GrS.fr (h : GrS w b v L D mk) {S : Nat → Prop} (k : Fr S w w') (h1 : ∀ g cur, w.heap[g]? = some (Obj.cells cur 46 (0, 0)) → ¬ S g) (h2 : ∀ g cur, w.heap[g]? = some (Obj.cells cur 3 (0, 0)) → ¬ S g) : GrS w' b v L D mk :=
  ⟨h.ax.fr k (fun g _ _ hg s => by obtain ⟨cur, hc⟩ := h.ax.block hg; exact h1 g cur hc s), h.nil, fun e he => by
    obtain ⟨d, q0, q1, q2, q3⟩ := h.all e he
    exact ⟨d, q0, q1, q2.fr k (fun g _ _ hg s => by obtain ⟨cur, hc⟩ := q2.block hg; exact h2 g cur hc s), q3⟩, h.back, h.nd⟩
theorem GrS.kp (h : GrS w b v L D mk) (k : Kp w w') : GrS w' b v L D mk := h.fr (k.fr (fun _ => False)) (fun _ _ _ => id) (fun _ _ _ => id)
theorem GrS.start (w : World) (b : Nat) (mk : CN → Nat) : GrS w b (.slice none 0 0) [] (fun _ => False) mk := ⟨AX.nil w b, fun _ => rfl, (fun _ h => by cases h), fun _ h => h.elim, List.nodup_nil⟩
theorem GrS.skip (h : GrS w b v L D mk) {d : CN} (hd : ¬ 1 < (blF (mk d)).length) : GrS w b v L (fun x => D x ∨ x = d) mk :=
  ⟨h.ax, h.nil, fun e he => by obtain ⟨d', q0, q1⟩ := h.all e he; exact ⟨d', .inl q0, q1⟩, fun x hx hl => by
    rcases hx with hx | rfl
    · exact h.back x hx hl
    · exact absurd hl hd, h.nd⟩
theorem GrS.more (h : GrS w b v L D mk) {d : CN} {e : GE} {v' : Value} (hv : AX LTge w' b v' (L ++ [e])) (k : Fr (fun g => v.ownBlock = some g) w w') (h1 : 1 < (blF (mk d)).length) (h2 : AX LTfr w b (geV e) (blF (mk d))) (h3 : e.2 = hdF (blF (mk d)))
    (hn : ∀ d', D d' → 1 < (blF (mk d')).length → hdF (blF (mk d')) ≠ hdF (blF (mk d))) : GrS w' b v' (L ++ [e]) (fun x => D x ∨ x = d) mk := by
  have far : ∀ u xs, AX LTfr w b u xs → AX LTfr w' b u xs := fun u xs hu => hu.fr k (fun g _ _ hg s => by
    obtain ⟨c1, q1⟩ := hu.block hg
    obtain ⟨c2, q2⟩ := h.ax.block s
    rw [q1] at q2
    simp only [Option.some.injEq, Obj.cells.injEq] at q2
    exact absurd q2.2.1 (by decide))
  refine ⟨hv, fun c => by simp at c, fun u hu => ?_, fun x hx hl => ?_, ?_⟩
  · rcases List.mem_append.1 hu with hu | hu
    · obtain ⟨d', q0, q1, q2, q3⟩ := h.all u hu
      exact ⟨d', .inl q0, q1, far _ _ q2, q3⟩
    · simp at hu
      subst hu
      exact ⟨d, .inr rfl, h1, far _ _ h2, h3⟩
  · rcases hx with hx | rfl
    · obtain ⟨u, hu, q⟩ := h.back x hx hl
      exact ⟨u, by simp [hu], q⟩
    · exact ⟨e, by simp, h3⟩
  · rw [List.map_append]
    refine List.nodup_append.2 ⟨h.nd, by simp, fun a ha c hc => ?_⟩
    simp at hc
    subst hc
    obtain ⟨u, hu, rfl⟩ := List.mem_map.1 ha
    obtain ⟨d', q0, q1, _, q3⟩ := h.all u hu
    rw [h3, q3]
    exact hn d' q0 q1
end
section
open Go.Sort
variable {w w' : World} {b : Nat} {v : Value} {L : List GE} {D : CN → Prop} {mk : CN → Nat}
theorem nodup_below : ∀ (n : Nat) (l : List Nat), l.Nodup → (∀ x ∈ l, x < n) → l.length ≤ n
  | 0, [], _, _ => Nat.le_refl _
  | 0, x :: l, _, h => by have := h x (by simp); omega
  | n + 1, l, nd, h => by
    by_cases c : n ∈ l
    · have := nodup_below n (l.erase n) (nd.erase n) (fun x hx => by
        have h1 := (nd.mem_erase_iff).1 hx
        have := h x h1.2
        have := h1.1
        omega)
      rw [List.length_erase_of_mem c] at this
      omega
    · have := nodup_below n l nd (fun x hx => by
        have h1 := h x hx
        have : x ≠ n := fun e => c (e ▸ hx)
        omega)
      omega
theorem get_bang (L : List GE) (i : Nat) (e : GE) (h : L[i]? = some e) : L.toArray[i]! = e := by
  rw [getElem!_def, List.getElem?_toArray, h]
theorem GrS.sorts (h : GrS w b v L D mk) (hne : L ≠ []) : ∃ g cap, v = .slice (some ⟨g, 0, none⟩) L.length cap ∧ SGr w g L.toArray w ∧ b ≤ g := by
  obtain ⟨na, cap, e, _, hc, _⟩ := h.ax.form LTge_ok
  rcases hc with ⟨_, _, c⟩ | ⟨g, rfl, h1, h2⟩
  · exact absurd c hne
  subst e
  obtain ⟨cur, hcur⟩ := h.ax.block (g := g) rfl
  refine ⟨g, cap, rfl, ⟨Fr.refl _ _, h2, fun i hi => ?_, fun i _ => OL.frz h.ax.ol i, fun i hi => ?_, ⟨cur, cur, hcur, hcur, rfl⟩⟩, h1⟩
  · simp only [List.size_toArray] at hi
    have hx : L[i]? = some L[i] := List.getElem?_eq_getElem hi
    rw [get_bang L i _ hx]
    have := OL.cell LTge_ok.E h.ax.ol (i := i) (j := 0) (x := L[i]) (u := geV L[i]) hx rfl
    simpa [LTge] using this
  · simp only [List.size_toArray] at hi
    have hx : L[i]? = some L[i] := List.getElem?_eq_getElem hi
    rw [get_bang L i _ hx]
    obtain ⟨d, _, q1, q2, q3⟩ := h.all L[i] (List.getElem_mem hi)
    have hb2 := q2.block (g := L[i].1.1) rfl
    obtain ⟨c2, hc2⟩ := hb2
    have hl := q2.len.1
    refine ⟨fun e => ?_, (Array.getElem?_eq_some_iff.1 hc2).1, by omega, ?_⟩
    · rw [e, hcur] at hc2
      simp only [Option.some.injEq, Obj.cells.injEq] at hc2
      exact absurd hc2.2.1 (by decide)
    · rw [q3]
      cases c : blF (mk d) with
      | nil => rw [c] at q1; simp at q1
      | cons x l =>
        rw [c] at q2
        have := OL.cell LTfr_ok.E q2.ol (i := 0) (j := 0) (x := x) (u := .int .i64 (x : Int)) rfl rfl
        show w.cell? _ = some (Value.int .i64 (x : Int))
        simpa using this
theorem GrS.sorted {g cap : Nat} {d' : Array GE} (h : GrS w b (.slice (some ⟨g, 0, none⟩) L.length cap) L D mk) (hne : L ≠ []) (S : SGr w g d' w') (hp : PermIn 0 L.length L.toArray d') (hs : SortedIn geL 0 L.length d') :
    GrS w' b (.slice (some ⟨g, 0, none⟩) L.length cap) d'.toList D mk ∧ d'.toList.Pairwise (fun x y => x.2 < y.2) := by
  have sz : d'.size = L.length := by rw [hp.1]; simp
  have perm : d'.toList.Perm L := by
    have := hp.2.2
    rw [show d'.extract 0 L.length = d' from by rw [← sz]; simp, show L.toArray.extract 0 L.length = L.toArray from by simp] at this
    simpa using this
  have far : ∀ u xs, AX LTfr w b u xs → AX LTfr w' b u xs := fun u xs hu => hu.fr S.fr (fun q _ _ hq s => by
    subst s
    obtain ⟨c1, q1⟩ := hu.block hq
    obtain ⟨c2, q2⟩ := h.ax.block (g := q) rfl
    rw [q1] at q2
    simp only [Option.some.injEq, Obj.cells.injEq] at q2
    exact absurd q2.2.1 (by decide))
  have ndp : (d'.toList.map (·.2)).Nodup := (perm.map (·.2)).nodup_iff.2 h.nd
  have hlen : d'.toList.length = L.length := by rw [Array.length_toList, sz]
  refine ⟨⟨?_, fun c => absurd (perm.symm.trans (c ▸ List.Perm.refl _)).eq_nil hne, fun e he => ?_, fun d hd hl => ?_, ndp⟩, ?_⟩
  · have hax := h.ax
    refine ⟨⟨by simp only [flat_len LTge_ok.E], .inr ?_⟩, fun q hq => by cases hq; exact ⟨(hax.up g rfl).1, Nat.lt_of_lt_of_le (hax.up g rfl).2 S.fr.size⟩⟩
    obtain ⟨_, h2⟩ := hax.ol
    rcases h2 with ⟨c, _⟩ | ⟨g', cap', cur, e, _, h4, h5, h6, h7, _⟩
    · cases c
    · cases e
      obtain ⟨cur0, cur2, r0, r1, r2⟩ := S.row
      rw [r0] at h4
      simp only [Option.some.injEq, Obj.cells.injEq] at h4
      obtain ⟨rfl, _, _⟩ := h4
      refine ⟨g, cap, cur2, by rw [hlen], Nat.zero_le _, r1, by rw [hlen]; exact h5, h6, by rw [r2]; exact h7, ?_⟩
      apply List.ext_getElem?
      intro i
      rw [hlen]
      by_cases hi : i < L.length
      · have hi2 : i < d'.size := by omega
        rw [List.getElem?_take_of_lt (by simpa [LTge] using hi)]
        have c1 := S.cell i hi2
        rw [cell_of_row w' g i _ _ _ r1] at c1
        have c2 := flat_get LTge_ok.E d'.toList i 0 d'[i]! (by rw [Array.getElem?_toList, getElem!_pos d' i hi2, Array.getElem?_eq_getElem hi2]) (by decide)
        rw [show i * LTge.sz + 0 = i from by simp [LTge]] at c2
        rw [c2, Array.getElem?_toList, c1]
        rfl
      · rw [List.getElem?_eq_none (by rw [List.length_take]; simp [LTge]; omega), List.getElem?_eq_none (by rw [flat_len LTge_ok.E, hlen]; simp [LTge]; omega)]
  · obtain ⟨d, q0, q1, q2, q3⟩ := h.all e (perm.mem_iff.1 he)
    exact ⟨d, q0, q1, far _ _ q2, q3⟩
  · obtain ⟨e, he, q⟩ := h.back d hd hl
    exact ⟨e, perm.mem_iff.2 he, q⟩
  · rw [List.pairwise_iff_getElem]
    intro i j hi hj hij
    have h1 := hs i j (Nat.zero_le _) hij (by omega)
    have b1 : d'[j]! = d'.toList[j] := by rw [getElem!_pos d' j (by simpa using hj)]; simp
    have b2 : d'[i]! = d'.toList[i] := by rw [getElem!_pos d' i (by simpa using hi)]; simp
    rw [b1, b2] at h1
    have h2 : ¬ d'.toList[j].2 < d'.toList[i].2 := by simpa [geL] using h1
    have h3 : d'.toList[i].2 ≠ d'.toList[j].2 := by
      have := List.pairwise_iff_getElem.1 ndp i j (by simpa using hi) (by simpa using hj) hij
      simpa using this
    omega
end
theorem EWm.notCells {κ : Type} {kv : κ → Value} {ok : κ → Prop} {w : World} {b r c : Nat} {g : κ → Option Value} {K D : List κ} (h : EWm kv ok w b r g K D c) (cs : Array Value) (t : TypeId) (q : Nat × Nat) (hc : w.heap[r]? = some (Obj.cells cs t q)) : False := by
  obtain ⟨es, clock, since, seen, c0, _, _, hr, _⟩ := h
  rw [hr] at hc
  cases hc
theorem GrS.few {w : World} {b : Nat} {v : Value} {L : List GE} {D : CN → Prop} {Sg : Nat → Option CN} {N : Nat} (h : GrS w b v L D (mkD Sg N)) : L.length ≤ N := by
  have e : ∀ x ∈ L, ∃ k : Nat, x.2 = (k : Int) ∧ k < N := fun x hx => by
    obtain ⟨d, _, q1, _, q3⟩ := h.all x hx
    cases c : blF (mkD Sg N d) with
    | nil => rw [c] at q1; simp at q1
    | cons k l =>
      have hk : k ∈ blF (mkD Sg N d) := by rw [c]; simp
      have := ((blF_mem _ _).1 hk).2
      rw [mkD_bit] at this
      simp at this
      exact ⟨k, by rw [q3, c]; rfl, this.1⟩
  have := nodup_below N (L.map fun x => x.2.toNat) (by
    rw [List.nodup_iff_pairwise_ne, List.pairwise_map]
    have nd := h.nd
    rw [List.nodup_iff_pairwise_ne, List.pairwise_map] at nd
    exact nd.imp_of_mem (fun {x y} hx hy hne => by
      obtain ⟨k1, a1, _⟩ := e x hx
      obtain ⟨k2, a2, _⟩ := e y hy
      rw [a1, a2] at hne ⊢
      simp only [Int.toNat_natCast]
      exact fun q => hne (by rw [q]))) (fun k hk => by
    obtain ⟨x, hx, rfl⟩ := List.mem_map.1 hk
    obtain ⟨k1, a1, a2⟩ := e x hx
    rw [a1, Int.toNat_natCast]
    exact a2)
  simpa using this
/-- Frames that two digests have are none. -/
theorem hd_apart {Sg : Nat → Option CN} {N : Nat} {d d' : CN} (hne : d' ≠ d) (h1 : 1 < (blF (mkD Sg N d)).length) (h2 : 1 < (blF (mkD Sg N d')).length) : hdF (blF (mkD Sg N d')) ≠ hdF (blF (mkD Sg N d)) := by
  have key : ∀ e, 1 < (blF (mkD Sg N e)).length → ∃ x : Nat, hdF (blF (mkD Sg N e)) = (x : Int) ∧ Sg x = some e := fun e he => by
    cases c : blF (mkD Sg N e) with
    | nil => rw [c] at he; simp at he
    | cons x l =>
      refine ⟨x, rfl, ?_⟩
      have hx : x ∈ blF (mkD Sg N e) := by rw [c]; simp
      have := ((blF_mem _ _).1 hx).2
      rw [mkD_bit] at this
      simp at this
      exact this.2
  obtain ⟨x, q1, q2⟩ := key d h1
  obtain ⟨y, q3, q4⟩ := key d' h2
  rw [q1, q3]
  intro c
  have : y = x := by omega
  subst this
  rw [q2] at q4
  exact hne (Option.some.inj q4).symm

section
variable {w : World} {S : Nat → Prop} {p pm N : Nat} {Sg : Nat → Option CN}
set_option maxHeartbeats 8000000 in
theorem ialike_walk (h : IX w S p pm Sg N) (T : TAB w) (hN : N ≤ 12) :
    Calls Tryd.prog 19 #[.pointer (some ⟨p, 0, none⟩)] w fun e w' => ∃ v L D, e = .returned v ∧ GrS w' w.heap.size v L D (mkD Sg N) ∧ (∀ d, mkD Sg N d ≠ 0 → D d) ∧ L.Pairwise (fun x y => x.2 < y.2) ∧ Kp w w' := by
  obtain ⟨bs, bf, Ks, G, Kf, hd⟩ := h
  have c2 := hd.c2
  obtain ⟨w1, r1, m1, k1, s1⟩ := EMp.range Tryd.underlying65 hd.mf
  have HH : Hid (IXd w S p pm bs bf Sg N Ks G Kf ∧ TAB w ∧ N ≤ 12 ∧ EWm cK okC w1 bf w.heap.size G Kf [] Kf.length ∧ Kp w w1) := ⟨hd, T, hN, m1, k1⟩
  clear hd T hN m1 k1 s1
  go_enter Tryd.func19, Tryd.ntmps19
  go_wp2_with fail
  go_loopg [3] (Kf.length + 1) (fun c v3 wr => ∃ (c' : Nat) (D : List CN) (L : List GE), c' + 1 ≤ c ∧ Hid (EWm cK okC wr bf w.heap.size G Kf D c' ∧ GrS wr w.heap.size v3 L (fun d => d ∈ D) (mkD Sg N) ∧ Kp w wr ∧ w.heap.size < wr.heap.size))
  case atStart => exact ⟨Kf.length, [], [], Nat.le_refl _, HH.out.2.2.2.1, (show GrS _ _ _ _ (fun d => d ∈ []) _ by have := GrS.start w1 w.heap.size (mkD Sg N); simpa using this), HH.out.2.2.2.2, HH.out.2.2.2.1.lt⟩
  case round =>
    obtain ⟨c', D, L, hc, HL⟩ := hrel
    rcases HL.out.1.next kv_c 0 with ⟨_, hall, hn⟩ | ⟨d, v, w2, c2', hdK, hGd, hdD, hn, m2, hlt, f2, s2, he⟩
    · have HA : Hid (∀ x ∈ Kf, x ∈ D) := hall
      have hcomp : ∀ d, mkD Sg N d ≠ 0 → d ∈ D := fun d hm => by
        cases e : G d with
        | none => exact absurd (HH.out.1.non _ e) hm
        | some v =>
          obtain ⟨_, _, _, hE⟩ := HH.out.1.mf
          exact HA.out d ((hE.mem d).2 (by rw [e]; rfl))
      have HC : Hid (∀ d, mkD Sg N d ≠ 0 → d ∈ D) := hcomp
      have hb : L.length ≤ 12 := by have := HL.out.2.1.few; have := HH.out.2.2.1; omega
      clear hall hcomp
      by_cases hL : L = []
      · obtain rfl : u3 = .slice none 0 0 := HL.out.2.1.nil hL
        have cs := sortG_nil wr
        have HP : Hid (L.Pairwise (fun x y => x.2 < y.2)) := by show L.Pairwise _; rw [hL]; exact List.Pairwise.nil
        clear hL hb
        go_wp2_with fail
        with_reducible refine cs.mono ?_
        rintro e wr ⟨rfl, rfl⟩
        clear cs
        go_wp2_with fail
        go_ret
        exact ⟨_, L, _, rfl, HL.out.2.1, HC.out, HP.out, HL.out.2.2.1⟩
      · obtain ⟨g, cap, rfl, S1, hbg⟩ := HL.out.2.1.sorts hL
        have cs := sortG_any S1 L.length cap (by simp) hb
        have HL2 : Hid (L ≠ [] ∧ w.heap.size ≤ g) := ⟨hL, hbg⟩
        clear hL hb S1 hbg
        go_wp2_with fail
        with_reducible refine cs.mono ?_
        rintro e W2 ⟨rfl, hd'⟩
        have HD := hidG hd'
        clear cs hd'
        go_wp2_with fail
        go_ret
        obtain ⟨d', S2, hp, hs⟩ := HD.out
        obtain ⟨G2, P2⟩ := GrS.sorted HL.out.2.1 HL2.out.1 S2 hp hs
        exact ⟨_, d'.toList, _, rfl, G2, HC.out, P2, S2.fr.kp HL.out.2.2.1 (fun i e => by rw [e]; exact HL2.out.2)⟩
    · have k2 : Kp w w2 := f2.kp HL.out.2.2.1 (fun i e => by omega)
      have sw : SWd w 0 v (mkD Sg N d) := by obtain ⟨_, _, _, _, _, _, _, _, _, q⟩ := HH.out.1.hit d v hGd; exact q
      have hT := HH.out.2.1.kp k2
      have hit := each_ok hT (sw.kpt k2) (mkD_lt Sg N d HH.out.1.nN)
      have hlen : (blF (mkD Sg N d)).length ≤ 64 := by
        refine nodup_below 64 _ ?_ (fun x hx => ((blF_mem _ _).1 hx).1)
        unfold blF
        exact List.nodup_range.filter _
      have cc := collect_any hT hit (by omega)
      have hG2 : GrS w2 w.heap.size u3 L (fun d => d ∈ D) (mkD Sg N) := HL.out.2.1.fr f2 (fun g cur hc e => by subst e; exact HL.out.1.notCells _ _ _ hc) (fun g cur hc e => by subst e; exact HL.out.1.notCells _ _ _ hc)
      have H2 : Hid (EWm cK okC w2 bf w.heap.size G Kf (D ++ [d]) c2' ∧ c2' < c' ∧ GrS w2 w.heap.size u3 L (fun d => d ∈ D) (mkD Sg N) ∧ Kp w w2 ∧ d ∉ D ∧ w.heap.size < w2.heap.size) := ⟨m2, hlt, hG2, k2, hdD, by have := HL.out.2.2.2; omega⟩
      clear hG2 hT hit sw k2 m2 hlt hdD f2 s2 hGd hdK
      go_wp2_with fail
      with_reducible refine cc.mono ?_
      rintro e w3 ⟨u, rfl, ax, k3⟩
      have K3 : Hid (Kp w2 w3) := k3
      have hx : Hid (blF (mkD Sg N d) = blF (mkD Sg N d)) := rfl
      obtain ⟨xs, hxs⟩ : ∃ xs, xs = blF (mkD Sg N d) := ⟨_, rfl⟩
      have HX : Hid (xs = blF (mkD Sg N d)) := hxs
      rw [← hxs] at ax hlen
      clear hx hxs cc k3 he
      have ax2 : AX LTfr w3 w.heap.size u xs := ax.low (by have := H2.out.2.2.2.2.2; omega)
      clear ax
      by_cases hl1 : 1 < xs.length
      · obtain ⟨na, cap, eu, _, hna, _⟩ := ax2.form LTfr_ok
        obtain ⟨g, rfl⟩ : ∃ g, na = some ⟨g, 0, none⟩ := by
          rcases hna with ⟨_, _, c⟩ | ⟨g, q, _⟩
          · rw [c] at hl1; simp at hl1
          · exact ⟨g, q⟩
        subst eu
        obtain ⟨e, he⟩ : ∃ e : GE, e = ((g, xs.length, cap), hdF xs) := ⟨_, rfl⟩
        have ev : geV e = .slice (some ⟨g, 0, none⟩) xs.length cap := by rw [he]; rfl
        have G3 : GrS w3 w.heap.size u3 L (fun d => d ∈ D) (mkD Sg N) := H2.out.2.2.1.kp K3.out
        have kt : Kp w3 (w3.alloc (.cells #[.slice (some ⟨g, 0, none⟩) xs.length cap] 46)) := (Kp.refl w3).alloc _
        have hfew := G3.few
        have hs : AS LTge (w3.alloc (.cells #[.slice (some ⟨g, 0, none⟩) xs.length cap] 46)) (some ⟨w3.heap.size, 0, none⟩) [e] := by
          have := AS.made (T := LTge) w3 [e]
          rw [show ([e].flatMap LTge.enc).toArray = #[.slice (some ⟨g, 0, none⟩) xs.length cap] from by rw [← ev]; rfl] at this
          exact this
        obtain ⟨na', n', cap', w4, r4, n4, ax4, fr4, kp4, _⟩ := (G3.kp kt).ax.app LTge_ok (by have := H2.out.2.2.2.2.2; have := K3.out.size; simp; omega) hs (m := 1) (c := 1) rfl (fun c => by cases c) (by have := HH.out.2.2.1; have := HH.out.1.nN; simp; omega) 49
        have k4 : Kp w w4 := kp4 w (Nat.le_refl _) ((H2.out.2.2.2.1.trans K3.out).trans kt)
        have G4 := (G3.kp kt).more (mk := mkD Sg N) (d := d) ax4 fr4 (by rw [← HX.out]; exact hl1) (by rw [ev, ← HX.out]; exact ax2.kp kt) (by rw [he, ← HX.out]) (fun d' h1 h2 => hd_apart (fun c => H2.out.2.2.2.2.1 (c ▸ h1)) (by rw [← HX.out]; exact hl1) h2)
        have M4 : EWm cK okC w4 bf w.heap.size G Kf (D ++ [d]) c2' := by
          have M3 : EWm cK okC (w3.alloc (.cells #[.slice (some ⟨g, 0, none⟩) xs.length cap] 46)) bf w.heap.size G Kf (D ++ [d]) c2' := H2.out.1.fr ((K3.out.trans kt).fr (fun _ => False)) id id
          have hbl : ∀ q, u3.ownBlock = some q → q ≠ bf ∧ q ≠ w.heap.size := fun q hq => by
            obtain ⟨cur, hc⟩ := (G3.kp kt).ax.block hq
            refine ⟨fun c => ?_, fun c => ?_⟩
            · subst c
              obtain ⟨es, clock, hb, _⟩ := M3.map
              rw [hc] at hb
              cases hb
            · subst c
              exact M3.notCells _ _ _ hc
          exact M3.fr fr4 (fun c => (hbl _ c).1 rfl) (fun c => (hbl _ c).2 rfl)
        have H4 : Hid (EWm cK okC w4 bf w.heap.size G Kf (D ++ [d]) c2' ∧ GrS w4 w.heap.size (.slice na' n' cap') (L ++ [e]) (fun x => x ∈ D ++ [d]) (mkD Sg N) ∧ Kp w w4 ∧ w.heap.size < w4.heap.size) := ⟨M4, by
          have : (fun x => x ∈ D ++ [d]) = fun x => x ∈ D ∨ x = d := by funext x; simp
          rw [this]; exact G4, k4, by have q1 := fr4.size; rw [World.size_alloc] at q1; have q2 := K3.out.size; have q3 := H2.out.2.2.2.2.2; omega⟩
        have y1 : (1 : Int) < (xs.length : Int) := by omega
        clear ax2 hna G3 kt hfew hs n4 ax4 fr4 kp4 k4 G4 M4 ev he
        generalize xs.length = m at *
        repeat' (first | ((with_reducible refine wp_append_of r4 (.tmp 22) (.tmp 24) ?_ ?_ ?_ ?_ ?_); rfl; rfl; rfl; rfl) | go_values | go_skip | go_guarded | go_step | go_upon | go_back | (simp only []) | (go_values <;> (try go_simp)) | (go_ite <;> go_prune <;> (try go_simp)))
        go_roundg (c2' + 1)
        case measure => have := H2.out.2.1; omega
        case rel => exact ⟨c2', D ++ [d], L ++ [e], Nat.le_refl _, H4.out⟩
      · obtain ⟨na, cap, eu, _, _, _⟩ := ax2.form LTfr_ok
        subst eu
        have G3 : GrS w3 w.heap.size u3 L (fun x => x ∈ D ++ [d]) (mkD Sg N) := by
          have : (fun x => x ∈ D ++ [d]) = fun x => x ∈ D ∨ x = d := by funext x; simp
          rw [this]
          exact (H2.out.2.2.1.kp K3.out).skip (by rw [← HX.out]; exact hl1)
        have H4 : Hid (EWm cK okC w3 bf w.heap.size G Kf (D ++ [d]) c2' ∧ GrS w3 w.heap.size u3 L (fun x => x ∈ D ++ [d]) (mkD Sg N) ∧ Kp w w3 ∧ w.heap.size < w3.heap.size) := ⟨H2.out.1.fr (K3.out.fr (fun _ => False)) id id, G3, H2.out.2.2.2.1.trans K3.out, by have := K3.out.size; have := H2.out.2.2.2.2.2; omega⟩
        have y1 : ¬ (1 : Int) < (xs.length : Int) := by omega
        clear ax2 G3
        generalize xs.length = m at *
        go_wp2_with fail
        go_roundg (c2' + 1)
        case measure => have := H2.out.2.1; omega
        case rel => exact ⟨c2', D ++ [d], L, Nat.le_refl _, H4.out⟩
end

end Go.Proofs.YtpjlmmiceiionaaDoor
