/- Joined: CW, CX. -/
import Derived.Test.YtpjlmmiceiionaaDoorCT
/- index: the document's index: Find. -/
namespace Go.Proofs.YtpjlmmiceiionaaDoor
open Go.RowKit Go.Maps
set_option maxRecDepth 10000

theorem find_at {α : Type} {P : α → Bool} {L : List α} {i : Nat} {y : α} (lo : ∀ j z, j < i → L[j]? = some z → P z = false) (hy : L[i]? = some y) (hp : P y = true) : L.find? P = some y := by
  have hi := (List.getElem?_eq_some_iff.1 hy)
  obtain ⟨hlt, he⟩ := hi
  rw [← List.take_append_drop i L, List.find?_append, List.find?_eq_none.2 (fun z hz => by
    obtain ⟨j, hj⟩ := List.mem_iff_getElem?.1 hz
    rw [List.getElem?_take] at hj
    split at hj
    · rw [lo j z (by assumption) hj]; decide
    · cases hj), Option.none_or, List.drop_eq_getElem_cons hlt, List.find?_cons, he, hp]
theorem find_no {α : Type} {P : α → Bool} {L : List α} {n : Nat} (hn : n = L.length) (lo : ∀ j z, j < n → L[j]? = some z → P z = false) : L.find? P = none := by
  refine List.find?_eq_none.2 fun z hz => ?_
  obtain ⟨j, hj⟩ := List.mem_iff_getElem?.1 hz
  rw [lo j z (by have := (List.getElem?_eq_some_iff.1 hj).1; omega) hj]; decide

theorem cguard (x y : Operand) (d e : CN) (w : World) : (eqGuard .eql 51 x y (cK d) (cK e)).run Tryd.prog w = .ok () w := rfl
theorem cguard_ne (x y : Operand) (d e : CN) (w : World) : (eqGuard .neq 51 x y (cK d) (cK e)).run Tryd.prog w = .ok () w := rfl
theorem ccmp (x y : Int) (hx : x.natAbs < 9007199254740992) (hy : y.natAbs < 9007199254740992) (w : World) : (Op.Complex.cmp .eql .f64 (flC x) (flC y)).run Tryd.prog w = .ok (decide (x = y)) w := by
  rw [← feq x y hx hy]; rfl
theorem ceql {d e : CN} (hd : okC d) (he : okC e) (w : World) : (binOp .eql 51 (cK d) (cK e)).run Tryd.prog w = .ok (.bool (decide (d = e))) w := by
  have e1 : decide (d = e) = (decide (d.1 = e.1) && decide (d.2 = e.2)) := by
    rcases d with ⟨x, y⟩; rcases e with ⟨u, v⟩
    simp
  rw [e1]
  show (Op.complexOp .eql .f64 (flC d.1) (flC d.2) (flC e.1) (flC e.2)).run Tryd.prog w = _
  simp only [Op.complexOp, Sem.run_bind, ccmp _ _ hd.1 he.1, ccmp _ _ hd.2 he.2, Result.andThen_ok, Sem.run_pure]
theorem cneq {d e : CN} (hd : okC d) (he : okC e) (w : World) : (binOp .neq 51 (cK d) (cK e)).run Tryd.prog w = .ok (.bool (!decide (d = e))) w := by
  have e1 : decide (d = e) = (decide (d.1 = e.1) && decide (d.2 = e.2)) := by
    rcases d with ⟨x, y⟩; rcases e with ⟨u, v⟩
    simp
  rw [e1]
  show (Op.complexOp .neq .f64 (flC d.1) (flC d.2) (flC e.1) (flC e.2)).run Tryd.prog w = _
  simp only [Op.complexOp, Sem.run_bind, ccmp _ _ hd.1 he.1, ccmp _ _ hd.2 he.2, Result.andThen_ok, Sem.run_pure]
theorem measW {i n gk : Nat} (e : i < n) (hg : n + 1 - i ≤ gk) : n + 1 - (i + 1) < gk := by omega

section
variable {w w' : World} {X : Nat → Prop} {r : Nat} {F : Nat → Nat → Nat} {Sg : Nat → Option CN} {vf v : Value} {Bs : List Nat}
set_option maxHeartbeats 2000000 in
theorem rof_no (na : Option Addr) (m cap : Nat) (w : World) (hm : m < 4096) :
    Calls Tryd.prog 31 #[.slice na m cap] w fun e w' => e = .returned (.tuple #[cK (0, 0), .int .i64 1]) ∧ w' = w := by
  have z1 : ¬ (m : Int) = 4096 := by omega
  rw [cK_00]
  go_enter Tryd.func31, Tryd.ntmps31
  go_wp2_with fail
  go_ret2
  exact ⟨rfl, rfl⟩
set_option maxHeartbeats 4000000 in
/-- Nothing is found of what is no page. -/
theorem rfind_no (h : RIx w X r F Sg vf v Bs) (na : Option Addr) (m cap : Nat) (hm : m < 4096) (notv : Int) :
    Calls Tryd.prog 15 #[.pointer (some ⟨r, 0, none⟩), .slice na m cap, .int .i64 notv] w fun e w' => e = .returned (.tuple #[.int .i64 0, .bool false]) ∧ w' = w := by
  have cd := rof_no na m cap w hm
  have c1 := h.c1
  obtain ⟨nl, cl, rfl, _, _, _⟩ := h.ax.form LTin_ok
  rw [cK_00] at cd
  obtain ⟨n, hn⟩ : ∃ n, n = (inL Sg).length := ⟨_, rfl⟩
  rw [← hn] at c1
  have HN : Hid (n = (inL Sg).length) := hn
  clear h hm hn
  go_enter Tryd.func15, Tryd.ntmps15
  go_wp2_with fail
  with_reducible refine cd.mono ?_
  rintro e w ⟨rfl, rfl⟩
  clear cd
  by_cases c : 0 < n
  · have z1 : (0 : Int) < (n : Int) := by omega
    go_wp2_with fail
    go_loopg [10] 1 (fun gg v10 wr => v10 = .int .i64 0 ∧ wr = w)
    case atStart => exact ⟨rfl, rfl⟩
    case round =>
      obtain ⟨rfl, rfl⟩ := hrel
      go_wp2_with fail
      go_ret2
      exact ⟨rfl, rfl⟩
  · have z1 : ¬ (0 : Int) < (n : Int) := by omega
    go_wp2_with fail
    go_loopg [10] 1 (fun gg v10 wr => v10 = .int .i64 0 ∧ wr = w)
    case atStart => exact ⟨rfl, rfl⟩
    case round =>
      obtain ⟨rfl, rfl⟩ := hrel
      go_wp2_with fail
      go_ret2
      exact ⟨rfl, rfl⟩

set_option maxHeartbeats 8000000 in
theorem rfind_any (h : RIx w X r F Sg vf v Bs) (hC : ∀ i d, Sg i = some d → okC d) {b cap : Nat} {f : Nat → Nat} (H : BS w b 0 4096 f) (hF : ∀ x, Bytes (F x)) (notv : Int) :
    Calls Tryd.prog 15 #[.pointer (some ⟨r, 0, none⟩), .slice (some ⟨b, 0, none⟩) 4096 cap, .int .i64 notv] w fun e w' => e = .returned (.tuple #[.int .i64 (((fndR Sg 12 F f notv).getD 0 : Nat) : Int), .bool (fndR Sg 12 F f notv).isSome]) ∧ w' = w := by
  have cd := rdof_any b cap f w H
  rw [inL_find]
  have c1 := h.c1
  obtain ⟨L, hL⟩ : ∃ L, L = inL Sg := ⟨_, rfl⟩
  have hl := inL_len Sg
  have ax := h.ax
  rw [← hL] at hl ax ⊢
  obtain ⟨na, cl, rfl, _, _, hc⟩ := ax.form LTin_ok
  obtain ⟨n, hn⟩ : ∃ n, n = L.length := ⟨_, rfl⟩
  rw [← hn] at c1
  obtain ⟨d, hd⟩ : ∃ d, d = dgt f := ⟨_, rfl⟩
  rw [← hd] at cd ⊢
  obtain ⟨P, hP⟩ : ∃ P : Nat × CN → Bool, P = fun y => (decide ((y.1 : Int) ≠ notv) && decide (y.2 = d)) && alike (F y.1) f 4096 := ⟨_, rfl⟩
  have HPf : Hid (∀ y, P y = ((decide ((y.1 : Int) ≠ notv) && decide (y.2 = d)) && alike (F y.1) f 4096)) := fun y => by rw [hP]
  rw [← hP]
  have HN : Hid (n = L.length ∧ (∀ i x, L[i]? = some x → ∃ g, na = some ⟨g, 0, none⟩ ∧ g < w.heap.size ∧ 0 ≤ g ∧ ∀ j y, (LTin.enc x)[j]? = some y → w.cell? ⟨g, i * LTin.sz + j, none⟩ = some y) ∧ (∀ y, y ∈ L → y.1 < 12 ∧ okC y.2) ∧ okC d ∧ BS w b 0 4096 f ∧ ∀ x, Bytes (F x)) := ⟨hn, hc, fun y hy => by
    rw [hL] at hy
    have := (inL_mem _ y).1 hy
    exact ⟨this.1, hC _ _ this.2⟩, by rw [hd]; exact dgt_ok H.byte, H, hF⟩
  obtain ⟨R, hR⟩ : ∃ R, R = L.find? P := ⟨_, rfl⟩
  have HR : Hid (R = L.find? P) := hR
  rw [← hR]
  have HH : Hid (RIx w X r F Sg vf (.slice na L.length cl) Bs) := h
  have bn : (n : Int) ≤ 12 := by omega
  obtain ⟨vd, hvd⟩ : ∃ vd, cK d = vd := ⟨_, rfl⟩
  have HV : Hid (cK d = vd) := hvd
  rw [hvd] at cd
  clear h ax hn hc hL hl hd hP hR hvd H hF hC
  go_enter Tryd.func15, Tryd.ntmps15
  go_wp2_with fail
  with_reducible refine cd.mono ?_
  rintro e w ⟨rfl, rfl⟩
  clear cd
  go_wp2_with fail
  go_loopg [10] (n + 1) (fun gg v10 wr => ∃ i : Nat, v10 = .int .i64 (i : Int) ∧ i ≤ n ∧ n + 1 - i ≤ gg ∧ wr = w ∧ Hid (∀ j y, j < i → L[j]? = some y → P y = false))
  case atStart => exact ⟨0, rfl, by omega, by omega, rfl, (show ∀ j y, j < 0 → _ from fun j y hj => by omega)⟩
  case round =>
    obtain ⟨i, rfl, hi, hg, ew, HI⟩ := hrel
    subst ew
    by_cases hlt : i < n
    · have z1 : (i : Int) < (n : Int) := by omega
      obtain ⟨y, hy⟩ : ∃ y, L[i]? = some y := ⟨_, List.getElem?_eq_getElem (by have := HN.out.1; omega)⟩
      obtain ⟨g, rfl, _, _, hc⟩ := HN.out.2.1 i y hy
      have e0 := hc 0 _ rfl
      have e1 := hc 1 _ rfl
      simp only [show LTin.sz = 2 from rfl, Nat.add_zero] at e0 e1
      have ym := HN.out.2.2.1 y (List.mem_of_getElem? hy)
      have cg := rget_ok HH.out y.1 ym.1
      have Hy : Hid (L[i]? = some y) := hy
      have eqc := ceql ym.2 HN.out.2.2.2.1
      have eqg := fun x z => cguard x z y.2 d
      rw [HV.out] at eqc eqg
      obtain ⟨vy, hvy⟩ : ∃ vy, cK y.2 = vy := ⟨_, rfl⟩
      obtain ⟨q, hq⟩ : ∃ q, decide (y.2 = d) = q := ⟨_, rfl⟩
      obtain ⟨t, ht⟩ : ∃ t, alike (F y.1) f 4096 = t := ⟨_, rfl⟩
      have HT : Hid (P y = ((decide ((y.1 : Int) ≠ notv) && q) && t) ∧ alike (F y.1) f 4096 = t) := ⟨by rw [HPf.out, hq, ht], ht⟩
      rw [hvy] at e1 eqc eqg
      rw [hq] at eqc
      obtain ⟨G, hG⟩ : ∃ G, G = F y.1 := ⟨_, rfl⟩
      have hGb : Bytes G := by rw [hG]; exact HN.out.2.2.2.2.2 _
      rw [← hG] at cg ht
      obtain ⟨yy, hyy⟩ : ∃ yy, yy = y.1 := ⟨_, rfl⟩
      rw [← hyy] at e0 cg HT
      have HY : Hid (yy = y.1) := hyy
      clear hc hy ym hvy hq hG hyy
      go_wp2_with fail
      with_reducible refine cg.mono ?_
      rintro e w ⟨⟨px, rfl, hpx, bpx⟩, rfl⟩
      have s1 := string_any w px 0 4096 4096 G bpx.cells
      have s2 := string_any w b 0 4096 cap f HN.out.2.2.2.2.1.cells
      have se := strOf_eq (n := 4096) hGb HN.out.2.2.2.2.1.byte
      rw [ht] at se
      have HX : Hid (∀ b, P y = b → b = false → ∀ j z, j < i + 1 → L[j]? = some z → P z = false) := fun b hb hb2 j z hj hz => by
        by_cases ej : j = i
        · rw [ej, Hy.out] at hz; cases hz; rw [hb, hb2]
        · exact HI.out j z (by omega) hz
      have HE : Hid (P y = true → R = some y) := fun hp => by rw [HR.out]; exact find_at HI.out Hy.out hp
      clear cg hpx bpx ht hGb HI
      generalize strOf G 4096 = sx at s1 se
      generalize strOf f 4096 = sy at s2 se
      by_cases c1 : yy = notv
      · have HP0 : Hid (P y = false) := by show _ = _; rw [HT.out.1]; simp [c1]
        go_wp2_with fail
        go_roundg (n + 1 - (i + 1))
        case measure => exact measW hlt hg
        case rel => exact ⟨i + 1, by go_num, hlt, Nat.le_refl _, rfl, HX.out _ HP0.out rfl⟩
      · have z2 : ¬ (yy : Int) = notv := c1
        cases q with
        | false =>
          have HP0 : Hid (P y = false) := by show _ = _; rw [HT.out.1]; simp
          go_wp2_with fail
          go_roundg (n + 1 - (i + 1))
          case measure => exact measW hlt hg
          case rel => exact ⟨i + 1, by go_num, hlt, Nat.le_refl _, rfl, HX.out _ HP0.out rfl⟩
        | true =>
          cases t with
          | false =>
            have HP0 : Hid (P y = false) := by show _ = _; rw [HT.out.1]; simp
            go_wp2_with fail
            go_roundg (n + 1 - (i + 1))
            case measure => exact measW hlt hg
            case rel => exact ⟨i + 1, by go_num, hlt, Nat.le_refl _, rfl, HX.out _ HP0.out rfl⟩
          | true =>
            have HP0 : Hid (P y = true) := by show _ = _; rw [HT.out.1]; simp [c1]
            have HR2 : Hid (R = some y) := HE.out HP0.out
            go_wp2_with fail
            go_ret2
            exact ⟨by rw [HR2.out, HY.out]; rfl, rfl⟩
    · have z1 : ¬ (i : Int) < (n : Int) := by omega
      have HE : Hid (R = none) := by
        show R = none
        rw [HR.out]
        exact find_no HN.out.1 (fun j z hj => HI.out j z (by omega))
      clear HI
      go_wp2_with fail
      go_ret2
      exact ⟨by rw [HE.out]; rfl, rfl⟩
end

end Go.Proofs.YtpjlmmiceiionaaDoor

/- index: the document's index: Alike, by reckoning. -/
namespace Go.Proofs.YtpjlmmiceiionaaDoor
open Go.RowKit Go.Maps
set_option maxRecDepth 10000

theorem take_one {α : Type} {L : List α} {k : Nat} {z : α} (h : L[k]? = some z) : L.take (k + 1) = L.take k ++ [z] := by
  rw [List.take_add_one, h]; rfl
/-- No frame ahead of the place k has the digest d. -/
def frst (L : List (Nat × CN)) (k : Nat) (d : CN) : Bool := (L.take k).all fun z => !decide (z.2 = d)
/-- The frames ahead of the place k that have the digest d. -/
def gTo (L : List (Nat × CN)) (k : Nat) (d : CN) : List Nat := ((L.take k).filter fun y => decide (y.2 = d)).map Prod.fst
/-- The digests ahead of the place k. -/
def dTo (L : List (Nat × CN)) (k : Nat) (x : CN) : Prop := ∃ z ∈ L.take k, z.2 = x
section
variable {L : List (Nat × CN)} {k : Nat} {z : Nat × CN} {d : CN}
theorem frst_0 (L : List (Nat × CN)) (d : CN) : frst L 0 d = true := by unfold frst; simp
theorem frst_next (h : L[k]? = some z) : frst L (k + 1) d = (frst L k d && !decide (z.2 = d)) := by
  unfold frst
  rw [take_one h, List.all_append]; simp
theorem frst_no (h : frst L k d = false) : dTo L k d := by
  unfold frst at h
  rw [List.all_eq_false] at h
  obtain ⟨z, hz, h⟩ := h
  exact ⟨z, hz, by simpa using h⟩
theorem frst_yes (h : frst L k d = true) : ∀ z ∈ L.take k, z.2 ≠ d := by
  unfold frst at h
  intro z hz
  have := List.all_eq_true.1 h z hz
  simpa using this
theorem gTo_first (h : frst L k d = true) : gTo L k d = [] := by
  unfold gTo
  rw [List.filter_eq_nil_iff.2 fun z hz => by simpa using frst_yes h z hz]; rfl
theorem gTo_yes (h : L[k]? = some z) (c : z.2 = d) : gTo L (k + 1) d = gTo L k d ++ [z.1] := by
  unfold gTo
  rw [take_one h, List.filter_append, List.map_append, List.filter_cons, if_pos (decide_eq_true c)]; rfl
theorem gTo_no (h : L[k]? = some z) (c : z.2 ≠ d) : gTo L (k + 1) d = gTo L k d := by
  unfold gTo
  rw [take_one h, List.filter_append, List.map_append, List.filter_cons, if_neg (by simpa using c)]; simp
theorem gTo_len (L : List (Nat × CN)) (k : Nat) (d : CN) : (gTo L k d).length ≤ L.length := by
  unfold gTo
  rw [List.length_map]
  exact Nat.le_trans (List.length_filter_le _ _) (by rw [List.length_take]; omega)
theorem gTo_all (Sg : Nat → Option CN) (d : CN) {n : Nat} (h : (inL Sg).length ≤ n) : gTo (inL Sg) n d = blF (mkD Sg 12 d) := by
  unfold gTo
  rw [List.take_of_length_le h, inL_fr]
theorem dTo_0 (L : List (Nat × CN)) : dTo L 0 = fun _ => False := by
  funext x
  unfold dTo
  simp
theorem dTo_next (h : L[k]? = some z) : dTo L (k + 1) = fun x => dTo L k x ∨ x = z.2 := by
  funext x
  unfold dTo
  rw [take_one h]
  refine propext ⟨?_, ?_⟩
  · rintro ⟨y, hy, rfl⟩
    rcases List.mem_append.1 hy with c | c
    · exact .inl ⟨y, c, rfl⟩
    · rw [List.mem_singleton] at c; rw [c]; exact .inr rfl
  · rintro (⟨y, hy, rfl⟩ | rfl)
    · exact ⟨y, List.mem_append.2 (.inl hy), rfl⟩
    · exact ⟨z, List.mem_append.2 (.inr (List.mem_singleton.2 rfl)), rfl⟩
theorem dTo_there (h : L[k]? = some z) (c : dTo L k z.2) : dTo L (k + 1) = dTo L k := by
  rw [dTo_next h]
  funext x
  exact propext ⟨fun q => q.elim id (fun e => by rw [e]; exact c), .inl⟩
/-- The head of a group is where its digest comes first. -/
theorem hd_first {Sg : Nat → Option CN} (h : (inL Sg)[k]? = some z) (c : frst (inL Sg) k z.2 = true) : hdF (blF (mkD Sg 12 z.2)) = (z.1 : Int) := by
  have hk := (List.getElem?_eq_some_iff.1 h)
  obtain ⟨hlt, he⟩ := hk
  rw [← inL_fr]
  have e0 : inL Sg = (inL Sg).take k ++ z :: (inL Sg).drop (k + 1) := by
    conv => lhs; rw [← List.take_append_drop k (inL Sg), List.drop_eq_getElem_cons hlt, he]
  rw [e0, List.filter_append, List.filter_eq_nil_iff.2 fun y hy => by simpa using frst_yes c y hy, List.nil_append, List.filter_cons, if_pos (decide_eq_true rfl)]
  rfl
/-- The heads are in order. -/
structure HdTo (L : List (Nat × CN)) (k : Nat) (M : List GE) : Prop where
  pw : M.Pairwise (fun x y => x.2 < y.2)
  low : ∀ e ∈ M, ∃ z ∈ L.take k, e.2 = (z.1 : Int)
theorem HdTo.skip {M : List GE} (h : HdTo L k M) : HdTo L (k + 1) M :=
  ⟨h.pw, fun e he => by
    obtain ⟨z, hz, q⟩ := h.low e he
    exact ⟨z, (List.take_subset_take_left L (Nat.le_succ k)) hz, q⟩⟩
theorem HdTo.more {M : List GE} (h : HdTo L k M) (hr : L.Pairwise (fun a b => a.1 < b.1)) (hz : L[k]? = some z) {e : GE} (he : e.2 = (z.1 : Int)) : HdTo L (k + 1) (M ++ [e]) := by
  refine ⟨List.pairwise_append.2 ⟨h.pw, by simp, fun a ha b hb => ?_⟩, fun a ha => ?_⟩
  · rw [List.mem_singleton] at hb
    rw [hb, he]
    obtain ⟨y, hy, q⟩ := h.low a ha
    obtain ⟨j, hj⟩ := List.mem_iff_getElem?.1 hy
    rw [List.getElem?_take] at hj
    split at hj
    · have h1 := List.getElem?_eq_some_iff.1 hj
      have h2 := List.getElem?_eq_some_iff.1 hz
      obtain ⟨l1, e1⟩ := h1
      obtain ⟨l2, e2⟩ := h2
      have := List.pairwise_iff_getElem.1 hr j k l1 l2 (by assumption)
      rw [e1, e2] at this
      rw [q]; omega
    · cases hj
  · rw [take_one hz]
    rcases List.mem_append.1 ha with c | c
    · obtain ⟨y, hy, q⟩ := h.low a c
      exact ⟨y, List.mem_append.2 (.inl hy), q⟩
    · rw [List.mem_singleton] at c
      exact ⟨z, List.mem_append.2 (.inr (List.mem_singleton.2 rfl)), by rw [c]; exact he⟩
end
/-- Every digest that a frame has is in the list. -/
theorem dTo_all {Sg : Nat → Option CN} {n : Nat} (hn : (inL Sg).length ≤ n) (d : CN) (h : mkD Sg 12 d ≠ 0) : dTo (inL Sg) n d := by
  unfold dTo
  rw [List.take_of_length_le hn]
  obtain ⟨i, hi⟩ := Nat.exists_testBit_of_ne_zero h
  rw [mkD_bit] at hi
  simp at hi
  exact ⟨(i, d), (inL_mem _ _).2 hi, rfl⟩

end Go.Proofs.YtpjlmmiceiionaaDoor
