/- Joined: R58, R5A, R59. -/
import Derived.Test.YtanlcmdnhhdhaaaGreatDoorJ35
import Derived.Test.YtanlcmdnhhdhaaaGreatDoorJ28
import Derived.Deep.RegionLaw
/- The document's second stage: Get, Drop, New. -/
namespace Go.Proofs.YtanlcmdnhhdhaaaGreatDoor
open Go.RowKit
set_option maxRecDepth 10000

theorem res_r2 {w : World} {b : Nat} {v : LV} {fn : Func} {c t : Tmp} {tmps : Array Value} (hf : fn.results = #[.cell c 93, .tmp t]) (hc : tmps.getD c undef = .pointer (some ⟨b, 0, none⟩)) (B : w.heap[b]? = some (.cells #[.int .u64 (v.g : Int), .int .i64 (v.x : Int), .bool v.r, .bool v.q, .bool v.e, .int .i64 v.f, .int .i64 (v.l : Int)] 93 (0, 0))) :
    (results fn tmps).run Tryz.prog w = .ok (.tuple #[lvV v, tmps.getD t undef]) w := by
  have hc' : tmps[c]?.getD undef = .pointer (some ⟨b, 0, none⟩) := by simpa using hc
  have hl : (loadVar 93 ⟨b, 0, none⟩).run Tryz.prog w = .ok (lvV v) w := run_loadVar_row w b _ 93 _ _ _ B Tryz.underlying93 rfl (by kernel_rfl)
  simp [results, hf, hc', asAddr, hl]
def getL (gone : Bool) (L : List LV) (page : Nat) : LV := if gone = true ∨ ¬ 0 ≤ atI L page then lvZ else let x := L.getD (atI L page).toNat lvZ; ⟨page, x.x + (page - x.g), x.r, x.q, x.e, x.f, x.l⟩
def isL (gone : Bool) (L : List LV) (page : Nat) : Bool := !gone && decide (0 ≤ atI L page)
theorem hit_le {page : Nat} {x : LV} (h : hitL page x = true) : x.g ≤ page ∧ page - x.g < 512 := by
  unfold hitL at h
  simp at h
  omega
set_option maxHeartbeats 8000000 in
theorem rget_any {w : World} {br bf : Nat} {v : Value} {L : List LV} {fr : Int} {gone : Bool} (h : RQ w br bf v L fr gone) (hl : L.length ≤ 900000) (page : Nat) (hp : page < 18446744073709551616) :
    Calls Tryz.prog 41 #[.pointer (some ⟨br, 0, none⟩), .int .u64 (page : Int)] w fun e w' => e = .returned (.tuple #[lvV (getL gone L page), .bool (isL gone L page)]) ∧ Kp w w' := by
  have k0 : Kp w (w.alloc (.cells #[.int .u64 0, .int .i64 0, .bool false, .bool false, .bool false, .int .i64 0, .int .i64 0] 93)) := (Kp.refl w).alloc _
  have h1 := h.kp k0
  obtain ⟨na, cap, rfl, _⟩ := h.slice
  have ka := rat_any h1 (by omega) page hp
  have c0 := h1.c0
  have c3 := h1.c3
  unfold getL isL
  by_cases g1 : gone = true
  · subst g1
    rw [if_pos (.inl rfl), Bool.not_true, Bool.false_and]
    generalize atI L page = k at *
    clear h h1 hp
    go_enter Tryz.func41, Tryz.ntmps41
    go_wp2_with fail
    with_reducible refine ka.mono ?_
    rintro e w' ⟨rfl, rfl⟩
    go_wp2
    exact bodyPost_ret (res_r2 (v := lvZ) rfl rfl (heap_alloc_new w _)) rfl ⟨rfl, k0⟩
  obtain rfl : gone = false := by simpa using g1
  by_cases g2 : 0 ≤ atI L page
  · rw [if_neg (fun c => c.elim g1 (fun c => c g2)), decide_eq_true g2, Bool.not_false, Bool.true_and]
    obtain ⟨k, x, f1, f2, f3, f4⟩ := at_some g2
    rw [f4] at ka ⊢
    have ex : L.getD (((k : Nat) : Int).toNat) lvZ = x := by rw [Int.toNat_natCast, List.getD_eq_getElem?_getD, f2]; rfl
    simp only [ex]
    obtain ⟨g, rfl, hgl, hc⟩ := h1.ol.at f2
    have kn := (List.getElem?_eq_some_iff.1 f2).1
    have hok := h.ok x (List.mem_of_getElem? f2)
    have hh := hit_le f3
    have d0 : (w.alloc (.cells #[.int .u64 0, .int .i64 0, .bool false, .bool false, .bool false, .int .i64 0, .int .i64 0] 93)).cell? ⟨g, k * 7, none⟩ = some (.int .u64 (x.g : Int)) := hc 0 _ rfl
    have d1 := hc 1 _ rfl
    have d2 := hc 2 _ rfl
    have d3 := hc 3 _ rfl
    have d4 := hc 4 _ rfl
    have d5 := hc 5 _ rfl
    have d6 := hc 6 _ rfl
    have y1 : (k : Int) < L.length := by omega
    obtain ⟨df, hdf⟩ : ∃ df, df = page - x.g := ⟨_, rfl⟩
    obtain ⟨fx, hfx⟩ : ∃ fx, fx = x.x + df := ⟨_, rfl⟩
    have y2 : (page : Int) - (x.g : Int) = (df : Int) := by omega
    have y3 : (df : Int) ≤ 511 := by omega
    have y4 : (x.x : Int) + (df : Int) = (fx : Int) := by omega
    have y5 : (fx : Int) ≤ 3000 := by omega
    rw [← hdf, ← hfx]
    have y6 : IntKind.u64.wrap ((page : Int) - (x.g : Int)) = (df : Int) := by rw [y2]; simp [IntKind.wrap, IntKind.bits, IntKind.signed]; omega
    generalize x.g = xg at *
    generalize x.x = xx at *
    generalize x.r = xr at *
    generalize x.q = xq at *
    generalize x.e = xe at *
    generalize x.f = xf at *
    generalize x.l = xl at *
    clear h h1 hp f1 f2 f3 f4 hc hok hh kn hdf hfx g1 g2 ex y2
    go_enter Tryz.func41, Tryz.ntmps41
    go_wp2_with fail
    with_reducible refine ka.mono ?_
    rintro e w' ⟨rfl, rfl⟩
    go_wp2
    exact bodyPost_ret (res_r2 (v := ⟨page, fx, xr, xq, xe, xf, xl⟩) rfl rfl ((((Kp.refl (w.alloc (.cells #[.int .u64 (page : Int), .int .i64 (fx : Int), .bool xr, .bool xq, .bool xe, .int .i64 xf, .int .i64 (xl : Int)] 93))).alloc (.cells #[.int .u64 (page : Int), .int .i64 (fx : Int), .bool xr, .bool xq, .bool xe, .int .i64 xf, .int .i64 (xl : Int)] 93)).block w.heap.size (by simp)).trans (heap_alloc_new w _))) rfl ⟨rfl, ((Kp.refl w).alloc _).alloc _⟩
  · rw [if_pos (.inr g2), decide_eq_false g2, Bool.and_false]
    rw [(at_neg g2).1] at ka
    clear h h1 hp g1 g2
    go_enter Tryz.func41, Tryz.ntmps41
    go_wp2_with fail
    with_reducible refine ka.mono ?_
    rintro e w' ⟨rfl, rfl⟩
    go_wp2
    exact bodyPost_ret (res_r2 (v := lvZ) rfl rfl (heap_alloc_new w _)) rfl ⟨rfl, k0⟩
set_option maxHeartbeats 8000000 in
theorem rnew_ok {w : World} {bf : Nat} {fr : Int} (hf : w.heap[bf]? = some (.cells #[.int .i64 fr] 3 (0, 0))) (h1 : 1 ≤ fr) (h2 : fr ≤ 1000000000) :
    Calls Tryz.prog 8 #[.int .i64 2100, .pointer (some ⟨bf, 0, none⟩)] w fun e w' => (∃ br, e = .returned (.tuple #[.pointer (some ⟨br, 0, none⟩), .int .i64 0]) ∧ RQ w' br bf (.slice none 0 0) [] (fr - 1) false ∧ w.heap.size ≤ br) ∧ Fr (fun i => i = bf) w w' := by
  have cf : w.cell? ⟨bf, 0, none⟩ = some (.int .i64 fr) := by rw [cell_of_row w bf 0 _ _ _ hf]; rfl
  have zf : w.frozen? ⟨bf, 0, none⟩ = false := frozen_of_row w bf 0 _ _ hf
  have hlt := (Array.getElem?_eq_some_iff.1 hf).1
  obtain ⟨f', hf'⟩ : ∃ f', f' = fr - 1 := ⟨_, rfl⟩
  rw [← hf']
  have y1 : fr - 1 = f' := hf'.symm
  have HF : Hid (w.heap[bf]? = some (.cells #[.int .i64 fr] 3 (0, 0)) ∧ bf < w.heap.size) := ⟨hf, hlt⟩
  clear hf hf' hlt
  go_enter Tryz.func8, Tryz.ntmps8
  go_wp2
  go_ret2
  have e1 : (w.setCell ⟨bf, 0, none⟩ (.int .i64 f')).heap[bf]? = some (.cells #[.int .i64 f'] 3 (0, 0)) := heap_setCell_same w bf 0 _ _ _ HF.out.1
  have es : (w.setCell ⟨bf, 0, none⟩ (.int .i64 f')).heap.size = w.heap.size := by simp
  have k1 : Kp (w.setCell ⟨bf, 0, none⟩ (.int .i64 f')) ((w.setCell ⟨bf, 0, none⟩ (.int .i64 f')).alloc (.cells #[.slice none 0 0, .pointer (some ⟨bf, 0, none⟩), .int .i64 2100, .bool false] 69)) := (Kp.refl _).alloc _
  have f1 : Fr (fun i => i = bf) w (w.setCell ⟨bf, 0, none⟩ (.int .i64 f')) := (Fr.refl _ w).set _ _ rfl
  have l1 := HF.out.2
  refine ⟨⟨w.heap.size, rfl, ⟨?_, (k1.block bf (Array.getElem?_eq_some_iff.1 e1).1).trans e1, OL.nil _ _, (fun b hb => by cases hb), (by omega), (fun v hv => by cases hv)⟩, Nat.le_refl _⟩, f1.trans (k1.fr _)⟩
  rw [← es]
  exact heap_alloc_new _ _
/-- It is gone. -/
theorem RQ.off {w w1 w2 : World} {br bf : Nat} {v : Value} {L : List LV} {fr f' : Int} {gone : Bool} (h : RQ w br bf v L fr gone) (k : Kp w w1) (k2 : Kp (w1.setCell ⟨bf, 0, none⟩ (.int .i64 f')) w2) :
    RN w ((w2.setCell ⟨br, 0, none⟩ (.slice none 0 0)).setCell ⟨br, 3, none⟩ (.bool true)) br bf v [] f' true := by
  obtain ⟨a1, a2, _, _⟩ := h.laid (v' := .slice none 0 0) (L' := []) (OL.nil _ _) (fun v hv => by cases hv) (fun b hb => by cases hb) k k2
  refine ⟨.slice none 0 0, ⟨heap_setCell_same _ br 3 _ _ _ a1.b, (heap_setCell_other _ ⟨br, 3, none⟩ bf _ (fun c => h.ne c.symm)).trans a1.f, OL.nil _ _, fun b hb => (by cases hb), h.ne, a1.ok⟩, ?_, fun b hb => by cases hb⟩
  exact (a2.mono fun i _ c => c.elim .inl (fun c => .inr (.inl c))).set _ _ (.inl rfl)
theorem RQ.off_cells {w w1 w2 : World} {br bf : Nat} {v : Value} {L : List LV} {fr f' : Int} {gone : Bool} (h : RQ w br bf v L fr gone) (k : Kp w w1) (k2 : Kp (w1.setCell ⟨bf, 0, none⟩ (.int .i64 f')) w2) :
    (w2.cell? ⟨br, 0, none⟩ = some v ∧ w2.frozen? ⟨br, 0, none⟩ = false) ∧ (w2.setCell ⟨br, 0, none⟩ (.slice none 0 0)).cell? ⟨br, 3, none⟩ = some (.bool gone) ∧ (w2.setCell ⟨br, 0, none⟩ (.slice none 0 0)).frozen? ⟨br, 3, none⟩ = false := by
  obtain ⟨a1, _, a3, a4⟩ := h.laid (v' := .slice none 0 0) (L' := []) (OL.nil _ _) (fun v hv => by cases hv) (fun b hb => by cases hb) k k2
  exact ⟨⟨a3, a4⟩, a1.c3, a1.zb 3⟩
set_option maxHeartbeats 8000000 in
theorem rdrop_any {w : World} {br bf : Nat} {v : Value} {L : List LV} {fr : Int} {gone : Bool} (h : RQ w br bf v L fr gone) (hl : L.length ≤ 900000) (hf : -1000000000 ≤ fr ∧ fr ≤ 1000000000) (rr : Int) (hrr : rr = if gone = true then 23 else 0) :
    Calls Tryz.prog 40 #[.pointer (some ⟨br, 0, none⟩)] w fun e w' => e = .returned (.int .i64 rr) ∧ Hid ((rr = 0 → gone = false ∧ RN w w' br bf v [] (fr + (1 + (tabL L : Int))) true) ∧ (rr ≠ 0 → RN w w' br bf v L fr gone)) := by
  obtain ⟨na, cap, rfl, _⟩ := h.slice
  have c1 := h.c1
  have c3 := h.c3
  have cf := h.cf
  by_cases g1 : gone = true
  · rw [if_pos g1] at hrr
    have HE : Hid (rr = 23) := hrr
    have RW : Hid (RN w w br bf (.slice na L.length cap) L fr gone) := RN.same h (Kp.refl _)
    subst g1
    clear h hrr
    go_enter Tryz.func40, Tryz.ntmps40
    go_wp2_with fail
    go_ret
    exact ⟨by rw [HE.out]; rfl, fun c => (by rw [HE.out] at c; cases c), fun _ => RW.out⟩
  · rw [if_neg g1] at hrr
    obtain rfl : gone = false := by simpa using g1
    have HE : Hid (rr = 0) := hrr
    have t1 := tabL_le h.ok
    obtain ⟨f', hf'⟩ : ∃ f', f' = fr + (1 + (tabL L : Int)) := ⟨_, rfl⟩
    rw [← hf']
    have KT : Aside (∀ u, Kp w u → Calls Tryz.prog 45 #[.pointer (some ⟨br, 0, none⟩)] u fun e w' => e = .returned (.int .i64 (1 + (tabL L : Int))) ∧ Kp u w') := fun u k => by
      have := rtabs_any (h.kp k) (by omega)
      rw [if_neg (by decide)] at this
      exact this
    have HH : Hid (RQ w br bf (.slice na L.length cap) L fr false) := h
    obtain ⟨tt, htt⟩ : ∃ tt : Int, tt = 1 + (tabL L : Int) := ⟨_, rfl⟩
    rw [← htt] at KT
    have y1 : fr + tt = f' := by omega
    have z1 : tt ≤ 3000001 := by omega
    have z2 : 0 ≤ tt := by omega
    obtain ⟨z3, z4⟩ := hf
    clear h hrr g1 t1 hf' htt hl
    go_enter Tryz.func40, Tryz.ntmps40
    go_wp2_with fail
    go_region_with (go_at_call 45; with_reducible refine (KT.out _ (by first | exact Kp.refl _ | exact (Kp.refl _).drew | exact (Kp.refl _).drewN _)).mono ?_; rintro e w1 ⟨rfl, K1'⟩; have K1 : Kp w w1 := (by first | exact (Kp.refl _).trans K1' | exact ((Kp.refl _).drew).trans K1' | exact ((Kp.refl _).drewN _).trans K1'); have c1' := (HH.out.kp K1).c1; have cf' := (HH.out.kp K1).cf; have zf' := (HH.out.kp K1).zf 0)
    all_goals
      obtain ⟨⟨v1, v2⟩, v3, v4⟩ := HH.out.off_cells (f' := f') K1 (Kp.refl _)
      have HZ : Hid (RN w (((w1.setCell ⟨bf, 0, none⟩ (.int .i64 f')).setCell ⟨br, 0, none⟩ (.slice none 0 0)).setCell ⟨br, 3, none⟩ (.bool true)) br bf (.slice na L.length cap) [] f' true) := HH.out.off K1 (Kp.refl _)
      clear K1 K1' c1' cf' zf' KT
      go_wp2_with fail
      go_ret
      exact ⟨by rw [HE.out]; rfl, fun _ => ⟨by first | rfl | trivial, HZ.out⟩, fun c => absurd HE.out c⟩
end Go.Proofs.YtanlcmdnhhdhaaaGreatDoor

/- The document's second stage: a leaf that goes, a Block that is split. -/
namespace Go.Proofs.YtanlcmdnhhdhaaaGreatDoor
open Go.RowKit
set_option maxRecDepth 10000

/-- The leaves but the one at k. -/
def rmvL (L : List LV) (k : Nat) : List LV := L.take k ++ L.drop (k + 1)
theorem mem_rmv {L : List LV} {k : Nat} {v : LV} (h : v ∈ rmvL L k) : v ∈ L := by
  unfold rmvL at h
  rw [List.mem_append] at h
  exact h.elim List.mem_of_mem_take List.mem_of_mem_drop
theorem len_rmv (L : List LV) (k : Nat) : (rmvL L k).length ≤ L.length := by
  unfold rmvL
  simp only [List.length_append, List.length_take, List.length_drop]
  omega
theorem hit_halv {L : List LV} {k page : Nat} {b : LV} (hb : hitL page b = true) : 0 ≤ atI (halvL L k b) page := by
  refine Decidable.byContradiction fun c => ?_
  have hn := (at_neg c).2
  rw [List.findIdx?_eq_none_iff] at hn
  have hh := hit_le hb
  have := hn (pgV b (page - b.g)) (by unfold halvL pgsV; simp only [List.mem_append, List.mem_map, List.mem_range]; exact .inl (.inr ⟨_, hh.2, rfl⟩))
  unfold hitL at this
  have e : (pgV b (page - b.g)).g = page := by show b.g + (page - b.g) = page; omega
  rw [e] at this
  simp at this
/-- The page's leaf is a Page, or its Block is split. -/
def Sp1 (L : List LV) (fr : Int) (page : Nat) (L1 : List LV) (fr1 : Int) : Prop :=
  ∃ (k : Nat) (b : LV), L.findIdx? (hitL page) = some k ∧ L[k]? = some b ∧ ((b.l = 3 ∧ L1 = L ∧ fr1 = fr) ∨ (b.l = 2 ∧ 1 ≤ fr ∧ ((setB fr L (halvL L k b) = true ∧ L1 = halvL L k b ∧ fr1 = fr - ((tabL (halvL L k b) : Int) - (tabL L : Int))) ∨ (setB fr L (halvL L k b) = false ∧ L1 = L ∧ fr1 = fr))))
theorem tab_pos (L : List LV) : (0 : Int) ≤ (tabL L : Int) := Int.natCast_nonneg _
/-- The state between the two halves. -/
structure U1 (w w1 : World) (br bf : Nat) (v : Value) (L : List LV) (fr : Int) (page : Nat) (v1 : Value) (L1 : List LV) (fr1 : Int) : Prop where
  q : RQ w1 br bf v1 L1 fr1 false
  f : Fr (fun i => i = br ∨ i = bf ∨ v.ownBlock = some i) w w1
  o : ∀ b, v1.ownBlock = some b → v.ownBlock = some b ∨ w.heap.size ≤ b
  s : Sp1 L fr page L1 fr1
  a : 0 ≤ atI L1 page
  l : L1.length ≤ 901000
  n : -1100000000 ≤ fr1 ∧ fr1 ≤ 1100000000
theorem RN.then {w w1 w2 : World} {br bf : Nat} {v v1 : Value} {L2 : List LV} {fr2 : Int} {g : Bool} (f : Fr (fun i => i = br ∨ i = bf ∨ v.ownBlock = some i) w w1) (o : ∀ b, v1.ownBlock = some b → v.ownBlock = some b ∨ w.heap.size ≤ b) (h : RN w1 w2 br bf v1 L2 fr2 g) : RN w w2 br bf v L2 fr2 g := by
  obtain ⟨v2, a1, a2, a3⟩ := h
  refine ⟨v2, a1, Fr.trans2 f a2 (fun i hi c => ?_), fun b hb => ?_⟩
  · rcases c with c | c | c
    · exact .inl c
    · exact .inr (.inl c)
    · exact .inr (.inr ((o i c).resolve_right (by omega)))
  · rcases a3 b hb with c | c
    · exact o b c
    · exact .inr (Nat.le_trans f.size c)
theorem RSp.u1 {w w1 : World} {br bf : Nat} {v : Value} {L : List LV} {fr : Int} {page : Nat} (h : RSp w w1 br bf v L fr false page) (ok : okL L) (hl : L.length ≤ 900000) (hf : -1000000000 ≤ fr ∧ fr ≤ 1000000000) (ha : 0 ≤ atI L page) : ∃ v1 L1 fr1, U1 w w1 br bf v L fr page v1 L1 fr1 := by
  obtain ⟨k, b, f1, f2, f3, f4, f5, f6⟩ := h
  have kn := (List.getElem?_eq_some_iff.1 f2).1
  have hb : hitL page b = true := by
    obtain ⟨k', x', e1, e2, e3, _⟩ := at_some ha
    rw [f1] at e1; cases e1
    rw [f2] at e2; cases e2
    exact e3
  have t1 := tabL_le ok
  have okh := okL_halv (k := k) ok (List.mem_of_getElem? f2) f3
  have t2 := tabL_le okh
  have lh := len_halv (b := b) kn
  have p1 := tab_pos L
  have p2 := tab_pos (halvL L k b)
  cases hs : setB fr L (halvL L k b)
  · obtain ⟨v1, a1, a2, a3⟩ := f6 hs
    exact ⟨v1, L, fr, a1, a2, a3, ⟨k, b, f1, f2, .inr ⟨f3, f4, .inr ⟨hs, rfl, rfl⟩⟩⟩, ha, by omega, by omega⟩
  · obtain ⟨v1, a1, a2, a3⟩ := f5 hs
    exact ⟨v1, halvL L k b, _, a1, a2, a3, ⟨k, b, f1, f2, .inr ⟨f3, f4, .inl ⟨hs, rfl, rfl⟩⟩⟩, hit_halv hb, by omega, by omega⟩
end Go.Proofs.YtanlcmdnhhdhaaaGreatDoor

/- The document's second stage: Unmap. -/
namespace Go.Proofs.YtanlcmdnhhdhaaaGreatDoor
open Go.RowKit
set_option maxRecDepth 10000

/-- What Unmap answers. -/
def runR (gone : Bool) (L : List LV) (fr : Int) (page : Nat) : Int := if gone = true ∨ ¬ 0 ≤ atI L page then 23 else if lL L (atI L page).toNat = 2 ∧ fr < 1 then 11 else 0
def RUn (w w' : World) (br bf : Nat) (v : Value) (L : List LV) (fr : Int) (page : Nat) (fx : Nat) : Prop :=
  ∃ (L1 : List LV) (fr1 : Int) (k : Nat) (x : LV), Sp1 L fr page L1 fr1 ∧ L1.findIdx? (hitL page) = some k ∧ L1[k]? = some x ∧ fx = x.x ∧ (setB fr1 L1 (rmvL L1 k) = true → RN w w' br bf v (rmvL L1 k) (fr1 - ((tabL (rmvL L1 k) : Int) - (tabL L1 : Int))) false) ∧ (setB fr1 L1 (rmvL L1 k) = false → RN w w' br bf v L1 fr1 false)
set_option maxHeartbeats 8000000 in
set_option maxRecDepth 100000 in
theorem runmap_any {w : World} {br bf : Nat} {v : Value} {L : List LV} {fr : Int} {gone : Bool} (h : RQ w br bf v L fr gone) (hl : L.length ≤ 900000) (page : Nat) (hp : page < 18446744073709551616) (hf : -1000000000 ≤ fr ∧ fr ≤ 1000000000) (rr : Int) (hrr : rr = runR gone L fr page) :
    Calls Tryz.prog 33 #[.pointer (some ⟨br, 0, none⟩), .int .u64 (page : Int)] w fun e w' => ∃ fx : Nat, e = .returned (.tuple #[.int .i64 (fx : Int), .int .i64 rr]) ∧ Hid ((rr = 0 → gone = false ∧ RUn w w' br bf v L fr page fx) ∧ (rr ≠ 0 → fx = 0 ∧ RN w w' br bf v L fr gone)) := by
  obtain ⟨na, cap, rfl, _⟩ := h.slice
  have ka := rat_any h (by omega) page hp
  have c0 := h.c0
  have c3 := h.c3
  have RW : Hid (RN w w br bf (.slice na L.length cap) L fr gone) := RN.same h (Kp.refl _)
  unfold runR at hrr
  by_cases g1 : gone = true
  · rw [if_pos (.inl g1)] at hrr
    have HE : Hid (rr = 23) := hrr
    subst g1
    generalize atI L page = k at *
    clear h hrr hp
    go_enter Tryz.func33, Tryz.ntmps33
    go_wp2_with fail
    with_reducible refine ka.mono ?_
    rintro e w' ⟨rfl, rfl⟩
    go_wp2_with fail
    go_ret2
    exact ⟨0, by rw [HE.out]; rfl, fun c => (by rw [HE.out] at c; cases c), fun _ => ⟨rfl, RW.out⟩⟩
  obtain rfl : gone = false := by simpa using g1
  by_cases g2 : 0 ≤ atI L page
  · rw [if_neg (fun c => c.elim g1 (fun c => c g2))] at hrr
    obtain ⟨k, b, f1, f2, f3, f4⟩ := at_some g2
    rw [f4, Int.toNat_natCast, (gL_at f2).2] at hrr
    rw [f4] at ka
    obtain ⟨g, rfl, hgl, hc⟩ := h.ol.at f2
    have d6 := hc 6 _ rfl
    have kn := (List.getElem?_eq_some_iff.1 f2).1
    have hok := h.ok b (List.mem_of_getElem? f2)
    have y1 : (k : Int) < L.length := by omega
    rcases hok.1 with g3 | g3
    · rw [g3] at d6
      rw [show ((2 : Nat) : Int) = 2 from rfl] at d6
      -- a Block
      obtain ⟨rs, hrs⟩ : ∃ rs, rs = rsplR false L fr page := ⟨_, rfl⟩
      have ks := rsplit_any h hl page hp hf rs hrs
      have ers : rs = if fr < 1 then 11 else 0 := by
        rw [hrs]; unfold rsplR
        rw [if_neg (fun c => c.elim g1 (fun c => c g2)), f4, Int.toNat_natCast, (gL_at f2).2, if_neg (by omega)]
      by_cases g5 : fr < 1
      · rw [if_pos ⟨g3, g5⟩] at hrr
        rw [if_pos g5] at ers
        have HE : Hid (rr = 11) := hrr
        subst ers
        clear h hrr hp hc hok f1 f2 f3 f4 g1 g2 g3 kn hrs g5
        go_enter Tryz.func33, Tryz.ntmps33
        go_wp2_with fail
        with_reducible refine ka.mono ?_
        rintro e w' ⟨rfl, rfl⟩
        go_wp2_with fail
        with_reducible refine ks.mono ?_
        rintro e w1 ⟨rfl, S1⟩
        go_wp2_with fail
        go_ret2
        exact ⟨0, by rw [HE.out]; rfl, fun c => (by rw [HE.out] at c; cases c), fun _ => ⟨rfl, S1.out.2 (by decide)⟩⟩
      · rw [if_neg (fun c => g5 c.2)] at hrr
        rw [if_neg g5] at ers
        have HE : Hid (rr = 0) := hrr
        subst ers
        have KU : Aside (∀ w1, RSp w w1 br bf (.slice (some ⟨g, 0, none⟩) L.length cap) L fr false page → ∃ v1 L1 fr1, U1 w w1 br bf (.slice (some ⟨g, 0, none⟩) L.length cap) L fr page v1 L1 fr1) := fun w1 r => r.u1 h.ok hl hf g2
        have HP : Hid (page < 18446744073709551616) := hp
        clear h hrr hp hc hok f1 f2 f3 f4 g1 g2 g3 kn hrs g5 RW
        go_enter Tryz.func33, Tryz.ntmps33
        go_wp2_with fail
        with_reducible refine ka.mono ?_
        rintro e w0 ⟨rfl, rfl⟩
        go_wp2_with fail
        with_reducible refine ks.mono ?_
        rintro e w1 ⟨rfl, S1⟩
        obtain ⟨v1, L1, fr1, UU⟩ := KU.out w1 (S1.out.1 trivial)
        have ka1 := rat_any UU.q (by have := UU.l; omega) page HP.out
        obtain ⟨k1, x1, f1, f2, f3, f4⟩ := at_some UU.a
        rw [f4] at ka1
        clear ks ka KU S1 c0 c3 d6
        go_wp2_with fail
        with_reducible refine ka1.mono ?_
        rintro e w9 ⟨rfl, rfl⟩
        clear ka1
        obtain ⟨na1, cap1, ev, hcap1⟩ := UU.q.slice
        subst ev
        obtain ⟨g1, eg1, hgl1, hc1⟩ := UU.q.ol.at f2
        subst eg1
        have q0 := UU.q.c0
        have d1 := hc1 1 _ rfl
        have kn1 := (List.getElem?_eq_some_iff.1 f2).1
        have hx1 := (UU.q.ok x1 (List.mem_of_getElem? f2)).2.2.1
        obtain ⟨n, hn⟩ : ∃ n, n = L1.length := ⟨_, rfl⟩
        have qs : ∀ u, Kp w9 u → u.cell? ⟨br, 0, none⟩ = some (.slice (some ⟨g1, 0, none⟩) n cap1) := fun u ku => by rw [hn]; exact (UU.q.kp ku).c0
        have ke : Kp w9 ((w9.alloc (.cells #[] 93)).drew) := ((Kp.refl _).alloc _).drew
        obtain ⟨na2, n2, cap2, w2, r1, hn2, o2, k2, b2⟩ := leaf_append (W := w9) (w := (w9.alloc (.cells #[] 93)).drew) (v := .slice (some ⟨w9.heap.size, 0, none⟩) 0 0) (L := []) (ro_empty w9) ke (fun b hb => by cases hb; exact Nat.le_refl _) (L1.take k1) ((UU.q.ol.take (k := k1) (by omega)).kp ke) (by have := UU.l; simp only [List.length_take, List.length_nil]; omega) 67
        rw [List.nil_append] at o2
        have e0 := qs _ ke
        have e1 := qs _ k2
        have e2 := qs _ ((Kp.refl w9).alloc (.cells #[] 93))
        have e3 := qs _ (Kp.refl w9)
        rw [← hn] at q0
        have y1 : (k1 : Int) < n := by omega
        have y2 : (n : Int) ≤ cap1 := by omega
        have y5 : (k1 : Int) + 1 ≤ cap1 := by omega
        have y6 : (k1 : Int) ≤ cap1 := by omega
        have y7 : (k1 : Int) + 1 ≤ n := by omega
        have y8 : k1 ≤ cap1 := by omega
        have y9 : k1 ≠ cap1 := by omega
        have y10 : ¬ cap1 = 0 := by omega
        have y11 : (k1 : Int) ≤ (k1 : Int) + 1 := by omega
        have y13 : (0 : Int) ≤ (k1 : Int) + 1 := by omega
        have z9 : (n : Int) ≤ 901000 := by have := UU.l; omega
        have y12 : IntKind.i64.wrap ((k1 : Int) + 1) = (k1 : Int) + 1 := by rw [IntKind.wrap_i64]; omega
        have okr : okL (rmvL L1 k1) := fun v hv => UU.q.ok v (mem_rmv hv)
        have lr := len_rmv L1 k1
        by_cases ec : cap1 = k1 + 1
        · have s3 := UU.q.ol.drop0 (k := k1 + 1) (by omega)
          obtain ⟨na3, n3, cap3, w3, r2, hn3, o3, k3, b3⟩ := leaf_append (W := w9) o2 k2 b2 (L1.drop (k1 + 1)) (s3.kp k2) (by have := UU.l; simp only [List.length_take, List.length_drop]; omega) 67
          have ks := rset_new UU.q (by have := UU.l; omega) k3 o3 okr (by have := UU.l; show (rmvL L1 k1).length ≤ 1000000; omega) b3 (by have := UU.n; omega)
          have HX : Hid (U1 w0 w9 br bf (.slice (some ⟨g, 0, none⟩) L.length cap) L fr page (.slice (some ⟨g1, 0, none⟩) L1.length cap1) L1 fr1 ∧ L1.findIdx? (hitL page) = some k1 ∧ L1[k1]? = some x1) := ⟨UU, f1, f2⟩
          obtain ⟨sb, hsb⟩ : ∃ sb, sb = setB fr1 L1 (rmvL L1 k1) := ⟨_, rfl⟩
          have hsb' : setB fr1 L1 (L1.take k1 ++ L1.drop (k1 + 1)) = sb := hsb.symm
          have ks' : Calls Tryz.prog 73 #[.pointer (some ⟨br, 0, none⟩), .slice na3 n3 cap3] w3 fun e w' => e = .returned (.bool sb) ∧ Hid ((setB fr1 L1 (rmvL L1 k1) = true → RN w9 w' br bf (.slice (some ⟨g1, 0, none⟩) L1.length cap1) (rmvL L1 k1) (fr1 - ((tabL (rmvL L1 k1) : Int) - (tabL L1 : Int))) false) ∧ (setB fr1 L1 (rmvL L1 k1) = false → RN w9 w' br bf (.slice (some ⟨g1, 0, none⟩) L1.length cap1) L1 fr1 false)) := ks.mono fun e w' ⟨a1, a2⟩ => ⟨by rw [a1, hsb]; rfl, a2⟩
          obtain ⟨kk, hkk⟩ : ∃ kk, kk = k1 + 1 := ⟨_, rfl⟩
          rw [← hkk] at ec
          have en : n = kk := by omega
          have y14 : (k1 : Int) + 1 = (kk : Int) := by omega
          have y15 : (k1 : Int) < kk := by omega
          have y16 : (kk : Int) ≤ 901001 := by omega
          have y17 : (k1 : Int) ≤ kk := by omega
          have y18 : IntKind.i64.wrap (kk : Int) = (kk : Int) := by rw [IntKind.wrap_i64]; omega
          clear y1 y2 y5 y6 y7 y8 y9 y10 y11 y12 y13 z9 hkk
          subst ec
          subst en
          clear s3 hn2 o2 k2 b2 hn3 o3 k3 b3 ks okr lr ke qs hn UU f1 f2 hcap1 hc1 kn1 hgl1 hsb hsb'
          go_wp2_with fail
          go_region_law (first | (refine step_append_of r1 (by rfl) (.tmp 47) (.tmp 53) (by rfl) (by rfl) (by rfl) (by rfl) ?_) | (refine step_append_of r2 (by rfl) (.tmp 54) (.tmp 61) (by rfl) (by rfl) (by rfl) (by rfl) ?_) | (refine step_call2 (by rfl) (by rfl) Tryz.func73 rfl (by decide) (by rfl) (by rfl) ks' ?_; intro w4 S4))
          all_goals
            clear r1 r2 ks'
            go_wp2
            go_ret2
            obtain ⟨UU, f1, f2⟩ := HX.out
            exact ⟨x1.x, by rw [HE.out]; rfl, fun _ => ⟨by first | rfl | trivial, _, _, _, _, UU.s, f1, f2, rfl, fun c => (S4.out.1 c).then UU.f UU.o, fun c => (S4.out.2 c).then UU.f UU.o⟩, fun c => absurd HE.out c⟩
        · have s3 := UU.q.ol.drop (k := k1 + 1) (by omega)
          rw [← hn] at s3
          obtain ⟨na3, n3, cap3, w3, r2, hn3, o3, k3, b3⟩ := leaf_append (W := w9) o2 k2 b2 (L1.drop (k1 + 1)) (s3.kp k2) (by have := UU.l; simp only [List.length_take, List.length_drop]; omega) 67
          have ks := rset_new UU.q (by have := UU.l; omega) k3 o3 okr (by have := UU.l; show (rmvL L1 k1).length ≤ 1000000; omega) b3 (by have := UU.n; omega)
          have HX : Hid (U1 w0 w9 br bf (.slice (some ⟨g, 0, none⟩) L.length cap) L fr page (.slice (some ⟨g1, 0, none⟩) L1.length cap1) L1 fr1 ∧ L1.findIdx? (hitL page) = some k1 ∧ L1[k1]? = some x1) := ⟨UU, f1, f2⟩
          obtain ⟨sb, hsb⟩ : ∃ sb, sb = setB fr1 L1 (rmvL L1 k1) := ⟨_, rfl⟩
          have hsb' : setB fr1 L1 (L1.take k1 ++ L1.drop (k1 + 1)) = sb := hsb.symm
          have ks' : Calls Tryz.prog 73 #[.pointer (some ⟨br, 0, none⟩), .slice na3 n3 cap3] w3 fun e w' => e = .returned (.bool sb) ∧ Hid ((setB fr1 L1 (rmvL L1 k1) = true → RN w9 w' br bf (.slice (some ⟨g1, 0, none⟩) L1.length cap1) (rmvL L1 k1) (fr1 - ((tabL (rmvL L1 k1) : Int) - (tabL L1 : Int))) false) ∧ (setB fr1 L1 (rmvL L1 k1) = false → RN w9 w' br bf (.slice (some ⟨g1, 0, none⟩) L1.length cap1) L1 fr1 false)) := ks.mono fun e w' ⟨a1, a2⟩ => ⟨by rw [a1, hsb]; rfl, a2⟩
          have y3 : ¬ cap1 = k1 + 1 := ec
          clear ec
          clear s3 hn2 o2 k2 b2 hn3 o3 k3 b3 ks okr lr ke qs hn UU f1 f2 hcap1 hc1 kn1 hgl1 hsb hsb'
          go_wp2_with fail
          go_region_law (first | (refine step_append_of r1 (by rfl) (.tmp 47) (.tmp 53) (by rfl) (by rfl) (by rfl) (by rfl) ?_) | (refine step_append_of r2 (by rfl) (.tmp 54) (.tmp 61) (by rfl) (by rfl) (by rfl) (by rfl) ?_) | (refine step_call2 (by rfl) (by rfl) Tryz.func73 rfl (by decide) (by rfl) (by rfl) ks' ?_; intro w4 S4))
          all_goals
            clear r1 r2 ks'
            go_wp2
            go_ret2
            obtain ⟨UU, f1, f2⟩ := HX.out
            exact ⟨x1.x, by rw [HE.out]; rfl, fun _ => ⟨by first | rfl | trivial, _, _, _, _, UU.s, f1, f2, rfl, fun c => (S4.out.1 c).then UU.f UU.o, fun c => (S4.out.2 c).then UU.f UU.o⟩, fun c => absurd HE.out c⟩
    · rw [g3] at d6
      rw [show ((3 : Nat) : Int) = 3 from rfl] at d6
      rw [if_neg (fun c => by omega)] at hrr
      have HE : Hid (rr = 0) := hrr
      have UU : U1 w w br bf (.slice (some ⟨g, 0, none⟩) L.length cap) L fr page (.slice (some ⟨g, 0, none⟩) L.length cap) L fr := ⟨h, Fr.refl _ _, fun b hb => .inl hb, ⟨k, b, f1, f2, .inl ⟨g3, rfl, rfl⟩⟩, g2, by omega, by omega⟩
      clear h hrr hp hc hok f3 f4 g1 g2 g3 kn RW hl hf
      obtain ⟨na1, cap1, ev, hcap1⟩ := UU.q.slice
      cases ev
      obtain ⟨g1, eg1, hgl1, hc1⟩ := UU.q.ol.at f2
      cases eg1
      have q0 := UU.q.c0
      have d1 := hc1 1 _ rfl
      have kn1 := (List.getElem?_eq_some_iff.1 f2).1
      have hb := (UU.q.ok b (List.mem_of_getElem? f2)).2.2.1
      obtain ⟨n, hn⟩ : ∃ n, n = L.length := ⟨_, rfl⟩
      have qs : ∀ u, Kp w u → u.cell? ⟨br, 0, none⟩ = some (.slice (some ⟨g, 0, none⟩) n cap) := fun u ku => by rw [hn]; exact (UU.q.kp ku).c0
      have ke : Kp w ((w.alloc (.cells #[] 93)).drew) := ((Kp.refl _).alloc _).drew
      obtain ⟨na2, n2, cap2, w2, r1, hn2, o2, k2, b2⟩ := leaf_append (W := w) (w := (w.alloc (.cells #[] 93)).drew) (v := .slice (some ⟨w.heap.size, 0, none⟩) 0 0) (L := []) (ro_empty w) ke (fun b hb => by cases hb; exact Nat.le_refl _) (L.take k) ((UU.q.ol.take (k := k) (by omega)).kp ke) (by have := UU.l; simp only [List.length_take, List.length_nil]; omega) 67
      rw [List.nil_append] at o2
      have e0 := qs _ ke
      have e1 := qs _ k2
      have e2 := qs _ ((Kp.refl w).alloc (.cells #[] 93))
      have e3 := qs _ (Kp.refl w)
      rw [← hn] at q0
      have y1 : (k : Int) < n := by omega
      have y2 : (n : Int) ≤ cap := by omega
      have y5 : (k : Int) + 1 ≤ cap := by omega
      have y6 : (k : Int) ≤ cap := by omega
      have y7 : (k : Int) + 1 ≤ n := by omega
      have y8 : k ≤ cap := by omega
      have y9 : k ≠ cap := by omega
      have y10 : ¬ cap = 0 := by omega
      have y11 : (k : Int) ≤ (k : Int) + 1 := by omega
      have y13 : (0 : Int) ≤ (k : Int) + 1 := by omega
      have z9 : (n : Int) ≤ 901000 := by have := UU.l; omega
      have y12 : IntKind.i64.wrap ((k : Int) + 1) = (k : Int) + 1 := by rw [IntKind.wrap_i64]; omega
      have okr : okL (rmvL L k) := fun v hv => UU.q.ok v (mem_rmv hv)
      have lr := len_rmv L k
      by_cases ec : cap = k + 1
      · have s3 := UU.q.ol.drop0 (k := k + 1) (by omega)
        obtain ⟨na3, n3, cap3, w3, r2, hn3, o3, k3, b3⟩ := leaf_append (W := w) o2 k2 b2 (L.drop (k + 1)) (s3.kp k2) (by have := UU.l; simp only [List.length_take, List.length_drop]; omega) 67
        have ks := rset_new UU.q (by have := UU.l; omega) k3 o3 okr (by have := UU.l; show (rmvL L k).length ≤ 1000000; omega) b3 (by have := UU.n; omega)
        have HX : Hid (U1 w w br bf (.slice (some ⟨g, 0, none⟩) L.length cap) L fr page (.slice (some ⟨g, 0, none⟩) L.length cap) L fr ∧ L.findIdx? (hitL page) = some k ∧ L[k]? = some b) := ⟨UU, f1, f2⟩
        obtain ⟨sb, hsb⟩ : ∃ sb, sb = setB fr L (rmvL L k) := ⟨_, rfl⟩
        have hsb' : setB fr L (L.take k ++ L.drop (k + 1)) = sb := hsb.symm
        have ks' : Calls Tryz.prog 73 #[.pointer (some ⟨br, 0, none⟩), .slice na3 n3 cap3] w3 fun e w' => e = .returned (.bool sb) ∧ Hid ((setB fr L (rmvL L k) = true → RN w w' br bf (.slice (some ⟨g, 0, none⟩) L.length cap) (rmvL L k) (fr - ((tabL (rmvL L k) : Int) - (tabL L : Int))) false) ∧ (setB fr L (rmvL L k) = false → RN w w' br bf (.slice (some ⟨g, 0, none⟩) L.length cap) L fr false)) := ks.mono fun e w' ⟨a1, a2⟩ => ⟨by rw [a1, hsb]; rfl, a2⟩
        obtain ⟨kk, hkk⟩ : ∃ kk, kk = k + 1 := ⟨_, rfl⟩
        rw [← hkk] at ec
        have en : n = kk := by omega
        have y14 : (k : Int) + 1 = (kk : Int) := by omega
        have y15 : (k : Int) < kk := by omega
        have y16 : (kk : Int) ≤ 901001 := by omega
        have y17 : (k : Int) ≤ kk := by omega
        have y18 : IntKind.i64.wrap (kk : Int) = (kk : Int) := by rw [IntKind.wrap_i64]; omega
        clear y1 y2 y5 y6 y7 y8 y9 y10 y11 y12 y13 z9 hkk
        subst ec
        subst en
        clear s3 hn2 o2 k2 b2 hn3 o3 k3 b3 ks okr lr ke qs hn UU f1 f2 hcap1 hc1 kn1 hgl1 hsb hsb' c0
        go_enter Tryz.func33, Tryz.ntmps33
        go_wp2_with fail
        with_reducible refine ka.mono ?_
        rintro e w' ⟨rfl, rfl⟩
        go_wp2_with fail
        go_region_law (first | (refine step_append_of r1 (by rfl) (.tmp 47) (.tmp 53) (by rfl) (by rfl) (by rfl) (by rfl) ?_) | (refine step_append_of r2 (by rfl) (.tmp 54) (.tmp 61) (by rfl) (by rfl) (by rfl) (by rfl) ?_) | (refine step_call2 (by rfl) (by rfl) Tryz.func73 rfl (by decide) (by rfl) (by rfl) ks' ?_; intro w4 S4))
        all_goals
          clear r1 r2 ks'
          go_wp2
          go_ret2
          obtain ⟨UU, f1, f2⟩ := HX.out
          exact ⟨b.x, by rw [HE.out]; rfl, fun _ => ⟨by first | rfl | trivial, _, _, _, _, UU.s, f1, f2, rfl, fun c => (S4.out.1 c).then UU.f UU.o, fun c => (S4.out.2 c).then UU.f UU.o⟩, fun c => absurd HE.out c⟩
      · have s3 := UU.q.ol.drop (k := k + 1) (by omega)
        rw [← hn] at s3
        obtain ⟨na3, n3, cap3, w3, r2, hn3, o3, k3, b3⟩ := leaf_append (W := w) o2 k2 b2 (L.drop (k + 1)) (s3.kp k2) (by have := UU.l; simp only [List.length_take, List.length_drop]; omega) 67
        have ks := rset_new UU.q (by have := UU.l; omega) k3 o3 okr (by have := UU.l; show (rmvL L k).length ≤ 1000000; omega) b3 (by have := UU.n; omega)
        have HX : Hid (U1 w w br bf (.slice (some ⟨g, 0, none⟩) L.length cap) L fr page (.slice (some ⟨g, 0, none⟩) L.length cap) L fr ∧ L.findIdx? (hitL page) = some k ∧ L[k]? = some b) := ⟨UU, f1, f2⟩
        obtain ⟨sb, hsb⟩ : ∃ sb, sb = setB fr L (rmvL L k) := ⟨_, rfl⟩
        have hsb' : setB fr L (L.take k ++ L.drop (k + 1)) = sb := hsb.symm
        have ks' : Calls Tryz.prog 73 #[.pointer (some ⟨br, 0, none⟩), .slice na3 n3 cap3] w3 fun e w' => e = .returned (.bool sb) ∧ Hid ((setB fr L (rmvL L k) = true → RN w w' br bf (.slice (some ⟨g, 0, none⟩) L.length cap) (rmvL L k) (fr - ((tabL (rmvL L k) : Int) - (tabL L : Int))) false) ∧ (setB fr L (rmvL L k) = false → RN w w' br bf (.slice (some ⟨g, 0, none⟩) L.length cap) L fr false)) := ks.mono fun e w' ⟨a1, a2⟩ => ⟨by rw [a1, hsb]; rfl, a2⟩
        have y3 : ¬ cap = k + 1 := ec
        clear ec
        clear s3 hn2 o2 k2 b2 hn3 o3 k3 b3 ks okr lr ke qs hn UU f1 f2 hcap1 hc1 kn1 hgl1 hsb hsb' c0
        go_enter Tryz.func33, Tryz.ntmps33
        go_wp2_with fail
        with_reducible refine ka.mono ?_
        rintro e w' ⟨rfl, rfl⟩
        go_wp2_with fail
        go_region_law (first | (refine step_append_of r1 (by rfl) (.tmp 47) (.tmp 53) (by rfl) (by rfl) (by rfl) (by rfl) ?_) | (refine step_append_of r2 (by rfl) (.tmp 54) (.tmp 61) (by rfl) (by rfl) (by rfl) (by rfl) ?_) | (refine step_call2 (by rfl) (by rfl) Tryz.func73 rfl (by decide) (by rfl) (by rfl) ks' ?_; intro w4 S4))
        all_goals
          clear r1 r2 ks'
          go_wp2
          go_ret2
          obtain ⟨UU, f1, f2⟩ := HX.out
          exact ⟨b.x, by rw [HE.out]; rfl, fun _ => ⟨by first | rfl | trivial, _, _, _, _, UU.s, f1, f2, rfl, fun c => (S4.out.1 c).then UU.f UU.o, fun c => (S4.out.2 c).then UU.f UU.o⟩, fun c => absurd HE.out c⟩
  · rw [if_pos (.inr g2)] at hrr
    have HE : Hid (rr = 23) := hrr
    rw [(at_neg g2).1] at ka
    clear h hrr hp g1 g2
    go_enter Tryz.func33, Tryz.ntmps33
    go_wp2_with fail
    with_reducible refine ka.mono ?_
    rintro e w' ⟨rfl, rfl⟩
    go_wp2_with fail
    go_ret2
    exact ⟨0, by rw [HE.out]; rfl, fun c => (by rw [HE.out] at c; cases c), fun _ => ⟨rfl, RW.out⟩⟩
end Go.Proofs.YtanlcmdnhhdhaaaGreatDoor
