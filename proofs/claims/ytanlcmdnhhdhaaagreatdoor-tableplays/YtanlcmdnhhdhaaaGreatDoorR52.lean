/- The document's second stage: with. -/
import Derived.Test.YtanlcmdnhhdhaaaGreatDoorJ32
namespace Go.Proofs.YtanlcmdnhhdhaaaGreatDoor
open Go.RowKit
set_option maxRecDepth 10000

theorem info_rleaf : ∃ i : TypeInfo, Tryz.prog.info? 93 = some i ∧ i.zero = some (lvV lvZ) ∧ i.size = 7 ∧ i.bytes ≤ 10000 := ⟨_, rfl, rfl, rfl, by decide⟩
/-- A list that may be read, from a place on. -/
def Src (w : World) (na : Option Addr) (m c : Nat) (M : List LV) : Prop := m = M.length ∧ ((na = none ∧ m = 0 ∧ c = 0) ∨ ∃ b o, na = some ⟨b, o, none⟩ ∧ b < w.heap.size ∧ ∀ j u, (M.flatMap encL)[j]? = some u → w.cell? ⟨b, o + j, none⟩ = some u)
theorem Src.kp {w w' : World} {na : Option Addr} {m c : Nat} {M : List LV} (h : Src w na m c M) (k : Kp w w') : Src w' na m c M := by
  refine ⟨h.1, h.2.imp id fun ⟨b, o, e, hb, hc⟩ => ⟨b, o, e, Nat.lt_of_lt_of_le hb k.size, fun j u hu => ?_⟩⟩
  rw [k.cell (p := ⟨b, o + j, none⟩) hb]; exact hc j u hu
/-- append of leaves: a list of one's own, laid behind W. -/
theorem leaf_append {W w : World} {v : Value} {L : List LV} (h : RO w v L) (kW : Kp W w) (hv : ∀ b, v.ownBlock = some b → W.heap.size ≤ b) (M : List LV) {na : Option Addr} {m c : Nat} (hs : Src w na m c M) (hl : L.length + M.length ≤ 8000000000) (ty : TypeId) :
    ∃ na' n' cap' w', (Builtin.append_ #[67, 67] ty #[v, .slice na m c]).run Tryz.prog w = .ok (.slice na' n' cap') w' ∧ n' = (L ++ M).length ∧ RO w' (.slice na' n' cap') (L ++ M) ∧ Kp W w' ∧ ∀ b, (Value.slice na' n' cap').ownBlock = some b → W.heap.size ≤ b := by
  obtain ⟨i0, hi, hz0, hz1, hz2⟩ := info_rleaf
  obtain ⟨v', w', r1, r2, r3, r4⟩ := OL.append encL_ok (P := Tryz.prog) (t := 67) Tryz.underlying67 hi hz0 hz1 rfl rfl h M na m c hs.1 (hs.2.imp id fun ⟨b, o, e, _, hc⟩ => ⟨b, o, e, hc⟩) hl hz2 ty
  obtain ⟨na', cap', e, _⟩ := OL.form r2
  subst e
  refine ⟨na', _, cap', w', r1, rfl, r2, ?_, fun b hb => ?_⟩
  · have f1 : Fr (fun g => v.ownBlock = some g) w w' := Fr.grown r3 (fun g hg => hg)
    exact f1.kp kW (fun i hi => hv i hi)
  · rcases r4 with e | e
    · rw [e] at hb; exact hv b hb
    · rw [e] at hb; cases hb; exact kW.size
theorem ro_empty (w : World) : RO (w.alloc (.cells #[] 93)) (.slice (some ⟨w.heap.size, 0, none⟩) 0 0) [] :=
  ⟨rfl, .inr ⟨w.heap.size, 0, #[], rfl, Nat.zero_le _, heap_alloc_new w _, Nat.le_refl _, Nat.zero_le _, rfl, rfl⟩⟩
/-- l[:k] and l[k:], as they are read. -/
theorem RO.take {w : World} {na : Option Addr} {n cap k : Nat} {L : List LV} (h : RO w (.slice na n cap) L) (hk : k ≤ n) : Src w na k cap (L.take k) := by
  obtain ⟨hn, hc⟩ := h.len
  refine ⟨by rw [List.length_take]; omega, ?_⟩
  obtain ⟨na', cap', e, _, hc⟩ := OL.form h
  cases e
  rcases hc with ⟨rfl, rfl, rfl⟩ | ⟨g, rfl, hg⟩
  · exact .inl ⟨rfl, by simp at hk; omega, rfl⟩
  · refine .inr ⟨g, 0, rfl, hg, fun j u hu => ?_⟩
    rw [← flat_take encL_ok] at hu
    have hj := (List.getElem?_eq_some_iff.1 hu).1
    rw [List.length_take, flat_len encL_ok] at hj
    rw [Nat.zero_add, World.ownsRow.cellAt h j (by omega), ← hu, List.getElem?_take, if_pos (by omega)]
theorem RO.drop {w : World} {g n cap k : Nat} {L : List LV} (h : RO w (.slice (some ⟨g, 0, none⟩) n cap) L) (hk : k ≤ n) : Src w (some ⟨g, k * 7, none⟩) (n - k) (cap - k) (L.drop k) := by
  obtain ⟨hn, hc⟩ := h.len
  refine ⟨by rw [List.length_drop]; omega, ?_⟩
  obtain ⟨na', cap', e, _, hc⟩ := OL.form h
  cases e
  rcases hc with ⟨e, _⟩ | ⟨g', e, hg⟩
  · cases e
  · cases e
    refine .inr ⟨g, k * 7, rfl, hg, fun j u hu => ?_⟩
    rw [← flat_drop encL_ok, List.getElem?_drop] at hu
    have hj := (List.getElem?_eq_some_iff.1 hu).1
    rw [flat_len encL_ok] at hj
    rw [World.ownsRow.cellAt h _ hj, ← hu]
theorem RO.drop0 {w : World} {na : Option Addr} {n cap k : Nat} {L : List LV} (h : RO w (.slice na n cap) L) (hk : n ≤ k) : Src w na 0 0 (L.drop k) := by
  obtain ⟨hn, hc⟩ := h.len
  refine ⟨by rw [List.length_drop]; omega, ?_⟩
  obtain ⟨na', cap', e, _, hc⟩ := OL.form h
  cases e
  rw [List.drop_of_length_le hk]
  rcases hc with ⟨rfl, rfl, rfl⟩ | ⟨g, rfl, hg⟩
  · exact .inl ⟨rfl, rfl, rfl⟩
  · exact .inr ⟨g, 0, rfl, hg, fun j u hu => by simp at hu⟩
/-- A leaf laid into a list of one. -/
theorem one_src (w : World) (x : LV) : Src (w.alloc (.cells #[.int .u64 (x.g : Int), .int .i64 (x.x : Int), .bool x.r, .bool x.q, .bool x.e, .int .i64 x.f, .int .i64 (x.l : Int)] 93)) (some ⟨w.heap.size, 0, none⟩) 1 1 [x] :=
  ⟨rfl, .inr ⟨w.heap.size, 0, rfl, by simp, fun j u hu => by
    rw [Nat.zero_add, cell_of_row _ _ j _ _ _ (heap_alloc_new w _)]
    simpa [encL] using hu⟩⟩
/-- How many stand ahead of a page. -/
def kW (L : List LV) (g : Nat) : Nat := (L.takeWhile (fun v => decide (v.g < g))).length
def withL (L : List LV) (x : LV) : List LV := L.take (kW L x.g) ++ [x] ++ L.drop (kW L x.g)
theorem kW_le (L : List LV) (g : Nat) : kW L g ≤ L.length := (List.takeWhile_sublist _).length_le
theorem kW_lt {L : List LV} {g i : Nat} {x : LV} (h : i < kW L g) (hx : L[i]? = some x) : x.g < g := by
  unfold kW at h
  have : x ∈ L.takeWhile (fun v => decide (v.g < g)) := by
    have e : (L.takeWhile (fun v => decide (v.g < g)))[i]? = L[i]? := by
      have := List.takeWhile_prefix (l := L) (fun v : LV => decide (v.g < g))
      obtain ⟨t, ht⟩ := this
      conv => rhs; rw [← ht]
      rw [List.getElem?_append_left h]
    exact List.mem_of_getElem? (e.trans hx)
  simpa using List.all_eq_true.1 (List.all_takeWhile (l := L) (p := fun v : LV => decide (v.g < g))) x this
theorem kW_ge {L : List LV} {g : Nat} {x : LV} (hx : L[kW L g]? = some x) : g ≤ x.g := by
  induction L with
  | nil => simp at hx
  | cons y t ih =>
    unfold kW at hx ih
    rw [List.takeWhile_cons] at hx
    by_cases c : y.g < g
    · rw [if_pos (by simpa using c), List.length_cons, List.getElem?_cons_succ] at hx
      exact ih hx
    · rw [if_neg (by simpa using c)] at hx
      simp at hx
      subst hx
      omega
set_option maxHeartbeats 8000000 in
theorem rwith_any {w : World} {na : Option Addr} {n cap : Nat} {L : List LV} (h : RO w (.slice na n cap) L) (hl : L.length ≤ 1000000) (x : LV) :
    Calls Tryz.prog 74 #[.slice na n cap, .agg #[.int .u64 (x.g : Int), .int .i64 (x.x : Int), .bool x.r, .bool x.q, .bool x.e, .int .i64 x.f, .int .i64 (x.l : Int)]] w fun e w' => (∃ na' n' cap', e = .returned (.slice na' n' cap') ∧ Hid (RO w' (.slice na' n' cap') (withL L x) ∧ ∀ b, (Value.slice na' n' cap').ownBlock = some b → w.heap.size ≤ b)) ∧ Kp w w' := by
  have hn := h.len
  have hk := kW_le L x.g
  obtain ⟨k, ek⟩ : ∃ k, k = kW L x.g := ⟨_, rfl⟩
  have HH : Hid (RO w (.slice na n cap) L ∧ L.length ≤ 1000000 ∧ n = L.length ∧ n ≤ cap ∧ k = kW L x.g ∧ k ≤ n) := ⟨h, hl, hn.1, hn.2, ek, by omega⟩
  have hkn : k ≤ n := by omega
  have z0 : (n : Int) ≤ 1000000 := by omega
  clear h hl hn hk ek
  go_enter Tryz.func74, Tryz.ntmps74
  go_wp2_with fail
  have hb : ∀ v, Kp (w.alloc (.cells #[.int .u64 (x.g : Int), .int .i64 (x.x : Int), .bool x.r, .bool x.q, .bool x.e, .int .i64 x.f, .int .i64 (x.l : Int)] 93)) v → v.cell? ⟨w.heap.size, 0, none⟩ = some (.int .u64 (x.g : Int)) ∧ v.cell? ⟨w.heap.size, 1, none⟩ = some (.int .i64 (x.x : Int)) ∧ v.cell? ⟨w.heap.size, 2, none⟩ = some (.bool x.r) ∧ v.cell? ⟨w.heap.size, 3, none⟩ = some (.bool x.q) ∧ v.cell? ⟨w.heap.size, 4, none⟩ = some (.bool x.e) ∧ v.cell? ⟨w.heap.size, 5, none⟩ = some (.int .i64 x.f) ∧ v.cell? ⟨w.heap.size, 6, none⟩ = some (.int .i64 (x.l : Int)) := fun v k => by
    have hr := (k.block w.heap.size (by simp)).trans (heap_alloc_new w _)
    refine ⟨?_, ?_, ?_, ?_, ?_, ?_, ?_⟩
    all_goals rw [cell_of_row v _ _ _ _ _ hr]; rfl
  have k0 : Kp w (w.alloc (.cells #[.int .u64 (x.g : Int), .int .i64 (x.x : Int), .bool x.r, .bool x.q, .bool x.e, .int .i64 x.f, .int .i64 (x.l : Int)] 93)) := (Kp.refl w).alloc _
  obtain ⟨w0, hw0⟩ : ∃ w0, w0 = w.alloc (.cells #[.int .u64 (x.g : Int), .int .i64 (x.x : Int), .bool x.r, .bool x.q, .bool x.e, .int .i64 x.f, .int .i64 (x.l : Int)] 93) := ⟨_, rfl⟩
  rw [← hw0] at hb k0 ⊢
  clear hw0
  obtain ⟨bx, hbx⟩ : ∃ bx, bx = w.heap.size := ⟨_, rfl⟩
  rw [← hbx] at hb ⊢
  have HB : Hid ((∀ v, Kp w0 v → v.cell? ⟨bx, 0, none⟩ = some (.int .u64 (x.g : Int)) ∧ v.cell? ⟨bx, 1, none⟩ = some (.int .i64 (x.x : Int)) ∧ v.cell? ⟨bx, 2, none⟩ = some (.bool x.r) ∧ v.cell? ⟨bx, 3, none⟩ = some (.bool x.q) ∧ v.cell? ⟨bx, 4, none⟩ = some (.bool x.e) ∧ v.cell? ⟨bx, 5, none⟩ = some (.int .i64 x.f) ∧ v.cell? ⟨bx, 6, none⟩ = some (.int .i64 (x.l : Int))) ∧ Kp w w0) := ⟨hb, k0⟩
  clear hb k0 hbx
  go_loopg [5] (n + 1) (fun gg v5 wr => ∃ i : Nat, v5 = .int .i64 (i : Int) ∧ i ≤ k ∧ n + 1 - i ≤ gg ∧ Hid (Kp w0 wr))
  case atStart => exact ⟨0, rfl, by omega, by omega, Kp.refl _⟩
  case round =>
    obtain ⟨i, rfl, hi, hg, HI⟩ := hrel
    have q0 := (HB.out.1 _ HI.out).1
    by_cases e : i < k
    · obtain ⟨y, hy⟩ : ∃ y, L[i]? = some y := ⟨_, List.getElem?_eq_getElem (by have := HH.out.2.2.1; omega)⟩
      obtain ⟨g, rfl, hgl, hc⟩ := HH.out.1.at hy
      have d0 : wr.cell? ⟨g, i * 7, none⟩ = some (.int .u64 (y.g : Int)) := by rw [(HB.out.2.trans HI.out).cell (p := ⟨g, i * 7, none⟩) hgl]; exact hc 0 _ rfl
      have lt := kW_lt (by rw [← HH.out.2.2.2.2.1]; exact e) hy
      have y1 : (i : Int) < n := by omega
      generalize y.g = gy at *
      have y2 : (gy : Int) < (x.g : Int) := by omega
      clear hc hy
      go_wp2_with fail
      go_quiet (fail)
      go_wp2_with fail
      go_roundg (n + 1 - (i + 1))
      case measure => omega
      case rel => exact ⟨i + 1, by go_num, by omega, by omega, HI.out.trans ((Kp.refl _).drewN _)⟩
    · have ei : i = k := by omega
      subst ei
      have form := OL.form HH.out.1
      have hlen := HH.out.2.2
      obtain ⟨na', cap', ev, _, hform⟩ := form
      cases ev
      have hor : (i = L.length ∧ na = none ∧ cap = 0 ∧ L.length = 0) ∨ (∃ g, na = some ⟨g, 0, none⟩ ∧ i = L.length ∧ cap = i) ∨ (∃ g, na = some ⟨g, 0, none⟩ ∧ i = L.length ∧ i < cap) ∨ ∃ g, na = some ⟨g, 0, none⟩ ∧ i < L.length := by
        rcases hform with ⟨h1, h2, h3⟩ | ⟨g, h1, _⟩
        · rw [h3] at hlen ⊢; simp at hlen; exact .inl ⟨by simp; omega, h1, h2, rfl⟩
        · by_cases c : i < L.length
          · exact .inr (.inr (.inr ⟨g, h1, c⟩))
          · by_cases c2 : cap = i
            · exact .inr (.inl ⟨g, h1, by omega, c2⟩)
            · exact .inr (.inr (.inl ⟨g, h1, by omega, by omega⟩))
      clear hform
      rcases hor with ⟨e1, rfl, rfl, e4⟩ | ⟨g, rfl, e2, e3⟩ | ⟨g, rfl, e2, e3⟩ | ⟨g, rfl, e2⟩
      · obtain rfl : i = 0 := by omega
        have s3 := HH.out.1.drop0 (k := 0) (by omega)
        rw [e4] at *
        clear e1 hlen
        rw [show ((0 : Nat) : Int) = 0 from rfl]
        go_wp2_with fail
        go_quiet (fail)
        obtain ⟨wd, hwd⟩ : ∃ wd, wd = wr.drewN nq := ⟨_, rfl⟩
        rw [← hwd]
        have kd : Kp w0 wd := by rw [hwd]; exact HI.out.trans ((Kp.refl _).drewN _)
        have kw : Kp w wd := HB.out.2.trans kd
        clear hwd
        have ke : Kp wd (wd.alloc (.cells #[] 93)) := (Kp.refl _).alloc _
        obtain ⟨na1, n1, cap1, w1, r1, hn1, o1, k1, b1⟩ := leaf_append (W := wd) (ro_empty wd) ke (fun b hb => by cases hb; exact Nat.le_refl _) (L.take 0) ((HH.out.1.take (k := 0) (by omega)).kp (kw.trans ke)) (by have := HH.out.2.1; simp only [List.length_take, List.length_nil]; omega) 67
        rw [List.nil_append] at o1
        have p1 := HB.out.1 _ (kd.trans k1)
        have k1a : Kp w1 (w1.alloc (.cells #[.int .u64 (x.g : Int), .int .i64 (x.x : Int), .bool x.r, .bool x.q, .bool x.e, .int .i64 x.f, .int .i64 (x.l : Int)] 93)) := (Kp.refl _).alloc _
        obtain ⟨na2, n2, cap2, w2, r2, hn2, o2, k2, b2⟩ := leaf_append (W := wd) (o1.kp k1a) (k1.trans k1a) b1 [x] (one_src w1 x) (by have := HH.out.2.1; simp only [List.length_take, List.length_nil, List.length_cons]; omega) 67
        obtain ⟨na3, n3, cap3, w3, r3, hn3, o3, k3, b3⟩ := leaf_append (W := wd) o2 k2 b2 (L.drop 0) (s3.kp (kw.trans k2)) (by have := HH.out.2.1; simp only [List.length_append, List.length_take, List.length_drop, List.length_nil, List.length_cons]; omega) 67
        have HE : Hid (RO w3 (.slice na3 n3 cap3) (withL L x) ∧ (∀ b, (Value.slice na3 n3 cap3).ownBlock = some b → w.heap.size ≤ b) ∧ Kp w w3) := ⟨by unfold withL; rw [← HH.out.2.2.2.2.1]; exact o3, fun b hb => Nat.le_trans kw.size (b3 b hb), kw.trans k3⟩
        obtain ⟨u0, u1, u2, u3, u4, u5, u6⟩ := p1
        clear hn1 o1 k1 b1 k1a hn2 o2 k2 b2 hn3 o3 k3 b3 ke kd kw HB HI q0
        generalize x.g = xg at *
        generalize x.x = xx at *
        generalize x.r = xr at *
        generalize x.q = xq at *
        generalize x.e = xe at *
        generalize x.f = xf at *
        generalize x.l = xl at *
        repeat' (first | (first | ((with_reducible refine wp_append_of r1 (.tmp 23) (.tmp 26) ?_ ?_ ?_ ?_ ?_); rfl; rfl; rfl; rfl) | ((with_reducible refine wp_append_of r2 (.tmp 28) (.tmp 30) ?_ ?_ ?_ ?_ ?_); rfl; rfl; rfl; rfl) | ((with_reducible refine wp_append_of r3 (.tmp 32) (.tmp 35) ?_ ?_ ?_ ?_ ?_); rfl; rfl; rfl; rfl)) | go_values | go_skip | go_guarded | go_step | go_upon | go_back | (simp only []) | (go_values <;> (try go_simp)) | (go_ite <;> go_prune <;> (try go_simp)))
        go_ret
        exact ⟨⟨_, _, _, rfl, HE.out.1, HE.out.2.1⟩, HE.out.2.2⟩
      · have s3 := HH.out.1.drop0 (k := i) (by omega)
        subst e2
        subst e3
        clear hlen
        go_wp2_with fail
        go_quiet (fail)
        obtain ⟨wd, hwd⟩ : ∃ wd, wd = wr.drewN nq := ⟨_, rfl⟩
        rw [← hwd]
        have kd : Kp w0 wd := by rw [hwd]; exact HI.out.trans ((Kp.refl _).drewN _)
        have kw : Kp w wd := HB.out.2.trans kd
        clear hwd
        have ke : Kp wd (wd.alloc (.cells #[] 93)) := (Kp.refl _).alloc _
        obtain ⟨na1, n1, cap1, w1, r1, hn1, o1, k1, b1⟩ := leaf_append (W := wd) (ro_empty wd) ke (fun b hb => by cases hb; exact Nat.le_refl _) (L.take L.length) ((HH.out.1.take (k := L.length) (by omega)).kp (kw.trans ke)) (by have := HH.out.2.1; simp only [List.length_take, List.length_nil]; omega) 67
        rw [List.nil_append] at o1
        have p1 := HB.out.1 _ (kd.trans k1)
        have k1a : Kp w1 (w1.alloc (.cells #[.int .u64 (x.g : Int), .int .i64 (x.x : Int), .bool x.r, .bool x.q, .bool x.e, .int .i64 x.f, .int .i64 (x.l : Int)] 93)) := (Kp.refl _).alloc _
        obtain ⟨na2, n2, cap2, w2, r2, hn2, o2, k2, b2⟩ := leaf_append (W := wd) (o1.kp k1a) (k1.trans k1a) b1 [x] (one_src w1 x) (by have := HH.out.2.1; simp only [List.length_take, List.length_nil, List.length_cons]; omega) 67
        obtain ⟨na3, n3, cap3, w3, r3, hn3, o3, k3, b3⟩ := leaf_append (W := wd) o2 k2 b2 (L.drop L.length) (s3.kp (kw.trans k2)) (by have := HH.out.2.1; simp only [List.length_append, List.length_take, List.length_drop, List.length_nil, List.length_cons]; omega) 67
        have HE : Hid (RO w3 (.slice na3 n3 cap3) (withL L x) ∧ (∀ b, (Value.slice na3 n3 cap3).ownBlock = some b → w.heap.size ≤ b) ∧ Kp w w3) := ⟨by unfold withL; rw [← HH.out.2.2.2.2.1]; exact o3, fun b hb => Nat.le_trans kw.size (b3 b hb), kw.trans k3⟩
        obtain ⟨u0, u1, u2, u3, u4, u5, u6⟩ := p1
        clear hn1 o1 k1 b1 k1a hn2 o2 k2 b2 hn3 o3 k3 b3 ke kd kw HB HI q0
        generalize x.g = xg at *
        generalize x.x = xx at *
        generalize x.r = xr at *
        generalize x.q = xq at *
        generalize x.e = xe at *
        generalize x.f = xf at *
        generalize x.l = xl at *
        repeat' (first | (first | ((with_reducible refine wp_append_of r1 (.tmp 23) (.tmp 26) ?_ ?_ ?_ ?_ ?_); rfl; rfl; rfl; rfl) | ((with_reducible refine wp_append_of r2 (.tmp 28) (.tmp 30) ?_ ?_ ?_ ?_ ?_); rfl; rfl; rfl; rfl) | ((with_reducible refine wp_append_of r3 (.tmp 32) (.tmp 35) ?_ ?_ ?_ ?_ ?_); rfl; rfl; rfl; rfl)) | go_values | go_skip | go_guarded | go_step | go_upon | go_back | (simp only []) | (go_values <;> (try go_simp)) | (go_ite <;> go_prune <;> (try go_simp)))
        go_ret
        exact ⟨⟨_, _, _, rfl, HE.out.1, HE.out.2.1⟩, HE.out.2.2⟩
      · have s3 := HH.out.1.drop (k := i) (by omega)
        have y1 : decide ((i : Int) < L.length) = false := decide_eq_false (by omega)
        have y1' : decide (i < L.length) = false := decide_eq_false (by omega)
        have y2 : (i : Int) ≤ cap := by omega
        have y3 : ¬ cap = i := by omega
        have y4 : (L.length : Int) ≤ cap := by omega
        have y5 : (i : Int) ≤ L.length := by omega
        clear hlen e2 e3
        go_wp2_with fail
        go_quiet (fail)
        obtain ⟨wd, hwd⟩ : ∃ wd, wd = wr.drewN nq := ⟨_, rfl⟩
        rw [← hwd]
        have kd : Kp w0 wd := by rw [hwd]; exact HI.out.trans ((Kp.refl _).drewN _)
        have kw : Kp w wd := HB.out.2.trans kd
        clear hwd
        have ke : Kp wd (wd.alloc (.cells #[] 93)) := (Kp.refl _).alloc _
        obtain ⟨na1, n1, cap1, w1, r1, hn1, o1, k1, b1⟩ := leaf_append (W := wd) (ro_empty wd) ke (fun b hb => by cases hb; exact Nat.le_refl _) (L.take i) ((HH.out.1.take (k := i) (by omega)).kp (kw.trans ke)) (by have := HH.out.2.1; simp only [List.length_take, List.length_nil]; omega) 67
        rw [List.nil_append] at o1
        have p1 := HB.out.1 _ (kd.trans k1)
        have k1a : Kp w1 (w1.alloc (.cells #[.int .u64 (x.g : Int), .int .i64 (x.x : Int), .bool x.r, .bool x.q, .bool x.e, .int .i64 x.f, .int .i64 (x.l : Int)] 93)) := (Kp.refl _).alloc _
        obtain ⟨na2, n2, cap2, w2, r2, hn2, o2, k2, b2⟩ := leaf_append (W := wd) (o1.kp k1a) (k1.trans k1a) b1 [x] (one_src w1 x) (by have := HH.out.2.1; simp only [List.length_take, List.length_nil, List.length_cons]; omega) 67
        obtain ⟨na3, n3, cap3, w3, r3, hn3, o3, k3, b3⟩ := leaf_append (W := wd) o2 k2 b2 (L.drop i) (s3.kp (kw.trans k2)) (by have := HH.out.2.1; simp only [List.length_append, List.length_take, List.length_drop, List.length_nil, List.length_cons]; omega) 67
        have HE : Hid (RO w3 (.slice na3 n3 cap3) (withL L x) ∧ (∀ b, (Value.slice na3 n3 cap3).ownBlock = some b → w.heap.size ≤ b) ∧ Kp w w3) := ⟨by unfold withL; rw [← HH.out.2.2.2.2.1]; exact o3, fun b hb => Nat.le_trans kw.size (b3 b hb), kw.trans k3⟩
        obtain ⟨u0, u1, u2, u3, u4, u5, u6⟩ := p1
        clear hn1 o1 k1 b1 k1a hn2 o2 k2 b2 hn3 o3 k3 b3 ke kd kw HB HI q0
        generalize x.g = xg at *
        generalize x.x = xx at *
        generalize x.r = xr at *
        generalize x.q = xq at *
        generalize x.e = xe at *
        generalize x.f = xf at *
        generalize x.l = xl at *
        repeat' (first | (first | ((with_reducible refine wp_append_of r1 (.tmp 23) (.tmp 26) ?_ ?_ ?_ ?_ ?_); rfl; rfl; rfl; rfl) | ((with_reducible refine wp_append_of r2 (.tmp 28) (.tmp 30) ?_ ?_ ?_ ?_ ?_); rfl; rfl; rfl; rfl) | ((with_reducible refine wp_append_of r3 (.tmp 32) (.tmp 35) ?_ ?_ ?_ ?_ ?_); rfl; rfl; rfl; rfl)) | go_values | go_skip | go_guarded | go_step | go_upon | go_back | (simp only []) | (go_values <;> (try go_simp)) | (go_ite <;> go_prune <;> (try go_simp)))
        go_ret
        exact ⟨⟨_, _, _, rfl, HE.out.1, HE.out.2.1⟩, HE.out.2.2⟩
      · have s3 := HH.out.1.drop (k := i) (by omega)
        obtain ⟨y, hy⟩ : ∃ y, L[i]? = some y := ⟨_, List.getElem?_eq_getElem e2⟩
        obtain ⟨g', eg, hgl, hc⟩ := HH.out.1.at hy
        cases eg
        have d0 : wr.cell? ⟨g, i * 7, none⟩ = some (.int .u64 (y.g : Int)) := by rw [(HB.out.2.trans HI.out).cell (p := ⟨g, i * 7, none⟩) hgl]; exact hc 0 _ rfl
        have ge := kW_ge (by rw [← HH.out.2.2.2.2.1]; exact hy)
        generalize y.g = gy at *
        have y1 : (i : Int) < L.length := by omega
        have y2 : (i : Int) ≤ cap := by omega
        have y3 : ¬ cap = i := by omega
        have y4 : (L.length : Int) ≤ cap := by omega
        have y5 : (i : Int) ≤ L.length := by omega
        have y6 : decide ((gy : Int) < (x.g : Int)) = false := decide_eq_false (by omega)
        have y7 : decide (gy < x.g) = false := decide_eq_false (by omega)
        clear hlen e2 hc hy hgl ge
        go_wp2_with fail
        go_quiet (fail)
        obtain ⟨wd, hwd⟩ : ∃ wd, wd = wr.drewN nq := ⟨_, rfl⟩
        rw [← hwd]
        have kd : Kp w0 wd := by rw [hwd]; exact HI.out.trans ((Kp.refl _).drewN _)
        have kw : Kp w wd := HB.out.2.trans kd
        clear hwd
        have ke : Kp wd (wd.alloc (.cells #[] 93)) := (Kp.refl _).alloc _
        obtain ⟨na1, n1, cap1, w1, r1, hn1, o1, k1, b1⟩ := leaf_append (W := wd) (ro_empty wd) ke (fun b hb => by cases hb; exact Nat.le_refl _) (L.take i) ((HH.out.1.take (k := i) (by omega)).kp (kw.trans ke)) (by have := HH.out.2.1; simp only [List.length_take, List.length_nil]; omega) 67
        rw [List.nil_append] at o1
        have p1 := HB.out.1 _ (kd.trans k1)
        have k1a : Kp w1 (w1.alloc (.cells #[.int .u64 (x.g : Int), .int .i64 (x.x : Int), .bool x.r, .bool x.q, .bool x.e, .int .i64 x.f, .int .i64 (x.l : Int)] 93)) := (Kp.refl _).alloc _
        obtain ⟨na2, n2, cap2, w2, r2, hn2, o2, k2, b2⟩ := leaf_append (W := wd) (o1.kp k1a) (k1.trans k1a) b1 [x] (one_src w1 x) (by have := HH.out.2.1; simp only [List.length_take, List.length_nil, List.length_cons]; omega) 67
        obtain ⟨na3, n3, cap3, w3, r3, hn3, o3, k3, b3⟩ := leaf_append (W := wd) o2 k2 b2 (L.drop i) (s3.kp (kw.trans k2)) (by have := HH.out.2.1; simp only [List.length_append, List.length_take, List.length_drop, List.length_nil, List.length_cons]; omega) 67
        have HE : Hid (RO w3 (.slice na3 n3 cap3) (withL L x) ∧ (∀ b, (Value.slice na3 n3 cap3).ownBlock = some b → w.heap.size ≤ b) ∧ Kp w w3) := ⟨by unfold withL; rw [← HH.out.2.2.2.2.1]; exact o3, fun b hb => Nat.le_trans kw.size (b3 b hb), kw.trans k3⟩
        obtain ⟨u0, u1, u2, u3, u4, u5, u6⟩ := p1
        clear hn1 o1 k1 b1 k1a hn2 o2 k2 b2 hn3 o3 k3 b3 ke kd kw HB HI q0
        generalize x.g = xg at *
        generalize x.x = xx at *
        generalize x.r = xr at *
        generalize x.q = xq at *
        generalize x.e = xe at *
        generalize x.f = xf at *
        generalize x.l = xl at *
        repeat' (first | (first | ((with_reducible refine wp_append_of r1 (.tmp 23) (.tmp 26) ?_ ?_ ?_ ?_ ?_); rfl; rfl; rfl; rfl) | ((with_reducible refine wp_append_of r2 (.tmp 28) (.tmp 30) ?_ ?_ ?_ ?_ ?_); rfl; rfl; rfl; rfl) | ((with_reducible refine wp_append_of r3 (.tmp 32) (.tmp 35) ?_ ?_ ?_ ?_ ?_); rfl; rfl; rfl; rfl)) | go_values | go_skip | go_guarded | go_step | go_upon | go_back | (simp only []) | (go_values <;> (try go_simp)) | (go_ite <;> go_prune <;> (try go_simp)))
        go_ret
        exact ⟨⟨_, _, _, rfl, HE.out.1, HE.out.2.1⟩, HE.out.2.2⟩
end Go.Proofs.YtanlcmdnhhdhaaaGreatDoor
