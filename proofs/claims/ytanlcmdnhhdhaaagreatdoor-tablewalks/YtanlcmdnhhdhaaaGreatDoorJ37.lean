/- Joined: R56, R57, R58, R5A. -/
import Derived.Test.YtanlcmdnhhdhaaaGreatDoorJ35
import Derived.Test.YtanlcmdnhhdhaaaGreatDoorJ27
import Derived.Deep.RegionLaw
/- The document's second stage: halves. -/
namespace Go.Proofs.YtanlcmdnhhdhaaaGreatDoor
open Go.RowKit
set_option maxRecDepth 10000

/-- The Page at the place i of a Block. -/
def pgV (b : LV) (i : Nat) : LV := ⟨b.g + i, b.x + i, b.r, b.q, b.e, b.f, 3⟩
def pgsV (b : LV) (n : Nat) : List LV := (List.range n).map (pgV b)
theorem pgsV_succ (b : LV) (n : Nat) : pgsV b (n + 1) = pgsV b n ++ [pgV b n] := by unfold pgsV; rw [List.range_succ, List.map_append]; rfl
def halvL (L : List LV) (k : Nat) (b : LV) : List LV := L.take k ++ pgsV b 512 ++ L.drop (k + 1)
set_option maxHeartbeats 8000000 in
theorem rhalves_any {w : World} {br bf : Nat} {v : Value} {L : List LV} {fr : Int} {gone : Bool} (h : RQ w br bf v L fr gone) (hl : L.length ≤ 900000) {k : Nat} {b : LV} (hk : L[k]? = some b) (h2 : b.l = 2) :
    Calls Tryz.prog 77 #[.pointer (some ⟨br, 0, none⟩), .int .i64 (k : Int)] w fun e w' => (∃ na' n' cap', e = .returned (.slice na' n' cap') ∧ Hid (RO w' (.slice na' n' cap') (halvL L k b) ∧ ∀ b, (Value.slice na' n' cap').ownBlock = some b → w.heap.size ≤ b)) ∧ Kp w w' := by
  obtain ⟨na, cap, rfl, hcap⟩ := h.slice
  obtain ⟨g, rfl, hgl, hc⟩ := h.ol.at hk
  have kn := (List.getElem?_eq_some_iff.1 hk).1
  have c0 := h.c0
  have hok := h.ok b (List.mem_of_getElem? hk)
  have d0 : w.cell? ⟨g, k * 7, none⟩ = some (.int .u64 (b.g : Int)) := hc 0 _ rfl
  have d1 := hc 1 _ rfl
  have d2 := hc 2 _ rfl
  have d3 := hc 3 _ rfl
  have d4 := hc 4 _ rfl
  have d5 := hc 5 _ rfl
  have d6 := hc 6 _ rfl
  obtain ⟨n, hn⟩ : ∃ n, n = L.length := ⟨_, rfl⟩
  rw [← hn] at c0 hcap
  have y1 : (k : Int) < n := by omega
  have y2 : (k : Int) ≤ cap := by omega
  have y4 : (n : Int) ≤ cap := by omega
  have y5 : (k : Int) ≤ n := by omega
  have z0 : (n : Int) ≤ 900000 := by omega
  have HH : Hid (RQ w br bf (.slice (some ⟨g, 0, none⟩) L.length cap) L fr gone ∧ n = L.length ∧ L.length ≤ 900000 ∧ k < n ∧ n ≤ cap ∧ b.g ≤ 268435456 ∧ b.x + 511 < 2100) := ⟨h, hn, hl, by omega, hcap, (hok.2.2.2 h2).2, (hok.2.2.2 h2).1⟩
  -- the copy of the leaf, the new list
  have kb : Kp w (w.alloc (.cells #[.int .u64 (b.g : Int), .int .i64 (b.x : Int), .bool b.r, .bool b.q, .bool b.e, .int .i64 b.f, .int .i64 (b.l : Int)] 93)) := (Kp.refl w).alloc _
  have ke : Kp (w.alloc (.cells #[.int .u64 (b.g : Int), .int .i64 (b.x : Int), .bool b.r, .bool b.q, .bool b.e, .int .i64 b.f, .int .i64 (b.l : Int)] 93)) ((w.alloc (.cells #[.int .u64 (b.g : Int), .int .i64 (b.x : Int), .bool b.r, .bool b.q, .bool b.e, .int .i64 b.f, .int .i64 (b.l : Int)] 93)).alloc (.cells #[] 93)) := (Kp.refl _).alloc _
  obtain ⟨na1, n1, cap1, w1, r1, hn1, o1, k1, b1⟩ := leaf_append (W := w.alloc (.cells #[.int .u64 (b.g : Int), .int .i64 (b.x : Int), .bool b.r, .bool b.q, .bool b.e, .int .i64 b.f, .int .i64 (b.l : Int)] 93)) (ro_empty (w.alloc (.cells #[.int .u64 (b.g : Int), .int .i64 (b.x : Int), .bool b.r, .bool b.q, .bool b.e, .int .i64 b.f, .int .i64 (b.l : Int)] 93))) ke (fun b hb => by cases hb; exact Nat.le_refl _) (L.take k) ((h.ol.take (k := k) (by omega)).kp (kb.trans ke)) (by simp only [List.length_take, List.length_nil]; omega) 67
  rw [List.nil_append] at o1
  have es : (w.alloc (.cells #[.int .u64 (b.g : Int), .int .i64 (b.x : Int), .bool b.r, .bool b.q, .bool b.e, .int .i64 b.f, .int .i64 (b.l : Int)] 93)).heap.size = w.heap.size + 1 := by simp
  rw [es] at r1
  have hbl : ∀ u, Kp (w.alloc (.cells #[.int .u64 (b.g : Int), .int .i64 (b.x : Int), .bool b.r, .bool b.q, .bool b.e, .int .i64 b.f, .int .i64 (b.l : Int)] 93)) u → u.heap[w.heap.size]? = some (.cells #[.int .u64 (b.g : Int), .int .i64 (b.x : Int), .bool b.r, .bool b.q, .bool b.e, .int .i64 b.f, .int .i64 (b.l : Int)] 93) := fun u ku => (ku.block w.heap.size (by simp)).trans (heap_alloc_new w _)
  have HB : Hid (∀ u, Kp (w.alloc (.cells #[.int .u64 (b.g : Int), .int .i64 (b.x : Int), .bool b.r, .bool b.q, .bool b.e, .int .i64 b.f, .int .i64 (b.l : Int)] 93)) u → u.heap[w.heap.size]? = some (.cells #[.int .u64 (b.g : Int), .int .i64 (b.x : Int), .bool b.r, .bool b.q, .bool b.e, .int .i64 b.f, .int .i64 (b.l : Int)] 93)) := hbl
  have c0' : ∀ u, Kp w u → u.cell? ⟨br, 0, none⟩ = some (.slice (some ⟨g, 0, none⟩) n cap) := fun u ku => by have := (h.kp ku).c0; rw [← hn] at this; exact this
  have HC : Hid (∀ u, Kp w u → u.cell? ⟨br, 0, none⟩ = some (.slice (some ⟨g, 0, none⟩) n cap)) := c0'
  have e0 := c0' _ (kb.trans ke)
  have e0b := c0' _ kb
  have H1 : Hid (RO w1 (.slice na1 n1 cap1) (L.take k ++ pgsV b 0) ∧ Kp (w.alloc (.cells #[.int .u64 (b.g : Int), .int .i64 (b.x : Int), .bool b.r, .bool b.q, .bool b.e, .int .i64 b.f, .int .i64 (b.l : Int)] 93)) w1 ∧ (∀ c, (Value.slice na1 n1 cap1).ownBlock = some c → (w.alloc (.cells #[.int .u64 (b.g : Int), .int .i64 (b.x : Int), .bool b.r, .bool b.q, .bool b.e, .int .i64 b.f, .int .i64 (b.l : Int)] 93)).heap.size ≤ c) ∧ Kp w (w.alloc (.cells #[.int .u64 (b.g : Int), .int .i64 (b.x : Int), .bool b.r, .bool b.q, .bool b.e, .int .i64 b.f, .int .i64 (b.l : Int)] 93))) := ⟨by rw [show pgsV b 0 = [] from rfl, List.append_nil]; exact o1, k1, b1, kb⟩
  clear es h hl hk h2 kn hok hc hn hcap kb ke hn1 o1 k1 b1 hbl c0' hgl
  go_enter Tryz.func77, Tryz.ntmps77
  repeat' (first | ((with_reducible refine wp_append_of r1 (.tmp 15) (.tmp 21) ?_ ?_ ?_ ?_ ?_); rfl; rfl; rfl; rfl) | go_values | go_skip | go_guarded | go_step | go_upon | go_back | (simp only []) | (go_values <;> (try go_simp)) | (go_ite <;> go_prune <;> (try go_simp)))
  clear r1 d0 d1 d2 d3 d4 d5 d6 e0 e0b c0
  generalize hw0 : w.alloc (.cells #[.int .u64 (b.g : Int), .int .i64 (b.x : Int), .bool b.r, .bool b.q, .bool b.e, .int .i64 b.f, .int .i64 (b.l : Int)] 93) = w0 at *
  clear hw0
  go_loopg [6, 7] 513 (fun gg v6 v7 wr => ∃ (i n2 cap2 : Nat) (na2 : Option Addr), v7 = .int .i64 (i : Int) ∧ v6 = .slice na2 n2 cap2 ∧ i ≤ 512 ∧ 513 - i ≤ gg ∧ Hid (RO wr (.slice na2 n2 cap2) (L.take k ++ pgsV b i) ∧ Kp w0 wr ∧ (∀ c, (Value.slice na2 n2 cap2).ownBlock = some c → w0.heap.size ≤ c)))
  case atStart => exact ⟨0, n1, cap1, na1, rfl, rfl, by omega, by omega, H1.out.1, H1.out.2.1, H1.out.2.2.1⟩
  case round =>
    obtain ⟨i, n2, cap2, na2, rfl, rfl, hi, hg, HI⟩ := hrel
    by_cases e : i < 512
    · obtain ⟨O2, K2, B2⟩ := HI.out
      have hr := HB.out _ K2
      have u0 : wr.cell? ⟨w.heap.size, 0, none⟩ = some (.int .u64 (b.g : Int)) := by rw [cell_of_row wr _ 0 _ _ _ hr]; rfl
      have u1 : wr.cell? ⟨w.heap.size, 1, none⟩ = some (.int .i64 (b.x : Int)) := by rw [cell_of_row wr _ 1 _ _ _ hr]; rfl
      have u2 : wr.cell? ⟨w.heap.size, 2, none⟩ = some (.bool b.r) := by rw [cell_of_row wr _ 2 _ _ _ hr]; rfl
      have u3 : wr.cell? ⟨w.heap.size, 3, none⟩ = some (.bool b.q) := by rw [cell_of_row wr _ 3 _ _ _ hr]; rfl
      have u4 : wr.cell? ⟨w.heap.size, 4, none⟩ = some (.bool b.e) := by rw [cell_of_row wr _ 4 _ _ _ hr]; rfl
      have u5 : wr.cell? ⟨w.heap.size, 5, none⟩ = some (.int .i64 b.f) := by rw [cell_of_row wr _ 5 _ _ _ hr]; rfl
      have ka : Kp wr (wr.alloc (.cells #[.int .u64 ((pgV b i).g : Int), .int .i64 ((pgV b i).x : Int), .bool (pgV b i).r, .bool (pgV b i).q, .bool (pgV b i).e, .int .i64 (pgV b i).f, .int .i64 ((pgV b i).l : Int)] 93)) := (Kp.refl _).alloc _
      obtain ⟨na3, n3, cap3, w3, r3, hn3, o3, k3, b3⟩ := leaf_append (W := w0) (O2.kp ka) (K2.trans ka) B2 [pgV b i] (one_src wr (pgV b i)) (by have := HH.out; simp only [List.length_append, List.length_take, List.length_nil, List.length_cons, pgsV, List.length_map, List.length_range]; omega) 67
      rw [List.append_assoc, ← pgsV_succ] at o3
      have u6 : ((b.g : Int) + (i : Int)) = ((pgV b i).g : Int) := by show _ = ((b.g + i : Nat) : Int); omega
      have u7 : ((b.x : Int) + (i : Int)) = ((pgV b i).x : Int) := by show _ = ((b.x + i : Nat) : Int); omega
      have z5 : ((pgV b i).g : Int) ≤ 268435967 := by have := HH.out; show ((b.g + i : Nat) : Int) ≤ _; omega
      have z6 : ((pgV b i).x : Int) ≤ 2100 := by have := HH.out; show ((b.x + i : Nat) : Int) ≤ _; omega
      have H3 : Hid (RO w3 (.slice na3 n3 cap3) (L.take k ++ pgsV b (i + 1)) ∧ Kp w0 w3 ∧ (∀ c, (Value.slice na3 n3 cap3).ownBlock = some c → w0.heap.size ≤ c)) := ⟨o3, k3, b3⟩
      have er : (pgV b i).r = b.r := rfl
      have eq : (pgV b i).q = b.q := rfl
      have ee : (pgV b i).e = b.e := rfl
      have ef : (pgV b i).f = b.f := rfl
      have el : (pgV b i).l = 3 := rfl
      rw [er, eq, ee, ef, el, show ((3 : Nat) : Int) = 3 from rfl] at r3
      have y3 : (i : Int) < 512 := by omega
      clear er eq ee ef el O2 K2 B2 hr ka hn3 o3 k3 b3 HI
      generalize (pgV b i).g = pg at *
      generalize (pgV b i).x = px at *
      repeat' (first | ((with_reducible refine wp_append_of r3 (.tmp 27) (.tmp 42) ?_ ?_ ?_ ?_ ?_); rfl; rfl; rfl; rfl) | go_values | go_skip | go_guarded | go_step | go_upon | go_back | (simp only []) | (go_values <;> (try go_simp)) | (go_ite <;> go_prune <;> (try go_simp)))
      go_roundg (513 - (i + 1))
      case measure => omega
      case rel => exact ⟨i + 1, n3, cap3, na3, by go_num, rfl, by omega, by omega, H3.out⟩
    · obtain rfl : i = 512 := by omega
      rw [show ((512 : Nat) : Int) = 512 from rfl]
      have y6 : (k : Int) + 1 ≤ cap := by have := HH.out; omega
      have y7 : (k : Int) + 1 ≤ n := by have := HH.out; omega
      have y11 : (k : Int) ≤ (k : Int) + 1 := by omega
      have y13 : (0 : Int) ≤ (k : Int) + 1 := by omega
      by_cases ec : cap = k + 1
      · have s3 := HH.out.1.ol.drop0 (k := k + 1) (by have := HH.out; omega)
        subst ec
        obtain rfl : n = k + 1 := by have := HH.out; omega
        have k3' := ((HI.out.2.1)).trans (Kp.refl _)
        have q0 := HC.out _ (H1.out.2.2.2.trans HI.out.2.1)
        obtain ⟨na4, n4, cap4, w4, r4, hn4, o4, k4, b4⟩ := leaf_append (W := w0) HI.out.1 HI.out.2.1 HI.out.2.2 (L.drop (k + 1)) (s3.kp (H1.out.2.2.2.trans HI.out.2.1)) (by have := HH.out; simp only [List.length_append, List.length_take, List.length_drop, pgsV, List.length_map, List.length_range]; omega) 67
        have HE : Hid (RO w4 (.slice na4 n4 cap4) (halvL L k b) ∧ (∀ c, (Value.slice na4 n4 cap4).ownBlock = some c → w.heap.size ≤ c) ∧ Kp w w4) := ⟨o4, fun c hc => Nat.le_trans H1.out.2.2.2.size (b4 c hc), H1.out.2.2.2.trans k4⟩
        clear hn4 o4 k4 b4 k3' HI s3
        repeat' (first | ((with_reducible refine wp_append_of r4 (.tmp 44) (.tmp 51) ?_ ?_ ?_ ?_ ?_); rfl; rfl; rfl; rfl) | go_values | go_skip | go_guarded | go_step | go_upon | go_back | (simp only []) | (go_values <;> (try go_simp)) | (go_ite <;> go_prune <;> (try go_simp)))
        go_ret
        exact ⟨⟨_, _, _, rfl, HE.out.1, HE.out.2.1⟩, HE.out.2.2⟩
      · have s3 := HH.out.1.ol.drop (k := k + 1) (by have := HH.out; omega)
        rw [← HH.out.2.1] at s3
        have y8 : ¬ cap = k + 1 := ec
        clear ec
        have k3' := ((HI.out.2.1)).trans (Kp.refl _)
        have q0 := HC.out _ (H1.out.2.2.2.trans HI.out.2.1)
        obtain ⟨na4, n4, cap4, w4, r4, hn4, o4, k4, b4⟩ := leaf_append (W := w0) HI.out.1 HI.out.2.1 HI.out.2.2 (L.drop (k + 1)) (s3.kp (H1.out.2.2.2.trans HI.out.2.1)) (by have := HH.out; simp only [List.length_append, List.length_take, List.length_drop, pgsV, List.length_map, List.length_range]; omega) 67
        have HE : Hid (RO w4 (.slice na4 n4 cap4) (halvL L k b) ∧ (∀ c, (Value.slice na4 n4 cap4).ownBlock = some c → w.heap.size ≤ c) ∧ Kp w w4) := ⟨o4, fun c hc => Nat.le_trans H1.out.2.2.2.size (b4 c hc), H1.out.2.2.2.trans k4⟩
        clear hn4 o4 k4 b4 k3' HI s3
        repeat' (first | ((with_reducible refine wp_append_of r4 (.tmp 44) (.tmp 51) ?_ ?_ ?_ ?_ ?_); rfl; rfl; rfl; rfl) | go_values | go_skip | go_guarded | go_step | go_upon | go_back | (simp only []) | (go_values <;> (try go_simp)) | (go_ite <;> go_prune <;> (try go_simp)))
        go_ret
        exact ⟨⟨_, _, _, rfl, HE.out.1, HE.out.2.1⟩, HE.out.2.2⟩
end Go.Proofs.YtanlcmdnhhdhaaaGreatDoor

/- The document's second stage: Split. -/
namespace Go.Proofs.YtanlcmdnhhdhaaaGreatDoor
open Go.RowKit
set_option maxRecDepth 10000

theorem at_some {L : List LV} {page : Nat} (h : 0 ≤ atI L page) : ∃ (k : Nat) (x : LV), L.findIdx? (hitL page) = some k ∧ L[k]? = some x ∧ hitL page x = true ∧ atI L page = (k : Int) := by
  unfold atI at h ⊢
  match hf : L.findIdx? (hitL page) with
  | none => rw [hf] at h; simp at h
  | some k =>
    obtain ⟨hk, hp, _⟩ := List.findIdx?_eq_some_iff_getElem.1 hf
    exact ⟨k, L[k], rfl, List.getElem?_eq_getElem hk, hp, rfl⟩
theorem at_neg {L : List LV} {page : Nat} (h : ¬ 0 ≤ atI L page) : atI L page = -1 ∧ L.findIdx? (hitL page) = none := by
  unfold atI at h ⊢
  match hf : L.findIdx? (hitL page) with
  | none => exact ⟨rfl, rfl⟩
  | some k => rw [hf] at h; exact absurd (Int.natCast_nonneg k) h
theorem mem_halv {L : List LV} {k : Nat} {b v : LV} (h : v ∈ halvL L k b) : v ∈ L ∨ ∃ i, i < 512 ∧ v = pgV b i := by
  unfold halvL pgsV at h
  simp only [List.mem_append, List.mem_map, List.mem_range] at h
  rcases h with (h | ⟨i, hi, rfl⟩) | h
  · exact .inl (List.mem_of_mem_take h)
  · exact .inr ⟨i, hi, rfl⟩
  · exact .inl (List.mem_of_mem_drop h)
theorem okL_halv {L : List LV} {k : Nat} {b : LV} (h : okL L) (hb : b ∈ L) (h2 : b.l = 2) : okL (halvL L k b) := fun v hv => by
  rcases mem_halv hv with c | ⟨i, hi, rfl⟩
  · exact h v c
  · have := (h b hb).2.2.2 h2
    exact ⟨.inr rfl, by show b.g + i < 268435968; omega, by show b.x + i < 2100; omega, fun c => by cases c⟩
theorem len_halv {L : List LV} {k : Nat} {b : LV} (hk : k < L.length) : (halvL L k b).length = L.length + 511 := by
  unfold halvL pgsV
  simp only [List.length_append, List.length_take, List.length_drop, List.length_map, List.length_range]
  omega
/-- What Split answers, and what it leaves. -/
def rsplR (gone : Bool) (L : List LV) (fr : Int) (page : Nat) : Int := if gone = true ∨ ¬ 0 ≤ atI L page then 23 else if lL L (atI L page).toNat = 3 then 20 else if fr < 1 then 11 else 0
def RSp (w w' : World) (br bf : Nat) (v : Value) (L : List LV) (fr : Int) (gone : Bool) (page : Nat) : Prop :=
  ∃ (k : Nat) (b : LV), L.findIdx? (hitL page) = some k ∧ L[k]? = some b ∧ b.l = 2 ∧ 1 ≤ fr ∧ (setB fr L (halvL L k b) = true → RN w w' br bf v (halvL L k b) (fr - ((tabL (halvL L k b) : Int) - (tabL L : Int))) gone) ∧ (setB fr L (halvL L k b) = false → RN w w' br bf v L fr gone)
set_option maxHeartbeats 8000000 in
theorem rsplit_any {w : World} {br bf : Nat} {v : Value} {L : List LV} {fr : Int} {gone : Bool} (h : RQ w br bf v L fr gone) (hl : L.length ≤ 900000) (page : Nat) (hp : page < 18446744073709551616) (hf : -1000000000 ≤ fr ∧ fr ≤ 1000000000) (rr : Int) (hrr : rr = rsplR gone L fr page) :
    Calls Tryz.prog 37 #[.pointer (some ⟨br, 0, none⟩), .int .u64 (page : Int)] w fun e w' => e = .returned (.int .i64 rr) ∧ Hid ((rr = 0 → RSp w w' br bf v L fr gone page) ∧ (rr ≠ 0 → RN w w' br bf v L fr gone)) := by
  obtain ⟨na, cap, rfl, _⟩ := h.slice
  have ka := rat_any h (by omega) page hp
  have c0 := h.c0
  have c1 := h.c1
  have c3 := h.c3
  have cf := h.cf
  have RW : Hid (RN w w br bf (.slice na L.length cap) L fr gone) := RN.same h (Kp.refl _)
  unfold rsplR at hrr
  by_cases g1 : gone = true
  · rw [if_pos (.inl g1)] at hrr
    have HE : Hid (rr = 23) := hrr
    subst g1
    generalize atI L page = k at *
    clear h hrr hp
    go_enter Tryz.func37, Tryz.ntmps37
    go_wp2_with fail
    with_reducible refine ka.mono ?_
    rintro e w' ⟨rfl, rfl⟩
    go_wp2_with fail
    go_ret
    exact ⟨by rw [HE.out]; rfl, fun c => (by rw [HE.out] at c; cases c), fun _ => RW.out⟩
  obtain rfl : gone = false := by simpa using g1
  by_cases g2 : 0 ≤ atI L page
  · rw [if_neg (fun c => c.elim g1 (fun c => c g2))] at hrr
    obtain ⟨k, b, f1, f2, _, f4⟩ := at_some g2
    rw [f4, Int.toNat_natCast, (gL_at f2).2] at hrr
    rw [f4] at ka
    obtain ⟨g, rfl, hgl, hc⟩ := h.ol.at f2
    have d6 := hc 6 _ rfl
    have kn := (List.getElem?_eq_some_iff.1 f2).1
    have hok := h.ok b (List.mem_of_getElem? f2)
    have y1 : (k : Int) < L.length := by omega
    have z1 : (b.l : Int) ≤ 3 := by omega
    by_cases g3 : b.l = 3
    · rw [if_pos g3] at hrr
      have HE : Hid (rr = 20) := hrr
      rw [g3] at d6
      rw [show ((3 : Nat) : Int) = 3 from rfl] at d6
      clear h hrr hp hc hok f1 f2 f4 g1 g2 g3 z1 kn
      go_enter Tryz.func37, Tryz.ntmps37
      go_wp2_with fail
      with_reducible refine ka.mono ?_
      rintro e w' ⟨rfl, rfl⟩
      go_wp2_with fail
      go_ret
      exact ⟨by rw [HE.out]; rfl, fun c => (by rw [HE.out] at c; cases c), fun _ => RW.out⟩
    · have g4 : b.l = 2 := by have := hok.1; omega
      rw [if_neg g3] at hrr
      rw [g4] at d6
      rw [show ((2 : Nat) : Int) = 2 from rfl] at d6
      by_cases g5 : fr < 1
      · rw [if_pos g5] at hrr
        have HE : Hid (rr = 11) := hrr
        clear h hrr hp hc hok f1 f2 f4 g1 g2 g3 g4 z1 kn
        go_enter Tryz.func37, Tryz.ntmps37
        go_wp2_with fail
        with_reducible refine ka.mono ?_
        rintro e w' ⟨rfl, rfl⟩
        go_wp2_with fail
        go_ret
        exact ⟨by rw [HE.out]; rfl, fun c => (by rw [HE.out] at c; cases c), fun _ => RW.out⟩
      · rw [if_neg g5] at hrr
        have HE : Hid (rr = 0) := hrr
        have kh := rhalves_any h hl f2 g4
        have okh := okL_halv (k := k) h.ok (List.mem_of_getElem? f2) g4
        have lh := len_halv (b := b) kn
        have KS : Aside (∀ v a n c, (RO v (.slice a n c) (halvL L k b) ∧ ∀ b', (Value.slice a n c).ownBlock = some b' → w.heap.size ≤ b') → Kp w v → Calls Tryz.prog 73 #[.pointer (some ⟨br, 0, none⟩), .slice a n c] v fun e w' => e = .returned (.bool (setB fr L (halvL L k b))) ∧ Hid ((setB fr L (halvL L k b) = true → RN w w' br bf (.slice (some ⟨g, 0, none⟩) L.length cap) (halvL L k b) (fr - ((tabL (halvL L k b) : Int) - (tabL L : Int))) false) ∧ (setB fr L (halvL L k b) = false → RN w w' br bf (.slice (some ⟨g, 0, none⟩) L.length cap) L fr false))) := fun v a n c o k' => rset_new h (by omega) k' o.1 okh (by omega) o.2 (by omega)
        have HF : Hid (L.findIdx? (hitL page) = some k ∧ L[k]? = some b ∧ b.l = 2 ∧ 1 ≤ fr) := ⟨f1, f2, g4, by omega⟩
        clear h hrr hp hc hok f1 f2 f4 g1 g2 g3 g4 z1 kn okh lh hl
        obtain ⟨sb, hsb⟩ : ∃ sb, sb = setB fr L (halvL L k b) := ⟨_, rfl⟩
        have KS' := KS
        rw [← hsb] at KS'
        have HSB : Hid (sb = setB fr L (halvL L k b)) := hsb
        clear KS hsb
        go_enter Tryz.func37, Tryz.ntmps37
        go_wp2_with fail
        with_reducible refine ka.mono ?_
        rintro e w' ⟨rfl, rfl⟩
        go_wp2_with fail
        with_reducible refine kh.mono ?_
        rintro e w1 ⟨⟨a1, n1, p1, rfl, O1⟩, K1⟩
        have ks := KS'.out _ _ _ _ O1.out K1
        clear kh ka KS' O1 K1 d6 c0 c1 c3 cf
        go_wp2_with fail
        with_reducible refine ks.mono ?_
        rintro e w2 ⟨rfl, S2⟩
        clear ks
        go_wp2_with fail
        go_ret
        obtain ⟨a1, a2, a3, a4⟩ := HF.out
        have e2 := S2.out
        rw [HSB.out] at e2
        exact ⟨by rw [HE.out]; rfl, fun _ => ⟨k, b, a1, a2, a3, a4, e2.1, e2.2⟩, fun c => absurd HE.out c⟩
  · rw [if_pos (.inr g2)] at hrr
    have HE : Hid (rr = 23) := hrr
    rw [(at_neg g2).1] at ka
    clear h hrr hp g1 g2
    go_enter Tryz.func37, Tryz.ntmps37
    go_wp2_with fail
    with_reducible refine ka.mono ?_
    rintro e w' ⟨rfl, rfl⟩
    go_wp2_with fail
    go_ret
    exact ⟨by rw [HE.out]; rfl, fun c => (by rw [HE.out] at c; cases c), fun _ => RW.out⟩
end Go.Proofs.YtanlcmdnhhdhaaaGreatDoor

/- The document's second stage: Get, Drop, New. -/
namespace Go.Proofs.YtanlcmdnhhdhaaaGreatDoor
open Go.RowKit
set_option maxRecDepth 10000

theorem res_r2 {w : World} {b : Nat} {v : LV} {fn : Func} {c t : Tmp} {tmps : Array Value} (hf : fn.results = #[.cell c 93, .tmp t]) (hc : tmps.getD c undef = .pointer (some ⟨b, 0, none⟩)) (B : w.heap[b]? = some (.cells #[.int .u64 (v.g : Int), .int .i64 (v.x : Int), .bool v.r, .bool v.q, .bool v.e, .int .i64 v.f, .int .i64 (v.l : Int)] 93 (0, 0))) :
    (results fn tmps).run Tryz.prog w = .ok (.tuple #[lvV v, tmps.getD t undef]) w := by
  have hc' : tmps[c]?.getD undef = .pointer (some ⟨b, 0, none⟩) := by simpa using hc
  have hl : (loadVar 93 ⟨b, 0, none⟩).run Tryz.prog w = .ok (lvV v) w := run_loadVar_row w b _ 93 _ _ _ B Tryz.underlying93 rfl (by kernel_rfl)
  simp [results, hf, hc', asAddr, hl]
def getL (gone : Bool) (L : List LV) (page : Nat) : LV := if gone = true ∨ ¬ 0 ≤ atI L page then lvZ else let x := L.getD (atI L page).toNat lvZ; ⟨page, x.x + (page - x.g), x.r, x.q, x.e, x.f, x.l⟩
def isL (gone : Bool) (L : List LV) (page : Nat) : Bool := !gone && decide (0 ≤ atI L page)
theorem hit_le {page : Nat} {x : LV} (h : hitL page x = true) : x.g ≤ page ∧ page - x.g < 512 := by
  unfold hitL at h
  simp at h
  omega
set_option maxHeartbeats 8000000 in
theorem rget_any {w : World} {br bf : Nat} {v : Value} {L : List LV} {fr : Int} {gone : Bool} (h : RQ w br bf v L fr gone) (hl : L.length ≤ 900000) (page : Nat) (hp : page < 18446744073709551616) :
    Calls Tryz.prog 41 #[.pointer (some ⟨br, 0, none⟩), .int .u64 (page : Int)] w fun e w' => e = .returned (.tuple #[lvV (getL gone L page), .bool (isL gone L page)]) ∧ Kp w w' := by
  have k0 : Kp w (w.alloc (.cells #[.int .u64 0, .int .i64 0, .bool false, .bool false, .bool false, .int .i64 0, .int .i64 0] 93)) := (Kp.refl w).alloc _
  have h1 := h.kp k0
  obtain ⟨na, cap, rfl, _⟩ := h.slice
  have ka := rat_any h1 (by omega) page hp
  have c0 := h1.c0
  have c3 := h1.c3
  unfold getL isL
  by_cases g1 : gone = true
  · subst g1
    rw [if_pos (.inl rfl), Bool.not_true, Bool.false_and]
    generalize atI L page = k at *
    clear h h1 hp
    go_enter Tryz.func41, Tryz.ntmps41
    go_wp2_with fail
    with_reducible refine ka.mono ?_
    rintro e w' ⟨rfl, rfl⟩
    go_wp2
    exact bodyPost_ret (res_r2 (v := lvZ) rfl rfl (heap_alloc_new w _)) rfl ⟨rfl, k0⟩
  obtain rfl : gone = false := by simpa using g1
  by_cases g2 : 0 ≤ atI L page
  · rw [if_neg (fun c => c.elim g1 (fun c => c g2)), decide_eq_true g2, Bool.not_false, Bool.true_and]
    obtain ⟨k, x, f1, f2, f3, f4⟩ := at_some g2
    rw [f4] at ka ⊢
    have ex : L.getD (((k : Nat) : Int).toNat) lvZ = x := by rw [Int.toNat_natCast, List.getD_eq_getElem?_getD, f2]; rfl
    simp only [ex]
    obtain ⟨g, rfl, hgl, hc⟩ := h1.ol.at f2
    have kn := (List.getElem?_eq_some_iff.1 f2).1
    have hok := h.ok x (List.mem_of_getElem? f2)
    have hh := hit_le f3
    have d0 : (w.alloc (.cells #[.int .u64 0, .int .i64 0, .bool false, .bool false, .bool false, .int .i64 0, .int .i64 0] 93)).cell? ⟨g, k * 7, none⟩ = some (.int .u64 (x.g : Int)) := hc 0 _ rfl
    have d1 := hc 1 _ rfl
    have d2 := hc 2 _ rfl
    have d3 := hc 3 _ rfl
    have d4 := hc 4 _ rfl
    have d5 := hc 5 _ rfl
    have d6 := hc 6 _ rfl
    have y1 : (k : Int) < L.length := by omega
    obtain ⟨df, hdf⟩ : ∃ df, df = page - x.g := ⟨_, rfl⟩
    obtain ⟨fx, hfx⟩ : ∃ fx, fx = x.x + df := ⟨_, rfl⟩
    have y2 : (page : Int) - (x.g : Int) = (df : Int) := by omega
    have y3 : (df : Int) ≤ 511 := by omega
    have y4 : (x.x : Int) + (df : Int) = (fx : Int) := by omega
    have y5 : (fx : Int) ≤ 3000 := by omega
    rw [← hdf, ← hfx]
    have y6 : IntKind.u64.wrap ((page : Int) - (x.g : Int)) = (df : Int) := by rw [y2]; simp [IntKind.wrap, IntKind.bits, IntKind.signed]; omega
    generalize x.g = xg at *
    generalize x.x = xx at *
    generalize x.r = xr at *
    generalize x.q = xq at *
    generalize x.e = xe at *
    generalize x.f = xf at *
    generalize x.l = xl at *
    clear h h1 hp f1 f2 f3 f4 hc hok hh kn hdf hfx g1 g2 ex y2
    go_enter Tryz.func41, Tryz.ntmps41
    go_wp2_with fail
    with_reducible refine ka.mono ?_
    rintro e w' ⟨rfl, rfl⟩
    go_wp2
    exact bodyPost_ret (res_r2 (v := ⟨page, fx, xr, xq, xe, xf, xl⟩) rfl rfl ((((Kp.refl (w.alloc (.cells #[.int .u64 (page : Int), .int .i64 (fx : Int), .bool xr, .bool xq, .bool xe, .int .i64 xf, .int .i64 (xl : Int)] 93))).alloc (.cells #[.int .u64 (page : Int), .int .i64 (fx : Int), .bool xr, .bool xq, .bool xe, .int .i64 xf, .int .i64 (xl : Int)] 93)).block w.heap.size (by simp)).trans (heap_alloc_new w _))) rfl ⟨rfl, ((Kp.refl w).alloc _).alloc _⟩
  · rw [if_pos (.inr g2), decide_eq_false g2, Bool.and_false]
    rw [(at_neg g2).1] at ka
    clear h h1 hp g1 g2
    go_enter Tryz.func41, Tryz.ntmps41
    go_wp2_with fail
    with_reducible refine ka.mono ?_
    rintro e w' ⟨rfl, rfl⟩
    go_wp2
    exact bodyPost_ret (res_r2 (v := lvZ) rfl rfl (heap_alloc_new w _)) rfl ⟨rfl, k0⟩
set_option maxHeartbeats 8000000 in
theorem rnew_ok {w : World} {bf : Nat} {fr : Int} (hf : w.heap[bf]? = some (.cells #[.int .i64 fr] 3 (0, 0))) (h1 : 1 ≤ fr) (h2 : fr ≤ 1000000000) :
    Calls Tryz.prog 8 #[.int .i64 2100, .pointer (some ⟨bf, 0, none⟩)] w fun e w' => (∃ br, e = .returned (.tuple #[.pointer (some ⟨br, 0, none⟩), .int .i64 0]) ∧ RQ w' br bf (.slice none 0 0) [] (fr - 1) false ∧ w.heap.size ≤ br) ∧ Fr (fun i => i = bf) w w' := by
  have cf : w.cell? ⟨bf, 0, none⟩ = some (.int .i64 fr) := by rw [cell_of_row w bf 0 _ _ _ hf]; rfl
  have zf : w.frozen? ⟨bf, 0, none⟩ = false := frozen_of_row w bf 0 _ _ hf
  have hlt := (Array.getElem?_eq_some_iff.1 hf).1
  obtain ⟨f', hf'⟩ : ∃ f', f' = fr - 1 := ⟨_, rfl⟩
  rw [← hf']
  have y1 : fr - 1 = f' := hf'.symm
  have HF : Hid (w.heap[bf]? = some (.cells #[.int .i64 fr] 3 (0, 0)) ∧ bf < w.heap.size) := ⟨hf, hlt⟩
  clear hf hf' hlt
  go_enter Tryz.func8, Tryz.ntmps8
  go_wp2
  go_ret2
  have e1 : (w.setCell ⟨bf, 0, none⟩ (.int .i64 f')).heap[bf]? = some (.cells #[.int .i64 f'] 3 (0, 0)) := heap_setCell_same w bf 0 _ _ _ HF.out.1
  have es : (w.setCell ⟨bf, 0, none⟩ (.int .i64 f')).heap.size = w.heap.size := by simp
  have k1 : Kp (w.setCell ⟨bf, 0, none⟩ (.int .i64 f')) ((w.setCell ⟨bf, 0, none⟩ (.int .i64 f')).alloc (.cells #[.slice none 0 0, .pointer (some ⟨bf, 0, none⟩), .int .i64 2100, .bool false] 69)) := (Kp.refl _).alloc _
  have f1 : Fr (fun i => i = bf) w (w.setCell ⟨bf, 0, none⟩ (.int .i64 f')) := (Fr.refl _ w).set _ _ rfl
  have l1 := HF.out.2
  refine ⟨⟨w.heap.size, rfl, ⟨?_, (k1.block bf (Array.getElem?_eq_some_iff.1 e1).1).trans e1, OL.nil _ _, (fun b hb => by cases hb), (by omega), (fun v hv => by cases hv)⟩, Nat.le_refl _⟩, f1.trans (k1.fr _)⟩
  rw [← es]
  exact heap_alloc_new _ _
/-- It is gone. -/
theorem RQ.off {w w1 w2 : World} {br bf : Nat} {v : Value} {L : List LV} {fr f' : Int} {gone : Bool} (h : RQ w br bf v L fr gone) (k : Kp w w1) (k2 : Kp (w1.setCell ⟨bf, 0, none⟩ (.int .i64 f')) w2) :
    RN w ((w2.setCell ⟨br, 0, none⟩ (.slice none 0 0)).setCell ⟨br, 3, none⟩ (.bool true)) br bf v [] f' true := by
  obtain ⟨a1, a2, _, _⟩ := h.laid (v' := .slice none 0 0) (L' := []) (OL.nil _ _) (fun v hv => by cases hv) (fun b hb => by cases hb) k k2
  refine ⟨.slice none 0 0, ⟨heap_setCell_same _ br 3 _ _ _ a1.b, (heap_setCell_other _ ⟨br, 3, none⟩ bf _ (fun c => h.ne c.symm)).trans a1.f, OL.nil _ _, fun b hb => (by cases hb), h.ne, a1.ok⟩, ?_, fun b hb => by cases hb⟩
  exact (a2.mono fun i _ c => c.elim .inl (fun c => .inr (.inl c))).set _ _ (.inl rfl)
theorem RQ.off_cells {w w1 w2 : World} {br bf : Nat} {v : Value} {L : List LV} {fr f' : Int} {gone : Bool} (h : RQ w br bf v L fr gone) (k : Kp w w1) (k2 : Kp (w1.setCell ⟨bf, 0, none⟩ (.int .i64 f')) w2) :
    (w2.cell? ⟨br, 0, none⟩ = some v ∧ w2.frozen? ⟨br, 0, none⟩ = false) ∧ (w2.setCell ⟨br, 0, none⟩ (.slice none 0 0)).cell? ⟨br, 3, none⟩ = some (.bool gone) ∧ (w2.setCell ⟨br, 0, none⟩ (.slice none 0 0)).frozen? ⟨br, 3, none⟩ = false := by
  obtain ⟨a1, _, a3, a4⟩ := h.laid (v' := .slice none 0 0) (L' := []) (OL.nil _ _) (fun v hv => by cases hv) (fun b hb => by cases hb) k k2
  exact ⟨⟨a3, a4⟩, a1.c3, a1.zb 3⟩
set_option maxHeartbeats 8000000 in
theorem rdrop_any {w : World} {br bf : Nat} {v : Value} {L : List LV} {fr : Int} {gone : Bool} (h : RQ w br bf v L fr gone) (hl : L.length ≤ 900000) (hf : -1000000000 ≤ fr ∧ fr ≤ 1000000000) (rr : Int) (hrr : rr = if gone = true then 23 else 0) :
    Calls Tryz.prog 40 #[.pointer (some ⟨br, 0, none⟩)] w fun e w' => e = .returned (.int .i64 rr) ∧ Hid ((rr = 0 → gone = false ∧ RN w w' br bf v [] (fr + (1 + (tabL L : Int))) true) ∧ (rr ≠ 0 → RN w w' br bf v L fr gone)) := by
  obtain ⟨na, cap, rfl, _⟩ := h.slice
  have c1 := h.c1
  have c3 := h.c3
  have cf := h.cf
  by_cases g1 : gone = true
  · rw [if_pos g1] at hrr
    have HE : Hid (rr = 23) := hrr
    have RW : Hid (RN w w br bf (.slice na L.length cap) L fr gone) := RN.same h (Kp.refl _)
    subst g1
    clear h hrr
    go_enter Tryz.func40, Tryz.ntmps40
    go_wp2_with fail
    go_ret
    exact ⟨by rw [HE.out]; rfl, fun c => (by rw [HE.out] at c; cases c), fun _ => RW.out⟩
  · rw [if_neg g1] at hrr
    obtain rfl : gone = false := by simpa using g1
    have HE : Hid (rr = 0) := hrr
    have t1 := tabL_le h.ok
    obtain ⟨f', hf'⟩ : ∃ f', f' = fr + (1 + (tabL L : Int)) := ⟨_, rfl⟩
    rw [← hf']
    have KT : Aside (∀ u, Kp w u → Calls Tryz.prog 45 #[.pointer (some ⟨br, 0, none⟩)] u fun e w' => e = .returned (.int .i64 (1 + (tabL L : Int))) ∧ Kp u w') := fun u k => by
      have := rtabs_any (h.kp k) (by omega)
      rw [if_neg (by decide)] at this
      exact this
    have HH : Hid (RQ w br bf (.slice na L.length cap) L fr false) := h
    obtain ⟨tt, htt⟩ : ∃ tt : Int, tt = 1 + (tabL L : Int) := ⟨_, rfl⟩
    rw [← htt] at KT
    have y1 : fr + tt = f' := by omega
    have z1 : tt ≤ 3000001 := by omega
    have z2 : 0 ≤ tt := by omega
    obtain ⟨z3, z4⟩ := hf
    clear h hrr g1 t1 hf' htt hl
    go_enter Tryz.func40, Tryz.ntmps40
    go_wp2_with fail
    go_region_with (go_at_call 45; with_reducible refine (KT.out _ (by first | exact Kp.refl _ | exact (Kp.refl _).drew | exact (Kp.refl _).drewN _)).mono ?_; rintro e w1 ⟨rfl, K1'⟩; have K1 : Kp w w1 := (by first | exact (Kp.refl _).trans K1' | exact ((Kp.refl _).drew).trans K1' | exact ((Kp.refl _).drewN _).trans K1'); have c1' := (HH.out.kp K1).c1; have cf' := (HH.out.kp K1).cf; have zf' := (HH.out.kp K1).zf 0)
    all_goals
      obtain ⟨⟨v1, v2⟩, v3, v4⟩ := HH.out.off_cells (f' := f') K1 (Kp.refl _)
      have HZ : Hid (RN w (((w1.setCell ⟨bf, 0, none⟩ (.int .i64 f')).setCell ⟨br, 0, none⟩ (.slice none 0 0)).setCell ⟨br, 3, none⟩ (.bool true)) br bf (.slice na L.length cap) [] f' true) := HH.out.off K1 (Kp.refl _)
      clear K1 K1' c1' cf' zf' KT
      go_wp2_with fail
      go_ret
      exact ⟨by rw [HE.out]; rfl, fun _ => ⟨by first | rfl | trivial, HZ.out⟩, fun c => absurd HE.out c⟩
end Go.Proofs.YtanlcmdnhhdhaaaGreatDoor

/- The document's second stage: a leaf that goes, a Block that is split. -/
namespace Go.Proofs.YtanlcmdnhhdhaaaGreatDoor
open Go.RowKit
set_option maxRecDepth 10000

/-- The leaves but the one at k. -/
def rmvL (L : List LV) (k : Nat) : List LV := L.take k ++ L.drop (k + 1)
theorem mem_rmv {L : List LV} {k : Nat} {v : LV} (h : v ∈ rmvL L k) : v ∈ L := by
  unfold rmvL at h
  rw [List.mem_append] at h
  exact h.elim List.mem_of_mem_take List.mem_of_mem_drop
theorem len_rmv (L : List LV) (k : Nat) : (rmvL L k).length ≤ L.length := by
  unfold rmvL
  simp only [List.length_append, List.length_take, List.length_drop]
  omega
theorem hit_halv {L : List LV} {k page : Nat} {b : LV} (hb : hitL page b = true) : 0 ≤ atI (halvL L k b) page := by
  refine Decidable.byContradiction fun c => ?_
  have hn := (at_neg c).2
  rw [List.findIdx?_eq_none_iff] at hn
  have hh := hit_le hb
  have := hn (pgV b (page - b.g)) (by unfold halvL pgsV; simp only [List.mem_append, List.mem_map, List.mem_range]; exact .inl (.inr ⟨_, hh.2, rfl⟩))
  unfold hitL at this
  have e : (pgV b (page - b.g)).g = page := by show b.g + (page - b.g) = page; omega
  rw [e] at this
  simp at this
/-- The page's leaf is a Page, or its Block is split. -/
def Sp1 (L : List LV) (fr : Int) (page : Nat) (L1 : List LV) (fr1 : Int) : Prop :=
  ∃ (k : Nat) (b : LV), L.findIdx? (hitL page) = some k ∧ L[k]? = some b ∧ ((b.l = 3 ∧ L1 = L ∧ fr1 = fr) ∨ (b.l = 2 ∧ 1 ≤ fr ∧ ((setB fr L (halvL L k b) = true ∧ L1 = halvL L k b ∧ fr1 = fr - ((tabL (halvL L k b) : Int) - (tabL L : Int))) ∨ (setB fr L (halvL L k b) = false ∧ L1 = L ∧ fr1 = fr))))
theorem tab_pos (L : List LV) : (0 : Int) ≤ (tabL L : Int) := Int.natCast_nonneg _
/-- The state between the two halves. -/
structure U1 (w w1 : World) (br bf : Nat) (v : Value) (L : List LV) (fr : Int) (page : Nat) (v1 : Value) (L1 : List LV) (fr1 : Int) : Prop where
  q : RQ w1 br bf v1 L1 fr1 false
  f : Fr (fun i => i = br ∨ i = bf ∨ v.ownBlock = some i) w w1
  o : ∀ b, v1.ownBlock = some b → v.ownBlock = some b ∨ w.heap.size ≤ b
  s : Sp1 L fr page L1 fr1
  a : 0 ≤ atI L1 page
  l : L1.length ≤ 901000
  n : -1100000000 ≤ fr1 ∧ fr1 ≤ 1100000000
theorem RN.then {w w1 w2 : World} {br bf : Nat} {v v1 : Value} {L2 : List LV} {fr2 : Int} {g : Bool} (f : Fr (fun i => i = br ∨ i = bf ∨ v.ownBlock = some i) w w1) (o : ∀ b, v1.ownBlock = some b → v.ownBlock = some b ∨ w.heap.size ≤ b) (h : RN w1 w2 br bf v1 L2 fr2 g) : RN w w2 br bf v L2 fr2 g := by
  obtain ⟨v2, a1, a2, a3⟩ := h
  refine ⟨v2, a1, Fr.trans2 f a2 (fun i hi c => ?_), fun b hb => ?_⟩
  · rcases c with c | c | c
    · exact .inl c
    · exact .inr (.inl c)
    · exact .inr (.inr ((o i c).resolve_right (by omega)))
  · rcases a3 b hb with c | c
    · exact o b c
    · exact .inr (Nat.le_trans f.size c)
theorem RSp.u1 {w w1 : World} {br bf : Nat} {v : Value} {L : List LV} {fr : Int} {page : Nat} (h : RSp w w1 br bf v L fr false page) (ok : okL L) (hl : L.length ≤ 900000) (hf : -1000000000 ≤ fr ∧ fr ≤ 1000000000) (ha : 0 ≤ atI L page) : ∃ v1 L1 fr1, U1 w w1 br bf v L fr page v1 L1 fr1 := by
  obtain ⟨k, b, f1, f2, f3, f4, f5, f6⟩ := h
  have kn := (List.getElem?_eq_some_iff.1 f2).1
  have hb : hitL page b = true := by
    obtain ⟨k', x', e1, e2, e3, _⟩ := at_some ha
    rw [f1] at e1; cases e1
    rw [f2] at e2; cases e2
    exact e3
  have t1 := tabL_le ok
  have okh := okL_halv (k := k) ok (List.mem_of_getElem? f2) f3
  have t2 := tabL_le okh
  have lh := len_halv (b := b) kn
  have p1 := tab_pos L
  have p2 := tab_pos (halvL L k b)
  cases hs : setB fr L (halvL L k b)
  · obtain ⟨v1, a1, a2, a3⟩ := f6 hs
    exact ⟨v1, L, fr, a1, a2, a3, ⟨k, b, f1, f2, .inr ⟨f3, f4, .inr ⟨hs, rfl, rfl⟩⟩⟩, ha, by omega, by omega⟩
  · obtain ⟨v1, a1, a2, a3⟩ := f5 hs
    exact ⟨v1, halvL L k b, _, a1, a2, a3, ⟨k, b, f1, f2, .inr ⟨f3, f4, .inl ⟨hs, rfl, rfl⟩⟩⟩, hit_halv hb, by omega, by omega⟩
end Go.Proofs.YtanlcmdnhhdhaaaGreatDoor
