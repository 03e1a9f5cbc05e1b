/- Joined: CG, CH, LU. -/
import Derived.Test.YtpjlmmiceiionaaDoorJ00
import Derived.Test.YtpjlmmiceiionaaDoorJ20
import Derived.Sort.LotA
import Derived.Shelf.RegionOpenPlain
import Derived.Deep.LoopGhost
import Derived.Deep.QuietTactic
import Derived.Test.YtpjlmmiceiionaaDoorU1
import Derived.Test.YtpjlmmiceiionaaDoorRows
/- index: groups sorted by their first frames. -/
namespace Go.Proofs.YtpjlmmiceiionaaDoor
open Go.RowKit Go.Sort

/-- A group: its block, how many, its cap; its first frame. -/
abbrev GE := (Nat × Nat × Nat) × Int
def geV (e : GE) : Value := .slice (some ⟨e.1.1, 0, none⟩) e.1.2.1 e.1.2.2
def geL (e u : GE) : Bool := decide (e.2 < u.2)
theorem geS : SWO geL where
  irrefl x := by simp [geL]
  trans x y z h1 h2 := by simp [geL] at *; omega
  ntrans x y z h1 h2 := by simp [geL] at *; omega
/-- The group's frames lie, elsewhere than in the row g. -/
def GEok (w : World) (g : Nat) (e : GE) : Prop := e.1.1 ≠ g ∧ e.1.1 < w.heap.size ∧ 1 ≤ e.1.2.1 ∧ w.cell? ⟨e.1.1, 0, none⟩ = some (.int .i64 e.2)
/-- The row at g holds d, since w0. -/
structure SGr (w0 : World) (g : Nat) (d : Array GE) (W : World) : Prop where
  fr : Fr (· = g) w0 W
  gl : g < w0.heap.size
  cell : ∀ i, i < d.size → W.cell? ⟨g, i, none⟩ = some (geV d[i]!)
  frz : ∀ i, i < d.size → W.frozen? ⟨g, i, none⟩ = false
  ok : ∀ i, i < d.size → GEok w0 g d[i]!
  row : ∃ cur0 cur, w0.heap[g]? = some (Obj.cells cur0 46 (0, 0)) ∧ W.heap[g]? = some (Obj.cells cur 46 (0, 0)) ∧ cur.size = cur0.size
section
variable {w0 W : World} {g : Nat} {d : Array GE}
theorem SGr.dr (h : SGr w0 g d W) (n : Nat) : SGr w0 g d (W.drewN n) := ⟨h.fr.trans (((Kp.refl W).drewN n).fr _), h.gl, h.cell, h.frz, h.ok, h.row⟩
theorem SGr.first (h : SGr w0 g d W) {i : Nat} (hi : i < d.size) : W.cell? ⟨d[i]!.1.1, 0, none⟩ = some (.int .i64 d[i]!.2) := by
  obtain ⟨h1, h2, _, h3⟩ := h.ok i hi
  exact (h.fr.cell (a := ⟨d[i]!.1.1, 0, none⟩) h2 h1).trans h3
theorem SGr.swap (h : SGr w0 g d W) {i j : Nat} (hi : i < d.size) (hj : j < d.size) (hij : i ≠ j) : SGr w0 g (swp d i j) ((W.setCell ⟨g, i, none⟩ (geV d[j]!)).setCell ⟨g, j, none⟩ (geV d[i]!)).drew := by
  have hs := size_swp d i j
  refine ⟨((h.fr.set ⟨g, i, none⟩ _ rfl).set ⟨g, j, none⟩ _ rfl).drew, h.gl, fun k hk => ?_, fun k hk => ?_, fun k hk => ?_, ?_⟩
  · rw [hs] at hk
    show ((W.setCell ⟨g, i, none⟩ (geV d[j]!)).setCell ⟨g, j, none⟩ (geV d[i]!)).cell? ⟨g, k, none⟩ = _
    by_cases ej : k = j
    · subst ej
      rw [swp_right d i k hj]
      refine World.cell?_setCell_same' _ _ _ ?_
      rw [World.cell?_setCell_other _ _ _ _ (by intro z; simp only [Addr.mk.injEq] at z; omega), h.cell k hk]; rfl
    · rw [World.cell?_setCell_other _ _ _ _ (by intro z; simp only [Addr.mk.injEq] at z; omega)]
      by_cases ei : k = i
      · subst ei
        rw [swp_left d k j hi hij]
        exact World.cell?_setCell_same' _ _ _ (by rw [h.cell k hk]; rfl)
      · rw [World.cell?_setCell_other _ _ _ _ (by intro z; simp only [Addr.mk.injEq] at z; omega), swp_other d i j k ei ej]
        exact h.cell k hk
  · rw [hs] at hk
    show ((W.setCell ⟨g, i, none⟩ (geV d[j]!)).setCell ⟨g, j, none⟩ (geV d[i]!)).frozen? ⟨g, k, none⟩ = _
    rw [World.frozen?_setCell, World.frozen?_setCell]
    exact h.frz k hk
  · rw [hs] at hk
    by_cases ej : k = j
    · subst ej; rw [swp_right d i k hj]; exact h.ok i hi
    · by_cases ei : k = i
      · subst ei; rw [swp_left d k j hi hij]; exact h.ok j hj
      · rw [swp_other d i j k ei ej]; exact h.ok k hk
  · obtain ⟨c0, cur, h0, h1, h2⟩ := h.row
    have q1 := heap_setCell_same W g i cur _ (geV d[j]!) h1
    have q2 := heap_setCell_same _ g j _ _ (geV d[i]!) q1
    exact ⟨c0, _, h0, q2, by simpa using h2⟩
end

set_option maxRecDepth 10000 in
set_option maxHeartbeats 2000000 in
theorem byFirst_any (a na ca b nb cb : Nat) (x y : Int) (w : World) (ha : 1 ≤ na) (hb : 1 ≤ nb) (c1 : w.cell? ⟨a, 0, none⟩ = some (.int .i64 x)) (c2 : w.cell? ⟨b, 0, none⟩ = some (.int .i64 y)) :
    Calls Tryd.prog 43 #[.slice (some ⟨a, 0, none⟩) na ca, .slice (some ⟨b, 0, none⟩) nb cb] w fun e w' => e = .returned (.int .i64 (cmpI x y)) ∧ Dr w w' := by
  have cc := fun w => comp_int x y w
  have z1 : (0 : Int) < na := by omega
  have z2 : (0 : Int) < nb := by omega
  go_enter Tryd.func43, Tryd.ntmps43
  go_wp2_with fail
  go_quiet (first | (go_at_call 61; refine Calls.quiet_of_same (cc _)))
  go_wp2_with fail
  go_ret
  exact ⟨rfl, _, rfl⟩
theorem cmpI_lt (x y : Int) : decide (cmpI x y < 0) = decide (x < y) := by
  unfold cmpI
  by_cases c : x < y
  · rw [if_pos c, decide_eq_true c]; rfl
  · rw [if_neg c, decide_eq_false c]
    split <;> rfl

theorem hidG {p : Prop} (h : p) : Hid p := h
theorem ins_startG {a i : Nat} {d : Array GE} (h : SortedIn geL a i d) : Ins geL a i i d := ⟨fun p q hap hpq hqi _ hq => h p q hap hpq (by omega), fun q h1 h2 => by omega⟩
section
variable {w0 W : World} {g : Nat} {d : Array GE}
set_option maxRecDepth 100000 in
set_option maxHeartbeats 8000000 in
theorem insG_any (S : SGr w0 g d W) (b cap : Nat) (hn : b = d.size) (hl : b ≤ 1000000) :
    Calls Tryd.prog 68 #[.slice (some ⟨g, 0, none⟩) b cap, .int .i64 0, .int .i64 (b : Int), .func (.func 43) #[] #[]] W fun e W' => e = .returned (.tuple #[]) ∧ ∃ d', SGr w0 g d' W' ∧ PermIn 0 b d d' ∧ SortedIn geL 0 b d' := by
  have HS : Hid (SGr w0 g d W) := S
  have HN : Hid (b = d.size) := hn
  clear S hn
  go_enter Tryd.func68, Tryd.ntmps68
  go_wp2_with fail
  go_loopg [8] b (fun g1 vi wr => ∃ (i : Nat) (dk : Array GE), vi = .int .i64 (i : Int) ∧ 0 < i ∧ i ≤ b + 1 ∧ b + 1 - i ≤ g1 + 1 ∧ Hid (SGr w0 g dk wr ∧ dk.size = b ∧ PermIn 0 b d dk ∧ SortedIn geL 0 i dk ∧ (i = b + 1 → 0 = b)))
  case atStart => exact ⟨1, d, by go_num, by omega, by omega, by omega, (show _ ∧ _ ∧ _ ∧ _ ∧ _ from ⟨HS.out, HN.out.symm, permIn_refl _ _ _, (fun i j h1 h2 h3 => by omega), fun _ => by omega⟩)⟩
  case round =>
    obtain ⟨i, dk, rfl, hai, hib, hg1, HI⟩ := hrel
    by_cases hlt : i < b
    · have hltz : (i : Int) < (b : Int) := by omega
      go_wp2_with fail
      go_loopg [9] i (fun g2 vj wr2 => ∃ (j : Nat) (dj : Array GE), vj = .int .i64 (j : Int) ∧ j ≤ i ∧ j ≤ g2 ∧ Hid (SGr w0 g dj wr2 ∧ dj.size = b ∧ PermIn 0 b d dj ∧ Ins geL 0 j i dj))
      case atStart => exact ⟨i, dk, rfl, Nat.le_refl _, Nat.le_refl _, (show _ ∧ _ ∧ _ ∧ _ from ⟨HI.out.1, HI.out.2.1, HI.out.2.2.1, ins_startG HI.out.2.2.2.1⟩)⟩
      case round =>
        clear HI
        obtain ⟨j, dj, rfl, hji, hg2, HJ⟩ := hrel
        by_cases hja : 0 < j
        · obtain ⟨q, hq⟩ : ∃ q, j = q + 1 := ⟨j - 1, by omega⟩
          have HQ : Hid (j = q + 1) := hq
          have z1 : (j : Int) - 1 = (q : Int) := by omega
          have gt : (0 : Int) < (j : Int) := by omega
          have gtd : decide ((0 : Int) < (j : Int)) = true := decide_eq_true gt
          have b1 : (j : Int) < (b : Int) := by omega
          have b2 : (q : Int) < (b : Int) := by omega
          have hjn : j < dj.size := by have := HJ.out.2.1; omega
          have hqn : q < dj.size := by omega
          clear hq
          have lx := HJ.out.1.cell j hjn
          have ly := HJ.out.1.cell q hqn
          obtain ⟨_, _, ox, _⟩ := HJ.out.1.ok j hjn
          obtain ⟨_, _, oy, _⟩ := HJ.out.1.ok q hqn
          have cb := fun n => byFirst_any dj[j]!.1.1 dj[j]!.1.2.1 dj[j]!.1.2.2 dj[q]!.1.1 dj[q]!.1.2.1 dj[q]!.1.2.2 dj[j]!.2 dj[q]!.2 (wr.drewN n) ox oy ((HJ.out.1.dr n).first hjn) ((HJ.out.1.dr n).first hqn)
          change ∀ n, Calls Tryd.prog 43 #[geV dj[j]!, geV dj[q]!] _ _ at cb
          obtain ⟨lv, hlv⟩ : ∃ lv, lv = geL dj[j]! dj[q]! := ⟨_, rfl⟩
          obtain ⟨cm, hcm⟩ : ∃ cm, cm = cmpI dj[j]!.2 dj[q]!.2 := ⟨_, rfl⟩
          have hd : decide (cm < 0) = lv := by rw [hcm, hlv]; exact cmpI_lt _ _
          rw [← hcm] at cb
          have HL : Hid (lv = geL dj[j]! dj[q]!) := hlv
          obtain ⟨vx, hvx⟩ : ∃ x, x = geV dj[j]! := ⟨_, rfl⟩
          obtain ⟨vy, hvy⟩ : ∃ x, x = geV dj[q]! := ⟨_, rfl⟩
          rw [← hvx] at lx cb
          rw [← hvy] at ly cb
          clear hlv hcm hvx hvy ox oy
          cases lv with
          | true =>
            go_wp2_with fail
            go_quiet (first | (refine (cb _).mono ?_; rintro e w' ⟨rfl, n2, rfl⟩; exact ⟨rfl, _, World.drewN_drewN _ _ _⟩))
            clear cb lx ly hd
            have S2 := hidG (HJ.out.1.dr nq)
            generalize wr.drewN nq = w2 at S2 ⊢
            obtain ⟨xs, hxs⟩ : ∃ x, x = geV dj[j]! := ⟨_, rfl⟩
            obtain ⟨ys, hys⟩ : ∃ x, x = geV dj[q]! := ⟨_, rfl⟩
            have lxs := S2.out.cell j hjn
            have lys := S2.out.cell q hqn
            have zxs := S2.out.frz j hjn
            have zys := S2.out.frz q hqn
            have lus : ∃ u, (w2.setCell ⟨g, j, none⟩ (geV dj[q]!)).cell? ⟨g, q, none⟩ = some u := ⟨_, by rw [World.cell?_setCell_other _ _ _ _ (by intro z; simp only [Addr.mk.injEq] at z; have := HQ.out; omega)]; exact lys⟩
            obtain ⟨us, lus⟩ := lus
            have S3 := hidG (S2.out.swap hjn hqn (by have := HQ.out; omega))
            have ixs : ∃ a b c, xs = .slice a b c := ⟨_, _, _, hxs⟩
            have iys : ∃ a b c, ys = .slice a b c := ⟨_, _, _, hys⟩
            rw [← hxs] at lxs S3
            rw [← hys] at lys lus S3
            clear hxs hys
            obtain ⟨xa, xb, xc, rfl⟩ := ixs
            obtain ⟨ya, yb, yc, rfl⟩ := iys
            go_wp2_with fail
            have mx : Tryd.prog.follows .mixedOrders = true := by kernel_rfl
            go_big_region_o
            clear mx
            clear lxs lys zxs zys lus
            generalize ((w2.setCell ⟨g, j, none⟩ (.slice ya yb yc)).setCell ⟨g, q, none⟩ (.slice xa xb xc)).drew = w3 at S3 ⊢
            have HR : Hid ((swp dj j q).size = b ∧ PermIn 0 b d (swp dj j q) ∧ Ins geL 0 q i (swp dj j q)) := by
              have hq := HQ.out
              refine ⟨by rw [size_swp]; exact HJ.out.2.1, permIn_trans _ _ _ _ _ HJ.out.2.2.1 (swp_permIn _ _ _ _ _ (by omega) (by omega) (by omega) (by omega) (by have := HJ.out.2.1; omega)), ?_⟩
              have h4 := HJ.out.2.2.2
              have hv := HL.out.symm
              rw [hq] at h4 hv ⊢
              exact h4.step hv (by omega) (by omega)
            clear HJ S2 HL
            go_wp2_with fail
            go_roundg q
            case measure => have := HQ.out; omega
            case rel => exact ⟨q, swp dj j q, rfl, by have := HQ.out; omega, Nat.le_refl _, (show _ ∧ _ ∧ _ ∧ _ from ⟨S3.out, HR.out.1, HR.out.2.1, HR.out.2.2⟩)⟩
          | false =>
            have HR : Hid (SortedIn geL 0 (i + 1) dj) := HJ.out.2.2.2.stop geS (.inr (by rw [show j - 1 = q from by have := HQ.out; omega]; exact HL.out.symm))
            go_wp2_with fail
            go_quiet (first | (refine (cb _).mono ?_; rintro e w' ⟨rfl, n2, rfl⟩; exact ⟨rfl, _, World.drewN_drewN _ _ _⟩))
            clear cb hd
            have S2 := hidG (HJ.out.1.dr nq)
            generalize wr.drewN nq = w2 at S2 ⊢
            clear lx ly z1 gt gtd b1 b2
            go_wp2_with fail
            go_roundg (b - (i + 1))
            case measure => omega
            case rel => exact ⟨i + 1, dj, by go_num, by omega, by omega, by omega, (show _ ∧ _ ∧ _ ∧ _ ∧ _ from ⟨S2.out, HJ.out.2.1, HJ.out.2.2.1, HR.out, fun _ => by omega⟩)⟩
        · have gt : ¬ (0 : Int) < (j : Int) := by omega
          have gtd : decide ((0 : Int) < (j : Int)) = false := decide_eq_false gt
          have HR : Hid (SortedIn geL 0 (i + 1) dj) := HJ.out.2.2.2.stop geS (.inl (by omega))
          go_wp2_with fail
          go_quiet (fail)
          have S2 := hidG (HJ.out.1.dr nq)
          generalize wr.drewN nq = w2 at S2 ⊢
          clear gt gtd
          go_wp2_with fail
          go_roundg (b - (i + 1))
          case measure => omega
          case rel => exact ⟨i + 1, dj, by go_num, by omega, by omega, by omega, (show _ ∧ _ ∧ _ ∧ _ ∧ _ from ⟨S2.out, HJ.out.2.1, HJ.out.2.2.1, HR.out, fun _ => by omega⟩)⟩
    · have hltz : ¬ (i : Int) < (b : Int) := by omega
      go_wp2_with fail
      go_end0
      refine ⟨rfl, dk, HI.out.1, HI.out.2.2.1, fun p q h1 h2 h3 => ?_⟩
      exact HI.out.2.2.2.1 p q h1 h2 (by omega)
end

end Go.Proofs.YtpjlmmiceiionaaDoor

/- index: slices.SortFunc over few groups. -/
namespace Go.Proofs.YtpjlmmiceiionaaDoor
open Go.RowKit Go.Sort
set_option maxRecDepth 100000

section
variable {w0 W : World} {g : Nat} {d : Array GE}
set_option maxHeartbeats 4000000 in
theorem insG_nil (W : World) (f : Value) :
    Calls Tryd.prog 68 #[.slice none 0 0, .int .i64 0, .int .i64 0, f] W fun e W' => e = .returned (.tuple #[]) ∧ W' = W := by
  go_enter Tryd.func68, Tryd.ntmps68
  go_wp2_with fail
  go_loopg [8] 1 (fun g1 vi wr => vi = .int .i64 1 ∧ wr = W)
  case atStart => exact ⟨rfl, rfl⟩
  case round =>
    obtain ⟨rfl, rfl⟩ := hrel
    go_wp2_with fail
    go_end0
    exact ⟨rfl, rfl⟩
set_option maxHeartbeats 8000000 in
theorem pdqG_nil (W : World) (l : Int) (f : Value) :
    Calls Tryd.prog 59 #[.slice none 0 0, .int .i64 0, .int .i64 0, .int .i64 l, f] W fun e W' => e = .returned (.tuple #[]) ∧ W' = W := by
  have ci := insG_nil W f
  go_enter Tryd.func59, Tryd.ntmps59
  go_wp2_with fail
  go_loopg [1, 2, 3, 10, 11] 1 (fun g1 v1 v2 v3 v10 v11 wr => v1 = .int .i64 0 ∧ v2 = .int .i64 0 ∧ v3 = .int .i64 l ∧ v10 = .bool true ∧ v11 = .bool true ∧ wr = W)
  case atStart => exact ⟨rfl, rfl, rfl, rfl, rfl, rfl⟩
  case round =>
    obtain ⟨rfl, rfl, rfl, rfl, rfl, rfl⟩ := hrel
    go_wp2_with fail
    with_reducible refine ci.mono ?_
    rintro e W' ⟨rfl, rfl⟩
    clear ci
    go_wp2_with fail
    refine bodyPost_ret (results_none rfl _ _ _) rfl ?_
    exact ⟨rfl, rfl⟩
set_option maxHeartbeats 8000000 in
theorem pdqG_any (S : SGr w0 g d W) (b cap : Nat) (hn : b = d.size) (hl : b ≤ 12) (l : Int) :
    Calls Tryd.prog 59 #[.slice (some ⟨g, 0, none⟩) b cap, .int .i64 0, .int .i64 (b : Int), .int .i64 l, .func (.func 43) #[] #[]] W fun e W' => e = .returned (.tuple #[]) ∧ ∃ d', SGr w0 g d' W' ∧ PermIn 0 b d d' ∧ SortedIn geL 0 b d' := by
  have ci := insG_any S b cap hn (by omega)
  have hz : (b : Int) ≤ 12 := by omega
  clear S hn
  go_enter Tryd.func59, Tryd.ntmps59
  go_wp2_with fail
  go_loopg [1, 2, 3, 10, 11] 1 (fun g1 v1 v2 v3 v10 v11 wr => v1 = .int .i64 0 ∧ v2 = .int .i64 (b : Int) ∧ v3 = .int .i64 l ∧ v10 = .bool true ∧ v11 = .bool true ∧ wr = W)
  case atStart => exact ⟨rfl, rfl, rfl, rfl, rfl, rfl⟩
  case round =>
    obtain ⟨rfl, rfl, rfl, rfl, rfl, rfl⟩ := hrel
    go_wp2_with fail
    with_reducible refine ci.mono ?_
    rintro e W' ⟨rfl, hd⟩
    have HD := hidG hd
    clear ci hd
    go_wp2_with fail
    refine bodyPost_ret (results_none rfl _ _ _) rfl ?_
    exact ⟨rfl, HD.out⟩
set_option maxHeartbeats 2000000 in
theorem sortG_nil (W : World) :
    Calls Tryd.prog 42 #[.slice none 0 0, .func (.func 43) #[] #[]] W fun e W' => e = .returned (.tuple #[]) ∧ W' = W := by
  have cl : Calls Tryd.prog 60 #[.int .u64 0] W fun e w' => e = .returned (.int .i64 (lg 0 : Nat)) ∧ w' = W := len_any 0 W (by decide)
  have cp := fun l => pdqG_nil W l (.func (.func 43) #[] #[])
  go_enter Tryd.func42, Tryd.ntmps42
  go_wp2_with fail
  with_reducible refine cl.mono ?_
  rintro e W' ⟨rfl, rfl⟩
  clear cl
  go_wp2_with fail
  with_reducible refine (cp _).mono ?_
  rintro e W' ⟨rfl, rfl⟩
  clear cp
  go_wp2_with fail
  go_end0
  exact ⟨rfl, rfl⟩
set_option maxHeartbeats 2000000 in
theorem sortG_any (S : SGr w0 g d W) (b cap : Nat) (hn : b = d.size) (hl : b ≤ 12) :
    Calls Tryd.prog 42 #[.slice (some ⟨g, 0, none⟩) b cap, .func (.func 43) #[] #[]] W fun e W' => e = .returned (.tuple #[]) ∧ ∃ d', SGr w0 g d' W' ∧ PermIn 0 b d d' ∧ SortedIn geL 0 b d' := by
  have cl := len_any b W (by omega)
  have cp := fun l => pdqG_any S b cap hn hl l
  have hw : IntKind.u64.wrap (b : Int) = (b : Int) := by rw [IntKind.wrap_u64]; omega
  clear S hn
  go_enter Tryd.func42, Tryd.ntmps42
  go_wp2_with fail
  with_reducible refine cl.mono ?_
  rintro e W' ⟨rfl, rfl⟩
  clear cl
  go_wp2_with fail
  with_reducible refine (cp _).mono ?_
  rintro e W' ⟨rfl, hd⟩
  have HD := hidG hd
  clear cp hd
  go_wp2_with fail
  go_end0
  exact ⟨rfl, HD.out⟩
end

end Go.Proofs.YtpjlmmiceiionaaDoor

/- Two rising lists of the same members are one. -/
namespace Go.Proofs.YtpjlmmiceiionaaDoor

theorem list_uniq {α : Type} (f : α → Nat) : ∀ A B : List α, A.Pairwise (fun x y => f x < f y) → B.Pairwise (fun x y => f x < f y) → (∀ x, x ∈ A ↔ x ∈ B) → A = B
  | [], [], _, _, _ => rfl
  | [], b :: _, _, _, h => absurd ((h b).2 List.mem_cons_self) List.not_mem_nil
  | a :: _, [], _, _, h => absurd ((h a).1 List.mem_cons_self) List.not_mem_nil
  | a :: A, b :: B, pa, pb, h => by
    rw [List.pairwise_cons] at pa pb
    have e : a = b := by
      rcases List.mem_cons.1 ((h a).1 List.mem_cons_self) with c | c
      · exact c
      · rcases List.mem_cons.1 ((h b).2 List.mem_cons_self) with d | d
        · exact d.symm
        · have := pa.1 b d; have := pb.1 a c; omega
    subst e
    have : A = B := list_uniq f A B pa.2 pb.2 fun x => by
      have hx := h x
      simp only [List.mem_cons] at hx
      constructor
      · intro hm
        rcases hx.1 (.inr hm) with c | c
        · have := pa.1 x hm; rw [c] at this; omega
        · exact c
      · intro hm
        rcases hx.2 (.inr hm) with c | c
        · have := pb.1 x hm; rw [c] at this; omega
        · exact c
    rw [this]

end Go.Proofs.YtpjlmmiceiionaaDoor
