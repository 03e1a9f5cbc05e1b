/- index: the document's index: Get, at. -/
import Derived.Test.YtpjlmmiceiionaaDoorCR
import Derived.Test.YtpjlmmiceiionaaDoorCS
import Derived.Deep.LoopGhost
import Derived.Deep.QuietTactic
namespace Go.Proofs.YtpjlmmiceiionaaDoor
open Go.RowKit Go.Maps
set_option maxRecDepth 10000

/-- Frames that are in, as they lie; pages as they lie. -/
def LTin : LT (Nat × CN) := ⟨fun x => [.int .i64 (x.1 : Int), cK x.2], 2, 53, 30⟩
theorem LTin_ok : LTok LTin where
  E := ⟨fun _ => rfl, fun x u hu => by
    simp only [LTin, List.mem_cons, List.not_mem_nil, or_false] at hu
    rcases hu with rfl | rfl <;> rfl, by decide⟩
  ht := Tryd.underlying30
  hi := ⟨_, _, rfl, rfl, rfl, by decide, rfl⟩
  hs w := by kernel_rfl
def LTpg : LT Nat := ⟨fun b => [.slice (some ⟨b, 0, none⟩) 4096 4096], 1, 40, 28⟩
theorem LTpg_ok : LTok LTpg where
  E := ⟨fun _ => rfl, fun x u hu => by
    simp only [LTpg, List.mem_cons, List.not_mem_nil, or_false] at hu
    subst hu; rfl, by decide⟩
  ht := Tryd.underlying28
  hi := ⟨_, _, rfl, rfl, rfl, by decide, rfl⟩
  hs w := by kernel_rfl

/-- All frames' bytes, as they lie in blocks of X. -/
structure PgF (w : World) (X : Nat → Prop) (F : Nat → Nat → Nat) (v : Value) (Bs : List Nat) : Prop where
  ax : AX LTpg w 0 v Bs
  own : ∀ g, v.ownBlock = some g → X g
  len : Bs.length = 12
  row : ∀ (i x : Nat), Bs[i]? = some x → X x ∧ BS w x 0 4096 (F i)
/-- The document's index at r: the frames' bytes F, what is in; all in blocks of X. -/
structure RIx (w : World) (X : Nat → Prop) (r : Nat) (F : Nat → Nat → Nat) (Sg : Nat → Option CN) (vf v : Value) (Bs : List Nat) : Prop where
  c : w.heap[r]? = some (.cells #[vf, v] 32 (0, 0))
  pg : PgF w X F vf Bs
  ax : AX LTin w 0 v (inL Sg)
  own : ∀ g, v.ownBlock = some g → X g ∧ g ≠ r
  xr : X r
  pr : (∀ g, vf.ownBlock = some g → g ≠ r) ∧ r ∉ Bs
section
variable {w w' : World} {X Y : Nat → Prop} {r : Nat} {F : Nat → Nat → Nat} {Sg : Nat → Option CN} {vf v : Value} {Bs : List Nat}
theorem PgF.fr (h : PgF w X F v Bs) {S : Nat → Prop} (k : Fr S w w') (hS : ∀ g, (v.ownBlock = some g ∨ g ∈ Bs) → ¬ S g) : PgF w' X F v Bs :=
  ⟨h.ax.fr k (fun g _ _ e s => hS g (.inl e) s), h.own, h.len, fun i x hx => ⟨(h.row i x hx).1, (h.row i x hx).2.fr k (hS x (.inr (List.mem_of_getElem? hx)))⟩⟩
theorem PgF.kp (h : PgF w X F v Bs) (k : Kp w w') : PgF w' X F v Bs := h.fr (k.fr (fun _ => False)) (fun _ _ => id)
theorem PgF.all (h : PgF w X F v Bs) {g : Nat} (hg : v.ownBlock = some g ∨ g ∈ Bs) : X g := by
  rcases hg with c | c
  · exact h.own g c
  · obtain ⟨i, hi⟩ := List.mem_iff_getElem?.1 c
    exact (h.row i g hi).1
theorem PgF.more (h : PgF w X F v Bs) (hY : ∀ k, X k → Y k) : PgF w Y F v Bs := ⟨h.ax, fun g hg => hY g (h.own g hg), h.len, fun i x hx => ⟨hY x (h.row i x hx).1, (h.row i x hx).2⟩⟩
theorem RIx.lt (h : RIx w X r F Sg vf v Bs) : r < w.heap.size := (Array.getElem?_eq_some_iff.1 h.c).1
theorem RIx.fri (h : RIx w X r F Sg vf v Bs) (k : FrI X w w') : RIx w' X r F Sg vf v Bs :=
  ⟨(k.block r h.lt (fun c => c h.xr)).trans h.c, h.pg.fr k (fun _ hg c => c (h.pg.all hg)), h.ax.fr k (fun g _ _ e c => c (h.own g e).1), h.own, h.xr, h.pr⟩
theorem RIx.kp (h : RIx w X r F Sg vf v Bs) (k : Kp w w') : RIx w' X r F Sg vf v Bs :=
  ⟨(k.fr (fun _ => False)).block r h.lt id |>.trans h.c, h.pg.kp k, h.ax.kp k, h.own, h.xr, h.pr⟩
theorem RIx.more (h : RIx w X r F Sg vf v Bs) (hY : ∀ k, X k → Y k) : RIx w Y r F Sg vf v Bs :=
  ⟨h.c, h.pg.more hY, h.ax, fun g hg => ⟨hY g (h.own g hg).1, (h.own g hg).2⟩, hY r h.xr, h.pr⟩
theorem RIx.c0 (h : RIx w X r F Sg vf v Bs) : w.cell? ⟨r, 0, none⟩ = some vf := by rw [cell_of_row w r 0 _ _ _ h.c]; rfl
theorem RIx.c1 (h : RIx w X r F Sg vf v Bs) : w.cell? ⟨r, 1, none⟩ = some v := by rw [cell_of_row w r 1 _ _ _ h.c]; rfl
theorem RIx.fz (h : RIx w X r F Sg vf v Bs) (j : Nat) : w.frozen? ⟨r, j, none⟩ = false := frozen_of_row w r j _ _ h.c

set_option maxHeartbeats 2000000 in
theorem rget_ok (h : RIx w X r F Sg vf v Bs) (f : Nat) (hf : f < 12) :
    Calls Tryd.prog 29 #[.pointer (some ⟨r, 0, none⟩), .int .i64 (f : Int)] w fun e w' => (∃ x, e = .returned (.tuple #[.slice (some ⟨x, 0, none⟩) 4096 4096, .bool true]) ∧ X x ∧ BS w x 0 4096 (F f)) ∧ w' = w := by
  obtain ⟨na, cap, rfl, _, _, hc⟩ := h.pg.ax.form LTpg_ok
  have c0 := h.c0
  obtain ⟨x, hx⟩ : ∃ x, Bs[f]? = some x := ⟨_, List.getElem?_eq_getElem (by have := h.pg.len; omega)⟩
  obtain ⟨g, rfl, _, _, hc⟩ := hc f x hx
  have e0 := hc 0 _ rfl
  simp only [show LTpg.sz = 1 from rfl, Nat.add_zero, Nat.mul_one] at e0
  rw [h.pg.len] at c0
  have HX : Hid (X x ∧ BS w x 0 4096 (F f)) := h.pg.row f x hx
  have z1 : ¬ (f : Int) < 0 := by omega
  have z2 : (f : Int) < 12 := by omega
  clear h hc hx
  go_enter Tryd.func29, Tryd.ntmps29
  go_wp2_with fail
  go_ret2
  exact ⟨⟨x, rfl, HX.out⟩, rfl⟩
set_option maxHeartbeats 2000000 in
theorem rget_no (h : RIx w X r F Sg vf v Bs) (x : Int) (hx : hasF 12 x = false) :
    Calls Tryd.prog 29 #[.pointer (some ⟨r, 0, none⟩), .int .i64 x] w fun e w' => e = .returned (.tuple #[.slice none 0 0, .bool false]) ∧ w' = w := by
  obtain ⟨na, cap, rfl, _, _, _⟩ := h.pg.ax.form LTpg_ok
  have c0 := h.c0
  rw [h.pg.len] at c0
  have hx : x < 0 ∨ 12 ≤ x := by
    by_cases c : 0 ≤ x ∧ x < 12
    · rw [(hasF_iff 12 x).2 c] at hx; cases hx
    · omega
  clear h
  go_enter Tryd.func29, Tryd.ntmps29
  by_cases c : x < 0
  · go_wp2_with fail
    go_ret2
    exact ⟨rfl, rfl⟩
  · have z1 : (12 : Int) ≤ x := by omega
    go_wp2_with fail
    go_ret2
    exact ⟨rfl, rfl⟩

set_option maxHeartbeats 8000000 in
theorem rat_any (h : RIx w X r F Sg vf v Bs) (x : Int) :
    Calls Tryd.prog 30 #[.pointer (some ⟨r, 0, none⟩), .int .i64 x] w fun e w' => ∃ k : Nat, e = .returned (.tuple #[.int .i64 (k : Int), .bool (isAt (inL Sg) k x)]) ∧ k ≤ (inL Sg).length ∧ (∀ j y, j < k → (inL Sg)[j]? = some y → (y.1 : Int) < x) ∧ (∀ y, (inL Sg)[k]? = some y → x ≤ (y.1 : Int)) ∧ ∃ n, w' = w.drewN n := by
  obtain ⟨L, hL⟩ : ∃ L, L = inL Sg := ⟨_, rfl⟩
  have hl := inL_len Sg
  have ax := h.ax
  rw [← hL] at hl ax ⊢
  obtain ⟨na, cap, rfl, _, _, hc⟩ := ax.form LTin_ok
  have c1 := h.c1
  obtain ⟨n, hn⟩ : ∃ n, n = L.length := ⟨_, rfl⟩
  rw [← hn] at c1
  have HN : Hid (n = L.length ∧ ∀ i x, L[i]? = some x → ∃ g, na = some ⟨g, 0, none⟩ ∧ g < w.heap.size ∧ 0 ≤ g ∧ ∀ j y, (LTin.enc x)[j]? = some y → w.cell? ⟨g, i * LTin.sz + j, none⟩ = some y) := ⟨hn, hc⟩
  have bn : (n : Int) ≤ 100000 := by omega
  clear h ax hn hc hL hl
  go_enter Tryd.func30, Tryd.ntmps30
  go_wp2_with fail
  go_loopg [6] (n + 1) (fun gg v6 wr => ∃ i : Nat, v6 = .int .i64 (i : Int) ∧ i ≤ n ∧ n + 1 - i ≤ gg ∧ wr = w ∧ Hid (∀ j y, j < i → L[j]? = some y → (y.1 : Int) < x))
  case atStart => exact ⟨0, rfl, by omega, by omega, rfl, (show ∀ j y, j < 0 → _ from fun j y hj => by omega)⟩
  case round =>
    obtain ⟨i, rfl, hi, hg, ew, HI⟩ := hrel
    subst ew
    by_cases hlt : i < n
    · have z1 : (i : Int) < (n : Int) := by omega
      obtain ⟨y, hy⟩ : ∃ y, L[i]? = some y := ⟨_, List.getElem?_eq_getElem (by have := HN.out.1; omega)⟩
      obtain ⟨g, rfl, _, _, hc⟩ := HN.out.2 i y hy
      have e0 := hc 0 _ rfl
      simp only [show LTin.sz = 2 from rfl, Nat.add_zero] at e0
      have Hy : Hid (L[i]? = some y) := hy
      clear hc hy
      by_cases c : (y.1 : Int) < x
      · have HX : Hid (∀ j z, j < i + 1 → L[j]? = some z → (z.1 : Int) < x) := fun j z hj hz => by
          by_cases ej : j = i
          · rw [ej, Hy.out] at hz; cases hz; exact c
          · exact HI.out j z (by omega) hz
        clear HI
        generalize y.1 = yy at *
        go_wp2_with fail
        go_roundg (n + 1 - (i + 1))
        case measure => omega
        case rel => exact ⟨i + 1, by go_num, by omega, by omega, rfl, HX⟩
      · have d1 : decide ((i : Int) < (n : Int)) = true := decide_eq_true z1
        have HE : Hid (∀ y, L[i]? = some y → x ≤ (y.1 : Int)) := fun z hz => by rw [Hy.out] at hz; cases hz; omega
        have HB : Hid (isAt L i x = ((y.1 : Int) == x)) := by show _ = _; unfold isAt; rw [Hy.out]
        have HL : Hid (i ≤ L.length) := by show i ≤ _; have := HN.out.1; omega
        generalize y.1 = yy at *
        clear Hy
        by_cases q : (yy : Int) = x
        · have z3 : ((yy : Int) == x) = true := by simp; omega
          have HB2 : Hid (isAt L i x = true) := by show _ = true; rw [HB.out]; exact z3
          clear q HB
          go_wp2_with fail
          go_quiet (fail)
          go_wp2_with fail
          go_ret2
          exact ⟨i, by rw [HB2.out]; rfl, HL.out, HI.out, HE.out, _, rfl⟩
        · have z3 : ((yy : Int) == x) = false := by simp; omega
          have HB2 : Hid (isAt L i x = false) := by show _ = false; rw [HB.out]; exact z3
          clear q HB
          go_wp2_with fail
          go_quiet (fail)
          go_wp2_with fail
          go_ret2
          exact ⟨i, by rw [HB2.out]; rfl, HL.out, HI.out, HE.out, _, rfl⟩
    · have z1 : ¬ (i : Int) < (n : Int) := by omega
      have d1 : decide ((i : Int) < (n : Int)) = false := decide_eq_false z1
      have hno : L[i]? = none := List.getElem?_eq_none (by have := HN.out.1; omega)
      have HE : Hid (∀ y, L[i]? = some y → x ≤ (y.1 : Int)) := fun z hz => by rw [hno] at hz; cases hz
      have HB2 : Hid (isAt L i x = false) := by show _ = false; unfold isAt; rw [hno]
      have HL : Hid (i ≤ L.length) := by show i ≤ _; have := HN.out.1; omega
      clear hno
      go_wp2_with fail
      go_quiet (fail)
      go_wp2_with fail
      go_ret2
      exact ⟨i, by rw [HB2.out]; rfl, HL.out, HI.out, HE.out, _, rfl⟩
end

end Go.Proofs.YtpjlmmiceiionaaDoor
