/- Joined: R2, MW, R3. -/
import Derived.Test.YtanlcmdnhhdhaaaGreatDoorR1
import Derived.Test.YtanlcmdnhhdhaaaGreatDoorJ07
/- stage2: a page's way through the tables, as it is meant. -/
namespace Go.Proofs.YtanlcmdnhhdhaaaGreatDoor
open Go.RowKit
set_option maxRecDepth 10000

/-- The place of a page's entry among all of a level. -/
def qn (p l : Nat) : Nat := p / 2 ^ (27 - 9 * l)
theorem qn_three (p : Nat) : qn p 3 = p := by unfold qn; simp
theorem qn_up {l : Nat} (p : Nat) (hl : l ≤ 2) : qn p (l + 1) / 512 = qn p l := by
  rcases (by omega : l = 0 ∨ l = 1 ∨ l = 2) with rfl | rfl | rfl
  · show p / 2 ^ 18 / 512 = p / 2 ^ 27; omega
  · show p / 2 ^ 9 / 512 = p / 2 ^ 18; omega
  · show p / 2 ^ 0 / 512 = p / 2 ^ 9; omega
theorem qn_zero {p : Nat} (hp : p < 268435456) : qn p 0 < 2 ∧ qn p 0 / 512 = 0 := by
  have : qn p 0 = p / 134217728 := rfl
  omega
theorem qn_lt {p l : Nat} (hp : p < 268435456) (hl : l ≤ 3) : l = 0 → qn p l < 2 := fun h => by subst h; exact (qn_zero hp).1
theorem idx_qn {p l : Nat} (hl : l ≤ 3) : idx (p * 4096) (l : Int) = qn p l % 512 := by
  rcases (by omega : l = 0 ∨ l = 1 ∨ l = 2 ∨ l = 3) with rfl | rfl | rfl | rfl
  · show p * 4096 / 2 ^ 39 % 2 ^ 9 = p / 2 ^ 27 % 512; omega
  · show p * 4096 / 2 ^ 30 % 2 ^ 9 = p / 2 ^ 18 % 512; omega
  · show p * 4096 / 2 ^ 21 % 2 ^ 9 = p / 2 ^ 9 % 512; omega
  · show p * 4096 / 2 ^ 12 % 2 ^ 9 = p / 2 ^ 0 % 512; omega

/-- The level of the entry that a page's way ends with. -/
def lvG (E : Nat → Nat → DV) (p : Nat) : Nat := if (E 0 (qn p 0)).k ≠ 1 then 0 else if (E 1 (qn p 1)).k ≠ 1 then 1 else if (E 2 (qn p 2)).k ≠ 1 then 2 else 3
/-- That entry. -/
def enG (E : Nat → Nat → DV) (p : Nat) : DV := E (lvG E p) (qn p (lvG E p))
def tbX (root : Nat) (E : Nat → Nat → DV) (l j : Nat) : Nat := (tbl root E l j).getD 0
/-- The step of a page's way at a level. -/
def stp (root : Nat) (E : Nat → Nat → DV) (p l : Nat) : SV := ⟨l, tbX root E l (qn p l / 512) * 4096 + 8 * (qn p l % 512), wdD (E l (qn p l)), E l (qn p l)⟩
def stps (root : Nat) (E : Nat → Nat → DV) (p : Nat) : List SV := (List.range (lvG E p + 1)).map (stp root E p)
theorem lvG_le (E : Nat → Nat → DV) (p : Nat) : lvG E p ≤ 3 := by unfold lvG; split; omega; split; omega; split <;> omega
theorem lvG_on {E : Nat → Nat → DV} {p l : Nat} (h : l < lvG E p) : (E l (qn p l)).k = 1 := by
  unfold lvG at h
  split at h
  · omega
  rename_i h0
  split at h
  · rw [show l = 0 by omega]; exact Decidable.not_not.1 h0
  rename_i h1
  split at h
  · rcases (by omega : l = 0 ∨ l = 1) with rfl | rfl
    · exact Decidable.not_not.1 h0
    · exact Decidable.not_not.1 h1
  rename_i h2
  rcases (by omega : l = 0 ∨ l = 1 ∨ l = 2) with rfl | rfl | rfl
  · exact Decidable.not_not.1 h0
  · exact Decidable.not_not.1 h1
  · exact Decidable.not_not.1 h2
theorem lvG_of {E : Nat → Nat → DV} {p l : Nat} (hl : l ≤ 3) (h : ∀ m, m < l → (E m (qn p m)).k = 1) (hk : (E l (qn p l)).k ≠ 1) : lvG E p = l := by
  unfold lvG
  rcases (by omega : l = 0 ∨ l = 1 ∨ l = 2 ∨ l = 3) with rfl | rfl | rfl | rfl
  · rw [if_pos hk]
  · rw [if_neg (fun c => c (h 0 (by omega))), if_pos hk]
  · rw [if_neg (fun c => c (h 0 (by omega))), if_neg (fun c => c (h 1 (by omega))), if_pos hk]
  · rw [if_neg (fun c => c (h 0 (by omega))), if_neg (fun c => c (h 1 (by omega))), if_neg (fun c => c (h 2 (by omega)))]

section
variable {M : Nat → Nat → Nat} {C : Nat → Nat} {pool N root p : Nat} {Z : Nat → Bool} {E : Nat → Nat → DV}
theorem TG.last (h : TG M C pool Z root E) (p : Nat) : (enG E p).k ≠ 1 := by
  intro c
  have h3 := lvG_le E p
  have h4 := (h.ok (lvG E p) (qn p (lvG E p)) h3).parts.2.2.2.2.2.2.2.1 c
  unfold enG at c
  unfold lvG at c h4
  split at c
  · rename_i h; exact h c
  split at c
  · rename_i h; exact h c
  split at c
  · rename_i h; exact h c
  · rename_i a b e
    rw [if_neg a, if_neg b, if_neg e] at h4
    omega
/-- The table of a page's way at a level. -/
theorem TG.tab (h : TG M C pool Z root E) (hp : p < 268435456) {l : Nat} (hl : l ≤ lvG E p) : ∃ x, tbl root E l (qn p l / 512) = some x ∧ tbX root E l (qn p l / 512) = x ∧ x < pool := by
  have h3 := lvG_le E p
  cases l with
  | zero =>
    refine ⟨root, ?_, ?_, (h.mine 0 0 root (by omega) rfl).1⟩
    · rw [(qn_zero hp).2]; rfl
    · rw [(qn_zero hp).2]; rfl
  | succ m =>
    have hk := lvG_on (E := E) (p := p) (l := m) (by omega)
    have e : tbl root E (m + 1) (qn p (m + 1) / 512) = some ((E m (qn p m)).a / 4096) := by
      rw [qn_up p (by omega), tbl_succ, if_pos hk]
    exact ⟨_, e, by unfold tbX; rw [e]; rfl, (h.mine _ _ _ (by omega) e).1⟩
theorem at_way {x l : Nat} (hx : x < 1048576) (hl : l ≤ 3) : atN (x * 4096) (p * 4096) l = x * 4096 + 8 * (qn p l % 512) := by
  unfold atN
  rw [idx_qn hl]
  omega
theorem TG.word (h : TG M C pool Z root E) {l j x : Nat} (hl : l ≤ 3) (hx : tbl root E l (j / 512) = some x) : M x (j % 512) = wdD (E l j) := by
  have := h.wd l (j / 512) x (j % 512) hl hx (Nat.mod_lt _ (by decide))
  rw [show 512 * (j / 512) + j % 512 = j by omega] at this
  exact this
theorem goW_way (h : TG M C pool Z root E) (hp : p < 268435456) (hN : pool ≤ 1048576) {rd : Nat → Nat × Bool} (hrd : ∀ x i, x < pool → i < 512 → rd (x * 4096 + 8 * i) = (M x i, true)) :
    goW 2 (p * 4096) rd 4 0 (root * 4096) = (stps root E p, if (enG E p).k = 0 then 1 else 0, lvG E p + 1) := by
  have h3 := lvG_le E p
  have one : ∀ l, l ≤ lvG E p → ∃ x, tbX root E l (qn p l / 512) = x ∧ (rd (atN (x * 4096) (p * 4096) l)).2 = true ∧ dvN 2 l (rd (atN (x * 4096) (p * 4096) l)).1 = E l (qn p l) ∧ decE 2 (l : Int) (rd (atN (x * 4096) (p * 4096) l)).1 = 0 ∧
      (⟨l, atN (x * 4096) (p * 4096) l, (rd (atN (x * 4096) (p * 4096) l)).1, E l (qn p l)⟩ : SV) = stp root E p l := fun l hl => by
    obtain ⟨x, hx, e, lt⟩ := h.tab hp hl
    have b := (h.ok l (qn p l) (by omega)).back
    have r := hrd x (qn p l % 512) lt (Nat.mod_lt _ (by decide))
    rw [h.word (by omega) hx] at r
    refine ⟨x, e, ?_⟩
    rw [at_way (by omega) (by omega), r]
    refine ⟨rfl, b.1, b.2.1, ?_⟩
    unfold stp
    rw [e]
  have nxt : ∀ l, l < lvG E p → (E l (qn p l)).a = tbX root E (l + 1) (qn p (l + 1) / 512) * 4096 := fun l hl => by
    have hk := lvG_on hl
    have e : tbl root E (l + 1) (qn p (l + 1) / 512) = some ((E l (qn p l)).a / 4096) := by
      rw [qn_up p (by omega), tbl_succ, if_pos hk]
    have := (h.ok l (qn p l) (by omega)).parts.2.2.2.2.2.1
    unfold tbX
    rw [e]
    show _ = (E l (qn p l)).a / 4096 * 4096
    omega
  have on : ∀ n l, l < lvG E p → goW 2 (p * 4096) rd (n + 1) l (tbX root E l (qn p l / 512) * 4096) = (stp root E p l :: (goW 2 (p * 4096) rd n (l + 1) (tbX root E (l + 1) (qn p (l + 1) / 512) * 4096)).1, (goW 2 (p * 4096) rd n (l + 1) (tbX root E (l + 1) (qn p (l + 1) / 512) * 4096)).2.1, (goW 2 (p * 4096) rd n (l + 1) (tbX root E (l + 1) (qn p (l + 1) / 512) * 4096)).2.2 + 1) := fun n l hl => by
    obtain ⟨x, e1, e2, e3, e4, e5⟩ := one l (by omega)
    have e6 := nxt l hl
    have hk := lvG_on hl
    rw [e1, goW_on e2 (by rw [e3]; exact hk), e3, e5, e6]
  have stop : ∀ n, goW 2 (p * 4096) rd (n + 1) (lvG E p) (tbX root E (lvG E p) (qn p (lvG E p) / 512) * 4096) = ([stp root E p (lvG E p)], if (enG E p).k = 0 then 1 else 0, 1) := fun n => by
    obtain ⟨x, e1, e2, e3, e4, e5⟩ := one _ (Nat.le_refl _)
    have hk := h.last p
    rw [e1, goW_end e2 (by rw [e3]; exact hk), e3, e4, e5]
    unfold endN enG
    simp
  have r0 : tbX root E 0 (qn p 0 / 512) = root := by rw [(qn_zero hp).2]; rfl
  have key : goW 2 (p * 4096) rd 4 0 (tbX root E 0 (qn p 0 / 512) * 4096) = (stps root E p, if (enG E p).k = 0 then 1 else 0, lvG E p + 1) := by
    unfold stps
    rcases (by omega : lvG E p = 0 ∨ lvG E p = 1 ∨ lvG E p = 2 ∨ lvG E p = 3) with c | c | c | c
    · rw [c] at stop
      rw [stop 3, c]
      rfl
    · have o0 := on 3 0 (by omega)
      rw [c] at stop
      rw [o0, stop 2, c]
      rfl
    · have o0 := on 3 0 (by omega)
      have o1 := on 2 1 (by omega)
      rw [c] at stop
      rw [o0, o1, stop 1, c]
      rfl
    · have o0 := on 3 0 (by omega)
      have o1 := on 2 1 (by omega)
      have o2 := on 1 2 (by omega)
      rw [c] at stop
      rw [o0, o1, o2, stop 0, c]
      rfl
  rw [r0] at key
  exact key
end
end Go.Proofs.YtanlcmdnhhdhaaaGreatDoor

/- The words of frames, by their bytes. -/
namespace Go.Proofs.YtanlcmdnhhdhaaaGreatDoor
open Go.RowKit

theorem numb_putAt (f : Nat → Nat) (p s v : Nat) : ∀ k, k ≤ s → numb (putF f p s v) p k = v % 2 ^ (8 * k)
  | 0, _ => by simp [numb, Nat.mod_one]
  | k + 1, h => by
    have ih := numb_putAt f p s v k (by omega)
    have e : putF f p s v (p + k) = v / 2 ^ (8 * k) % 256 := by
      unfold putF; rw [if_pos (by omega), show p + k - p = k by omega]
    unfold numb
    rw [ih, e, show 8 * (k + 1) = 8 * k + 8 by omega, Nat.pow_add, Nat.mod_mul, Nat.mul_comm (2 ^ (8 * k))]
/-- The words of frames. -/
def wM (B : Nat → Nat → Nat) : Nat → Nat → Nat := fun x i => numb (B x) (8 * i) 8
def updM (M : Nat → Nat → Nat) (x i v : Nat) : Nat → Nat → Nat := fun y j => if y = x ∧ j = i then v else M y j
def zerM (M : Nat → Nat → Nat) (x : Nat) : Nat → Nat → Nat := fun y j => if y = x then 0 else M y j
theorem wM_put (B : Nat → Nat → Nat) (x i v : Nat) (hv : v < 18446744073709551616) : wM (putFr B x (putF (B x) (8 * i) 8 v)) = updM (wM B) x i v := by
  funext y j
  unfold wM updM putFr
  by_cases c : y = x
  · subst c
    rw [if_pos rfl]
    by_cases c2 : j = i
    · subst c2
      rw [if_pos ⟨rfl, rfl⟩, numb_putAt _ _ _ _ _ (Nat.le_refl _)]
      exact Nat.mod_eq_of_lt hv
    · rw [if_neg (by omega)]
      refine numb_like _ _ _ _ _ fun k hk => ?_
      unfold putF
      rw [if_neg (by omega)]
  · rw [if_neg c, if_neg (by omega)]
theorem wM_zero (B : Nat → Nat → Nat) (x : Nat) : wM (putFr B x z0) = zerM (wM B) x := by
  funext y j
  unfold wM zerM putFr
  by_cases c : y = x
  · rw [if_pos c, if_pos c, numb_zero]
  · rw [if_neg c, if_neg c]
theorem chk_word {N x i : Nat} (hx : x < N) (hi : i < 512) : chkP N (x * 4096 + 8 * i) (8 : Nat) = 0 := by
  unfold chkP
  rw [if_neg (by omega), if_neg (by show ¬ (x * 4096 + 8 * i) % 8 ≠ 0; omega), if_neg (by omega)]
/-- What a memory of N frames tells of a place. -/
def rdB (N : Nat) (B : Nat → Nat → Nat) : Nat → Nat × Bool := fun a => if a % 8 = 0 ∧ a / 4096 < N then (numb (B (a / 4096)) (a % 4096) 8, true) else (0, false)
theorem rdB_at {N : Nat} {B : Nat → Nat → Nat} {x i : Nat} (hx : x < N) (hi : i < 512) : rdB N B (x * 4096 + 8 * i) = (wM B x i, true) := by
  unfold rdB wM
  rw [if_pos (by omega), show (x * 4096 + 8 * i) / 4096 = x by omega, show (x * 4096 + 8 * i) % 4096 = 8 * i by omega]

end Go.Proofs.YtanlcmdnhhdhaaaGreatDoor

/- stage2: frames by their words; the table's own block; its reader. -/
namespace Go.Proofs.YtanlcmdnhhdhaaaGreatDoor
open Go.RowKit
set_option maxRecDepth 10000

theorem wM_zerR (B : Nat → Nat → Nat) (x : Nat) : wM (zerR B x 1) = zerM (wM B) x := by
  rw [← wM_zero]
  congr 1
  funext k
  unfold zerR putFr
  by_cases c : k = x
  · rw [if_pos (by omega), if_pos c]
  · rw [if_neg (by omega), if_neg c]
theorem onR_one (C : Nat → Nat) (x : Nat) : onR C x 1 = putC C x 1 := by
  funext k
  unfold onR putC
  by_cases c : k = x
  · rw [if_pos (by omega), if_pos c]
  · rw [if_neg (by omega), if_neg c]

/-- The frames at p, beside the blocks of X, all behind W; their words are M, at most o ops were made. -/
def FW (W : World) (X : Nat → Prop) (w : World) (p pm N pool o : Nat) (M : Nat → Nat → Nat) (C : Nat → Nat) : Prop := ∃ ops B, ops ≤ o ∧ wM B = M ∧ FK W X w p pm N pool ops B C
section
variable {W w w' : World} {X Y : Nat → Prop} {p pm N pool o : Nat} {M : Nat → Nat → Nat} {C : Nat → Nat}
theorem FK.less {ops : Nat} {B : Nat → Nat → Nat} (h : FK W X w p pm N pool ops B C) (hY : ∀ i, Y i → X i) : FK W Y w p pm N pool ops B C := by
  obtain ⟨S, h⟩ := h
  exact ⟨S, h.fs, h.kp, fun k hk => ⟨(h.out k hk).1, fun c => (h.out k hk).2 (hY k c)⟩, fun i hi => h.lt i (hY i hi), h.t0⟩
theorem Fr.less (h : Fr (Out W X) w w') (hY : ∀ i, Y i → X i) : Fr (Out W Y) w w' := h.mono fun k _ hk => ⟨hk.1, fun c => hk.2 (hY k c)⟩
theorem FW.kp (h : FW W X w p pm N pool o M C) : Kp W w := by
  obtain ⟨ops, B, _, _, h⟩ := h
  exact h.kp
theorem FW.kps (h : FW W X w p pm N pool o M C) (k : Kp w w') : FW W X w' p pm N pool o M C := by
  obtain ⟨ops, B, h1, h2, h⟩ := h
  exact ⟨ops, B, h1, h2, h.kps k⟩
theorem FW.le (h : FW W X w p pm N pool o M C) {o' : Nat} (ho : o ≤ o') : FW W X w p pm N pool o' M C := by
  obtain ⟨ops, B, h1, h2, h⟩ := h
  exact ⟨ops, B, by omega, h2, h⟩
theorem FW.less (h : FW W X w p pm N pool o M C) (hY : ∀ i, Y i → X i) : FW W Y w p pm N pool o M C := by
  obtain ⟨ops, B, h1, h2, h⟩ := h
  exact ⟨ops, B, h1, h2, h.less hY⟩
theorem FW.more (h : FW W X w p pm N pool o M C) (k : Kp w w') (b : Nat) (hb : w.heap.size ≤ b) (hl : b < w'.heap.size) : FW W (fun i => X i ∨ i = b) w' p pm N pool o M C := by
  obtain ⟨ops, B, h1, h2, h⟩ := h
  exact ⟨ops, B, h1, h2, h.more k b hb hl⟩
theorem FW.frX (h : FW W X w p pm N pool o M C) (k : Fr Y w w') (hY : ∀ i, Y i → W.heap.size ≤ i ∧ X i) : FW W X w' p pm N pool o M C := by
  obtain ⟨ops, B, h1, h2, h⟩ := h
  exact ⟨ops, B, h1, h2, h.frX k hY⟩
theorem FW.nums (h : FW W X w p pm N pool o M C) : 1 ≤ pool ∧ pool < N ∧ N ≤ 1048576 := by
  obtain ⟨ops, B, h1, h2, h⟩ := h
  exact h.nums
theorem FW.xlt (h : FW W X w p pm N pool o M C) : ∀ i, X i → i < w.heap.size := by
  obtain ⟨ops, B, _, _, S, h⟩ := h
  exact h.lt
theorem FW.word (h : FW W X w p pm N pool o M C) (x i : Nat) : M x i < 18446744073709551616 := by
  obtain ⟨ops, B, _, rfl, S, h⟩ := h
  obtain ⟨⟨⟨M', U, V, bt, bp, bc, h⟩, b⟩, _⟩ := h
  obtain ⟨bm, g, h⟩ := h.mem
  exact numb_lt (h.byte x) _ 8

theorem wmem_any (h : FW W X w p pm N pool o M C) :
    Calls Tryz.prog 95 #[.pointer (some ⟨p, 0, none⟩)] w fun e w' => e = .returned (.pointer (some ⟨pm, 0, none⟩)) ∧ w' = w := by
  obtain ⟨ops, B, h1, h2, h⟩ := h
  exact kmem_any h
theorem wframes_any (h : FW W X w p pm N pool o M C) :
    Calls Tryz.prog 68 #[.pointer (some ⟨pm, 0, none⟩)] w fun e w' => e = .returned (.int .i64 (N : Nat)) ∧ w' = w := by
  obtain ⟨ops, B, _, _, S, h⟩ := h
  obtain ⟨⟨⟨M', U, V, bt, bp, bc, h⟩, b⟩, _⟩ := h
  exact pframes_any h.mem
theorem wfree_any (h : FW W X w p pm N pool o M C) :
    Calls Tryz.prog 10 #[.pointer (some ⟨p, 0, none⟩)] w fun e w' => e = .returned (.tuple #[.int .i64 (cnt (fP pool N C) N : Nat), .int .i64 (cnt (fT pool C) pool : Nat)]) ∧ Dr w w' := by
  obtain ⟨ops, B, h1, h2, h⟩ := h
  exact kfree_any h
theorem wget_ok (h : FW W X w p pm N pool o M C) (x : Nat) (hx : x < N) :
    Calls Tryz.prog 136 #[.pointer (some ⟨pm, 0, none⟩), .int .i64 (x : Int)] w fun e w' => e = .returned (.tuple #[.slice (some ⟨w.heap.size, 0, none⟩) 4096 4096, .int .i64 0]) ∧ (∃ f, BS w' w.heap.size 0 4096 f ∧ ∀ i, i < 512 → numb f (8 * i) 8 = M x i) ∧ Kp w w' := by
  obtain ⟨ops, B, _, rfl, S, h⟩ := h
  obtain ⟨⟨⟨M', U, V, bt, bp, bc, h⟩, b⟩, _⟩ := h
  have hb : Bytes (B x) := by obtain ⟨bm, g, h⟩ := h.mem; exact h.byte x
  exact (pget_ok h.mem x hx).mono fun e w' ⟨e1, e2, e3⟩ => ⟨e1, ⟨B x, e2.bs hb, fun i _ => rfl⟩, e3⟩
theorem wwrite_ok (h : FW W X w p pm N pool o M C) (x i v : Nat) (hx : x < N) (hi : i < 512) (hv : v < 18446744073709551616) (ho : o < 4611686018427387904) :
    Calls Tryz.prog 107 #[.pointer (some ⟨pm, 0, none⟩), .int .u64 ((x * 4096 + 8 * i : Nat) : Int), .int .i64 8, .int .u64 (v : Int)] w fun e w' => e = .returned (.int .i64 0) ∧ FW W X w' p pm N pool (o + 1) (updM M x i v) C ∧ Fr (Out W X) w w' := by
  obtain ⟨ops, B, h1, rfl, h⟩ := h
  have hn := h.nums
  have k := kwrite_ok h (x * 4096 + 8 * i) 8 v (by omega) (chk_word hx hi) hv (by omega)
  rw [show (x * 4096 + 8 * i) / 4096 = x by omega, show (x * 4096 + 8 * i) % 4096 = 8 * i by omega] at k
  exact k.mono fun e w' ⟨e1, e2, e3⟩ => ⟨e1, ⟨ops + 1, _, by omega, wM_put B x i v hv, e2⟩, e3⟩
theorem wtable_some (h : FW W X w p pm N pool o M C) (x : Nat) (hr : TkR (fT pool C) 0 (some x)) :
    Calls Tryz.prog 28 #[.pointer (some ⟨p, 0, none⟩)] w fun e w' => e = .returned (.tuple #[.int .i64 (x : Nat), .int .i64 0]) ∧ FW W X w' p pm N pool o (zerM M x) (putC C x 1) ∧ Fr (Out W X) w w' := by
  obtain ⟨ops, B, h1, rfl, h⟩ := h
  exact (ktable_any h (some x) hr).mono fun e w' ⟨e1, e2, e3⟩ => ⟨e1, ⟨ops, _, h1, wM_zerR B x, by rw [← onR_one]; exact e2⟩, e3⟩
theorem wtable_none (h : FW W X w p pm N pool o M C) (hr : TkR (fT pool C) 0 none) :
    Calls Tryz.prog 28 #[.pointer (some ⟨p, 0, none⟩)] w fun e w' => e = .returned (.tuple #[.int .i64 0, .int .i64 11]) ∧ FW W X w' p pm N pool o M C ∧ Fr (Out W X) w w' := by
  obtain ⟨ops, B, h1, rfl, h⟩ := h
  exact (ktable_any h none hr).mono fun e w' ⟨e1, e2, e3⟩ => ⟨e1, ⟨ops, _, h1, rfl, e2⟩, e3⟩
theorem wdrop_one (h : FW W X w p pm N pool o M C) (x : Nat) (hx : x < pool) (hC : C x = 1) :
    Calls Tryz.prog 67 #[.pointer (some ⟨p, 0, none⟩), .int .i64 (x : Int)] w fun e w' => e = .returned (.tuple #[.int .i64 0, .int .i64 0]) ∧ FW W X w' p pm N pool o (zerM M x) (putC C x 0) ∧ Fr (Out W X) w w' := by
  obtain ⟨ops, B, h1, rfl, h⟩ := h
  have hn := h.nums
  have k := kdrop_any h (x : Int) (wf_nat (by omega))
  have c : cI C (x : Int) = 1 := by unfold cI; simp [hC]
  unfold dropN dropE dropC dropB at k
  rw [c, if_neg (by decide), if_pos rfl, if_neg (by decide), Int.toNat_natCast] at k
  exact k.mono fun e w' ⟨e1, e2, e3⟩ => ⟨e1, ⟨ops, _, h1, wM_zero B x, e2⟩, e3⟩
/-- A free frame that Take finds. -/
theorem TkR.free {x : Nat} (h : TkR (fT pool C) 0 (some x)) : x < pool ∧ C x = 0 := (fT_iff pool C x).1 (h.blk.2 x (Nat.le_refl _) (by simp))
end

/-! ### the table's own block -/
def TX (w : World) (b p root : Nat) : Prop := w.heap[b]? = some (.cells #[.pointer (some ⟨p, 0, none⟩), .int .u64 ((root * 4096 : Nat) : Int)] 86 (0, 0))
section
variable {w w' : World} {b p root : Nat}
theorem TX.lt (h : TX w b p root) : b < w.heap.size := (Array.getElem?_eq_some_iff.1 h).1
theorem TX.fr {S : Nat → Prop} (h : TX w b p root) (k : Fr S w w') (hS : ¬ S b) : TX w' b p root := (k.block b h.lt hS).trans h
theorem TX.kp (h : TX w b p root) (k : Kp w w') : TX w' b p root := (k.block b h.lt).trans h
theorem TX.c0 (h : TX w b p root) : w.cell? ⟨b, 0, none⟩ = some (.pointer (some ⟨p, 0, none⟩)) := by rw [cell_of_row w b 0 _ _ _ h]; rfl
theorem TX.c1 (h : TX w b p root) : w.cell? ⟨b, 1, none⟩ = some (.int .u64 ((root * 4096 : Nat) : Int)) := by rw [cell_of_row w b 1 _ _ _ h]; rfl
end

/-! ### its reader -/
theorem sread_any {w : World} {S : Nat → Prop} {p pm N pool ops : Nat} {B : Nat → Nat → Nat} {C : Nat → Nat} (h : FZ w S p pm N pool ops B C) (a : Nat) (ha : a < 18446744073709551616) (ho : ops < 4611686018427387904) :
    Calls Tryz.prog 17 #[.pointer (some ⟨pm, 0, none⟩), .int .u64 (a : Int), .int .i64 8] w fun e w' => (∃ r : Int, e = .returned (.tuple #[.int .u64 ((rdB N B a).1 : Int), .int .i64 r]) ∧ (rdB N B a).2 = (r == 0)) ∧ (∃ ops', ops' ≤ ops + 1 ∧ FZ w' S p pm N pool ops' B C) ∧ Fr S w w' := by
  have h0 := h
  obtain ⟨⟨M, U, V, bt, bp, bc, h⟩, b⟩ := h
  unfold rdB
  by_cases c1 : a % 8 = 0
  · by_cases c2 : a / 4096 < N
    · have hc : chkP N a (8 : Nat) = 0 := by
        unfold chkP
        rw [if_neg (by omega), if_neg (by show ¬ a % 8 ≠ 0; omega), if_neg (by omega)]
      rw [if_pos ⟨c1, c2⟩]
      exact (pread_ok h.mem a 8 ha hc ho).mono fun e w' ⟨e1, e2, e3⟩ => ⟨⟨0, e1, rfl⟩, ⟨ops + 1, Nat.le_refl _, ⟨M, U, V, bt, bp, bc, h.setM e2 e3⟩, b⟩, h.frM e3⟩
    · have hc : chkP N a 8 = 2 := by
        unfold chkP
        rw [if_neg (by omega), if_neg (by show ¬ a % 8 ≠ 0; omega), if_pos (by omega)]
      rw [if_neg (by omega)]
      exact (pread_no h.mem a 8 2 ha hc (by decide)).mono fun e w' ⟨e1, e2⟩ => ⟨⟨2, e1, rfl⟩, ⟨ops, by omega, e2 ▸ h0⟩, e2 ▸ Fr.refl _ _⟩
  · have hc : chkP N a 8 = 3 := by
      unfold chkP
      rw [if_neg (by omega), if_pos (by show a % 8 ≠ 0; omega)]
    rw [if_neg (by omega)]
    exact (pread_no h.mem a 8 3 ha hc (by decide)).mono fun e w' ⟨e1, e2⟩ => ⟨⟨3, e1, rfl⟩, ⟨ops, by omega, e2 ▸ h0⟩, e2 ▸ Fr.refl _ _⟩

/-- The world between the reads of a walk. -/
structure TI (W : World) (X S : Nat → Prop) (n0 : Nat) (bt p pm N pool o root : Nat) (B : Nat → Nat → Nat) (C : Nat → Nat) (w : World) : Prop where
  fb : ∃ ops, ops ≤ o ∧ FB W X S w p pm N pool ops B C
  tx : TX w bt p root
  sz : n0 ≤ w.heap.size
theorem FB.below {W w w' : World} {X S : Nat → Prop} {p pm N pool ops n : Nat} {B : Nat → Nat → Nat} {C : Nat → Nat} (h : FB W X S w p pm N pool ops B C) (k : Go.RowKit.Below n w w') (hS : ∀ i, S i → i < n) (hn : W.heap.size ≤ n) : FB W X S w' p pm N pool ops B C := by
  have f : Fr (fun i => n ≤ i) w w' := ⟨k.os, k.tape, k.output, k.size, fun i _ hi => k.block i (by omega)⟩
  have t0 := h.t0
  exact ⟨h.fs.fr f (fun i hi c => by have := hS i hi; omega) (by omega), f.kp h.kp (fun i hi => by omega), h.out, fun i hi => Nat.lt_of_lt_of_le (h.lt i hi) k.size, h.t0⟩
set_option maxHeartbeats 1000000 in
theorem readS {W w0 : World} {X S : Nat → Prop} {bt p pm N pool ops root : Nat} {B : Nat → Nat → Nat} {C : Nat → Nat} (h : FB W X S w0 p pm N pool ops B C) (T : TX w0 bt p root) (hX : X bt) (ho : ops < 4000000000000000000) :
    RD w0.heap.size 92 #[.pointer (some ⟨bt, 0, none⟩)] #[] (rdB N B) S (fun n w => TI W X S w0.heap.size bt p pm N pool (ops + n) root B C w) where
  fn := ⟨_, Tryz.func92, rfl, by decide⟩
  lt := h.fs.own
  word a := by
    obtain ⟨⟨M, U, V, bt, bp, bc, h⟩, b⟩ := h.fs
    obtain ⟨bm, g, h⟩ := h.mem
    unfold rdB
    split
    · exact numb_lt (h.byte _) _ 8
    · show 0 < _; decide
  keep n w w' H k := by
    obtain ⟨⟨ops', a1, a2⟩, a3, a4⟩ := H
    exact ⟨⟨ops', a1, a2.below k h.fs.own h.kp.size⟩, (k.block bt T.lt).trans a3, Nat.le_trans a4 k.size⟩
  size n w H := H.sz
  call n w a H hn ha := by
    obtain ⟨⟨ops', a1, a2⟩, a3, a4⟩ := H
    have k1 := smem_any a2.fs
    have k2 := sread_any a2.fs a ha (by omega)
    have c0 := a3.c0
    have sX : ¬ S bt := fun c => (a2.out bt c).2 hX
    have HA : Hid (FB W X S w p pm N pool ops' B C ∧ TX w bt p root ∧ w0.heap.size ≤ w.heap.size ∧ ops' ≤ ops + n ∧ ¬ S bt) := ⟨a2, a3, a4, a1, sX⟩
    generalize (rdB N B a).1 = u at *
    generalize (rdB N B a).2 = ok at *
    clear a1 a2 a3 a4 h T hX ho hn sX
    show Calls Tryz.prog 92 #[.pointer (some ⟨bt, 0, none⟩), .int .u64 (a : Int)] w fun e w' => e = .returned (.tuple #[.int .u64 (u : Int), .bool ok]) ∧ TI W X S w0.heap.size bt p pm N pool (ops + (n + 1)) root B C w' ∧ Fr S w w'
    go_enter Tryz.func92, Tryz.ntmps92
    go_wp2_with (go_at_call 95; with_reducible refine k1.mono ?_; rintro e w' ⟨rfl, rfl⟩)
    with_reducible refine k2.mono ?_
    rintro e w2 ⟨⟨r, rfl, hr⟩, ⟨o2, ho2, F2⟩, K2⟩
    have HE : Hid (TI W X S w0.heap.size bt p pm N pool (ops + (n + 1)) root B C w2 ∧ Fr S w' w2) := by
      obtain ⟨b1, b2, b3, b4, b5⟩ := HA.out
      exact ⟨⟨⟨o2, by omega, F2, K2.kp b1.kp (fun i hi => (b1.out i hi).1), b1.out, fun i hi => Nat.lt_of_lt_of_le (b1.lt i hi) K2.size, b1.t0⟩, b2.fr K2 b5, Nat.le_trans b3 K2.size⟩, K2⟩
    clear F2 K2 HA k1 k2
    go_wp2
    go_ret2
    exact ⟨by rw [hr]; rfl, HE.out⟩
end Go.Proofs.YtanlcmdnhhdhaaaGreatDoor
