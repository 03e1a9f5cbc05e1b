/- PhysPlays: the program's memory beside the document's; each call told in one form. -/
import Derived.Test.YtndlkkacnpjlmaaP21
import Derived.Test.YtndlkkacnpjlmaaP7
namespace Go.Proofs.Ytndlkkacnpjlmaa
open Go.RowKit Go.Maps

/-- Two memories beside one another, all of which lies in U. -/
def Two (U : Nat → Prop) (w : World) (p q N o1 : Nat) (F1 : Nat → Nat → Nat) (o2 : Nat) (F2 : Nat → Nat → Nat) : Prop :=
  ∃ S T, PM w S p N o1 F1 ∧ RM w T q N o2 F2 ∧ (∀ i, S i → ¬ T i) ∧ (∀ i, S i → U i) ∧ (∀ i, T i → U i)
def Free (U : Nat → Prop) (w : World) : Prop := ∀ k, w.heap.size ≤ k → U k

theorem Two.kp {U : Nat → Prop} {w w' : World} {p q N o1 o2 : Nat} {F1 F2 : Nat → Nat → Nat} (h : Two U w p q N o1 F1 o2 F2) (k : Kp w w') : Two U w' p q N o1 F1 o2 F2 := by
  obtain ⟨S, T, h1, h2, h3⟩ := h
  exact ⟨S, T, h1.kp k, h2.kp k, h3⟩
theorem Two.cut {U U' : Nat → Prop} {w : World} {p q N o1 o2 : Nat} {F1 F2 : Nat → Nat → Nat} (h : Two U w p q N o1 F1 o2 F2) (hU : ∀ i, i < w.heap.size → U i → U' i) : Two U' w p q N o1 F1 o2 F2 := by
  obtain ⟨S, T, h1, h2, h3, h4, h5⟩ := h
  exact ⟨S, T, h1, h2, h3, fun i hi => hU i (h1.own i hi) (h4 i hi), fun i hi => hU i (h2.own i hi) (h5 i hi)⟩
theorem Free.kp {U : Nat → Prop} {w w' : World} (h : Free U w) (hs : w.heap.size ≤ w'.heap.size) : Free U w' := fun k hk => h k (Nat.le_trans hs hk)
theorem Two.byte {U : Nat → Prop} {w : World} {p q N o1 o2 : Nat} {F1 F2 : Nat → Nat → Nat} (h : Two U w p q N o1 F1 o2 F2) (x : Nat) : Bytes (F1 x) := by
  obtain ⟨S, T, ⟨bm, g, h1⟩, _⟩ := h
  exact h1.byte x

/-- A change of the program's memory. -/
theorem Two.left {U S' : Nat → Prop} {w w' : World} {S T : Nat → Prop} {p q N o1 o2 o' : Nat} {F1 F2 F' : Nat → Nat → Nat} (_h1 : PM w S p N o1 F1) (h2 : RM w T q N o2 F2) (h3 : ∀ i, S i → ¬ T i) (h4 : ∀ i, S i → U i) (h5 : ∀ i, T i → U i) (fU : Free U w)
    (m : PM w' S' p N o' F') (k : Fr S w w') (l : Less S S' w) : Two U w' p q N o' F' o2 F2 ∧ Fr U w w' := by
  refine ⟨⟨S', T, m, h2.fr k (fun i hi hs => h3 i hs hi), fun i hi ht => ?_, fun i hi => ?_, h5⟩, k.mono (fun i _ hi => h4 i hi)⟩
  · rcases l i hi with h | h
    · exact h3 i h ht
    · have := h2.own i ht; omega
  · rcases l i hi with h | h
    · exact h4 i h
    · exact fU i h
theorem Two.right {U T' : Nat → Prop} {w w' : World} {S T : Nat → Prop} {p q N o1 o2 o' : Nat} {F1 F2 F' : Nat → Nat → Nat} (h1 : PM w S p N o1 F1) (_h2 : RM w T q N o2 F2) (h3 : ∀ i, S i → ¬ T i) (h4 : ∀ i, S i → U i) (h5 : ∀ i, T i → U i) (fU : Free U w)
    (m : RM w' T' q N o' F') (k : Fr T w w') (l : Less T T' w) : Two U w' p q N o1 F1 o' F' ∧ Fr U w w' := by
  refine ⟨⟨S, T', h1.fr k h3, m, fun i hs hi => ?_, h4, fun i hi => ?_⟩, k.mono (fun i _ hi => h5 i hi)⟩
  · rcases l i hi with h | h
    · exact h3 i hs h
    · have := h1.own i hs; omega
  · rcases l i hi with h | h
    · exact h5 i h
    · exact fU i h

/-- Reads and Writes that were OK are counted. -/
def inc (o : Nat) (r : Int) : Nat := if r = 0 then o + 1 else o
theorem inc_le (o : Nat) (r : Int) : inc o r ≤ o + 1 := by unfold inc; split <;> omega
def wrF (N : Nat) (F : Nat → Nat → Nat) (addr : Nat) (size : Int) (v : Nat) : Nat → Nat → Nat := if chkP N addr size = 0 then putFr F (addr / 4096) (putF (F (addr / 4096)) (addr % 4096) size.toNat v) else F
def rdV (N : Nat) (F : Nat → Nat → Nat) (addr : Nat) (size : Int) : Nat := if chkP N addr size = 0 then numb (F (addr / 4096)) (addr % 4096) size.toNat else 0
theorem chkP_nat {N addr : Nat} {size : Int} (h : chkP N addr size = 0) : ((size.toNat : Nat) : Int) = size := by
  unfold chkP at h
  by_cases c : size ≠ 1 ∧ size ≠ 2 ∧ size ≠ 4 ∧ size ≠ 8
  · rw [if_pos c] at h; omega
  · omega

section
variable {U : Nat → Prop} {w : World} {p q N o1 o2 : Nat} {F1 F2 : Nat → Nat → Nat}

theorem two_pwrite (h : Two U w p q N o1 F1 o2 F2) (fU : Free U w) (addr : Nat) (size : Int) (v : Nat) (ha : addr < 18446744073709551616) (hv : v < 18446744073709551616) (ho : o1 < 4611686018427387904) :
    Calls Try.prog 9 #[.pointer (some ⟨p, 0, none⟩), .int .u64 (addr : Int), .int .i64 size, .int .u64 (v : Int)] w fun e w' => e = .returned (.int .i64 (chkP N addr size)) ∧ Two U w' p q N (inc o1 (chkP N addr size)) (wrF N F1 addr size v) o2 F2 ∧ Fr U w w' := by
  obtain ⟨S, T, h1, h2, h3, h4, h5⟩ := h
  by_cases c : chkP N addr size = 0
  · unfold inc wrF
    rw [if_pos c, if_pos c, c]
    have e := chkP_nat c
    have := pwrite_ok h1 addr size.toNat v ha (by rw [e]; exact c) hv ho
    rw [e] at this
    exact this.mono fun e w' ⟨e1, S', m, k, l⟩ => ⟨e1, Two.left h1 h2 h3 h4 h5 fU m k l⟩
  · unfold inc wrF
    rw [if_neg c, if_neg c]
    exact (pwrite_no h1 addr size _ v ha rfl c).mono fun e w' ⟨e1, e2⟩ => by subst e2; exact ⟨e1, ⟨S, T, h1, h2, h3, h4, h5⟩, Fr.refl _ _⟩
theorem two_qwrite (h : Two U w p q N o1 F1 o2 F2) (fU : Free U w) (addr : Nat) (size : Int) (v : Nat) (hv : v < 18446744073709551616) (ho : o2 < 4611686018427387904) :
    Calls Try.prog 10 #[.pointer (some ⟨q, 0, none⟩), .int .u64 (addr : Int), .int .i64 size, .int .u64 (v : Int)] w fun e w' => e = .returned (.int .i64 (chkP N addr size)) ∧ Two U w' p q N o1 F1 (inc o2 (chkP N addr size)) (wrF N F2 addr size v) ∧ Fr U w w' := by
  obtain ⟨S, T, h1, h2, h3, h4, h5⟩ := h
  by_cases c : chkP N addr size = 0
  · unfold inc wrF
    rw [if_pos c, if_pos c, c]
    have e := chkP_nat c
    have := rwrite_ok h2 addr size.toNat v (by rw [e]; exact c) hv ho
    rw [e] at this
    exact this.mono fun e w' ⟨e1, S', m, k, l⟩ => ⟨e1, Two.right h1 h2 h3 h4 h5 fU m k l⟩
  · unfold inc wrF
    rw [if_neg c, if_neg c]
    exact (rwrite_no h2 addr size _ v rfl c).mono fun e w' ⟨e1, e2⟩ => by subst e2; exact ⟨e1, ⟨S, T, h1, h2, h3, h4, h5⟩, Fr.refl _ _⟩
theorem two_pread (h : Two U w p q N o1 F1 o2 F2) (fU : Free U w) (addr : Nat) (size : Int) (ha : addr < 18446744073709551616) (ho : o1 < 4611686018427387904) :
    Calls Try.prog 11 #[.pointer (some ⟨p, 0, none⟩), .int .u64 (addr : Int), .int .i64 size] w fun e w' => e = .returned (.tuple #[.int .u64 (rdV N F1 addr size : Nat), .int .i64 (chkP N addr size)]) ∧ Two U w' p q N (inc o1 (chkP N addr size)) F1 o2 F2 ∧ Fr U w w' := by
  obtain ⟨S, T, h1, h2, h3, h4, h5⟩ := h
  by_cases c : chkP N addr size = 0
  · unfold inc rdV
    rw [if_pos c, if_pos c, c]
    have e := chkP_nat c
    have := pread_ok h1 addr size.toNat ha (by rw [e]; exact c) ho
    rw [e] at this
    exact this.mono fun e w' ⟨e1, m, k⟩ => ⟨e1, Two.left h1 h2 h3 h4 h5 fU m k (Less.refl _ _)⟩
  · unfold inc rdV
    rw [if_neg c, if_neg c]
    exact (pread_no h1 addr size _ ha rfl c).mono fun e w' ⟨e1, e2⟩ => by subst e2; exact ⟨e1, ⟨S, T, h1, h2, h3, h4, h5⟩, Fr.refl _ _⟩
theorem two_qread (h : Two U w p q N o1 F1 o2 F2) (fU : Free U w) (addr : Nat) (size : Int) (ho : o2 < 4611686018427387904) :
    Calls Try.prog 12 #[.pointer (some ⟨q, 0, none⟩), .int .u64 (addr : Int), .int .i64 size] w fun e w' => e = .returned (.tuple #[.int .u64 (rdV N F2 addr size : Nat), .int .i64 (chkP N addr size)]) ∧ Two U w' p q N o1 F1 (inc o2 (chkP N addr size)) F2 ∧ Fr U w w' := by
  obtain ⟨S, T, h1, h2, h3, h4, h5⟩ := h
  by_cases c : chkP N addr size = 0
  · unfold inc rdV
    rw [if_pos c, if_pos c, c]
    have e := chkP_nat c
    have := rread_ok h2 addr size.toNat (by rw [e]; exact c) ho
    rw [e] at this
    exact this.mono fun e w' ⟨e1, m, k⟩ => ⟨e1, Two.right h1 h2 h3 h4 h5 fU m k (Less.refl _ _)⟩
  · unfold inc rdV
    rw [if_neg c, if_neg c]
    exact (rread_no h2 addr size _ rfl c).mono fun e w' ⟨e1, e2⟩ => by subst e2; exact ⟨e1, ⟨S, T, h1, h2, h3, h4, h5⟩, Fr.refl _ _⟩

/-- What Set answers, and leaves. -/
def stR (N : Nat) (x : Int) (n : Nat) : Int := if hasF N x = true then (if n = 4096 then 0 else 1) else 2
def stF (N : Nat) (F : Nat → Nat → Nat) (x : Int) (n : Nat) (f : Nat → Nat) : Nat → Nat → Nat := if hasF N x = true ∧ n = 4096 then putFr F x.toNat f else F
theorem has_nat {N : Nat} {x : Int} (h : hasF N x = true) : ((x.toNat : Nat) : Int) = x ∧ x.toNat < N := by
  have := (hasF_iff N x).1 h
  omega
theorem two_pset (h : Two U w p q N o1 F1 o2 F2) (fU : Free U w) (x : Int) (na : Option Addr) (n cap : Nat) (f : Nat → Nat) (hf : Bytes f) (hs : 0 < n → ∃ c o, na = some ⟨c, o, none⟩ ∧ c < w.heap.size ∧ Cells w c o n f) :
    Calls Try.prog 14 #[.pointer (some ⟨p, 0, none⟩), .int .i64 x, .slice na n cap] w fun e w' => e = .returned (.int .i64 (stR N x n)) ∧ Two U w' p q N o1 (stF N F1 x n f) o2 F2 ∧ Fr U w w' := by
  obtain ⟨S, T, h1, h2, h3, h4, h5⟩ := h
  unfold stR stF
  by_cases c : hasF N x = true
  · rw [if_pos c]
    by_cases d : n = 4096
    · rw [if_pos d, if_pos ⟨c, d⟩]
      subst d
      obtain ⟨b, o, rfl, hb, C⟩ := hs (by omega)
      obtain ⟨e, hl⟩ := has_nat c
      have := pset_ok h1 x.toNat hl b o cap f hb C hf
      rw [e] at this
      exact this.mono fun e w' ⟨e1, S', m, k, l⟩ => ⟨e1, Two.left h1 h2 h3 h4 h5 fU m k l⟩
    · rw [if_neg d, if_neg (fun h => d h.2)]
      exact (pset_len h1 x na n cap c d).mono fun e w' ⟨e1, e2⟩ => by subst e2; exact ⟨e1, ⟨S, T, h1, h2, h3, h4, h5⟩, Fr.refl _ _⟩
  · rw [if_neg c, if_neg (fun h => c h.1)]
    exact (pset_no h1 x _ (by simpa using c)).mono fun e w' ⟨e1, e2⟩ => by subst e2; exact ⟨e1, ⟨S, T, h1, h2, h3, h4, h5⟩, Fr.refl _ _⟩
theorem two_qset (h : Two U w p q N o1 F1 o2 F2) (fU : Free U w) (x : Int) (na : Option Addr) (n cap : Nat) (f : Nat → Nat) (hf : Bytes f) (hs : 0 < n → ∃ c o, na = some ⟨c, o, none⟩ ∧ c < w.heap.size ∧ Cells w c o n f) :
    Calls Try.prog 15 #[.pointer (some ⟨q, 0, none⟩), .int .i64 x, .slice na n cap] w fun e w' => e = .returned (.int .i64 (stR N x n)) ∧ Two U w' p q N o1 F1 o2 (stF N F2 x n f) ∧ Fr U w w' := by
  obtain ⟨S, T, h1, h2, h3, h4, h5⟩ := h
  unfold stR stF
  by_cases c : hasF N x = true
  · rw [if_pos c]
    by_cases d : n = 4096
    · rw [if_pos d, if_pos ⟨c, d⟩]
      subst d
      obtain ⟨b, o, rfl, hb, C⟩ := hs (by omega)
      obtain ⟨e, hl⟩ := has_nat c
      have := rset_ok h2 x.toNat hl b o cap f hb C hf
      rw [e] at this
      exact this.mono fun e w' ⟨e1, S', m, k, l⟩ => ⟨e1, Two.right h1 h2 h3 h4 h5 fU m k l⟩
    · rw [if_neg d, if_neg (fun h => d h.2)]
      exact (rset_len h2 x na n cap c d).mono fun e w' ⟨e1, e2⟩ => by subst e2; exact ⟨e1, ⟨S, T, h1, h2, h3, h4, h5⟩, Fr.refl _ _⟩
  · rw [if_neg c, if_neg (fun h => c h.1)]
    exact (rset_no h2 x _ (by simpa using c)).mono fun e w' ⟨e1, e2⟩ => by subst e2; exact ⟨e1, ⟨S, T, h1, h2, h3, h4, h5⟩, Fr.refl _ _⟩
theorem two_pzero (h : Two U w p q N o1 F1 o2 F2) (fU : Free U w) (x : Int) :
    Calls Try.prog 16 #[.pointer (some ⟨p, 0, none⟩), .int .i64 x] w fun e w' => e = .returned (.int .i64 (stR N x 4096)) ∧ Two U w' p q N o1 (stF N F1 x 4096 z0) o2 F2 ∧ Fr U w w' := by
  obtain ⟨S, T, h1, h2, h3, h4, h5⟩ := h
  unfold stR stF
  by_cases c : hasF N x = true
  · rw [if_pos c, if_pos rfl, if_pos ⟨c, rfl⟩]
    obtain ⟨e, hl⟩ := has_nat c
    have := pzero_ok h1 x.toNat hl
    rw [e] at this
    exact this.mono fun e w' ⟨e1, m, k⟩ => ⟨e1, Two.left h1 h2 h3 h4 h5 fU m k (Less.refl _ _)⟩
  · rw [if_neg c, if_neg (fun h => c h.1)]
    exact (pzero_no h1 x (by simpa using c)).mono fun e w' ⟨e1, e2⟩ => by subst e2; exact ⟨e1, ⟨S, T, h1, h2, h3, h4, h5⟩, Fr.refl _ _⟩
theorem two_qzero (h : Two U w p q N o1 F1 o2 F2) (fU : Free U w) (x : Int) :
    Calls Try.prog 17 #[.pointer (some ⟨q, 0, none⟩), .int .i64 x] w fun e w' => e = .returned (.int .i64 (stR N x 4096)) ∧ Two U w' p q N o1 F1 o2 (stF N F2 x 4096 z0) ∧ Fr U w w' := by
  obtain ⟨S, T, h1, h2, h3, h4, h5⟩ := h
  unfold stR stF
  by_cases c : hasF N x = true
  · rw [if_pos c, if_pos rfl, if_pos ⟨c, rfl⟩]
    obtain ⟨e, hl⟩ := has_nat c
    have := rzero_ok h2 x.toNat hl
    rw [e] at this
    exact this.mono fun e w' ⟨e1, T', m, k, l⟩ => ⟨e1, Two.right h1 h2 h3 h4 h5 fU m k l⟩
  · rw [if_neg c, if_neg (fun h => c h.1)]
    exact (rzero_no h2 x (by simpa using c)).mono fun e w' ⟨e1, k⟩ => ⟨e1, Two.kp ⟨S, T, h1, h2, h3, h4, h5⟩ k, k.fr _⟩

/-- What Get tells: so many bytes. -/
def gtN (N : Nat) (x : Int) : Nat := if hasF N x = true then 4096 else 0
def gtR (N : Nat) (x : Int) : Int := if hasF N x = true then 0 else 2
theorem two_pget (h : Two U w p q N o1 F1 o2 F2) (x : Int) :
    Calls Try.prog 18 #[.pointer (some ⟨p, 0, none⟩), .int .i64 x] w fun e w' => ∃ na, e = .returned (.tuple #[.slice na (gtN N x) (gtN N x), .int .i64 (gtR N x)]) ∧ (na = none ↔ gtN N x = 0) ∧ (0 < gtN N x → na = some ⟨w.heap.size, 0, none⟩ ∧ BS w' w.heap.size 0 (gtN N x) (F1 x.toNat)) ∧ Kp w w' := by
  have hb := h.byte x.toNat
  obtain ⟨S, T, h1, _⟩ := h
  unfold gtN gtR
  by_cases c : hasF N x = true
  · rw [if_pos c, if_pos c]
    obtain ⟨e, hl⟩ := has_nat c
    have := pget_ok h1 x.toNat hl
    rw [e] at this
    exact this.mono fun e w' ⟨e1, r, k⟩ => ⟨_, e1, by simp, fun _ => ⟨rfl, r.bs hb⟩, k⟩
  · rw [if_neg c, if_neg c]
    exact (pget_no h1 x (by simpa using c)).mono fun e w' ⟨e1, e2⟩ => by subst e2; exact ⟨none, e1, by simp, fun h => by omega, Kp.refl _⟩
theorem two_qget (h : Two U w p q N o1 F1 o2 F1) (x : Int) :
    Calls Try.prog 19 #[.pointer (some ⟨q, 0, none⟩), .int .i64 x] w fun e w' => ∃ na, e = .returned (.tuple #[.slice na (gtN N x) (gtN N x), .int .i64 (gtR N x)]) ∧ (na = none ↔ gtN N x = 0) ∧ (0 < gtN N x → na = some ⟨w.heap.size, 0, none⟩ ∧ BS w' w.heap.size 0 (gtN N x) (F1 x.toNat)) ∧ Kp w w' := by
  have hb := h.byte x.toNat
  obtain ⟨S, T, _, h2, _⟩ := h
  unfold gtN gtR
  by_cases c : hasF N x = true
  · rw [if_pos c, if_pos c]
    obtain ⟨e, hl⟩ := has_nat c
    have := rget_ok h2 x.toNat hl hb
    rw [e] at this
    exact this.mono fun e w' ⟨e1, r, k⟩ => ⟨_, e1, by simp, fun _ => ⟨rfl, r⟩, k⟩
  · rw [if_neg c, if_neg c]
    exact (rget_no h2 x (by simpa using c)).mono fun e w' ⟨e1, e2⟩ => by subst e2; exact ⟨none, e1, by simp, fun h => by omega, Kp.refl _⟩
end

end Go.Proofs.Ytndlkkacnpjlmaa
