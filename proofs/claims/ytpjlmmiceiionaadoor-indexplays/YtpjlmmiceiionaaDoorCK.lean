/- index: a memory of 12 frames and its index, beside other blocks: what each act leaves. -/
import Derived.Test.YtpjlmmiceiionaaDoorCC
import Derived.Test.YtpjlmmiceiionaaDoorCF
import Derived.Test.YtpjlmmiceiionaaDoorCJ
namespace Go.Proofs.YtpjlmmiceiionaaDoor
open Go.RowKit Go.Maps
set_option maxRecDepth 10000

/-- The memory at pm and the index at p; the blocks of X are neither's. -/
def TIx (w : World) (X : Nat → Prop) (p pm ops : Nat) (F : Nat → Nat → Nat) (Sg : Nat → Option CN) : Prop :=
  ∃ Sm Sx, PM w Sm pm 12 ops F ∧ IX w Sx p pm Sg 12 ∧ TAB w ∧ (∀ k, Sm k → Sx k → False) ∧ (∀ k, X k → k < w.heap.size ∧ ¬ Sm k ∧ ¬ Sx k) ∧ ¬ Sm 0 ∧ ¬ Sx 0
/-- All blocks of X lie as they lay. -/
abbrev FrI (X : Nat → Prop) (w w' : World) : Prop := Fr (fun k => ¬ X k) w w'
section
variable {w w' : World} {X Y : Nat → Prop} {p pm ops : Nat} {F : Nat → Nat → Nat} {Sg : Nat → Option CN}
theorem TIx.less (h : TIx w X p pm ops F Sg) (hY : ∀ k, Y k → X k) : TIx w Y p pm ops F Sg := by
  obtain ⟨Sm, Sx, h1, h2, h3, h4, h5, h6⟩ := h
  exact ⟨Sm, Sx, h1, h2, h3, h4, fun k hk => h5 k (hY k hk), h6⟩
theorem TIx.kp (h : TIx w X p pm ops F Sg) (k : Kp w w') : TIx w' (fun i => X i ∨ (w.heap.size ≤ i ∧ i < w'.heap.size)) p pm ops F Sg := by
  obtain ⟨Sm, Sx, h1, h2, h3, h4, h5, h6⟩ := h
  refine ⟨Sm, Sx, h1.kp k, h2.kp k, h3.kp k, h4, fun i hi => ?_, h6⟩
  rcases hi with hi | hi
  · have := h5 i hi
    exact ⟨Nat.lt_of_lt_of_le this.1 k.size, this.2⟩
  · exact ⟨hi.2, fun s => by have := h1.own i s; omega, fun s => by have := h2.own i s; omega⟩
theorem TIx.kpl (h : TIx w X p pm ops F Sg) (k : Kp w w') : TIx w' X p pm ops F Sg := (h.kp k).less fun _ hk => .inl hk
theorem TIx.xlt (h : TIx w X p pm ops F Sg) {k : Nat} (hk : X k) : k < w.heap.size := by
  obtain ⟨_, _, _, _, _, _, h5, _⟩ := h
  exact (h5 k hk).1
theorem TIx.byte (h : TIx w X p pm ops F Sg) (x : Nat) : Bytes (F x) := by
  obtain ⟨_, _, ⟨_, _, h1⟩, _⟩ := h
  exact h1.byte x
theorem TIx.okS (h : TIx w X p pm ops F Sg) {f : Nat} {d : CN} (hs : Sg f = some d) : okC d ∧ f < 12 := by
  obtain ⟨_, _, _, ⟨_, _, _, _, _, h2⟩, _⟩ := h
  exact h2.ok f d hs

/-! ### Get, Same, Find, Has, Count, Alike -/
theorem TIx.get_ok (h : TIx w X p pm ops F Sg) (x : Nat) (hx : x < 12) :
    Calls Tryd.prog 13 #[.pointer (some ⟨pm, 0, none⟩), .int .i64 (x : Int)] w fun e w' => e = .returned (.tuple #[.slice (some ⟨w.heap.size, 0, none⟩) 4096 4096, .int .i64 0]) ∧ BS w' w.heap.size 0 4096 (F x) ∧ TIx w' (fun i => X i ∨ (w.heap.size ≤ i ∧ i < w'.heap.size)) p pm ops F Sg ∧ Kp w w' := by
  have hb := h.byte x
  have hh := h
  obtain ⟨Sm, Sx, h1, h2, h3, h4, h5, h6⟩ := h
  refine (pget_ok h1 x hx).mono ?_
  rintro e w' ⟨rfl, rb, k⟩
  exact ⟨rfl, rb.bs hb, hh.kp k, k⟩
theorem TIx.get_no (h : TIx w X p pm ops F Sg) (x : Int) (hx : hasF 12 x = false) :
    Calls Tryd.prog 13 #[.pointer (some ⟨pm, 0, none⟩), .int .i64 x] w fun e w' => e = .returned (.tuple #[.slice none 0 0, .int .i64 2]) ∧ w' = w := by
  obtain ⟨Sm, Sx, h1, h2, h3, h4, h5, h6⟩ := h
  exact pget_no h1 x hx
theorem TIx.same (h : TIx w X p pm ops F Sg) (x y : Int) :
    Calls Tryd.prog 23 #[.pointer (some ⟨pm, 0, none⟩), .int .i64 x, .int .i64 y] w fun e w' => e = .returned (.bool (sameF 12 F x y)) ∧ TIx w' X p pm ops F Sg ∧ Kp w w' := by
  have hh := h
  obtain ⟨Sm, Sx, h1, h2, h3, h4, h5, h6⟩ := h
  refine (psame_any h1 x y).mono ?_
  rintro e w' ⟨rfl, k⟩
  exact ⟨rfl, hh.kpl k.kp, k.kp⟩
theorem TIx.find (h : TIx w X p pm ops F Sg) {b cap : Nat} {f : Nat → Nat} (H : BS w b 0 4096 f) (hcap : 4096 ≤ cap) (notv : Int) :
    Calls Tryd.prog 14 #[.pointer (some ⟨p, 0, none⟩), .slice (some ⟨b, 0, none⟩) 4096 cap, .int .i64 notv] w fun e w' => e = .returned (.tuple #[.int .i64 (((fndR Sg 12 F f notv).getD 0 : Nat) : Int), .bool (fndR Sg 12 F f notv).isSome]) ∧ TIx w' X p pm ops F Sg ∧ Kp w w' := by
  have hh := h
  obtain ⟨Sm, Sx, h1, h2, h3, h4, h5, h6⟩ := h
  refine (ifind_any h2 h1 h3 H hcap notv).mono ?_
  rintro e w' ⟨rfl, k⟩
  exact ⟨rfl, hh.kpl k, k⟩
theorem TIx.has (h : TIx w X p pm ops F Sg) (x : Int) (hx : okI x) :
    Calls Tryd.prog 21 #[.pointer (some ⟨p, 0, none⟩), .int .i64 x] w fun e w' => e = .returned (.bool (sgI Sg x).isSome) ∧ w' = w := by
  obtain ⟨Sm, Sx, h1, h2, h3, h4, h5, h6⟩ := h
  exact ihas_any h2 x hx
theorem TIx.count (h : TIx w X p pm ops F Sg) :
    Calls Tryd.prog 17 #[.pointer (some ⟨p, 0, none⟩)] w fun e w' => (∃ Ks : List Int, e = .returned (.int .i64 (Ks.length : Int)) ∧ Ks.Nodup ∧ ∀ x, x ∈ Ks ↔ (sgI Sg x).isSome = true) ∧ w' = w := by
  obtain ⟨Sm, Sx, h1, h2, h3, h4, h5, h6⟩ := h
  exact icount_any h2
theorem TIx.alike (h : TIx w X p pm ops F Sg) :
    Calls Tryd.prog 19 #[.pointer (some ⟨p, 0, none⟩)] w fun e w' => ∃ v L D, e = .returned v ∧ GrS w' w.heap.size v L D (mkD Sg 12) ∧ (∀ d, mkD Sg 12 d ≠ 0 → D d) ∧ L.Pairwise (fun x y => x.2 < y.2) ∧ TIx w' (fun i => X i ∨ (w.heap.size ≤ i ∧ i < w'.heap.size)) p pm ops F Sg ∧ Kp w w' := by
  have hh := h
  obtain ⟨Sm, Sx, h1, h2, h3, h4, h5, h6⟩ := h
  refine (ialike_walk h2 h3 (Nat.le_refl _)).mono ?_
  rintro e w' ⟨v, L, D, rfl, a1, a2, a3, k⟩
  exact ⟨v, L, D, rfl, a1, a2, a3, hh.kp k, k⟩

/-! ### Add, Drop, Write -/
/-- What an act on the index leaves of both. -/
theorem TIx.act {Sm Sx : Nat → Prop} {Sg' : Nat → Option CN} (h1 : PM w Sm pm 12 ops F) (h3 : TAB w) (h4 : ∀ k, Sm k → Sx k → False) (h5 : ∀ k, X k → k < w.heap.size ∧ ¬ Sm k ∧ ¬ Sx k) (h6 : ¬ Sm 0) (h7 : ¬ Sx 0) (q : IXo w w' Sx p pm Sg' 12) :
    TIx w' X p pm ops F Sg' ∧ FrI X w w' := by
  obtain ⟨Sx', a1, a2, a3⟩ := q
  refine ⟨⟨Sm, Sx', h1.fr a2 (fun k s c => h4 k s c), a1, h3.fr a2 h7, fun k s c => ?_, fun k hk => ?_, h6, fun c => ?_⟩, a2.mono fun k _ s c => (h5 k c).2.2 s⟩
  · rcases a3 k c with c | c
    · exact h4 k s c
    · have := h1.own k s; omega
  · have := h5 k hk
    refine ⟨Nat.lt_of_lt_of_le this.1 a2.size, this.2.1, fun c => ?_⟩
    rcases a3 k c with c | c
    · exact this.2.2 c
    · omega
  · rcases a3 _ c with c | c
    · exact h7 c
    · have := h3.lt; omega
/-- What Add answers, and leaves. -/
def addA (Sg : Nat → Option CN) (x : Int) : Int := if hasF 12 x = false then 2 else if (Sg x.toNat).isSome = true then 22 else 0
def addS (Sg : Nat → Option CN) (F : Nat → Nat → Nat) (x : Int) : Nat → Option CN := if addA Sg x = 0 then setS Sg x.toNat (some (dgt (F x.toNat))) else Sg
theorem TIx.add (h : TIx w X p pm ops F Sg) (x : Int) :
    Calls Tryd.prog 8 #[.pointer (some ⟨p, 0, none⟩), .int .i64 x] w fun e w' => e = .returned (.int .i64 (addA Sg x)) ∧ TIx w' X p pm ops F (addS Sg F x) ∧ FrI X w w' := by
  have hh := h
  obtain ⟨Sm, Sx, h1, h2, h3, h4, h5, h6, h7⟩ := h
  unfold addS addA
  cases c : hasF 12 x
  · rw [if_pos rfl, if_neg (by decide)]
    refine (iadd_no h2 h1 x c).mono ?_
    rintro e w' ⟨rfl, rfl⟩
    exact ⟨rfl, hh, Fr.refl _ _⟩
  · have hx := (hasF_iff 12 x).1 c
    obtain ⟨f, hf⟩ : ∃ f : Nat, x = (f : Int) := ⟨x.toNat, by omega⟩
    subst hf
    rw [if_neg (by decide), Int.toNat_natCast]
    by_cases s : (Sg f).isSome = true
    · rw [if_pos s, if_neg (by decide)]
      refine (iadd_there h2 h1 f (by omega) s).mono ?_
      rintro e w' ⟨rfl, k⟩
      exact ⟨rfl, hh.kpl k, k.fr _⟩
    · rw [if_neg s, if_pos rfl]
      refine (iadd_ok h2 h1 f (by omega) (by cases e : Sg f with | none => rfl | some d => rw [e] at s; exact absurd rfl s)).mono ?_
      rintro e w' ⟨rfl, q⟩
      exact ⟨rfl, TIx.act h1 h3 h4 h5 h6 h7 q⟩
/-- What Drop answers, and leaves. -/
def dropA (Sg : Nat → Option CN) (x : Int) : Int := if (sgI Sg x).isSome = true then 0 else 23
def dropS (Sg : Nat → Option CN) (x : Int) : Nat → Option CN := if (sgI Sg x).isSome = true then setS Sg x.toNat none else Sg
theorem TIx.drop (h : TIx w X p pm ops F Sg) (x : Int) (hx : okI x) :
    Calls Tryd.prog 10 #[.pointer (some ⟨p, 0, none⟩), .int .i64 x] w fun e w' => e = .returned (.int .i64 (dropA Sg x)) ∧ TIx w' X p pm ops F (dropS Sg x) ∧ FrI X w w' := by
  have hh := h
  obtain ⟨Sm, Sx, h1, h2, h3, h4, h5, h6, h7⟩ := h
  unfold dropS dropA
  cases c : sgI Sg x with
  | none =>
    rw [Option.isSome_none, if_neg (by decide), if_neg (by decide)]
    refine (idrop_no h2 x hx c).mono ?_
    rintro e w' ⟨rfl, rfl⟩
    exact ⟨rfl, hh, Fr.refl _ _⟩
  | some v =>
    rw [Option.isSome_some, if_pos rfl, if_pos rfl]
    have hx0 : 0 ≤ x := by
      unfold sgI at c
      split at c
      · assumption
      · cases c
    obtain ⟨f, hf⟩ : ∃ f : Nat, x = (f : Int) := ⟨x.toNat, by omega⟩
    subst hf
    rw [sgI_nat] at c
    obtain ⟨d, hd, _⟩ := Option.map_eq_some_iff.1 c
    rw [Int.toNat_natCast]
    refine (idrop_ok h2 f (hh.okS hd).2 d hd).mono ?_
    rintro e w' ⟨rfl, q⟩
    exact ⟨rfl, TIx.act h1 h3 h4 h5 h6 h7 q⟩
theorem TIx.write (h : TIx w X p pm ops F Sg) (addr s v : Nat) (ha : addr < 18446744073709551616) (hc : chkP 12 addr s = 0) (hv : v < 18446744073709551616) (ho : ops < 4611686018427387904) :
    Calls Tryd.prog 12 #[.pointer (some ⟨pm, 0, none⟩), .int .u64 (addr : Int), .int .i64 (s : Int), .int .u64 (v : Int)] w fun e w' => e = .returned (.int .i64 0) ∧ TIx w' X p pm (ops + 1) (putFr F (addr / 4096) (putF (F (addr / 4096)) (addr % 4096) s v)) Sg ∧ FrI X w w' := by
  obtain ⟨Sm, Sx, h1, h2, h3, h4, h5, h6, h7⟩ := h
  refine (pwrite_ok h1 addr s v ha hc hv ho).mono ?_
  rintro e w' ⟨rfl, Sm', a1, a2, a3⟩
  refine ⟨rfl, ⟨Sm', Sx, a1, h2.fr a2 (fun k s c => h4 k c s), h3.fr a2 h6, fun k s c => ?_, fun k hk => ?_, fun c => ?_, h7⟩, a2.mono fun k _ s c => (h5 k c).2.1 s⟩
  · rcases a3 k s with s | s
    · exact h4 k s c
    · have := h2.own k c; omega
  · have := h5 k hk
    refine ⟨Nat.lt_of_lt_of_le this.1 a2.size, fun c => ?_, this.2.2⟩
    rcases a3 k c with c | c
    · exact this.2.1 c
    · omega
  · rcases a3 _ c with c | c
    · exact h6 c
    · have := h3.lt; omega
theorem TIx.write_no (h : TIx w X p pm ops F Sg) (addr : Nat) (s r v : Int) (ha : addr < 18446744073709551616) (hc : chkP 12 addr s = r) (hr : r ≠ 0) :
    Calls Tryd.prog 12 #[.pointer (some ⟨pm, 0, none⟩), .int .u64 (addr : Int), .int .i64 s, .int .u64 v] w fun e w' => e = .returned (.int .i64 r) ∧ w' = w := by
  obtain ⟨Sm, Sx, h1, h2, h3, h4, h5, h6, h7⟩ := h
  exact pwrite_no h1 addr s r v ha hc hr
end

set_option maxHeartbeats 2000000 in
theorem imade_any (w : World) (T : TAB w) :
    Calls Tryd.prog 6 #[] w fun e w' => ∃ p pm, e = .returned (.tuple #[.pointer (some ⟨pm, 0, none⟩), .pointer (some ⟨p, 0, none⟩), .bool true]) ∧ TIx w' (fun k => k < w.heap.size) p pm 0 (fun _ => z0) (fun _ => none) ∧ Kp w w' := by
  have c1 := new_ok 12 w (by decide) (by decide)
  rw [show ((12 : Nat) : Int) = 12 from rfl] at c1
  have hT : Hid (TAB w) := T
  clear T
  go_enter Tryd.func6, Tryd.ntmps6
  go_wp2_with fail
  with_reducible refine c1.mono ?_
  rintro e w1 ⟨pm, Sm, rfl, m1, k1, l1⟩
  have H1 : Hid (PM w1 Sm pm 12 0 (fun _ => z0) ∧ Kp w w1 ∧ ∀ k, Sm k → w.heap.size ≤ k) := ⟨m1, k1, l1⟩
  clear m1 k1 l1 c1
  have c2 := inew_ok pm 12 (by decide) w1
  go_wp2_with fail
  with_reducible refine c2.mono ?_
  rintro e w2 ⟨p, rfl, x2, k2⟩
  have H2 : Hid (IX w2 (fun k => w1.heap.size ≤ k ∧ k < w2.heap.size) p pm (fun _ => none) 12 ∧ Kp w1 w2) := ⟨x2, k2⟩
  clear x2 k2 c2
  go_wp2_with fail
  go_ret3
  obtain ⟨m1, k1, l1⟩ := H1.out
  obtain ⟨x2, k2⟩ := H2.out
  have hl := k1.size
  have hl2 := k2.size
  have hg := hT.out.lt
  exact ⟨p, pm, rfl, ⟨Sm, _, m1.kp k2, x2, (hT.out.kp k1).kp k2, fun k s c => by have := m1.own k s; omega, fun k hk => ⟨by omega, fun s => by have := l1 k s; omega, fun s => by omega⟩, fun s => by have := l1 _ s; omega, fun s => by omega⟩, k1.trans k2⟩

end Go.Proofs.YtpjlmmiceiionaaDoor
