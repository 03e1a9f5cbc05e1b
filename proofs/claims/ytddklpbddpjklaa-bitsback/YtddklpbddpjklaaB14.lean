/- Regions that draw their order and only read, whose callees lay blocks of their own; bytes that came in, as a string. -/
import Derived.Test.YtddklpbddpjklaaB13
import Derived.BigQuiet
namespace Go.Proofs.Ytddklpbddpjklaa
open Go.RowKit

/-- A world in which all that lay in w lies. -/
structure KeptBy (w : World) where
  v : World
  k : Kp w v

theorem KeptBy.some {w : World} : Nonempty (KeptBy w) := ⟨⟨w, Kp.refl w⟩⟩

theorem wp_region_kept {P : Program} {id : Nat} {Q : Exit → Act → World → Prop} {a : Act} {w : World} {l : List Oper} (hm : P.follows .mixedOrders = true) (hB : Region.lexB .any l.toArray = true)
    (h : wpQuiet P l.toArray (fun w' => ∃ p : KeptBy w, w' = p.v) (fun a' => ∀ w', (∃ p : KeptBy w, w' = p.v) → Q .normal a' w') l a) : (Code.region id l.toArray true).wp P Q a w :=
  wp_region_quiet (C := fun w' => ∃ p : KeptBy w, w' = p.v) hm hB ⟨⟨w.drew, (Kp.refl w).drew⟩, rfl⟩ (by simpa using h)
theorem Calls.kept_of {P : Program} {f : FuncId} {args : Array Value} {w : World} {p : KeptBy w} {v : Value}
    (h : Calls P f args p.v fun e w' => e = .returned v ∧ Kp p.v w') : Calls P f args p.v fun e w'' => e = .returned v ∧ ∃ q : KeptBy w, w'' = q.v :=
  h.mono fun _ w' ⟨he, hk⟩ => ⟨he, ⟨w', p.k.trans hk⟩, rfl⟩

theorem string_none (w : World) (cap : Nat) : (convert 22 9 (.slice none 0 cap)).run Try.prog w = .ok (.string ByteArray.empty) w := by
  rw [run_convert_bytes_string w 22 9 5 _ _ _ Try.underlying22 Try.underlying5 Try.underlying9]
  simp [Conv.bytesToString]
theorem string_in (w : World) (na : Option Addr) (m n cap : Nat) (f : Nat → Int) (N : NSK .u8 w na m f) (hn : n ≤ m) :
    (convert 22 9 (.slice na n cap)).run Try.prog w = .ok (.string (strOf (fb f) n)) w := by
  by_cases h0 : 0 < n
  · obtain ⟨b, o, rfl, _, C⟩ := nsk_cells N h0 hn
    exact string_any w b o n cap (fb f) C
  · have e : n = 0 := by omega
    subst e
    match na with
    | none => exact string_none w cap
    | some a =>
      rw [run_convert_bytes_string w 22 9 5 _ _ _ Try.underlying22 Try.underlying5 Try.underlying9]
      refine run_bytesToString w a 0 cap [] ?_
      exact run_loadCells_list (P := Try.prog) (w := w) a [] (fun j u hu => by simp at hu)

theorem chk_zero {len p size : Int} (h : chk len p size = 0) : (size = 1 ∨ size = 2 ∨ size = 4 ∨ size = 8) ∧ 0 ≤ p ∧ p + size ≤ len := by
  unfold chk at h
  split at h
  · omega
  · split at h
    · omega
    · split at h
      · omega
      · omega

theorem u8_not (c : Nat) (h : c < 256) : bits .xor .u8 255 (c : Int) = ((255 - c : Nat) : Int) := by
  have h1 := u8_xor_nat 255 c (by decide) h
  have h2 : ∀ c : Fin 256, 255 ^^^ c.val = 255 - c.val := by decide +kernel
  rw [h2 ⟨c, h⟩] at h1
  exact h1

theorem snoc_1 (W : World) (base g n cap : Nat) (f : Nat → Nat) (H : OP W base g n cap f) (hbase : base ≤ W.heap.size) (hn : n ≤ 1000000) :
    ∃ g' cap' W', (Builtin.append_ #[22, 22] 22 #[.slice (some ⟨g, 0, none⟩) n cap, .slice (some ⟨W.heap.size, 0, none⟩) 1 1]).run Try.prog (W.alloc (.cells #[.int .u8 1] 5)) = .ok (.slice (some ⟨g', 0, none⟩) (n + 1) cap') W' ∧
      (∀ W0, W0.heap.size ≤ base → Kp W0 W → Kp W0 W') := by
  obtain ⟨g', cap', W', h1, _, h2⟩ := snoc_any W base g n cap 1 f H (by decide) hbase hn
  exact ⟨g', cap', W', h1, h2⟩
theorem snoc_nil (W : World) :
    ∃ v W', (Builtin.append_ #[22, 22] 22 #[.slice none 0 0, .slice (some ⟨W.heap.size, 0, none⟩) 1 1]).run Try.prog (W.alloc (.cells #[.int .u8 1] 5)) = .ok v W' ∧ Kp W W' := by
  obtain ⟨i0, hi, hz0, hz1, hz2⟩ := info_u8
  have hnew : ∀ j u, ([.int .u8 1] : List Value)[j]? = some u → (W.alloc (.cells #[.int .u8 1] 5)).cell? ((⟨W.heap.size, 0, none⟩ : Addr).add j) = some u := by
    intro j u hu
    match j with
    | 0 => simp at hu; subst hu; show (W.alloc _).cell? ⟨W.heap.size, 0, none⟩ = _; rw [World.cell?_alloc_at _ _ _ _ rfl]; rfl
    | j + 1 => simp at hu
  obtain ⟨v', W', h1, _, h3, _⟩ := run_append_own (P := Try.prog) (W.alloc (.cells #[.int .u8 1] 5)) 0 22 22 5 i0 (.int .u8 0) 1 1 Try.underlying22 hi hz0 hz1 hz2 rfl (by decide) _ 0 [] (World.ownsRow_nil _ _ _ _) ⟨W.heap.size, 0, none⟩ 1 1 [.int .u8 1] rfl hnew (by intro u hu; simp at hu; subst hu; rfl) (by decide) (by decide) (by simp)
  exact ⟨v', W', h1, kp_grown ((Kp.refl W).alloc _) (fun g hg => by cases hg) h3⟩

end Go.Proofs.Ytddklpbddpjklaa
