/- Joined: B5, MG. -/
import Derived.Test.YtpjlmmiceiionaaDoorB4
import Derived.Laws.Cover3
import Derived.Test.YtpjlmmiceiionaaDoorJ00
import Derived.Maps.OwnSet
/- Put, the program's and the document's. -/
namespace Go.Proofs.YtpjlmmiceiionaaDoor
open Go.RowKit
set_option maxRecDepth 10000

/-- f with v's k low bytes from p on. -/
def putF (f : Nat → Nat) (p k v : Nat) : Nat → Nat := fun i => if p ≤ i ∧ i < p + k then v / 2 ^ (8 * (i - p)) % 256 else f i
theorem putF_zero (f : Nat → Nat) (p v : Nat) : putF f p 0 v = f := by funext i; unfold putF; rw [if_neg (by omega)]
theorem putF_succ (f : Nat → Nat) (p k v : Nat) : upd (putF f p k v) (p + k) (v / 2 ^ (8 * k) % 256) = putF f p (k + 1) v := by
  funext i
  unfold upd putF
  by_cases e : i = p + k
  · subst e; rw [if_pos rfl, if_pos (by omega), show p + k - p = k by omega]
  · rw [if_neg e]
    by_cases c : p ≤ i ∧ i < p + k
    · rw [if_pos c, if_pos (by omega)]
    · rw [if_neg c, if_neg (by omega)]
theorem putF_byte {f : Nat → Nat} (h : Bytes f) (p k v : Nat) : Bytes (putF f p k v) := fun i => by
  unfold putF; split
  · omega
  · exact h i

set_option maxHeartbeats 2000000 in
set_option maxRecDepth 10000 in
theorem clone_any (b n cap : Nat) (f : Nat → Nat) (w : World) (H : BS w b 0 n f) (hn : n ≤ 1000000) :
    Calls Tryd.prog 55 #[.slice (some ⟨b, 0, none⟩) n cap] w fun e w' => ∃ g cap', e = .returned (.slice (some ⟨g, 0, none⟩) n cap') ∧ OP w' w.heap.size g n cap' f ∧ Kp w w' := by
  obtain ⟨g, cap', W', h1, h2, h3⟩ := copy_any w b 0 n cap f H.lt H.cells H.byte hn
  have H2 : Hid _ := h2
  have H3 : Hid _ := h3
  clear H h2 h3
  have hq : (Tryd.prog.underlying 40) = some (.slice 5) := Tryd.underlying40
  have h0 : ∀ w, (binOp .eql 40 (.slice (some ⟨b, 0, none⟩) n cap) (.slice none 0 0)).run Tryd.prog w = .ok (.bool false) w := fun w => by
    simp [binOp, run_equal_slice_nil w 40 5 _ n cap hq]
  go_enter Tryd.func55, Tryd.ntmps55
  repeat' (first | ((with_reducible refine wp_append_of h1 (.tmp 5) (.tmp 6) ?_ ?_ ?_ ?_ ?_); rfl; rfl; rfl; rfl) | go_values | go_skip | go_guarded | go_step | go_upon | go_back | (simp only []) | (go_values <;> (try go_simp)) | (go_ite <;> go_prune <;> (try go_simp)))
  go_ret
  exact ⟨g, cap', rfl, H2.out, H3.out⟩

theorem shr_byte (v k : Nat) : IntKind.u8.wrap ((v : Int) / 2 ^ (8 * k)) = ((v / 2 ^ (8 * k) % 256 : Nat) : Int) := by
  have e : (v : Int) / 2 ^ (8 * k) = ((v / 2 ^ (8 * k) : Nat) : Int) := by simp
  rw [e]
  simp [IntKind.wrap, IntKind.bits, IntKind.signed]

set_option maxHeartbeats 2000000 in
set_option maxRecDepth 10000 in
theorem put_some (b n cap p s v : Nat) (f : Nat → Nat) (w : World) (H : BS w b 0 n f) (hn : n ≤ 1000000) (hs : s ≤ 8) (hp : p + s ≤ n) (hv : v < 18446744073709551616) (hc : chk n p s = 0) :
    Calls Tryd.prog 35 #[.slice (some ⟨b, 0, none⟩) n cap, .int .i64 (p : Int), .int .i64 (s : Int), .int .u64 (v : Int)] w fun e w' => ∃ g cap', e = .returned (.tuple #[.slice (some ⟨g, 0, none⟩) n cap', .int .i64 0]) ∧ OP w' w.heap.size g n cap' (putF f p s v) ∧ Kp w w' := by
  have c1 := fun w => check_any n p s w (by omega) (by omega) (by omega) (by omega)
  rw [hc] at c1
  have c2 := clone_any b n cap f w H hn
  have z1 : (p : Int) + s ≤ n := by omega
  have z3 : (n : Int) ≤ 1000000 := by omega
  have z4 : (s : Int) ≤ 8 := by omega
  have z5 : (v : Int) < 18446744073709551616 := by omega
  clear H hc hv
  go_enter Tryd.func35, Tryd.ntmps35
  go_wp2_with (go_at_call 54; with_reducible refine (c1 _).mono ?_; rintro e w' ⟨rfl, rfl⟩)
  with_reducible refine c2.mono ?_
  rintro e w1 ⟨g, cap', rfl, O1, K1⟩
  have HO : Hid _ := O1
  have HK : Hid _ := K1
  clear O1 K1 c2
  go_wp2_with fail
  go_loopg [24] s (fun gg v24 wr => ∃ k : Nat, v24 = .int .i64 k ∧ k ≤ s ∧ s - k ≤ gg ∧ Aside (OP wr w'.heap.size g n cap' (putF f p k v)) ∧ Aside (Kp w' wr))
  case atStart => exact ⟨0, rfl, by omega, by omega, by rw [putF_zero]; exact HO.out, HK.out⟩
  case round =>
    clear HO HK
    obtain ⟨k, rfl, hk, hg, HO, HK⟩ := hrel
    by_cases hlt : k < s
    · have y1 : (k : Int) < s := by omega
      have c2 := HO.out.bs.cell (p + k) (by omega)
      have c3 := HO.out.bs.frz (p + k) (by omega)
      rw [Nat.zero_add] at c2 c3
      have q := shr_byte v k
      have O2 := HO.out.set (p + k) (v / 2 ^ (8 * k) % 256) (by omega)
      rw [putF_succ] at O2
      have K2 := HK.out.set ⟨g, p + k, none⟩ (.int .u8 ((v / 2 ^ (8 * k) % 256 : Nat) : Int)) HO.out.facts.1
      generalize v / 2 ^ (8 * k) % 256 = d at *
      have A2 : Aside _ := O2
      have B2 : Aside _ := K2
      clear O2 K2
      go_wp2
      go_roundg (s - (k + 1))
      case measure => omega
      case rel => exact ⟨k + 1, by go_num, by omega, by omega, A2, B2⟩
    · have e : k = s := by omega
      subst e
      go_wp2
      go_ret2
      exact ⟨g, cap', rfl, HO.out, HK.out⟩

theorem div_step (v k : Nat) : v / 2 ^ (8 * k) / 256 = v / 2 ^ (8 * (k + 1)) := by
  rw [Nat.div_div_eq_div_mul, show 8 * (k + 1) = 8 * k + 8 by omega, Nat.pow_add]

end Go.Proofs.YtpjlmmiceiionaaDoor

/- The ground of maps with int keys. -/
namespace Go.Proofs.YtpjlmmiceiionaaDoor
open Go.RowKit Go.Maps

theorem keyed_int : Keyed Tryd.prog 3 := int_keyed Tryd.underlying3
theorem tally (N : Nat) : ∀ (l : List Int), l.Pairwise (· ≠ ·) → (∀ x ∈ l, 0 ≤ x ∧ x < (N : Int)) → l.length ≤ N := by
  induction N with
  | zero =>
    intro l _ h
    match l with
    | [] => exact Nat.le_refl _
    | x :: r => have := h x (by simp); omega
  | succ N ih =>
    intro l hp h
    have h1 : (l.filter (fun x => decide (x ≠ (N : Int)))).length ≤ N := ih _ (hp.filter _) (fun x hx => by
      have hx' := List.mem_filter.1 hx
      have := h x hx'.1
      have := of_decide_eq_true hx'.2
      omega)
    have h2 : ∀ (l : List Int), l.Pairwise (· ≠ ·) → l.length ≤ (l.filter (fun x => decide (x ≠ (N : Int)))).length + 1 := by
      intro l
      induction l with
      | nil => intro _; simp
      | cons x r ihr =>
        intro hp
        obtain ⟨q1, q2⟩ := List.pairwise_cons.1 hp
        by_cases e : x = (N : Int)
        · subst e
          have : r.filter (fun x => decide (x ≠ (N : Int))) = r := List.filter_eq_self.2 (fun y hy => decide_eq_true (fun e => q1 y hy e.symm))
          rw [List.filter_cons, if_neg (by simp), this]; simp
        · have := ihr q2
          rw [List.filter_cons, if_pos (decide_eq_true e)]
          simp only [List.length_cons]
          omega
    have := h2 l hp
    omega
theorem lit_ne {x y : Int} (h : y ≠ x) : (Lit.int .i64 y) ≠ .int .i64 x := fun e => h (by cases e; rfl)
theorem isKey_int (x : Int) (hx : (Lit.int .i64 x).wf = true) : WideAt.IsKeyLit (.int .i64 x) := keyed_int.key (keyOf_int_mk Tryd.underlying3 hx)

/-- As many entries as keys from 0 to N - 1, whatever the elements are. -/
theorem map_sized {R : Value → Option (DataW Unit × List MemPlace)} {w : World} {bm n N : Nat} {D : DataW Unit} (h : w.ownsMap Tryd.prog 3 R bm n D) (hh : ∀ x, Maps.has D (.int .i64 x) = true → 0 ≤ x ∧ x < (N : Int)) :
    w.ownsMap Tryd.prog 3 R bm N D := by
  obtain ⟨es, clock, hb, F, hs, rfl⟩ := h
  refine ⟨es, clock, hb, F, ?_, rfl⟩
  have hk := fit_keys F
  have ha := fit_apart keyed_int F
  have ei : ∀ p ∈ es.toList.map (WideElems.rg Tryd.prog 3 R), ∃ y, p.1 = .int .i64 y := fun p hp => by
    obtain ⟨v, hv⟩ := hk p hp
    rw [keyOf_int Tryd.underlying3] at hv
    cases v <;> simp [mapKey, Tryd.underlying3] at hv
    exact ⟨_, hv.2.symm⟩
  have hl : (es.toList.map (WideElems.rg Tryd.prog 3 R)).length = es.size := by simp
  generalize es.toList.map (WideElems.rg Tryd.prog 3 R) = L at ha ei hh hl
  rw [← hl]
  have t := tally N (L.map fun p => match p.1 with | .int _ y => y | _ => 0) (by
    rw [List.pairwise_map]
    have : L.Pairwise (fun x y => x ∈ L ∧ y ∈ L ∧ x.1 ≠ y.1) := List.Pairwise.imp_of_mem (fun {a b} h1 h2 h3 => ⟨h1, h2, h3⟩) ha
    refine this.imp (fun {a b} h => ?_)
    obtain ⟨h1, h2, h3⟩ := h
    obtain ⟨y, hy⟩ := ei a h1
    obtain ⟨z, hz⟩ := ei b h2
    rw [hy, hz] at h3 ⊢
    exact fun e => h3 (by simpa using e)) (fun x hx => by
    obtain ⟨p, hp, rfl⟩ := List.mem_map.1 hx
    obtain ⟨y, hy⟩ := ei p hp
    have e1 : Maps.has (DataW.map (L.foldr DataW.insert [])) (.int .i64 y) = true := by
      rw [has_eq, List.any_eq_true]
      exact ⟨p, (WideShapes.sorted_perm L).mem_iff.2 hp, by rw [hy]; simp [Lit.sameKey]⟩
    simp only [hy]
    exact hh y e1)
  simpa using t

end Go.Proofs.YtpjlmmiceiionaaDoor
