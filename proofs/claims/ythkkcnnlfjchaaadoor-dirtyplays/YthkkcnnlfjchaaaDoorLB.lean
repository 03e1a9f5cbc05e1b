/- dirty: told. -/
import Derived.Test.YthkkcnnlfjchaaaDoorL9
namespace Go.Proofs.YthkkcnnlfjchaaaDoor
open Go.RowKit Go.Maps
set_option maxRecDepth 10000

abbrev W00 : Nat → Nat := fun _ => 0
theorem hasW_none (x : Nat) : hasW W00 x = false := by unfold hasW W00; simp
/-- Rising lists of the same members are one. -/
theorem rise_one {L M : List Nat} (h1 : L.Pairwise (· < ·)) (h2 : M.Pairwise (· < ·)) (h : ∀ q, q ∈ L ↔ q ∈ M) : L = M := by
  have n1 : L.Nodup := h1.imp (fun {a b} c => Nat.ne_of_lt c)
  have n2 : M.Nodup := h2.imp (fun {a b} c => Nat.ne_of_lt c)
  exact ((List.perm_ext_iff_of_nodup n1 n2).2 h).eq_of_pairwise (le := fun a b => a < b) (fun a b _ _ c1 c2 => by omega) h1 h2
theorem Tells.is {W : Nat → Nat} {L M : List Nat} (t : Tells W L) (h2 : M.Pairwise (· < ·)) (h : ∀ q, hasW W q = true ↔ q ∈ M) : L = M := rise_one t.1 h2 (fun q => by rw [t.2, h])
set_option maxHeartbeats 8000000 in
theorem dtold19_any (w : World) (T : TAB w) : Calls Tryd.prog 21 #[] w fun e w' => e = .returned (.bool true) ∧ Kp w w' := by
  have cn := LGo.new w
  have HT : Hid (TAB w) := T
  clear T
  go_enter Tryd.func21, Tryd.ntmps21
  go_wp2_with fail
  with_reducible refine cn.mono ?_
  rintro e w1 ⟨p, rfl, h1⟩
  clear cn
  have C1 : Calls Tryd.prog 16 #[.pointer (some ⟨p, 0, none⟩), .int .u64 5] w1 fun e w' => e = .returned (.bool false) ∧ LGo w w' p false W00 1 := h1.note 5 (by decide) (by decide)
  clear h1
  go_wp2_with fail
  with_reducible refine C1.mono ?_
  rintro e w2 ⟨rfl, h2⟩
  clear C1
  have C1 := h2.start
  clear h2
  go_wp2_with fail
  with_reducible refine C1.mono ?_
  rintro e w3 ⟨rfl, h3⟩
  clear C1
  have C1 := h3.start_no
  have H3 := hid_as h3
  clear h3
  go_wp2_with fail
  with_reducible refine C1.mono ?_
  rintro e w3' ⟨rfl, rfl⟩
  clear C1
  have C1 : Calls Tryd.prog 16 #[.pointer (some ⟨p, 0, none⟩), .int .u64 9] w3' fun e w' => e = .returned (.bool true) ∧ LGo w w' p true (addB W00 9) 1 := by
    have := H3.out.note 9 (by decide) (by decide)
    rw [hasW_none] at this
    exact this
  clear H3
  go_wp2_with fail
  with_reducible refine C1.mono ?_
  rintro e w4 ⟨rfl, h4⟩
  clear C1
  have C1 : Calls Tryd.prog 16 #[.pointer (some ⟨p, 0, none⟩), .int .u64 5] w4 fun e w' => e = .returned (.bool true) ∧ LGo w w' p true (addB (addB W00 9) 5) 2 := by
    have := h4.note 5 (by decide) (by decide)
    rw [hasW_add, hasW_none] at this
    exact this
  clear h4
  go_wp2_with fail
  with_reducible refine C1.mono ?_
  rintro e w5 ⟨rfl, h5⟩
  clear C1
  have C1 : Calls Tryd.prog 16 #[.pointer (some ⟨p, 0, none⟩), .int .u64 9] w5 fun e w' => e = .returned (.bool false) ∧ LGo w w' p true (addB (addB (addB W00 9) 5) 9) 3 := by
    have := h5.note 9 (by decide) (by decide)
    rw [hasW_add, hasW_add, hasW_none] at this
    exact this
  clear h5
  go_wp2_with fail
  with_reducible refine C1.mono ?_
  rintro e w6 ⟨rfl, h6⟩
  clear C1
  have C1 := h6.coll HT.out (by decide)
  clear h6
  go_wp2_with fail
  with_reducible refine C1.mono ?_
  rintro e w7 ⟨na, L, cap, rfl, ax, tl, _, h7, f7, p6⟩
  clear C1
  have e7 : L = [5, 9] := tl.is (by decide) (fun q => by
    rw [hasW_add, hasW_add, hasW_add, hasW_none]
    simp
    omega)
  subst e7
  have C1 := h7.coll HT.out (by decide)
  have HL : Hid (AX LTw w7 w6.heap.size (.slice na 2 cap) [5, 9] ∧ p < w6.heap.size) := ⟨ax, p6⟩
  clear h7 ax tl f7 p6
  go_wp2_with fail
  with_reducible refine C1.mono ?_
  rintro e w8 ⟨nb, M, cap2, rfl, ax2, tl2, _, h8, f8, _⟩
  clear C1
  have e8 : M = [] := tl2.is List.Pairwise.nil (fun q => by rw [hasW_none]; simp)
  subst e8
  have HX : Hid (AX LTw w8 w6.heap.size (.slice na 2 cap) [5, 9]) := HL.out.1.fr f8 (fun g g1 _ _ e => by have e : g = p := e; have := HL.out.2; omega)
  clear HL f8 ax2 tl2
  have ka : Kp w8 (w8.alloc (.cells #[.int .u64 5, .int .u64 9] 29)) := (Kp.refl _).alloc _
  have s1 : AS LTw (w8.alloc (.cells #[.int .u64 5, .int .u64 9] 29)) (some ⟨w8.heap.size, 0, none⟩) [5, 9] := AS.made w8 [5, 9]
  have C1 : Calls Tryd.prog 11 #[.slice na 2 cap, .slice (some ⟨w8.heap.size, 0, none⟩) 2 2] (w8.alloc (.cells #[.int .u64 5, .int .u64 9] 29)) fun e w' => e = .returned (.bool true) ∧ Kp (w8.alloc (.cells #[.int .u64 5, .int .u64 9] 29)) w' := by
    have := wsame_any ((HX.out.src okT_w64).kp ka) s1 cap 2 (by decide)
    simpa using this
  have H8 := hid_as h8
  clear ka s1 h8 HX
  go_wp2_with fail
  with_reducible refine C1.mono ?_
  rintro e w9 ⟨rfl, k9⟩
  have H9 := hid_as (H8.out.kp (((Kp.refl w8).alloc _).trans k9))
  clear C1 H8 k9
  have C1 : Calls Tryd.prog 16 #[.pointer (some ⟨p, 0, none⟩), .int .u64 1] w9 fun e w' => e = .returned (.bool true) ∧ LGo w w' p true (addB W00 1) 1 := by
    have := H9.out.note 1 (by decide) (by decide)
    rw [hasW_none] at this
    exact this
  clear H9
  go_wp2_with fail
  with_reducible refine C1.mono ?_
  rintro e wa ⟨rfl, ha⟩
  clear C1
  have C1 : Calls Tryd.prog 19 #[.pointer (some ⟨p, 0, none⟩), .int .u64 1] wa fun e w' => e = .returned (.bool true) ∧ LGo w w' p true (addB W00 1) 1 := by
    have := ha.has 1 (by decide)
    rw [hasW_add, hasW_none] at this
    exact this
  clear ha
  go_wp2_with fail
  with_reducible refine C1.mono ?_
  rintro e wb ⟨rfl, hb⟩
  clear C1
  have C1 : Calls Tryd.prog 7 #[.pointer (some ⟨p, 0, none⟩), .int .u64 1] wb fun e w' => e = .returned (.bool true) ∧ LGo w w' p true (delB (addB W00 1) 1) 1 := by
    have := hb.forget 1 (by decide) (by decide)
    rw [hasW_add, hasW_none] at this
    exact this
  clear hb
  go_wp2_with fail
  with_reducible refine C1.mono ?_
  rintro e wc ⟨rfl, hc⟩
  clear C1
  have C1 : Calls Tryd.prog 7 #[.pointer (some ⟨p, 0, none⟩), .int .u64 1] wc fun e w' => e = .returned (.bool false) ∧ LGo w w' p true (delB (delB (addB W00 1) 1) 1) 1 := by
    have := hc.forget 1 (by decide) (by decide)
    rw [hasW_del, hasW_add, hasW_none] at this
    exact this
  clear hc
  go_wp2_with fail
  with_reducible refine C1.mono ?_
  rintro e wd ⟨rfl, hd⟩
  clear C1
  have C1 := hd.stop
  clear hd
  go_wp2_with fail
  with_reducible refine C1.mono ?_
  rintro e we ⟨rfl, he⟩
  clear C1
  have C1 := he.isOn
  have HE := hid_as he
  clear he
  go_wp2_with fail
  with_reducible refine C1.mono ?_
  rintro e wf ⟨rfl, rfl⟩
  clear C1
  go_wp2_with fail
  go_ret
  exact ⟨rfl, HE.out.k⟩

end Go.Proofs.YthkkcnnlfjchaaaDoor
