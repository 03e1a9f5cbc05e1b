/- index: Add. -/
import Derived.Test.YtpjlmmiceiionaaDoorCB
import Derived.Deep.RegionHeld3
namespace Go.Proofs.YtpjlmmiceiionaaDoor
open Go.RowKit Go.Maps
set_option maxRecDepth 10000

section
variable {w : World} {S Sm : Nat → Prop} {p pm N ops : Nat} {Sg : Nat → Option CN} {F : Nat → Nat → Nat}
/-- What an act leaves of the index. -/
def IXo (w w' : World) (S : Nat → Prop) (p pm : Nat) (Sg : Nat → Option CN) (N : Nat) : Prop := ∃ S', IX w' S' p pm Sg N ∧ Fr S w w' ∧ ∀ k, S' k → S k ∨ w.heap.size ≤ k
theorem IXo.same {w' : World} (h : IX w S p pm Sg N) (k : Kp w w') : IXo w w' S p pm Sg N := ⟨S, h.kp k, k.fr _, fun _ hk => .inl hk⟩
theorem sgI_neg (Sg : Nat → Option CN) {x : Int} (h : x < 0) : sgI Sg x = none := by unfold sgI; rw [if_neg (by omega)]
theorem sgI_set (Sg : Nat → Option CN) (f : Nat) (d : Option CN) : sgI (setS Sg f d) = setg (sgI Sg) (f : Int) (d.map cK) := by
  funext x
  by_cases c : x = (f : Int)
  · subst c; rw [setg_same, sgI_nat, setS_same]
  · rw [setg_other _ _ c]
    unfold sgI
    split
    · rw [setS_other _ _ (by omega)]
    · rfl

set_option maxHeartbeats 4000000 in
theorem iadd_no (h : IX w S p pm Sg N) (hm : PM w Sm pm N ops F) (x : Int) (hx : hasF N x = false) :
    Calls Tryd.prog 8 #[.pointer (some ⟨p, 0, none⟩), .int .i64 x] w fun e w' => e = .returned (.int .i64 2) ∧ w' = w := by
  obtain ⟨bs, bf, Ks, G, Kf, h⟩ := h
  have c0 := h.c0
  have cg := pget_no hm x hx
  clear h hm hx
  go_enter Tryd.func8, Tryd.ntmps8
  go_wp2_with fail
  with_reducible refine cg.mono ?_
  rintro e w' ⟨rfl, rfl⟩
  go_wp2_with fail
  go_ret
  exact ⟨rfl, rfl⟩
set_option maxHeartbeats 4000000 in
theorem iadd_there (h : IX w S p pm Sg N) (hm : PM w Sm pm N ops F) (f : Nat) (hf : f < N) (hs : (Sg f).isSome = true) :
    Calls Tryd.prog 8 #[.pointer (some ⟨p, 0, none⟩), .int .i64 (f : Int)] w fun e w' => e = .returned (.int .i64 22) ∧ Kp w w' := by
  have HH : Hid (IX w S p pm Sg N ∧ f < N ∧ (Sg f).isSome = true ∧ N ≤ 64) := ⟨h, hf, hs, by obtain ⟨_, _, _, _, _, q⟩ := h; exact q.nN⟩
  obtain ⟨bs, bf, Ks, G, Kf, h⟩ := h
  have c0 := h.c0
  have cg := pget_ok hm f hf
  clear h hm hs hf
  go_enter Tryd.func8, Tryd.ntmps8
  go_wp2_with fail
  with_reducible refine cg.mono ?_
  rintro e w1 ⟨rfl, rb, k1⟩
  have K1 : Hid (Kp w w1) := k1
  have ch := ihas_any (HH.out.1.kp k1) (f : Int) (by unfold okI; exact WalkArith.wf_i64 (by have := HH.out.2.1; have := HH.out.2.2.2; omega))
  rw [sgI_nat, Option.isSome_map, HH.out.2.2.1] at ch
  clear rb k1 cg
  go_wp2_with fail
  with_reducible refine ch.mono ?_
  rintro e w' ⟨rfl, rfl⟩
  go_wp2_with fail
  go_ret
  exact ⟨rfl, K1.out⟩
end

end Go.Proofs.YtpjlmmiceiionaaDoor
