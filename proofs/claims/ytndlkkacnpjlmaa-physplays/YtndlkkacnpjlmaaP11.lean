/- A page out of a few bytes. -/
import Derived.Test.YtndlkkacnpjlmaaP9
import Derived.RegionTactic
import Derived.BigRegion
namespace Go.Proofs.Ytndlkkacnpjlmaa
open Go.RowKit Go.Maps

theorem place_of (a : Int) (M : Nat) (hM : 0 < M) : ∃ (t : Int) (p : Nat), a.tmod M = t ∧ -(M : Int) < t ∧ t < M ∧ (t + M).tmod M = (p : Int) ∧ p < M := by
  have l1 := Int.lt_tmod_of_pos a (b := (M : Int)) (by omega)
  have l2 := Int.tmod_lt_of_pos a (b := (M : Int)) (by omega)
  have e3 : (a.tmod M + M).tmod M = (a.tmod M + M) % M := Int.tmod_eq_emod_of_nonneg (by omega)
  have e4 := Int.emod_nonneg (a.tmod M + M) (b := (M : Int)) (by omega)
  have e5 := Int.emod_lt_of_pos (a.tmod M + M) (b := (M : Int)) (by omega)
  refine ⟨_, ((a.tmod M + M) % M).toNat, rfl, by omega, l2, ?_, ?_⟩
  · rw [e3, Int.toNat_of_nonneg e4]
  · omega

theorem wf_byte {n : Int} (h : (Lit.int .u8 n).wf = true) : 0 ≤ n ∧ n < 256 := by
  simp [Lit.wf, IntKind.min, IntKind.max, IntKind.bits, IntKind.signed] at h
  omega

theorem BS.fr {w w' : World} {b o m : Nat} {f : Nat → Nat} (h : BS w b o m f) {S : Nat → Prop} (k : Fr S w w') (hS : ¬ S b) : BS w' b o m f :=
  ⟨Nat.lt_of_lt_of_le h.lt k.size, fun i hi => by rw [World.cell?_of_block (a := ⟨b, o + i, none⟩) (k.block b h.lt hS)]; exact h.cell i hi, fun i hi => by rw [World.frozen?_of_block (a := ⟨b, o + i, none⟩) (k.block b h.lt hS)]; exact h.frz i hi, h.byte⟩

set_option maxHeartbeats 2000000 in
set_option maxRecDepth 100000 in
theorem page_any (na nb : Option Addr) (m cap mb capb : Nat) (fa fb : Nat → Int) (w : World) (NA : NSK .i64 w na m fa) (NB : NSK .u8 w nb mb fb) :
    Calls Try.prog 13 #[.slice na m cap, .slice nb mb capb] w fun e w' => e = .returned (.slice (some ⟨w.heap.size, 0, none⟩) 4096 4096) ∧ (∃ f, BS w' w.heap.size 0 4096 f) ∧ w'.heap.size = w.heap.size + 1 ∧ Kp w w' := by
  have hmk := make_page
  have AA : Aside (NSK .i64 w na m fa) := NA
  have BB : Aside (NSK .u8 w nb mb fb) := NB
  have R0 : Hid (BS (w.alloc (.cells (bytesOf z0 4096).toArray 5)) w.heap.size 0 4096 z0) := (RB.made w 4096).bs z0_byte
  clear NA NB
  generalize (bytesOf z0 4096).toArray = A at *
  go_enter Try.func13, Try.ntmps13
  go_wp2_with fail
  clear hmk
  go_loopg [6] 64 (fun g v6 wr => ∃ (i : Nat) (f : Nat → Nat), v6 = .int .i64 i ∧ i ≤ 64 ∧ 64 - i ≤ g ∧ Hid (BS wr w.heap.size 0 4096 f) ∧ Hid (wr.heap.size = w.heap.size + 1) ∧ Hid (Kp w wr))
  case atStart => exact ⟨0, z0, by go_num, by omega, by omega, R0, (show _ = _ by simp), (Kp.refl w).alloc _⟩
  case round =>
    obtain ⟨i, f, rfl, hi, hg, HB, HS, HK⟩ := hrel
    by_cases hlt : i < m ∧ i < mb ∧ i < 64
    · obtain ⟨h1, h2, h3⟩ := hlt
      have y1 : (i : Int) < m := by omega
      have y2 : (i : Int) < mb := by omega
      have y3 : (i : Int) < 64 := by omega
      obtain ⟨⟨ab, ao, rfl, q1, q2⟩, _⟩ := AA.out i h1
      obtain ⟨⟨bb, bo, rfl, q3, q4⟩, q5⟩ := BB.out i h2
      rw [← HK.out.cell (p := ⟨ab, ao + i, none⟩) q1] at q2
      rw [← HK.out.cell (p := ⟨bb, bo + i, none⟩) q3] at q4
      obtain ⟨v, hv, hv2⟩ : ∃ v : Nat, fb i = (v : Int) ∧ v < 256 := ⟨(fb i).toNat, by have := wf_byte q5; omega, by have := wf_byte q5; omega⟩
      obtain ⟨t, p, e1, e2, e3, e4, e5⟩ := place_of (fa i) 4096 (by decide)
      rw [show ((4096 : Nat) : Int) = 4096 from rfl] at e1 e2 e3 e4
      rw [hv] at q4
      generalize fa i = x at *
      have k1 := HB.out.cell p e5
      have k2 := HB.out.frz p e5
      have H2 := (HB.out.set p v e5 hv2).kp (Kp.refl _).drew
      have K2 := (HK.out.set ⟨w.heap.size, 0 + p, none⟩ (.int .u8 (v : Nat)) (Nat.le_refl _)).drew
      rw [Nat.zero_add] at k1 k2 H2 K2
      generalize f p = u at k1
      have HB2 : Hid _ := H2
      have HK2 : Hid _ := K2
      clear hv q5 H2 K2 HB HK
      have e6 : (p : Int) < 4096 := by omega
      go_wp2_with fail
      go_region
      go_wp2
      go_roundg (64 - (i + 1))
      case measure => omega
      case rel => exact ⟨i + 1, _, by go_num, by omega, by omega, HB2, (show _ = _ by have := HS.out; simpa using this), HK2⟩
    · have out : ∀ Z : Prop, (¬ (i : Int) < m → Z) → ((i : Int) < m → ¬ (i : Int) < mb → Z) → ((i : Int) < m → (i : Int) < mb → ¬ (i : Int) < 64 → Z) → Z := fun Z k1 k2 k3 => by
        by_cases h : i < m
        · by_cases h' : i < mb
          · exact k3 (by omega) (by omega) (by omega)
          · exact k2 (by omega) (by omega)
        · exact k1 (by omega)
      refine out _ (fun y1 => ?_) (fun y1 y2 => ?_) (fun y1 y2 y3 => ?_)
      · clear out hlt
        go_wp2
        go_ret
        exact ⟨rfl, ⟨f, HB.out⟩, HS.out, HK.out⟩
      · clear out hlt
        go_wp2
        go_ret
        exact ⟨rfl, ⟨f, HB.out⟩, HS.out, HK.out⟩
      · clear out hlt
        go_wp2
        go_ret
        exact ⟨rfl, ⟨f, HB.out⟩, HS.out, HK.out⟩

end Go.Proofs.Ytndlkkacnpjlmaa
