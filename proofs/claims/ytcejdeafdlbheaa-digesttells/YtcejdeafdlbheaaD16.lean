/- DigestTells: the walk. -/
import Derived.Test.YtcejdeafdlbheaaD15
namespace Go.Proofs.Ytcejdeafdlbheaa
open Go.RowKit Go.ChangeShapes Go.WideShapes Go.ChangeAt

theorem mask32 (u : Nat) (hu : u < 18446744073709551616) : bits .and .u64 (u : Int) 4294967295 = ((u % 4294967296 : Nat) : Int) := by
  have h := u64_and_nat u 4294967295 hu (by decide)
  have e1 : (4294967295 : Nat) = 2 ^ 32 - 1 := by decide
  rw [e1, Nat.and_two_pow_sub_one_eq_mod] at h
  exact h

set_option maxHeartbeats 8000000 in
set_option maxRecDepth 100000 in
theorem tells_any (na nb no : Option Addr) (m cap mb capb mo capo : Nat) (fa fb : Nat → Int) (u : Nat) (w : World) (NA : NSK .i64 w na m fa) (NB : NSK .u8 w nb mb fb) (ho : mo ≤ capo) (hu : u < 18446744073709551616) :
    Calls Try.prog 3 #[.slice na m cap, .slice nb mb capb, .slice no mo capo, .int .u64 (u : Int)] w fun e w' => e = .returned (.bool true) ∧ Kp w w' := by
  have c0 := page_any na nb m cap mb capb fa fb w NA NB
  clear NA NB
  go_enter Try.func3, Try.ntmps3
  go_wp2_with fail
  with_reducible refine c0.mono ?_
  rintro e w1 ⟨rfl, ⟨f, HB0⟩, hs, HK0⟩
  obtain ⟨ga, ca, W2, ha, hga, hca, hB2, hK2, hO2⟩ := copy_page w1 w.heap.size 4096 f HB0
  clear c0 hs
  obtain ⟨gb, cb, W3, ha3, hgb, hcb, hB3, hK3⟩ := tail_page W2 w1.heap.size ga ca f HB0.byte hK2.size hO2
  have k3 : Kp w1 W3 := hK3 w1 (Nat.le_refl _) hK2
  have HK : Hid (Kp w W3) := HK0.trans k3
  have HP : Hid (BS W3 w.heap.size 0 4096 f) := HB0.kp k3
  have HQ : Hid (BS W3 gb 0 4097 (upd f 4096 165)) := hB3
  clear hK3 hB3 k3 hO2 hB2 hK2 HB0 HK0 hga hgb
  have l1 : (4097 : Int) ≤ cb := by omega
  go_wp2_with fail
  refine wp_append_run (.tmp 21) (.tmp 22) 23 rfl rfl rfl ha ?_
  clear ha
  go_wp2_with fail
  refine wp_append_run (.tmp 23) (.tmp 24) 23 rfl rfl rfl ha3 ?_
  clear ha3
  go_wp2_with fail
  have hb : Bytes f := HP.out.byte
  have HQ2 : Hid (BS W3 gb 0 4096 f) := (HQ.out.less (by decide)).like (fun i hi => (upd_other f 4096 165 i (by omega)).symm) hb
  have c1 := of_any gb 0 cb f W3 HQ2.out (by omega)
  have c2 := rof_any w.heap.size 4096 f W3 HP.out
  with_reducible refine c1.mono ?_
  rintro e w' ⟨a1, a2, rfl, j1, j2, rfl⟩
  have o1 := same_num j1.1 (FI_of_int (sre f 512) (by have := sre_le hb 512; omega)) rfl
  have o2 := same_num j2.1 (FI_of_int (sim f 512) (by have := sim_le hb 512; omega)) rfl
  have c3 := fun w => cleanIs_any a1 a2 _ _ w j1 j2
  have C3 : Aside _ := c3
  clear c1 j1 j2 hb c3
  generalize floatOfInt .f64 (sre f 512) = s1 at *
  generalize floatOfInt .f64 (sim f 512) = s2 at *
  go_wp2_with fail
  with_reducible refine c2.mono ?_
  rintro e w' ⟨rfl, rfl⟩
  clear c2
  go_wp2_with fail
  all_goals
    with_reducible refine (of_refuses _ _ _ _ (by omega)).mono ?_
    rintro e w' ⟨rfl, rfl⟩
    go_wp2_with fail
    with_reducible refine (told_any _).mono ?_
    rintro e w2 ⟨rfl, g9⟩
    have q1 := string_any w2 w.heap.size 4096 4096 f (HP.out.kp g9)
    have q2 := string_any w2 gb 4096 cb f (HQ2.out.kp g9)
    have q3 := (HQ.out.kp g9).cell 4096 (by decide)
    rw [Nat.zero_add, upd_same] at q3
    have q3' : w2.cell? ⟨gb, 4096, none⟩ = some (.int .u8 165) := q3
    have q4 := mask32 u hu
    have c4 := fun w => word_num u (u % 4294967296) (u / 4294967296) w hu rfl rfl
    have c5 := mk_any ((u % 4294967296 : Nat) : Int) ((u / 4294967296 : Nat) : Int)
    have o3 := same_num (FI_of_int ((u % 4294967296 : Nat) : Int) (by omega)) (FI_of_int ((u % 4294967296 : Nat) : Int) (by omega)) rfl
    have o4 := same_num (FI_of_int ((u / 4294967296 : Nat) : Int) (by omega)) (FI_of_int ((u / 4294967296 : Nat) : Int) (by omega)) rfl
    have z1 : (u : Int) / 4294967296 = ((u / 4294967296 : Nat) : Int) := by omega
    have z2 : u / 4294967296 < 4294967296 := by omega
    have z3 : u % 4294967296 < 4294967296 := by omega
    generalize u / 4294967296 = u2 at *
    generalize u % 4294967296 = u1 at *
    generalize strOf f 4096 = st at *
    have z4 : (u2 : Int) < 4294967296 := by omega
    have z5 : (u1 : Int) < 4294967296 := by omega
    have z6 : (u : Int) < 18446744073709551616 := by omega
    have c6 := fun w => C3.out w
    clear q3 z2 z3 hu
    go_wp2_with (first | (go_at_call 11; with_reducible refine (c6 _).mono ?_; rintro e w' ⟨rfl, rfl⟩) | (go_at_call 12; with_reducible refine (c4 _).mono ?_; rintro e w' ⟨rfl, rfl⟩) | (go_at_call 13; with_reducible refine (c5 _).mono ?_; rintro e w' ⟨rfl, rfl⟩))
    go_ret
    exact ⟨rfl, HK.out.trans g9⟩

theorem slice_cap {H : Type} {enc : TypeId × Value → H} {P : Program} {w : World} {base : Nat} {spare : Nat → Bool} {held : Bool} {t e : TypeId} {fuel : Nat} {cs : List Value} {x : DataW H × List MemPlace} {na : Option Addr} {m mcap : Nat}
    (ht : P.underlying t = some (.slice e)) (h : DataW.trod enc P w base spare held fuel t cs = some x) (hc : cs = [.slice na m mcap]) : m ≤ mcap := by
  subst hc
  rcases DataW.trod_slice ht h with ⟨h0, _⟩ | ⟨a, len, cap, elems, rest, n, _, h0, rfl, hb, hl, _⟩
  · simp at h0; omega
  · simp at h0; omega

theorem tells_law (na nb no : Option Addr) (m cap mb capb mo capo : Nat) (fa fb : Nat → Int) (u : Int) (w : World) (NA : NSK .i64 w na m fa) (NB : NSK .u8 w nb mb fb) (ho : mo ≤ capo) (hu : (Lit.int .u64 u).wf = true) :
    Calls Try.prog 3 #[.slice na m cap, .slice nb mb capb, .slice no mo capo, .int .u64 u] w fun e w' => e = .returned (.bool true) ∧ Kp w w' := by
  have h := wf_u64 hu
  have := tells_any na nb no m cap mb capb mo capo fa fb u.toNat w NA NB ho (by omega)
  rwa [Int.toNat_of_nonneg h.1] at this

end Go.Proofs.Ytcejdeafdlbheaa
