/- The document's rmap: Frames. -/
import Derived.Test.YtfpmakmemmnbkaaAJ
import Derived.Deep.RegionLaw
namespace Go.Proofs.Ytfpmakmemmnbkaa
open Go.RowKit Go.Sort Go.Shelf
set_option maxRecDepth 10000

section
variable {w w' : World} {q b : Nat} {v : Value} {T : List UC}
set_option maxHeartbeats 16000000 in
theorem uframes_any (h : RDU w q b v T) (hl : T.length ≤ 100000) :
    Calls Try.prog 18 #[.pointer (some ⟨q, 0, none⟩)] w fun e w' => ∃ v, e = .returned v ∧ AX LTi w' w.heap.size v (frT T) ∧ Kp w w' := by
  obtain ⟨na, cap, rfl, _, _, _⟩ := h.ax.form okT_use
  have c0 := h.c0
  have HH : Hid (RDU w q b (.slice na T.length cap) T ∧ T.length ≤ 100000) := ⟨h, hl⟩
  have hql := h.lt
  obtain ⟨n, hn⟩ : ∃ n, n = T.length := ⟨_, rfl⟩
  rw [← hn] at c0
  have HN : Hid (n = T.length) := hn
  have z0 : (n : Int) ≤ 100000 := by omega
  obtain ⟨R, hR⟩ : ∃ R, R = frT T := ⟨_, rfl⟩
  rw [← hR]
  have HR : Hid (R = frT T) := hR
  clear h hl hn hR
  go_enter Try.func18, Try.ntmps18
  go_wp2_with fail
  go_loopg [3, 4] (n + 1) (fun gg v3 v4 wr => ∃ (i : Nat) (M : List Int), v4 = .int .i64 (i : Int) ∧ i ≤ n ∧ n + 1 - i ≤ gg ∧ Hid (Kp w wr ∧ AX LTi wr w.heap.size v3 M ∧ M.Pairwise (· < ·) ∧ ∀ x, x ∈ M ↔ x ∈ (T.take i).map (·.1)))
  case atStart => exact ⟨0, [], rfl, by omega, by omega, Kp.refl _, AX.nil _ _, List.Pairwise.nil, fun x => by simp⟩
  case round =>
    obtain ⟨i, M, rfl, hi, hg, HI⟩ := hrel
    have d0 : wr.cell? ⟨q, 0, none⟩ = some (.slice na n cap) := by rw [HI.out.1.cell (p := ⟨q, 0, none⟩) hql]; exact c0
    by_cases e : i < n
    · obtain ⟨y, hy⟩ : ∃ y, T[i]? = some y := ⟨_, List.getElem?_eq_getElem (by have := HN.out; omega)⟩
      obtain ⟨na', cap', ev, _, _, hc⟩ := HH.out.1.ax.form okT_use
      cases ev
      obtain ⟨g, rfl, hg2, _, hc⟩ := hc i y hy
      have e0 := hc 0 _ rfl
      rw [← HI.out.1.cell (p := ⟨g, _, none⟩) hg2] at e0
      simp only [show LTu.sz = 3 from rfl, Nat.add_zero] at e0
      have HU : Hid ((T.take (i + 1)).map (·.1) = (T.take i).map (·.1) ++ [y.1]) := by
        show _ = _
        rw [List.take_add_one, hy]
        simp
      have ml : M.length ≤ 100000 := by
        have nd : M.Nodup := HI.out.2.2.1.imp (fun h e => by omega)
        have := nodup_le (M := (T.take i).map (·.1)) nd (fun x hx => (HI.out.2.2.2 x).1 hx)
        rw [List.length_map] at this
        have := List.length_take_le i T
        have := HH.out.2
        have := List.length_take_le' i T
        omega
      obtain ⟨yf, yy⟩ := y
      have y1 : (i : Int) < n := by omega
      have z1 : (i : Int) ≤ 100000 := by omega
      obtain ⟨nm, cm, evm, hmc, hfm, _⟩ := HI.out.2.1.form okT_num
      subst evm
      have HM : Hid (M.length ≤ cm ∧ (nm = none → cm = 0) ∧ M.length ≤ 100000) := ⟨hmc, (fun e => by
        rcases hfm with ⟨_, q, _⟩ | ⟨g, q, _⟩
        · exact q
        · rw [e] at q; cases q), ml⟩
      clear hc hy hmc hfm
      obtain ⟨mm, hmm⟩ : ∃ mm, mm = M.length := ⟨_, rfl⟩
      rw [← hmm]
      have HMM : Hid (mm = M.length) := hmm
      have z2 : (mm : Int) ≤ 100000 := by omega
      clear hmm ml
      go_wp2_with fail
      clear e0 d0
      have HW : Hid (Kp wr wr) := Kp.refl _
      obtain ⟨W1, hW1⟩ : ∃ W1, W1 = wr := ⟨_, rfl⟩
      have HI2 : Hid (Kp w W1 ∧ AX LTi W1 w.heap.size (.slice nm M.length cm) M ∧ M.Pairwise (· < ·) ∧ ∀ x, x ∈ M ↔ x ∈ (T.take i).map (·.1)) := by rw [hW1]; exact HI.out
      rw [← hW1]
      clear HI hW1 HW
      go_loopg [6] (mm + 1) (fun gg v6 wx => ∃ k : Nat, v6 = .int .i64 (k : Int) ∧ k ≤ mm ∧ k + 1 ≤ gg ∧ wx = W1 ∧ Hid (∀ j y, k ≤ j → M[j]? = some y → yf < y))
      case atStart => exact ⟨mm, rfl, by omega, by omega, rfl, (show ∀ j y, mm ≤ j → M[j]? = some y → yf < y from fun j y hj hy => by
        have := (List.getElem?_eq_some_iff.1 hy).1
        have := HMM.out
        omega)⟩
      case round =>
        obtain ⟨k, rfl, hk, hgk, hwx, HK⟩ := hrel
        subst hwx
        have HI := HI2
        clear HI2
        by_cases ek : k = 0
        · have HX : Hid ((∀ j y, k ≤ j → M[j]? = some y → yf < y) ∧ (k = 0 ∨ ∃ y, M[k - 1]? = some y ∧ y < yf)) := ⟨HK.out, .inl ek⟩
          have y5 : decide ((0 : Int) < (k : Int)) = false := decide_eq_false (by omega)
          have y5' : decide (0 < k) = false := decide_eq_false (by omega)
          have y6 : ((k : Int) == 0) = true := by simpa using ek
          clear ek HK
          go_wp2_with fail
          clear y5 y5' y6
          have hkm : k ≤ M.length := by have := HMM.out; omega
          have hmc := HM.out.1
          have src := HI.out.2.1.src okT_num
          obtain ⟨na1, q1, q2, q3⟩ := part_hi okT_num nm mm cm k (by omega)
          obtain ⟨na2, s1, s2, s3⟩ := part_lo okT_num nm mm cm k hk
          change ∀ w, (Instr.slice 39 _ _ _ _).run Try.prog w = _ at q1
          change ∀ w, (Instr.slice 39 _ _ _ _).run Try.prog w = _ at s1
          have a1 := src.hi okT_num k q2 q3
          have a2 := src.lo okT_num k hmc s2 s3
          have zz1 : M.take k = [] → na1 = none → cm = 0 := fun _ e => HM.out.2.1 (part_nil q3 src e)
          have zz2 : M.drop k = [] → na2 = none → cm - k = 0 := fun _ e => by rw [HM.out.2.1 (part_nil2 s3 src e)]; omega
          have l1 : k = (M.take k).length := by rw [List.length_take]; omega
          have l2 : mm - k = (M.drop k).length := by rw [List.length_drop, HMM.out]
          have l3 : (M.take k).length + 1 + (M.drop k).length ≤ 1000000 := by have := HM.out.2.2; have := HMM.out; rw [← l1, ← l2]; omega
          have HS : Hid ((M.take k ++ [yf] ++ M.drop k).Pairwise (· < ·) ∧ ∀ x, x ∈ M.take k ++ [yf] ++ M.drop k ↔ x ∈ (T.take (i + 1)).map (·.1)) := by
            refine ⟨ins_rise hkm HI.out.2.2.1 HX.out.1 HX.out.2, fun x => ?_⟩
            rw [(ins_perm M k yf).mem_iff, List.mem_append, HI.out.2.2.2 x, HU.out, List.mem_append]
          obtain ⟨a6A, n6A, c6A, w6A, a7A, n7A, c7A, w7A, a8A, n8A, c8A, w8A, r6A, r7A, r8A, i8A⟩ := ins_A (W := wr.drew) okT_num (a1.kp (Kp.refl wr).drew) l1 zz1 (a2.kp (Kp.refl wr).drew) l2 zz2 yf l3 39
          have r6A' : (Builtin.append_ #[39, 39] 39 #[.slice (some ⟨wr.heap.size, 0, none⟩) 0 0, .slice na1 k cm]).run Try.prog (wr.alloc (.cells #[] 3)).drew = .ok (.slice a6A n6A c6A) w6A := r6A
          have r7A' : (Builtin.append_ #[39, 39] 39 #[.slice a6A n6A c6A, .slice (some ⟨w6A.heap.size, 0, none⟩) 1 1]).run Try.prog (w6A.alloc (.cells #[.int .i64 yf] 3)) = .ok (.slice a7A n7A c7A) w7A := r7A
          have r8A' : (Builtin.append_ #[39, 39] 39 #[.slice a7A n7A c7A, .slice na2 (mm - k) (cm - k)]).run Try.prog w7A = .ok (.slice a8A n8A c8A) w8A := r8A
          have FA : Hid (Kp w w8A ∧ AX LTi w8A w.heap.size (.slice a8A n8A c8A) (M.take k ++ [yf] ++ M.drop k)) := by
            have kw : Kp w wr.drew := HI.out.1.drew
            exact ⟨kw.trans i8A.2.2.2, i8A.1.low kw.size⟩
          obtain ⟨a6B, n6B, c6B, w6B, a7B, n7B, c7B, w7B, a8B, n8B, c8B, w8B, r6B, r7B, r8B, i8B⟩ := ins_B (W := wr.drew) okT_num (a1.kp (Kp.refl wr).drew) l1 zz1 (a2.kp (Kp.refl wr).drew) l2 zz2 yf l3 39
          have r6B' : (Builtin.append_ #[39, 39] 39 #[.slice (some ⟨wr.heap.size, 0, none⟩) 0 0, .slice na1 k cm]).run Try.prog ((wr.alloc (.cells #[] 3)).alloc (.cells #[.int .i64 yf] 3)).drew = .ok (.slice a6B n6B c6B) w6B := r6B
          have r7B' : (Builtin.append_ #[39, 39] 39 #[.slice a6B n6B c6B, .slice (some ⟨wr.heap.size + 1, 0, none⟩) 1 1]).run Try.prog w6B = .ok (.slice a7B n7B c7B) w7B := r7B
          have r8B' : (Builtin.append_ #[39, 39] 39 #[.slice a7B n7B c7B, .slice na2 (mm - k) (cm - k)]).run Try.prog w7B = .ok (.slice a8B n8B c8B) w8B := r8B
          have FB : Hid (Kp w w8B ∧ AX LTi w8B w.heap.size (.slice a8B n8B c8B) (M.take k ++ [yf] ++ M.drop k)) := by
            have kw : Kp w wr.drew := HI.out.1.drew
            exact ⟨kw.trans i8B.2.2.2, i8B.1.low kw.size⟩
          obtain ⟨a6C, n6C, c6C, w6C, a7C, n7C, c7C, w7C, a8C, n8C, c8C, w8C, r6C, r7C, r8C, i8C⟩ := ins_C (W := wr.drew) okT_num (a1.kp (Kp.refl wr).drew) l1 zz1 (a2.kp (Kp.refl wr).drew) l2 zz2 yf l3 39
          have r6C' : (Builtin.append_ #[39, 39] 39 #[.slice (some ⟨wr.heap.size + 1, 0, none⟩) 0 0, .slice na1 k cm]).run Try.prog ((wr.alloc (.cells #[.int .i64 yf] 3)).alloc (.cells #[] 3)).drew = .ok (.slice a6C n6C c6C) w6C := r6C
          have r7C' : (Builtin.append_ #[39, 39] 39 #[.slice a6C n6C c6C, .slice (some ⟨wr.heap.size, 0, none⟩) 1 1]).run Try.prog w6C = .ok (.slice a7C n7C c7C) w7C := r7C
          have r8C' : (Builtin.append_ #[39, 39] 39 #[.slice a7C n7C c7C, .slice na2 (mm - k) (cm - k)]).run Try.prog w7C = .ok (.slice a8C n8C c8C) w8C := r8C
          have FC : Hid (Kp w w8C ∧ AX LTi w8C w.heap.size (.slice a8C n8C c8C) (M.take k ++ [yf] ++ M.drop k)) := by
            have kw : Kp w wr.drew := HI.out.1.drew
            exact ⟨kw.trans i8C.2.2.2, i8C.1.low kw.size⟩
          clear hkm hmc src q2 q3 s2 s3 a1 a2 zz1 zz2 l1 l2 l3 r6A r7A r8A i8A r6B r7B r8B i8B r6C r7C r8C i8C HX HM HU HI HMM
          go_region_law (first | ((with_reducible refine step_app_of r6A' ?_ (.tmp 50) (.tmp 53) ?_ ?_ ?_ ?_ ?_); rfl; rfl; rfl; rfl; rfl) | ((with_reducible refine step_app_of r6B' ?_ (.tmp 50) (.tmp 53) ?_ ?_ ?_ ?_ ?_); rfl; rfl; rfl; rfl; rfl) | ((with_reducible refine step_app_of r6C' ?_ (.tmp 50) (.tmp 53) ?_ ?_ ?_ ?_ ?_); rfl; rfl; rfl; rfl; rfl) | ((with_reducible refine step_app_of r7A' ?_ (.tmp 54) (.tmp 56) ?_ ?_ ?_ ?_ ?_); rfl; rfl; rfl; rfl; rfl) | ((with_reducible refine step_app_of r7B' ?_ (.tmp 54) (.tmp 56) ?_ ?_ ?_ ?_ ?_); rfl; rfl; rfl; rfl; rfl) | ((with_reducible refine step_app_of r7C' ?_ (.tmp 54) (.tmp 56) ?_ ?_ ?_ ?_ ?_); rfl; rfl; rfl; rfl; rfl) | ((with_reducible refine step_app_of r8A' ?_ (.tmp 57) (.tmp 60) ?_ ?_ ?_ ?_ ?_); rfl; rfl; rfl; rfl; rfl) | ((with_reducible refine step_app_of r8B' ?_ (.tmp 57) (.tmp 60) ?_ ?_ ?_ ?_ ?_); rfl; rfl; rfl; rfl; rfl) | ((with_reducible refine step_app_of r8C' ?_ (.tmp 57) (.tmp 60) ?_ ?_ ?_ ?_ ?_); rfl; rfl; rfl; rfl; rfl))
          all_goals
            clear r6A' r7A' r8A' r6B' r7B' r8B' r6C' r7C' r8C' q1 s1
            go_wp2_with fail
            go_roundg (n + 1 - (i + 1))
            case measure => exact meas_next e hg
            case rel => first | exact ⟨i + 1, _, by go_num, by omega, by omega, FA.out.1, FA.out.2, HS.out⟩ | exact ⟨i + 1, _, by go_num, by omega, by omega, FB.out.1, FB.out.2, HS.out⟩ | exact ⟨i + 1, _, by go_num, by omega, by omega, FC.out.1, FC.out.2, HS.out⟩
        · obtain ⟨kk, hkk⟩ : ∃ kk, k = kk + 1 := ⟨k - 1, by omega⟩
          obtain ⟨a, ha⟩ : ∃ a, M[kk]? = some a := ⟨_, List.getElem?_eq_getElem (by have := HMM.out; omega)⟩
          obtain ⟨nm', cm', evm, _, _, hcm⟩ := HI.out.2.1.form okT_num
          cases evm
          obtain ⟨gm, rfl, _, _, hcm⟩ := hcm kk a ha
          have a0 := hcm 0 _ rfl
          simp only [show LTi.sz = 1 from rfl, Nat.add_zero, Nat.mul_one] at a0
          clear hcm
          have y5 : decide ((0 : Int) < (k : Int)) = true := decide_eq_true (by omega)
          have y5' : decide (0 < k) = true := decide_eq_true (by omega)
          have y6 : IntKind.i64.wrap ((k : Int) - 1) = (kk : Int) := by rw [IntKind.wrap_i64]; omega
          have y7 : (kk : Int) < mm := by omega
          have y8 : ((k : Int) == 0) = false := by rw [beq_eq_false_iff_ne]; omega
          by_cases d1 : yf < a
          · have HN2 : Hid (∀ j y, kk ≤ j → M[j]? = some y → yf < y) := (show ∀ j y, kk ≤ j → M[j]? = some y → yf < y from fun j y hj hy => by
              by_cases ej : j = kk
              · rw [ej, ha] at hy; cases hy; exact d1
              · exact HK.out j y (by omega) hy)
            have hk2 : kk ≤ mm := by omega
            clear ha HK HI y8
            go_wp2_with fail
            go_roundg (kk + 1)
            case measure => omega
            case rel => exact ⟨kk, by first | rfl | go_num, hk2, Nat.le_refl _, rfl, HN2.out⟩
          · by_cases d2 : a = yf
            · have HS : Hid (M.Pairwise (· < ·) ∧ ∀ x, x ∈ M ↔ x ∈ (T.take (i + 1)).map (·.1)) := ⟨HI.out.2.2.1, fun x => by
                rw [HU.out, List.mem_append, ← HI.out.2.2.2 x]
                constructor
                · exact .inl
                · rintro (c | c)
                  · exact c
                  · simp at c
                    rw [c, ← d2]
                    exact List.mem_of_getElem? ha⟩
              have HF : Hid (Kp w wr ∧ AX LTi wr w.heap.size (.slice (some ⟨gm, 0, none⟩) mm cm) M) := ⟨HI.out.1, by rw [HMM.out]; exact HI.out.2.1⟩
              have y9 : (a == yf) = true := by simpa using d2
              clear ha HK HI ek hkk d2 HU HM
              go_wp2_with fail
              go_roundg (n + 1 - (i + 1))
              case measure => exact meas_next e hg
              case rel => exact ⟨i + 1, M, by go_num, by omega, by omega, HF.out.1, HF.out.2, HS.out⟩
            · have HX : Hid ((∀ j y, k ≤ j → M[j]? = some y → yf < y) ∧ (k = 0 ∨ ∃ y, M[k - 1]? = some y ∧ y < yf)) := ⟨HK.out, .inr ⟨a, by rw [hkk]; exact ha, by omega⟩⟩
              have y9 : (a == yf) = false := by simpa using d2
              clear ha HK ek hkk d2
              go_wp2_with fail
              clear a0 d1 y5 y5' y6 y7 y8 y9
              have hkm : k ≤ M.length := by have := HMM.out; omega
              have hmc := HM.out.1
              have src := HI.out.2.1.src okT_num
              obtain ⟨na1, q1, q2, q3⟩ := part_hi okT_num (some ⟨gm, 0, none⟩) mm cm k (by omega)
              obtain ⟨na2, s1, s2, s3⟩ := part_lo okT_num (some ⟨gm, 0, none⟩) mm cm k hk
              change ∀ w, (Instr.slice 39 _ _ _ _).run Try.prog w = _ at q1
              change ∀ w, (Instr.slice 39 _ _ _ _).run Try.prog w = _ at s1
              have a1 := src.hi okT_num k q2 q3
              have a2 := src.lo okT_num k hmc s2 s3
              have zz1 : M.take k = [] → na1 = none → cm = 0 := fun _ e => HM.out.2.1 (part_nil q3 src e)
              have zz2 : M.drop k = [] → na2 = none → cm - k = 0 := fun _ e => by rw [HM.out.2.1 (part_nil2 s3 src e)]; omega
              have l1 : k = (M.take k).length := by rw [List.length_take]; omega
              have l2 : mm - k = (M.drop k).length := by rw [List.length_drop, HMM.out]
              have l3 : (M.take k).length + 1 + (M.drop k).length ≤ 1000000 := by have := HM.out.2.2; have := HMM.out; rw [← l1, ← l2]; omega
              have HS : Hid ((M.take k ++ [yf] ++ M.drop k).Pairwise (· < ·) ∧ ∀ x, x ∈ M.take k ++ [yf] ++ M.drop k ↔ x ∈ (T.take (i + 1)).map (·.1)) := by
                refine ⟨ins_rise hkm HI.out.2.2.1 HX.out.1 HX.out.2, fun x => ?_⟩
                rw [(ins_perm M k yf).mem_iff, List.mem_append, HI.out.2.2.2 x, HU.out, List.mem_append]
              obtain ⟨a6A, n6A, c6A, w6A, a7A, n7A, c7A, w7A, a8A, n8A, c8A, w8A, r6A, r7A, r8A, i8A⟩ := ins_A (W := wr.drew) okT_num (a1.kp (Kp.refl wr).drew) l1 zz1 (a2.kp (Kp.refl wr).drew) l2 zz2 yf l3 39
              have r6A' : (Builtin.append_ #[39, 39] 39 #[.slice (some ⟨wr.heap.size, 0, none⟩) 0 0, .slice na1 k cm]).run Try.prog (wr.alloc (.cells #[] 3)).drew = .ok (.slice a6A n6A c6A) w6A := r6A
              have r7A' : (Builtin.append_ #[39, 39] 39 #[.slice a6A n6A c6A, .slice (some ⟨w6A.heap.size, 0, none⟩) 1 1]).run Try.prog (w6A.alloc (.cells #[.int .i64 yf] 3)) = .ok (.slice a7A n7A c7A) w7A := r7A
              have r8A' : (Builtin.append_ #[39, 39] 39 #[.slice a7A n7A c7A, .slice na2 (mm - k) (cm - k)]).run Try.prog w7A = .ok (.slice a8A n8A c8A) w8A := r8A
              have FA : Hid (Kp w w8A ∧ AX LTi w8A w.heap.size (.slice a8A n8A c8A) (M.take k ++ [yf] ++ M.drop k)) := by
                have kw : Kp w wr.drew := HI.out.1.drew
                exact ⟨kw.trans i8A.2.2.2, i8A.1.low kw.size⟩
              obtain ⟨a6B, n6B, c6B, w6B, a7B, n7B, c7B, w7B, a8B, n8B, c8B, w8B, r6B, r7B, r8B, i8B⟩ := ins_B (W := wr.drew) okT_num (a1.kp (Kp.refl wr).drew) l1 zz1 (a2.kp (Kp.refl wr).drew) l2 zz2 yf l3 39
              have r6B' : (Builtin.append_ #[39, 39] 39 #[.slice (some ⟨wr.heap.size, 0, none⟩) 0 0, .slice na1 k cm]).run Try.prog ((wr.alloc (.cells #[] 3)).alloc (.cells #[.int .i64 yf] 3)).drew = .ok (.slice a6B n6B c6B) w6B := r6B
              have r7B' : (Builtin.append_ #[39, 39] 39 #[.slice a6B n6B c6B, .slice (some ⟨wr.heap.size + 1, 0, none⟩) 1 1]).run Try.prog w6B = .ok (.slice a7B n7B c7B) w7B := r7B
              have r8B' : (Builtin.append_ #[39, 39] 39 #[.slice a7B n7B c7B, .slice na2 (mm - k) (cm - k)]).run Try.prog w7B = .ok (.slice a8B n8B c8B) w8B := r8B
              have FB : Hid (Kp w w8B ∧ AX LTi w8B w.heap.size (.slice a8B n8B c8B) (M.take k ++ [yf] ++ M.drop k)) := by
                have kw : Kp w wr.drew := HI.out.1.drew
                exact ⟨kw.trans i8B.2.2.2, i8B.1.low kw.size⟩
              obtain ⟨a6C, n6C, c6C, w6C, a7C, n7C, c7C, w7C, a8C, n8C, c8C, w8C, r6C, r7C, r8C, i8C⟩ := ins_C (W := wr.drew) okT_num (a1.kp (Kp.refl wr).drew) l1 zz1 (a2.kp (Kp.refl wr).drew) l2 zz2 yf l3 39
              have r6C' : (Builtin.append_ #[39, 39] 39 #[.slice (some ⟨wr.heap.size + 1, 0, none⟩) 0 0, .slice na1 k cm]).run Try.prog ((wr.alloc (.cells #[.int .i64 yf] 3)).alloc (.cells #[] 3)).drew = .ok (.slice a6C n6C c6C) w6C := r6C
              have r7C' : (Builtin.append_ #[39, 39] 39 #[.slice a6C n6C c6C, .slice (some ⟨wr.heap.size, 0, none⟩) 1 1]).run Try.prog w6C = .ok (.slice a7C n7C c7C) w7C := r7C
              have r8C' : (Builtin.append_ #[39, 39] 39 #[.slice a7C n7C c7C, .slice na2 (mm - k) (cm - k)]).run Try.prog w7C = .ok (.slice a8C n8C c8C) w8C := r8C
              have FC : Hid (Kp w w8C ∧ AX LTi w8C w.heap.size (.slice a8C n8C c8C) (M.take k ++ [yf] ++ M.drop k)) := by
                have kw : Kp w wr.drew := HI.out.1.drew
                exact ⟨kw.trans i8C.2.2.2, i8C.1.low kw.size⟩
              clear hkm hmc src q2 q3 s2 s3 a1 a2 zz1 zz2 l1 l2 l3 r6A r7A r8A i8A r6B r7B r8B i8B r6C r7C r8C i8C HX HM HU HI HMM
              go_region_law (first | ((with_reducible refine step_app_of r6A' ?_ (.tmp 50) (.tmp 53) ?_ ?_ ?_ ?_ ?_); rfl; rfl; rfl; rfl; rfl) | ((with_reducible refine step_app_of r6B' ?_ (.tmp 50) (.tmp 53) ?_ ?_ ?_ ?_ ?_); rfl; rfl; rfl; rfl; rfl) | ((with_reducible refine step_app_of r6C' ?_ (.tmp 50) (.tmp 53) ?_ ?_ ?_ ?_ ?_); rfl; rfl; rfl; rfl; rfl) | ((with_reducible refine step_app_of r7A' ?_ (.tmp 54) (.tmp 56) ?_ ?_ ?_ ?_ ?_); rfl; rfl; rfl; rfl; rfl) | ((with_reducible refine step_app_of r7B' ?_ (.tmp 54) (.tmp 56) ?_ ?_ ?_ ?_ ?_); rfl; rfl; rfl; rfl; rfl) | ((with_reducible refine step_app_of r7C' ?_ (.tmp 54) (.tmp 56) ?_ ?_ ?_ ?_ ?_); rfl; rfl; rfl; rfl; rfl) | ((with_reducible refine step_app_of r8A' ?_ (.tmp 57) (.tmp 60) ?_ ?_ ?_ ?_ ?_); rfl; rfl; rfl; rfl; rfl) | ((with_reducible refine step_app_of r8B' ?_ (.tmp 57) (.tmp 60) ?_ ?_ ?_ ?_ ?_); rfl; rfl; rfl; rfl; rfl) | ((with_reducible refine step_app_of r8C' ?_ (.tmp 57) (.tmp 60) ?_ ?_ ?_ ?_ ?_); rfl; rfl; rfl; rfl; rfl))
              all_goals
                clear r6A' r7A' r8A' r6B' r7B' r8B' r6C' r7C' r8C' q1 s1
                go_wp2_with fail
                go_roundg (n + 1 - (i + 1))
                case measure => exact meas_next e hg
                case rel => first | exact ⟨i + 1, _, by go_num, by omega, by omega, FA.out.1, FA.out.2, HS.out⟩ | exact ⟨i + 1, _, by go_num, by omega, by omega, FB.out.1, FB.out.2, HS.out⟩ | exact ⟨i + 1, _, by go_num, by omega, by omega, FC.out.1, FC.out.2, HS.out⟩
    · have y1 : ¬ (i : Int) < n := by omega
      have ei : i = n := by omega
      have E : Hid (AX LTi wr w.heap.size u3 R ∧ Kp w wr) := by
        refine ⟨?_, HI.out.1⟩
        have h4 := HI.out.2.2.2
        rw [ei, HN.out, List.take_length] at h4
        have := frT_of HI.out.2.2.1 h4
        rw [HR.out, ← this]
        exact HI.out.2.1
      clear HI
      go_wp2_with fail
      go_ret
      exact ⟨_, rfl, E.out⟩
end

end Go.Proofs.Ytfpmakmemmnbkaa
