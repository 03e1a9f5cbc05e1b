/- Joined: SVX, IN. -/
import Derived.Test.YtpjlmmiceiionaaDoorAL
import Derived.Test.YtpjlmmiceiionaaDoorC9
/- Slices that may be read, as lists. -/
namespace Go.Proofs.YtpjlmmiceiionaaDoor
open Go.RowKit
set_option maxRecDepth 10000

/-- A slice that may be read. -/
def SVw {α : Type} (T : LT α) (w : World) (v : Value) (L : List α) : Prop := ∃ na cap, v = .slice na L.length cap ∧ AS T w na L
section
variable {α : Type} {T : LT α} {w w' : World} {b : Nat} {v : Value} {L : List α}
theorem AX.sv (K : LTok T) (h : AX T w b v L) : SVw T w v L := by
  obtain ⟨na, cap, rfl, _⟩ := h.form K
  exact ⟨na, cap, rfl, h.src K⟩
theorem SVw.kp (h : SVw T w v L) (k : Kp w w') : SVw T w' v L := by
  obtain ⟨na, cap, e, h⟩ := h
  exact ⟨na, cap, e, h.kp k⟩
theorem AS.elem (K : LTok T) {na : Option Addr} (h : AS T w na L) {i : Nat} {x : α} (hx : L[i]? = some x) : ∃ g o, na = some ⟨g, o, none⟩ ∧ ∀ j u, (T.enc x)[j]? = some u → w.cell? ⟨g, o + i * T.sz + j, none⟩ = some u := by
  rcases h with ⟨_, rfl⟩ | ⟨g, o, e, _, hc⟩
  · simp at hx
  · refine ⟨g, o, e, fun j u hu => ?_⟩
    have hj : j < T.sz := by have := (List.getElem?_eq_some_iff.1 hu).1; rwa [K.E.len] at this
    rw [Nat.add_assoc]
    exact hc _ u (by rw [flat_get K.E L i j x hx hj, hu])
end

end Go.Proofs.YtpjlmmiceiionaaDoor

/- Lists of frames, told alike. -/
namespace Go.Proofs.YtpjlmmiceiionaaDoor
open Go.RowKit
set_option maxRecDepth 10000
section
variable {w : World}
set_option maxHeartbeats 4000000 in
theorem intsF_any {va vb : Value} {L M : List Nat} (hA : SVw LTfr w va L) (hB : SVw LTfr w vb M) (hl : L.length ≤ 2000000) :
    Calls Tryd.prog 40 #[va, vb] w fun e w' => e = .returned (.bool (decide (L = M))) ∧ Kp w w' := by
  obtain ⟨na, ca, rfl, fA⟩ := hA
  obtain ⟨nb, cb, rfl, fB⟩ := hB
  by_cases he : L.length = M.length
  · obtain ⟨n, hn⟩ : ∃ n, M.length = n := ⟨_, rfl⟩
    have HN : Hid (M.length = n ∧ L.length = n) := ⟨hn, by omega⟩
    rw [he, hn]
    have FA : Aside (AS LTfr w na L) := fA
    have FB : Aside (AS LTfr w nb M) := fB
    have y1 : (n : Int) ≤ 2000000 := by omega
    clear fA fB he hn hl
    obtain ⟨r, hr⟩ : ∃ r, decide (L = M) = r := ⟨_, rfl⟩
    have HR : Hid (decide (L = M) = r) := hr
    rw [hr]
    clear hr
    go_enter Tryd.func40, Tryd.ntmps40
    go_wp2_with fail
    go_loopg [5] (n + 1) (fun g v5 wr => ∃ (i : Nat), v5 = .int .i64 (i : Int) ∧ i ≤ n ∧ n + 1 - i ≤ g ∧ Hid (Kp w wr ∧ ∀ j, j < i → L[j]? = M[j]?))
    case atStart => exact ⟨0, rfl, by omega, by omega, Kp.refl w, fun j hj => by omega⟩
    case round =>
      obtain ⟨i, rfl, hi, hg, HL⟩ := hrel
      have y2 : (i : Int) ≤ n := by omega
      by_cases e : i < n
      · have z1 : (i : Int) < n := by omega
        have lx : i < L.length := by have := HN.out.2; omega
        have ly : i < M.length := by have := HN.out.1; omega
        obtain ⟨x, hx⟩ : ∃ x, L[i]? = some x := ⟨_, List.getElem?_eq_getElem lx⟩
        obtain ⟨y, hy⟩ : ∃ y, M[i]? = some y := ⟨_, List.getElem?_eq_getElem ly⟩
        obtain ⟨ga, oa, rfl, hca⟩ := (FA.out.kp HL.out.1).elem LTfr_ok hx
        obtain ⟨gb, ob, rfl, hcb⟩ := (FB.out.kp HL.out.1).elem LTfr_ok hy
        have cA := hca 0 _ rfl
        have cB := hcb 0 _ rfl
        simp only [show LTfr.sz = 1 from rfl, Nat.add_zero, Nat.mul_one] at cA cB
        clear FA FB hca hcb lx ly
        by_cases exy : x = y
        · have qt : ((x : Int) == (y : Int)) = true := by rw [exy]; exact beq_self_eq_true _
          have hxy : L[i]? = M[i]? := by rw [hx, hy, exy]
          have HL2 : Hid (Kp w wr ∧ ∀ j, j < i + 1 → L[j]? = M[j]?) := ⟨HL.out.1, fun j hj => by
            by_cases ej : j = i
            · rw [ej]; exact hxy
            · exact HL.out.2 j (by omega)⟩
          clear HL hx hy exy hxy
          go_wp2_with fail
          go_quiet (fail)
          go_wp2_with fail
          go_roundg (n + 1 - (i + 1))
          case measure => omega
          case rel => exact ⟨i + 1, by go_num, by omega, by omega, HL2.out.1.drewN _, HL2.out.2⟩
        · have qf : ((x : Int) == (y : Int)) = false := by rw [beq_eq_false_iff_ne]; omega
          have er : r = false := by
            rw [← HR.out]
            exact decide_eq_false (fun h => exy (by rw [h, hy] at hx; exact (Option.some.inj hx).symm))
          subst er
          have HK : Hid (Kp w wr) := HL.out.1
          clear HL hx hy exy
          go_wp2_with fail
          go_quiet (fail)
          go_wp2_with fail
          go_ret
          exact ⟨rfl, HK.out.drewN _⟩
      · have ei : i = n := by omega
        subst ei
        have er : r = true := by
          rw [← HR.out]
          refine decide_eq_true (List.ext_getElem? fun j => ?_)
          by_cases hj : j < i
          · exact HL.out.2 j hj
          · rw [List.getElem?_eq_none (by have := HN.out.2; omega), List.getElem?_eq_none (by have := HN.out.1; omega)]
        subst er
        have HK : Hid (Kp w wr) := HL.out.1
        clear HL
        go_wp2_with fail
        go_ret
        exact ⟨rfl, HK.out⟩
  · have er : decide (L = M) = false := decide_eq_false (fun h => he (by rw [h]))
    rw [er]
    have yy : ((L.length : Int) == (M.length : Int)) = false := by rw [beq_eq_false_iff_ne]; omega
    have yn : ¬ (L.length : Int) = (M.length : Int) := by omega
    generalize L.length = a at *
    generalize M.length = c at *
    clear fA fB er he hl
    go_enter Tryd.func40, Tryd.ntmps40
    go_wp2_with fail
    go_ret
    exact ⟨rfl, Kp.refl w⟩
end

end Go.Proofs.YtpjlmmiceiionaaDoor
