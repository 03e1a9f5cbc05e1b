/- Joined: SVX, IN, P11, CL. -/
import Derived.Test.YtpjlmmiceiionaaDoorAL
import Derived.Test.YtpjlmmiceiionaaDoorJ30
import Derived.Test.YtpjlmmiceiionaaDoorP6
import Derived.RegionTactic
import Derived.BigRegion
import Derived.Test.YtpjlmmiceiionaaDoorCK
/- Slices that may be read, as lists. -/
namespace Go.Proofs.YtpjlmmiceiionaaDoor
open Go.RowKit
set_option maxRecDepth 10000

/-- A slice that may be read. -/
def SVw {α : Type} (T : LT α) (w : World) (v : Value) (L : List α) : Prop := ∃ na cap, v = .slice na L.length cap ∧ AS T w na L
section
variable {α : Type} {T : LT α} {w w' : World} {b : Nat} {v : Value} {L : List α}
theorem AX.sv (K : LTok T) (h : AX T w b v L) : SVw T w v L := by
  obtain ⟨na, cap, rfl, _⟩ := h.form K
  exact ⟨na, cap, rfl, h.src K⟩
theorem SVw.kp (h : SVw T w v L) (k : Kp w w') : SVw T w' v L := by
  obtain ⟨na, cap, e, h⟩ := h
  exact ⟨na, cap, e, h.kp k⟩
theorem AS.elem (K : LTok T) {na : Option Addr} (h : AS T w na L) {i : Nat} {x : α} (hx : L[i]? = some x) : ∃ g o, na = some ⟨g, o, none⟩ ∧ ∀ j u, (T.enc x)[j]? = some u → w.cell? ⟨g, o + i * T.sz + j, none⟩ = some u := by
  rcases h with ⟨_, rfl⟩ | ⟨g, o, e, _, hc⟩
  · simp at hx
  · refine ⟨g, o, e, fun j u hu => ?_⟩
    have hj : j < T.sz := by have := (List.getElem?_eq_some_iff.1 hu).1; rwa [K.E.len] at this
    rw [Nat.add_assoc]
    exact hc _ u (by rw [flat_get K.E L i j x hx hj, hu])
end

end Go.Proofs.YtpjlmmiceiionaaDoor

/- Lists of frames, told alike. -/
namespace Go.Proofs.YtpjlmmiceiionaaDoor
open Go.RowKit
set_option maxRecDepth 10000
section
variable {w : World}
set_option maxHeartbeats 4000000 in
theorem intsF_any {va vb : Value} {L M : List Nat} (hA : SVw LTfr w va L) (hB : SVw LTfr w vb M) (hl : L.length ≤ 2000000) :
    Calls Tryd.prog 40 #[va, vb] w fun e w' => e = .returned (.bool (decide (L = M))) ∧ Kp w w' := by
  obtain ⟨na, ca, rfl, fA⟩ := hA
  obtain ⟨nb, cb, rfl, fB⟩ := hB
  by_cases he : L.length = M.length
  · obtain ⟨n, hn⟩ : ∃ n, M.length = n := ⟨_, rfl⟩
    have HN : Hid (M.length = n ∧ L.length = n) := ⟨hn, by omega⟩
    rw [he, hn]
    have FA : Aside (AS LTfr w na L) := fA
    have FB : Aside (AS LTfr w nb M) := fB
    have y1 : (n : Int) ≤ 2000000 := by omega
    clear fA fB he hn hl
    obtain ⟨r, hr⟩ : ∃ r, decide (L = M) = r := ⟨_, rfl⟩
    have HR : Hid (decide (L = M) = r) := hr
    rw [hr]
    clear hr
    go_enter Tryd.func40, Tryd.ntmps40
    go_wp2_with fail
    go_loopg [5] (n + 1) (fun g v5 wr => ∃ (i : Nat), v5 = .int .i64 (i : Int) ∧ i ≤ n ∧ n + 1 - i ≤ g ∧ Hid (Kp w wr ∧ ∀ j, j < i → L[j]? = M[j]?))
    case atStart => exact ⟨0, rfl, by omega, by omega, Kp.refl w, fun j hj => by omega⟩
    case round =>
      obtain ⟨i, rfl, hi, hg, HL⟩ := hrel
      have y2 : (i : Int) ≤ n := by omega
      by_cases e : i < n
      · have z1 : (i : Int) < n := by omega
        have lx : i < L.length := by have := HN.out.2; omega
        have ly : i < M.length := by have := HN.out.1; omega
        obtain ⟨x, hx⟩ : ∃ x, L[i]? = some x := ⟨_, List.getElem?_eq_getElem lx⟩
        obtain ⟨y, hy⟩ : ∃ y, M[i]? = some y := ⟨_, List.getElem?_eq_getElem ly⟩
        obtain ⟨ga, oa, rfl, hca⟩ := (FA.out.kp HL.out.1).elem LTfr_ok hx
        obtain ⟨gb, ob, rfl, hcb⟩ := (FB.out.kp HL.out.1).elem LTfr_ok hy
        have cA := hca 0 _ rfl
        have cB := hcb 0 _ rfl
        simp only [show LTfr.sz = 1 from rfl, Nat.add_zero, Nat.mul_one] at cA cB
        clear FA FB hca hcb lx ly
        by_cases exy : x = y
        · have qt : ((x : Int) == (y : Int)) = true := by rw [exy]; exact beq_self_eq_true _
          have hxy : L[i]? = M[i]? := by rw [hx, hy, exy]
          have HL2 : Hid (Kp w wr ∧ ∀ j, j < i + 1 → L[j]? = M[j]?) := ⟨HL.out.1, fun j hj => by
            by_cases ej : j = i
            · rw [ej]; exact hxy
            · exact HL.out.2 j (by omega)⟩
          clear HL hx hy exy hxy
          go_wp2_with fail
          go_quiet (fail)
          go_wp2_with fail
          go_roundg (n + 1 - (i + 1))
          case measure => omega
          case rel => exact ⟨i + 1, by go_num, by omega, by omega, HL2.out.1.drewN _, HL2.out.2⟩
        · have qf : ((x : Int) == (y : Int)) = false := by rw [beq_eq_false_iff_ne]; omega
          have er : r = false := by
            rw [← HR.out]
            exact decide_eq_false (fun h => exy (by rw [h, hy] at hx; exact (Option.some.inj hx).symm))
          subst er
          have HK : Hid (Kp w wr) := HL.out.1
          clear HL hx hy exy
          go_wp2_with fail
          go_quiet (fail)
          go_wp2_with fail
          go_ret
          exact ⟨rfl, HK.out.drewN _⟩
      · have ei : i = n := by omega
        subst ei
        have er : r = true := by
          rw [← HR.out]
          refine decide_eq_true (List.ext_getElem? fun j => ?_)
          by_cases hj : j < i
          · exact HL.out.2 j hj
          · rw [List.getElem?_eq_none (by have := HN.out.2; omega), List.getElem?_eq_none (by have := HN.out.1; omega)]
        subst er
        have HK : Hid (Kp w wr) := HL.out.1
        clear HL
        go_wp2_with fail
        go_ret
        exact ⟨rfl, HK.out⟩
  · have er : decide (L = M) = false := decide_eq_false (fun h => he (by rw [h]))
    rw [er]
    have yy : ((L.length : Int) == (M.length : Int)) = false := by rw [beq_eq_false_iff_ne]; omega
    have yn : ¬ (L.length : Int) = (M.length : Int) := by omega
    generalize L.length = a at *
    generalize M.length = c at *
    clear fA fB er he hl
    go_enter Tryd.func40, Tryd.ntmps40
    go_wp2_with fail
    go_ret
    exact ⟨rfl, Kp.refl w⟩
end

end Go.Proofs.YtpjlmmiceiionaaDoor

/- A page out of a few bytes. -/
namespace Go.Proofs.YtpjlmmiceiionaaDoor
open Go.RowKit Go.Maps
set_option maxRecDepth 10000

theorem wf_byte {n : Int} (h : (Lit.int .u8 n).wf = true) : 0 ≤ n ∧ n < 256 := by
  simp [Lit.wf, IntKind.min, IntKind.max, IntKind.bits, IntKind.signed] at h
  omega

theorem BS.fr {w w' : World} {b o m : Nat} {f : Nat → Nat} (h : BS w b o m f) {S : Nat → Prop} (k : Fr S w w') (hS : ¬ S b) : BS w' b o m f :=
  ⟨Nat.lt_of_lt_of_le h.lt k.size, fun i hi => by rw [World.cell?_of_block (a := ⟨b, o + i, none⟩) (k.block b h.lt hS)]; exact h.cell i hi, fun i hi => by rw [World.frozen?_of_block (a := ⟨b, o + i, none⟩) (k.block b h.lt hS)]; exact h.frz i hi, h.byte⟩

set_option maxHeartbeats 2000000 in
set_option maxRecDepth 100000 in
theorem page_any (na nb : Option Addr) (m cap mb capb : Nat) (fa fb : Nat → Int) (w : World) (NA : NSK .i64 w na m fa) (NB : NSK .u8 w nb mb fb) :
    Calls Tryd.prog 16 #[.slice na m cap, .slice nb mb capb] w fun e w' => e = .returned (.slice (some ⟨w.heap.size, 0, none⟩) 4096 4096) ∧ (∃ f, BS w' w.heap.size 0 4096 f) ∧ w'.heap.size = w.heap.size + 1 ∧ Kp w w' := by
  have hmk := make_page
  have AA : Aside (NSK .i64 w na m fa) := NA
  have BB : Aside (NSK .u8 w nb mb fb) := NB
  have R0 : Hid (BS (w.alloc (.cells (bytesOf z0 4096).toArray 5)) w.heap.size 0 4096 z0) := (RB.made w 4096).bs z0_byte
  clear NA NB
  generalize (bytesOf z0 4096).toArray = A at *
  go_enter Tryd.func16, Tryd.ntmps16
  go_wp2_with fail
  clear hmk
  go_loopg [6] 64 (fun g v6 wr => ∃ (i : Nat) (f : Nat → Nat), v6 = .int .i64 i ∧ i ≤ 64 ∧ 64 - i ≤ g ∧ Hid (BS wr w.heap.size 0 4096 f) ∧ Hid (wr.heap.size = w.heap.size + 1) ∧ Hid (Kp w wr))
  case atStart => exact ⟨0, z0, by go_num, by omega, by omega, R0, (show _ = _ by simp), (Kp.refl w).alloc _⟩
  case round =>
    obtain ⟨i, f, rfl, hi, hg, HB, HS, HK⟩ := hrel
    by_cases hlt : i < m ∧ i < mb ∧ i < 64
    · obtain ⟨h1, h2, h3⟩ := hlt
      have y1 : (i : Int) < m := by omega
      have y2 : (i : Int) < mb := by omega
      have y3 : (i : Int) < 64 := by omega
      obtain ⟨⟨ab, ao, rfl, q1, q2⟩, _⟩ := AA.out i h1
      obtain ⟨⟨bb, bo, rfl, q3, q4⟩, q5⟩ := BB.out i h2
      rw [← HK.out.cell (p := ⟨ab, ao + i, none⟩) q1] at q2
      rw [← HK.out.cell (p := ⟨bb, bo + i, none⟩) q3] at q4
      obtain ⟨v, hv, hv2⟩ : ∃ v : Nat, fb i = (v : Int) ∧ v < 256 := ⟨(fb i).toNat, by have := wf_byte q5; omega, by have := wf_byte q5; omega⟩
      obtain ⟨t, p, e1, e2, e3, e4, e5⟩ := place_of (fa i) 4096 (by decide)
      rw [show ((4096 : Nat) : Int) = 4096 from rfl] at e1 e2 e3 e4
      rw [hv] at q4
      generalize fa i = x at *
      have k1 := HB.out.cell p e5
      have k2 := HB.out.frz p e5
      have H2 := (HB.out.set p v e5 hv2).kp (Kp.refl _).drew
      have K2 := (HK.out.set ⟨w.heap.size, 0 + p, none⟩ (.int .u8 (v : Nat)) (Nat.le_refl _)).drew
      rw [Nat.zero_add] at k1 k2 H2 K2
      generalize f p = u at k1
      have HB2 : Hid _ := H2
      have HK2 : Hid _ := K2
      clear hv q5 H2 K2 HB HK
      have e6 : (p : Int) < 4096 := by omega
      go_wp2_with fail
      go_region
      go_wp2
      go_roundg (64 - (i + 1))
      case measure => omega
      case rel => exact ⟨i + 1, _, by go_num, by omega, by omega, HB2, (show _ = _ by have := HS.out; simpa using this), HK2⟩
    · have out : ∀ Z : Prop, (¬ (i : Int) < m → Z) → ((i : Int) < m → ¬ (i : Int) < mb → Z) → ((i : Int) < m → (i : Int) < mb → ¬ (i : Int) < 64 → Z) → Z := fun Z k1 k2 k3 => by
        by_cases h : i < m
        · by_cases h' : i < mb
          · exact k3 (by omega) (by omega) (by omega)
          · exact k2 (by omega) (by omega)
        · exact k1 (by omega)
      refine out _ (fun y1 => ?_) (fun y1 y2 => ?_) (fun y1 y2 y3 => ?_)
      · clear out hlt
        go_wp2
        go_ret
        exact ⟨rfl, ⟨f, HB.out⟩, HS.out, HK.out⟩
      · clear out hlt
        go_wp2
        go_ret
        exact ⟨rfl, ⟨f, HB.out⟩, HS.out, HK.out⟩
      · clear out hlt
        go_wp2
        go_ret
        exact ⟨rfl, ⟨f, HB.out⟩, HS.out, HK.out⟩

end Go.Proofs.YtpjlmmiceiionaaDoor

/- index: a few, told. -/
namespace Go.Proofs.YtpjlmmiceiionaaDoor
open Go.RowKit Go.Maps
set_option maxRecDepth 10000

theorem FrI.kp {w w' : World} {X : Nat → Prop} (h : FrI X w w') (hX : ∀ k, k < w.heap.size → X k) : Kp w w' := ⟨h.os, h.tape, h.output, h.size, fun k hk => h.block k hk (fun c => c (hX k hk))⟩
theorem FrI.up {w0 w w' : World} {X : Nat → Prop} (h : FrI X w w') (k : Kp w0 w) (hX : ∀ k, k < w0.heap.size → X k) : Kp w0 w' :=
  Fr.kp h k (fun i hi => by
    by_cases c : i < w0.heap.size
    · exact absurd (hX i c) hi
    · omega)
theorem FrI.bs {w w' : World} {X : Nat → Prop} (h : FrI X w w') {b n : Nat} {f : Nat → Nat} (H : BS w b 0 n f) (hb : X b) : BS w' b 0 n f := H.fr h (fun c => c hb)

/-- The digests when the frames 0 and 1 are in. -/
def S2o (d0 : CN) : Nat → Option CN := setS (setS (fun _ => none) 0 (some d0)) 1 (some d0)
theorem S2o_iff (d0 : CN) (i : Nat) (d : CN) : S2o d0 i = some d ↔ (i = 0 ∨ i = 1) ∧ d = d0 := by
  unfold S2o setS
  by_cases c1 : i = 1
  · subst c1; simp [eq_comm]
  · rw [if_neg c1]
    by_cases c0 : i = 0
    · subst c0; simp [eq_comm]
    · rw [if_neg c0]; simp [c0, c1]
theorem S2o_mk (d0 d : CN) : mkD (S2o d0) 12 d = if d = d0 then 3 else 0 := by
  apply Nat.eq_of_testBit_eq
  intro i
  rw [mkD_bit]
  by_cases c : d = d0
  · rw [if_pos c]
    subst c
    have : (3 : Nat).testBit i = decide (i = 0 ∨ i = 1) := by
      have h := Nat.testBit_two_pow_sub_one 2 i
      rw [show (2 : Nat) ^ 2 - 1 = 3 from rfl] at h
      rw [h]
      exact decide_eq_decide.2 (by omega)
    rw [this, ← Bool.decide_and]
    refine decide_eq_decide.2 ?_
    rw [S2o_iff]
    constructor
    · rintro ⟨_, h, _⟩; exact h
    · intro h; exact ⟨by omega, h, rfl⟩
  · rw [if_neg c, Nat.zero_testBit, decide_eq_false (p := S2o d0 i = some d) (fun h => c ((S2o_iff d0 i d).1 h).2)]
    simp
theorem blF_3 : blF 3 = [0, 1] := by decide +kernel
theorem S2o_alike {w : World} {b : Nat} {v : Value} {L : List GE} {D : CN → Prop} {d0 : CN} (h : GrS w b v L D (mkD (S2o d0) 12)) (hD : ∀ d, mkD (S2o d0) 12 d ≠ 0 → D d) : ∃ e, L = [e] ∧ AX LTfr w b (geV e) [0, 1] := by
  have m0 : mkD (S2o d0) 12 d0 = 3 := by rw [S2o_mk, if_pos rfl]
  have one : ∀ e ∈ L, AX LTfr w b (geV e) [0, 1] ∧ e.2 = 0 := fun e he => by
    obtain ⟨d, _, q1, q2, q3⟩ := h.all e he
    have hd : d = d0 := Classical.byContradiction fun c => by
      rw [S2o_mk, if_neg c, blF_0] at q1
      simp at q1
    rw [hd, m0, blF_3] at q2 q3
    exact ⟨q2, q3⟩
  obtain ⟨e, he, _⟩ := h.back d0 (hD d0 (by rw [m0]; decide)) (by rw [m0, blF_3]; decide)
  refine ⟨e, ?_, (one e he).1⟩
  cases hL : L with
  | nil => rw [hL] at he; cases he
  | cons x l =>
    cases l with
    | nil => rw [hL] at he; simp at he; rw [he]
    | cons y l =>
      have nd := h.nd
      have hx := (one x (by rw [hL]; simp)).2
      have hy := (one y (by rw [hL]; simp)).2
      rw [hL] at nd
      simp [hx, hy] at nd
theorem S2o_count {d0 : CN} {Ks : List Int} (nd : Ks.Nodup) (h : ∀ x, x ∈ Ks ↔ (sgI (S2o d0) x).isSome = true) : Ks.length = 2 := by
  have e : ∀ x, (sgI (S2o d0) x).isSome = true ↔ x = 0 ∨ x = 1 := fun x => by
    unfold sgI
    by_cases c : 0 ≤ x
    · rw [if_pos c, Option.isSome_map, Option.isSome_iff_exists]
      constructor
      · rintro ⟨d, hd⟩
        have := ((S2o_iff d0 _ d).1 hd).1
        omega
      · intro hx
        exact ⟨d0, (S2o_iff d0 _ d0).2 ⟨by omega, rfl⟩⟩
    · rw [if_neg c]
      constructor
      · intro h; cases h
      · intro h; omega
  have : Ks.Perm [0, 1] := (List.perm_ext_iff_of_nodup nd (by decide)).2 fun x => by rw [h x, e x]; simp
  rw [this.length_eq]; rfl
theorem z0_far {F : Nat → Nat → Nat} {x : Nat} (h : F x 0 ≠ 0) : alike (F x) z0 4096 = false := by
  cases e : alike (F x) z0 4096
  · rfl
  · exact absurd ((alike_iff _ _ _).1 e 0 (by decide)) h

end Go.Proofs.YtpjlmmiceiionaaDoor
