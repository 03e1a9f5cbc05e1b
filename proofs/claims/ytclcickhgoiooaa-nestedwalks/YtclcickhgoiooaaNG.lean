/- nested: the reader of words that are known; wayBy. -/
import Derived.Test.YtclcickhgoiooaaNF
import Derived.Test.YtclcickhgoiooaaZW
namespace Go.Proofs.Ytclcickhgoiooaa
open Go.RowKit
set_option maxRecDepth 10000

/-- v is a slice of the words A, in a block below n0. -/
def KS (n0 : Nat) (w : World) (v : Value) (A : List Nat) : Prop := ∃ na cap, v = .slice na A.length cap ∧ A.length ≤ cap ∧ (A ≠ [] → ∃ g o, na = some ⟨g, o, none⟩ ∧ g < n0 ∧ ∀ (i x : Nat), A[i]? = some x → w.cell? ⟨g, o + i, none⟩ = some (.int .u64 (x : Int)))
theorem KS.below {n0 : Nat} {w w' : World} {v : Value} {A : List Nat} (h : KS n0 w v A) (k : Go.RowKit.Below n0 w w') : KS n0 w' v A := by
  obtain ⟨na, cap, e, hc, h⟩ := h
  refine ⟨na, cap, e, hc, fun hA => ?_⟩
  obtain ⟨g, o, e1, e2, e3⟩ := h hA
  exact ⟨g, o, e1, e2, fun i x hx => (Go.RowKit.Below.cell k e2).trans (e3 i x hx)⟩
theorem KS.of {w : World} {v : Value} {A : List Nat} (h : UW w v A) {n0 : Nat} (hn : w.heap.size ≤ n0) : KS n0 w v A := by
  obtain ⟨na, cap, rfl, hc, h2⟩ := OL.form h
  refine ⟨na, cap, rfl, hc, fun hA => ?_⟩
  rcases h2 with ⟨_, _, rfl⟩ | ⟨g, rfl, hg⟩
  · exact absurd rfl hA
  · exact ⟨g, 0, rfl, by omega, fun i x hx => by rw [Nat.zero_add]; exact UW.cell h hx⟩
theorem slice_tail (w : World) (g o n cap : Nat) (h : n + 1 ≤ cap) : ∃ na, (Instr.sliceAt 27 (.slice (some ⟨g, o, none⟩) (n + 1) cap) (some (.int .i64 1)) none none).run Try.prog w = .ok (.slice na n (cap - 1)) w ∧ (1 ≤ n → na = some ⟨g, o + 1, none⟩) := by
  have hu : Try.prog.underlying 27 = some (.slice (Try.prog.elem 27)) := by kernel_rfl
  have e := run_slice_l (P := Try.prog) (w := w) 27 (some ⟨g, o, none⟩) (n + 1) cap hu .i64 1 (by decide) (by omega)
  have s1 : (sizeOf (Try.prog.elem 27)).run Try.prog w = .ok 1 w := by rfl
  have e2 : (Instr.sliceAt 27 (.slice (some ⟨g, o, none⟩) (n + 1) cap) (some (.int .i64 1)) none none).run Try.prog w = .ok (sliced (some ⟨g, o, none⟩) (1 : Int).toNat (n + 1) cap 1) w := by
    rw [run_sliceAt_slice (P := Try.prog) (w := w) 27 _ _ _ _ hu, e, s1]; rfl
  refine ⟨_, e2, fun hn => ?_⟩
  show (if cap = 1 then _ else _) = _
  rw [if_neg (by omega)]
  show some ((Addr.mk g o none).add (1 * 1)) = _
  rw [add_at]

/-- What is told of the words K. -/
def rdK (K : List Nat) (n : Nat) : Nat × Bool := match K[n]? with | some x => (x, true) | none => (0, false)
def lkN (K h : List Nat) : Nat := if K.length < h.length then h.getLastD 0 else 0
structure KI (m0 n0 c d : Nat) (K h : List Nat) (w : World) : Prop where
  kn : ∃ v, RX w c 27 [v] ∧ KS m0 w v (K.drop h.length)
  la : RX w d 23 [.int .u64 (lkN K h : Int)]
  sz : n0 ≤ w.heap.size
theorem KS.fr {m0 : Nat} {w w' : World} {v : Value} {A : List Nat} (h : KS m0 w v A) {S : Nat → Prop} (k : Fr S w w') (hS : ∀ b, S b → m0 ≤ b) (hm : m0 ≤ w.heap.size) : KS m0 w' v A := h.below (k.below hm hS)
theorem lk_more (K h : List Nat) (p : Nat) (hl : K.length ≤ h.length) : lkN K (h ++ [p]) = p := by
  unfold lkN
  rw [if_pos (by rw [List.length_append, List.length_singleton]; omega)]
  simp
theorem lk_less (K h : List Nat) (p : Nat) (hl : h.length < K.length) : lkN K (h ++ [p]) = 0 := by
  unfold lkN
  rw [if_neg (by rw [List.length_append, List.length_singleton]; omega)]
theorem lk_none (K h : List Nat) (hl : h.length ≤ K.length) : lkN K h = 0 := by
  unfold lkN
  rw [if_neg (by omega)]
set_option maxHeartbeats 1000000 in
theorem readK {m0 n0 c d : Nat} {K : List Nat} (hK : ∀ x ∈ K, x < 18446744073709551616) (hm1 : m0 ≤ c) (hm2 : m0 ≤ d) (hc : c < n0) (hd : d < n0) (hcd : c ≠ d) :
    RDH n0 77 #[] #[.pointer (some ⟨c, 0, none⟩), .pointer (some ⟨d, 0, none⟩)] (fun n _ => rdK K n) (fun b => b = c ∨ b = d) (KI m0 n0 c d K) where
  fn := ⟨_, Try.func77, rfl, by decide⟩
  lt b h := by rcases h with rfl | rfl <;> assumption
  word n p := by
    unfold rdK
    split
    · rename_i x hx; exact hK x (List.mem_of_getElem? hx)
    · show 0 < _; decide
  keep h w w' H k := by
    obtain ⟨v, v1, v2⟩ := H.kn
    exact ⟨⟨v, (k.block c hc).trans v1, v2.below (Go.RowKit.Below.mono k (by omega))⟩, (k.block d hd).trans H.la, Nat.le_trans H.sz k.size⟩
  size h w H := H.sz
  call h w p H hn hp := by
    obtain ⟨v, v1, v2⟩ := H.kn
    have v3 := H.la
    have sz := H.sz
    obtain ⟨na, cap, rfl, hcap, hA⟩ := v2
    by_cases hl : h.length < K.length
    · obtain ⟨x, hx⟩ : ∃ x, K[h.length]? = some x := ⟨_, List.getElem?_eq_getElem hl⟩
      have hr : rdK K h.length = (x, true) := by unfold rdK; rw [hx]
      have ed : K.drop h.length = x :: K.drop (h.length + 1) := by rw [List.drop_eq_getElem_cons hl]; congr 1; rw [List.getElem?_eq_getElem hl] at hx; cases hx; rfl
      rw [ed] at hA hcap v1
      obtain ⟨g, o, rfl, hg, hcell⟩ := hA (by simp)
      have c0 : w.cell? ⟨g, o, none⟩ = some (.int .u64 (x : Int)) := by have := hcell 0 x rfl; rwa [Nat.add_zero] at this
      obtain ⟨nb, r1, r2⟩ := slice_tail w g o (K.drop (h.length + 1)).length cap (by simpa using hcap)
      rw [List.length_cons] at v1 hcap
      have d0 : w.cell? ⟨c, 0, none⟩ = some (.slice (some ⟨g, o, none⟩) ((K.drop (h.length + 1)).length + 1) cap) := v1.cell rfl
      have f0 := v1.fz 0
      rw [hr]
      have HE : Hid (KI m0 n0 c d K (h ++ [p]) (w.setCell ⟨c, 0, none⟩ (.slice nb (K.drop (h.length + 1)).length (cap - 1))) ∧ Fr (fun b => b = c ∨ b = d) w (w.setCell ⟨c, 0, none⟩ (.slice nb (K.drop (h.length + 1)).length (cap - 1)))) := by
        have F : Fr (fun b => b = c ∨ b = d) w (w.setCell ⟨c, 0, none⟩ (.slice nb (K.drop (h.length + 1)).length (cap - 1))) := (Fr.refl _ w).set _ _ (.inl rfl)
        have F2 : Fr (· = c) w (w.setCell ⟨c, 0, none⟩ (.slice nb (K.drop (h.length + 1)).length (cap - 1))) := (Fr.refl _ w).set _ _ rfl
        refine ⟨⟨⟨_, v1.put (U := [.slice nb (K.drop (h.length + 1)).length (cap - 1)]) rfl, ?_⟩, ?_, Nat.le_trans sz F.size⟩, F⟩
        · rw [List.length_append, List.length_singleton]
          refine ⟨nb, cap - 1, rfl, by omega, fun hne => ?_⟩
          refine ⟨g, o + 1, r2 (by have := List.length_pos_iff.2 hne; omega), hg, fun i y hy => ?_⟩
          have := hcell (i + 1) y (by simpa using hy)
          rw [show o + 1 + i = o + (i + 1) by omega]
          exact (F.cell (a := ⟨g, o + (i + 1), none⟩) (by show g < _; omega) (by show ¬ (g = c ∨ g = d); omega)).trans this
        · rw [lk_less K h p hl]
          rw [lk_none K h (by omega)] at v3
          exact v3.fr F2 (fun e => hcd e.symm)
      have z1 : ((K.drop (h.length + 1)).length : Int) < 1000000 ∨ True := .inr trivial
      generalize (K.drop (h.length + 1)).length = n at *
      clear H v1 v3 sz hcap hA ed hr hcell hg hn r2 hx hl z1
      show Calls Try.prog 77 #[.int .u64 (p : Int), .pointer (some ⟨c, 0, none⟩), .pointer (some ⟨d, 0, none⟩)] w fun e w' => e = .returned (.tuple #[.int .u64 (x : Int), .bool true]) ∧ KI m0 n0 c d K (h ++ [p]) w' ∧ Fr (fun b => b = c ∨ b = d) w w'
      go_enter Try.func77, Try.ntmps77
      go_wp2
      go_ret2
      exact ⟨rfl, HE.out⟩
    · have hr : rdK K h.length = (0, false) := by unfold rdK; rw [List.getElem?_eq_none (by omega)]
      have ed : K.drop h.length = [] := List.drop_eq_nil_iff.2 (by omega)
      rw [ed] at hA hcap v1
      have d0 : w.cell? ⟨c, 0, none⟩ = some (.slice na 0 cap) := v1.cell rfl
      have e0 := v3.cell (j := 0) rfl
      have f0 := v3.fz 0
      rw [hr]
      have HE : Hid (KI m0 n0 c d K (h ++ [p]) (w.setCell ⟨d, 0, none⟩ (.int .u64 (p : Int))) ∧ Fr (fun b => b = c ∨ b = d) w (w.setCell ⟨d, 0, none⟩ (.int .u64 (p : Int)))) := by
        have F : Fr (fun b => b = c ∨ b = d) w (w.setCell ⟨d, 0, none⟩ (.int .u64 (p : Int))) := (Fr.refl _ w).set _ _ (.inr rfl)
        have F2 : Fr (· = d) w (w.setCell ⟨d, 0, none⟩ (.int .u64 (p : Int))) := (Fr.refl _ w).set _ _ rfl
        refine ⟨⟨⟨_, v1.fr F2 hcd, ?_⟩, ?_, Nat.le_trans sz F.size⟩, F⟩
        · rw [List.length_append, List.length_singleton, List.drop_eq_nil_iff.2 (by omega)]
          exact ⟨na, cap, rfl, Nat.zero_le _, fun hne => absurd rfl hne⟩
        · rw [lk_more K h p (by omega)]
          exact v3.put (U := [.int .u64 (p : Int)]) rfl
      clear H v1 v3 sz hcap hA ed hr hn
      show Calls Try.prog 77 #[.int .u64 (p : Int), .pointer (some ⟨c, 0, none⟩), .pointer (some ⟨d, 0, none⟩)] w fun e w' => e = .returned (.tuple #[.int .u64 0, .bool false]) ∧ KI m0 n0 c d K (h ++ [p]) w' ∧ Fr (fun b => b = c ∨ b = d) w w'
      go_enter Try.func77, Try.ntmps77
      go_wp2
      go_ret2
      exact ⟨rfl, HE.out⟩

/-- wayBy, of a list of words that are known. -/
def wyH (K : List Nat) (root u : Nat) : List SV × Int × List Nat := goH 1 u (fun n _ => rdK K n) 4 0 root
theorem res_wy {w : World} {b : Nat} {fn : Func} {c d e : Tmp} {tmps : Array Value} {x : Int} (hf : fn.results = #[.tmp c, .tmp d, .cell e 23]) (he : tmps.getD e undef = .pointer (some ⟨b, 0, none⟩)) (B : RX w b 23 [.int .u64 x]) :
    (results fn tmps).run Try.prog w = .ok (.tuple #[tmps.getD c undef, tmps.getD d undef, .int .u64 x]) w := by
  have he' : tmps[e]?.getD undef = .pointer (some ⟨b, 0, none⟩) := by simpa using he
  have c0 := B.cell (j := 0) rfl
  simp [results, hf, he', asAddr, go_sem, c0]
set_option maxHeartbeats 4000000 in
theorem wayBy_any {w : World} {na : Option Addr} {n cap : Nat} {K : List Nat} (h : UW w (.slice na n cap) K) (hK : ∀ x ∈ K, x < 18446744073709551616) (root u : Nat) (hr : root < 18446744073709551616) (hu : u < 18446744073709551616) :
    Calls Try.prog 61 #[.slice na n cap, .int .u64 (root : Int), .int .u64 (u : Int)] w fun e w' => e = .returned (.tuple #[.slice (some ⟨w.heap.size + 2, 0, none⟩) (wyH K root u).1.length 4, .int .i64 (wyH K root u).2.1, .int .u64 (lkN K (wyH K root u).2.2 : Int)]) ∧ WL w' (w.heap.size + 2) (wyH K root u).1 ∧ Kp w w' := by
  obtain ⟨w2, hw2⟩ : ∃ w2, w2 = (w.alloc (.cells #[.slice na n cap] 27)).alloc (.cells #[.int .u64 0] 23) := ⟨_, rfl⟩
  have k2 : Kp w w2 := by rw [hw2]; exact ((Kp.refl w).alloc _).alloc _
  have z2 : w2.heap.size = w.heap.size + 2 := by rw [hw2]; simp
  have X2 : RX w2 w.heap.size 27 [.slice na n cap] := by rw [hw2]; exact (RX.made w _ _).kp ((Kp.refl _).alloc _)
  have D2 : RX w2 (w.heap.size + 1) 23 [.int .u64 0] := by
    rw [hw2]
    have := RX.made (w.alloc (.cells #[.slice na n cap] 27)) 23 [.int .u64 0]
    rw [show (w.alloc (.cells #[.slice na n cap] 27)).heap.size = w.heap.size + 1 by simp] at this
    exact this
  have kw := walk_h (readK (m0 := w.heap.size) (n0 := w2.heap.size) (c := w.heap.size) (d := w.heap.size + 1) (K := K) hK (by omega) (by omega) (by omega) (by omega) (by omega)) 1 (by decide) root u hr hu w2 ⟨⟨_, X2, (KS.of h (Nat.le_refl _)).below k2⟩, by rw [lk_none K [] (by simp)]; exact D2, Nat.le_refl _⟩
  change Calls _ _ _ _ (fun e w' => e = .returned (.tuple #[.slice (some ⟨w2.heap.size, 0, none⟩) (wyH K root u).1.length 4, .int .i64 (wyH K root u).2.1]) ∧ WL w' w2.heap.size (wyH K root u).1 ∧ KI w.heap.size w2.heap.size w.heap.size (w.heap.size + 1) K (wyH K root u).2.2 w' ∧ Fr _ w2 w') at kw
  rw [z2] at kw
  generalize (wyH K root u).2.2 = H at *
  generalize (wyH K root u).2.1 = k at *
  generalize (wyH K root u).1 = L at *
  have HH : Hid (Kp w w2) := k2
  clear k2 z2 X2 D2 h hK hr hu
  go_enter Try.func61, Try.ntmps61
  go_wp2_with fail
  rw [← hw2]
  with_reducible refine kw.mono ?_
  rintro e w3 ⟨rfl, L3, I3, F3⟩
  have D3 := I3.la
  have K3 : Kp w w3 := F3.kp HH.out (fun i hi => by omega)
  have e0 := D3.cell (j := 0) rfl
  have f0 := D3.fz 0
  have HE : Hid (RX w3 (w.heap.size + 1) 23 [.int .u64 (lkN K H : Int)] ∧ WL w3 (w.heap.size + 2) L ∧ Kp w w3) := ⟨D3, L3, K3⟩
  clear D3 K3 L3 I3 F3 kw hw2 HH
  go_wp2_with fail
  go_region
  all_goals
    go_wp2
    have R1 := HE.out.1.put (U := [.int .u64 (lkN K H : Int)]) rfl
    have F1 := putR_fr w3 (w.heap.size + 1) 0 [.int .u64 (lkN K H : Int)]
    replace R1 := R1.kp (Kp.refl _).drew
    replace F1 := F1.trans ((Kp.refl _).drew.fr _)
    exact bodyPost_ret (res_wy rfl rfl R1) rfl ⟨rfl, HE.out.2.1.fr F1 (by omega), F1.kp HE.out.2.2 (fun i hi => by omega)⟩

end Go.Proofs.Ytclcickhgoiooaa
