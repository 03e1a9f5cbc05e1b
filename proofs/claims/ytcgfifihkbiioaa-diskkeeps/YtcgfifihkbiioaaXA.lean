/- DiskKeeps: the walk. -/
import Derived.Test.YtcgfifihkbiioaaX9
import Derived.Test.YtcgfifihkbiioaaX7
namespace Go.Proofs.Ytcgfifihkbiioaa
open Go.RowKit Go.Maps

/-- The page of the slot x: x + 1 at a. -/
def kp1 (a x : Nat) : Nat → Nat := upd z0 a (x + 1)
/-- The first i slots are taken, each with its number. -/
def KT (a i : Nat) : Slots := fun x => if x < i then some (kp1 a x) else none
theorem KT_on {a i x : Nat} (h : x < i) : KT a i x = some (kp1 a x) := if_pos h
theorem KT_off {a i x : Nat} (h : ¬ x < i) : KT a i x = none := if_neg h
theorem KT_zero (a : Nat) : KT a 0 = fun _ => none := by funext x; exact if_neg (by omega)
theorem KT_next (a i : Nat) : putT (putT (KT a i) i z0) i (kp1 a i) = KT a (i + 1) := by
  funext x
  by_cases e : x = i
  · subst e; rw [putT_same, KT_on (by omega)]
  · rw [putT_other _ _ _ _ e, putT_other _ _ _ _ e]
    unfold KT
    by_cases c : x < i
    · rw [if_pos c, if_pos (by omega)]
    · rw [if_neg c, if_neg (by omega)]
theorem KT_same (a i x : Nat) (h : x < i) : putT (KT a i) x (kp1 a x) = KT a i := by
  funext y
  by_cases e : y = x
  · subst e; rw [putT_same, KT_on h]
  · rw [putT_other _ _ _ _ e]
theorem KT_has {a i x : Nat} (h : x < i) : hasT (KT a i) (x : Int) = true := by rw [hasT_nat, KT_on h]; rfl
theorem KT_rdF {a i x : Nat} (h : x < i) : rdF (KT a i) (x : Int) = kp1 a x := by unfold rdF; rw [Int.toNat_natCast, KT_on h]; rfl
theorem KT_full (a n : Nat) : tkn (KT a n) n = n := by
  rw [tkn_all]
  by_cases c : lst (KT a n) n < n
  · have := lst_off _ _ c
    rw [KT_on c] at this; cases this
  · have := lst_le (KT a n) n; omega
theorem KT_wrT {a n x : Nat} (h : x < n) (A : List Bool) (m : Nat) : wrT (KT a n) A (x : Int) m (kp1 a x) = KT a n := by
  unfold wrT
  split
  · rw [Int.toNat_natCast]; exact KT_same a n x h
  · rfl

def Up (w : World) : Nat → Prop := fun k => w.heap.size ≤ k
structure KI (w wr : World) (p n a i : Nat) (A : List Bool) : Prop where
  du : DU (Up w) wr p n (KT a i) A
  kp : Kp w wr
theorem KI.free {w wr : World} {p n a i : Nat} {A : List Bool} (h : KI w wr p n a i A) : Free (Up w) wr := fun _ hk => Nat.le_trans h.kp.size hk
theorem KI.next {w wr w' : World} {p n a i i' : Nat} {A A' : List Bool} (h : KI w wr p n a i A) (d : DU (Up w) w' p n (KT a i') A') (k : Fr (Up w) wr w') : KI w w' p n a i' A' := ⟨d, k.kp h.kp (fun _ hi => hi)⟩
/-- A page of one's own, x + 1 at a. -/
theorem own_page (W : World) (b a x : Nat) (ha : a < 4096) (hx : x < 255) (hb : b = W.heap.size) (W1 W2 : World) (h1 : W1 = W.alloc (.cells (bytesOf z0 4096).toArray 5)) (h2 : W2 = W1.setCell ⟨b, a, none⟩ (.int .u8 ((x : Int) + 1))) :
    W1.cell? ⟨b, a, none⟩ = some (.int .u8 0) ∧ W1.frozen? ⟨b, a, none⟩ = false ∧ BS W2 b 0 4096 (kp1 a x) ∧ Kp W W2 := by
  subst h1 h2 hb
  have bs := (RB.made W 4096).bs z0_byte
  have c := bs.cell a ha
  have f := bs.frz a ha
  have s := bs.set a (x + 1) ha (by omega)
  rw [Nat.zero_add] at c f s
  exact ⟨c, f, s, ((Kp.refl W).alloc _).set _ _ (Nat.le_refl _)⟩
/-- .. written into a slot that is taken. -/
theorem KI.write {w wr w2 : World} {p n a b x : Nat} {T : Slots} {A : List Bool} (d : DU (Up w) wr p n T A) (hb : b = wr.heap.size) (kw : Kp w wr) (k : Kp wr w2) (bs : BS w2 b 0 4096 (kp1 a x)) (hx : x ≤ 4096) (hh : hasT T (x : Int) = true) :
    Calls Try.prog 14 #[.pointer (some ⟨p, 0, none⟩), .int .i64 (x : Int), .slice (some ⟨b, 0, none⟩) 4096 4096] w2 fun e w' => e = .returned (.int .i64 (if A.headD false = true then 13 else 0)) ∧ DU (Up w) w' p n (wrT T A (x : Int) 4096 (kp1 a x)) A.tail ∧ Kp w w' := by
  have d2 : DU (Bes w b) w2 p n T A := (d.cut (fun i hi h => ⟨h, by omega⟩)).kp k
  have := dd_write d2 (x : Int) (wf_small (by omega)) (some ⟨b, 0, none⟩) 4096 4096 (kp1 a x) bs.byte (fun _ => ⟨b, 0, rfl, bs.lt, fun h => h.2 rfl, bs.cells⟩)
  rw [show wrR T A (x : Int) 4096 = if A.headD false = true then 13 else 0 by unfold wrR; rw [if_pos hh, if_pos rfl], show wrA T A (x : Int) 4096 = A.tail by unfold wrA; rw [if_pos ⟨hh, rfl⟩]] at this
  exact this.mono fun e w' ⟨r1, r2, r3⟩ => ⟨r1, r2.cut (fun _ _ h => h.1), r3.kp (kw.trans k) (fun _ hi => hi.1)⟩
theorem KI.read {w wr : World} {p n a i : Nat} {A : List Bool} (h : KI w wr p n a i A) (x : Nat) (hx : x < i) (hi : i ≤ 4096) :
    Calls Try.prog 16 #[.pointer (some ⟨p, 0, none⟩), .int .i64 (x : Int)] wr fun e w' => ∃ na cap, e = .returned (.tuple #[.slice na (if A.headD false = true then 0 else 4096) cap, .int .i64 (if A.headD false = true then 13 else 0)]) ∧ Told wr w' na (if A.headD false = true then 0 else 4096) (kp1 a x) ∧ KI w w' p n a i A.tail := by
  have := dd_read h.du (x : Int) (wf_small (by omega))
  have hh := KT_has (a := a) hx
  rw [show rdN (KT a i) A (x : Int) = if A.headD false = true then 0 else 4096 by
      unfold rdN
      cases hv : A.headD false
      · rw [if_pos ⟨hh, rfl⟩, if_neg (by decide)]
      · rw [if_neg (fun h => by cases h.2), if_pos rfl], show rdR (KT a i) A (x : Int) = if A.headD false = true then 13 else 0 by unfold rdR; rw [if_pos hh], show rdA (KT a i) A (x : Int) = A.tail by unfold rdA; rw [if_pos hh], KT_rdF hx] at this
  exact this.mono fun e w' ⟨na, cap, r1, r2, r3, r4⟩ => ⟨na, cap, r1, r2, h.next r3 r4⟩

set_option maxHeartbeats 16000000 in
set_option maxRecDepth 100000 in
theorem keeps_walk (n0 at0 : Int) (m r n : Nat) (t : Int) (a k0 : Nat) (na : Option Addr) (mf cap : Nat) (nb : Nat → Bool) (w : World) (H : NS w na mf nb) (hcap : mf ≤ cap) (hna : na = none → cap = 0)
    (e1 : bits .and .i64 n0 63 = (m : Int)) (e2 : (m : Int).tmod 40 = (r : Int)) (e3 : 1 + (r : Int) = (n : Int)) (h1 : 1 ≤ n) (h2 : n ≤ 40)
    (g1 : at0.tmod 4096 = t) (g2 : -4096 < t) (g3 : t < 4096) (g4 : (t + 4096).tmod 4096 = (a : Int)) (ha : a < 4096)
    (hk : k0 ≤ 60) (hkm : k0 ≤ mf) (hmn : (if (60 : Int) < (mf : Int) then 60 else (mf : Int)) = (k0 : Int)) :
    Calls Try.prog 4 #[.int .i64 n0, .slice na mf cap, .int .i64 at0] w fun e w' => e = .returned (.bool true) ∧ Kp w w' := by
  have k1 := dd_new n w (by omega)
  have NN : Aside (NS w na mf nb) := H
  have z1 : (n : Int) ≤ 40 := by omega
  have z0' : (1 : Int) ≤ n := by omega
  have zn : ¬ (n : Int) = 0 := by omega
  have za : (a : Int) < 4096 := by omega
  have zk1 : (k0 : Int) ≤ 60 := by omega
  have zk2 : (k0 : Int) ≤ mf := by omega
  have zk3 : (k0 : Int) ≤ cap := by omega
  have HN : Hid (na = none → k0 = 0 ∧ cap = 0) := (show na = none → k0 = 0 ∧ cap = 0 from fun h => by have := hna h; omega)
  clear H hna
  go_enter Try.func4, Try.ntmps4
  go_wp2_with fail
  with_reducible refine k1.mono ?_
  rintro e w1 ⟨p, rfl, P1, K1⟩
  have I0 : Hid (KI w w1 p n a 0 []) := ⟨by rw [KT_zero]; exact P1, K1⟩
  clear k1 e1 e2 e3 P1 K1
  go_wp2_with fail
  clear g1 g2 g3 g4
  go_loopg [9] (n + 1) (fun g v9 wr => ∃ (i : Nat), v9 = .int .i64 (i : Int) ∧ i ≤ n ∧ n + 1 - i ≤ g ∧ Hid (KI w wr p n a i []))
  case atStart => exact ⟨0, rfl, by omega, by omega, I0⟩
  case round =>
    clear I0
    obtain ⟨i, rfl, hi, hg, HI⟩ := hrel
    by_cases hlt : i < n
    · have y1 : (i : Int) < n := by omega
      have hTi : KT a i i = none := KT_off (by omega)
      have hTn := tkn_ne hTi hlt
      have hl : lst (KT a i) n = i := lst_eq (fun x hx => by rw [KT_on hx]; rfl) hTi hlt
      have k5 : Calls Try.prog 9 #[.pointer (some ⟨p, 0, none⟩)] wr fun e w' => e = .returned (.tuple #[.int .i64 (i : Int), .int .i64 0]) ∧ DU (Up w) w' p n (putT (KT a i) i z0) [] ∧ Fr (Up w) wr w' := by
        have := dd_take HI.out.du HI.out.free
        rw [show tkX n (KT a i) = i by unfold tkX; rw [if_neg hTn, hl], show tkR n (KT a i) = 0 from if_neg hTn, show tkT n (KT a i) = putT (KT a i) i z0 by unfold tkT; rw [if_neg hTn, hl]] at this
        exact this
      clear hTi hTn hl
      go_wp2_with fail
      with_reducible refine k5.mono ?_
      rintro e w5 ⟨rfl, P5, F5⟩
      clear k5
      have K5 := F5.kp HI.out.kp (fun _ hi => hi)
      have hmk := make_page w5
      obtain ⟨b, hb⟩ : ∃ b, b = w5.heap.size := ⟨_, rfl⟩
      obtain ⟨w6, h6⟩ : ∃ w6, w6 = w5.alloc (.cells (bytesOf z0 4096).toArray 5) := ⟨_, rfl⟩
      obtain ⟨w7, h7⟩ : ∃ w7, w7 = w6.setCell ⟨b, a, none⟩ (.int .u8 ((i : Int) + 1)) := ⟨_, rfl⟩
      obtain ⟨c6, f6, bs7, k57⟩ := own_page w5 b a i ha (by omega) hb w6 w7 h6 h7
      have k6 := KI.write P5 hb K5 k57 bs7 (by omega) (by rw [hasT_nat, putT_same]; rfl)
      rw [show wrT (putT (KT a i) i z0) [] (i : Int) 4096 (kp1 a i) = KT a (i + 1) by
        rw [← KT_next]
        unfold wrT
        rw [if_pos ⟨by rw [hasT_nat, putT_same]; rfl, rfl, rfl⟩, Int.toNat_natCast], show (if ([] : List Bool).headD false = true then (13 : Int) else 0) = 0 from rfl] at k6
      rw [← h6, ← hb] at hmk
      have H7 : Hid (w7 = w6.setCell ⟨b, a, none⟩ (.int .u8 ((i : Int) + 1))) := h7
      clear P5 F5 K5 bs7 k57 hb h6 h7 HI
      generalize (bytesOf z0 4096).toArray = ZA at *
      rw [H7.out] at k6
      go_wp2_with fail
      with_reducible refine k6.mono ?_
      rintro e w8 ⟨rfl, P8, K8⟩
      have I8 : Hid (KI w w8 p n a (i + 1) []) := ⟨P8, K8⟩
      clear P8 K8 k6 hmk c6 f6 H7
      go_wp2
      go_roundg (n + 1 - (i + 1))
      case measure => omega
      case rel => exact ⟨i + 1, by go_num, by omega, by omega, I8⟩
    · have e : i = n := by omega
      subst e
      have y1 : ¬ (i : Int) < i := by omega
      have k4 := dd_fail HI.out.du HI.out.free na k0 cap nb ((NN.out.kp HI.out.kp).less hkm) HN.out (by omega)
      go_wp2_with fail
      with_reducible refine k4.mono ?_
      rintro e w3 ⟨rfl, P3, F3⟩
      have I3 : Hid (KI w w3 p i a i (bl nb k0)) := HI.out.next P3 F3
      clear k4 hmn P3 F3 HI hlt hg
      go_wp2_with fail
      go_loopg [14] (k0 + 1) (fun g v14 wr => ∃ (j : Nat), v14 = .int .i64 (j : Int) ∧ j ≤ k0 ∧ k0 + 1 - j ≤ g ∧ Hid (KI w wr p i a i ((bl nb k0).drop j)))
      case atStart => exact ⟨0, rfl, by omega, by omega, I3⟩
      case round =>
        clear I3
        obtain ⟨j, rfl, hj, hgj, HJ⟩ := hrel
        by_cases hlt : j < k0
        · have y2 : (j : Int) < k0 := by omega
          have y3 : (j : Int) < mf := by omega
          have hd := drop_head nb k0 j
          rw [decide_eq_true hlt, Bool.true_and] at hd
          have htl := drop_tail nb k0 j
          obtain ⟨fb0, fo0, rfl, r1, r2⟩ := NN.out j (by omega)
          obtain ⟨q, hq, hq3⟩ : ∃ q : Nat, (j : Int).tmod 3 = (q : Int) ∧ q < 3 := ⟨j % 3, by rw [Int.tmod_eq_emod_of_nonneg (by omega)]; omega, by omega⟩
          obtain ⟨s, hs, hsn⟩ : ∃ s : Nat, (j : Int).tmod i = (s : Int) ∧ s < i := ⟨j % i, by rw [Int.tmod_eq_emod_of_nonneg (by omega)]; omega, Nat.mod_lt _ (by omega)⟩
          have y4 : (s : Int) < i := by omega
          have FC : Aside (∀ w', Kp w w' → w'.cell? ⟨fb0, fo0 + j, none⟩ = some (.bool (nb j))) := fun w' k => (k.cell (p := ⟨fb0, fo0 + j, none⟩) r1).trans r2
          clear r1 r2
          by_cases hq0 : q = 0
          · subst hq0
            have hmk := make_page wr
            obtain ⟨b, hb⟩ : ∃ b, b = wr.heap.size := ⟨_, rfl⟩
            obtain ⟨w6, h6⟩ : ∃ w6, w6 = wr.alloc (.cells (bytesOf z0 4096).toArray 5) := ⟨_, rfl⟩
            obtain ⟨w7, h7⟩ : ∃ w7, w7 = w6.setCell ⟨b, a, none⟩ (.int .u8 ((s : Int) + 1)) := ⟨_, rfl⟩
            obtain ⟨c6, f6, bs7, k57⟩ := own_page wr b a s ha (by omega) hb w6 w7 h6 h7
            have k6 := KI.write HJ.out.du hb HJ.out.kp k57 bs7 (by omega) (KT_has hsn)
            rw [KT_wrT hsn, hd, htl] at k6
            rw [← h6, ← hb] at hmk
            have H7 : Hid (w7 = w6.setCell ⟨b, a, none⟩ (.int .u8 ((s : Int) + 1))) := h7
            clear bs7 k57 hb h6 h7 HJ hd htl
            generalize (bytesOf z0 4096).toArray = ZA at *
            rw [H7.out] at k6
            go_wp2_with fail
            with_reducible refine k6.mono ?_
            rintro e w8 ⟨rfl, P8, K8⟩
            have I8 : Hid (KI w w8 p i a i ((bl nb k0).drop (j + 1))) := ⟨P8, K8⟩
            have cf := FC.out w8 K8
            clear P8 K8 k6 hmk c6 f6 H7 FC
            cases hv : nb j
            · rw [hv] at cf
              go_wp2
              go_roundg (k0 + 1 - (j + 1))
              case measure => omega
              case rel => exact ⟨j + 1, by go_num, by omega, by omega, I8⟩
            · rw [hv] at cf
              go_wp2
              go_roundg (k0 + 1 - (j + 1))
              case measure => omega
              case rel => exact ⟨j + 1, by go_num, by omega, by omega, I8⟩
          · have hqb : ((q : Int) == 0) = false := by simp; omega
            have hqn : ¬ (q : Int) = 0 := by omega
            have k6 := HJ.out.read s hsn (by omega)
            rw [hd, htl] at k6
            clear HJ hd htl hq0
            cases hv : nb j
            · rw [hv, if_neg (by decide), if_neg (by decide)] at k6
              rw [hv] at FC
              clear hv
              go_wp2_with fail
              with_reducible refine k6.mono ?_
              rintro e w8 ⟨na8, cap8, rfl, T8, I8⟩
              obtain ⟨b8, rfl, _, q8⟩ := T8.2 (by omega)
              have d8 := q8.cell a ha
              rw [Nat.zero_add, show kp1 a s a = s + 1 from upd_same _ _ _, show ((s + 1 : Nat) : Int) = (s : Int) + 1 by omega] at d8
              have cf := FC.out w8 I8.kp
              have H8 : Hid (KI w w8 p i a i ((bl nb k0).drop (j + 1))) := I8
              clear T8 I8 q8 k6 FC
              go_wp2
              go_roundg (k0 + 1 - (j + 1))
              case measure => omega
              case rel => exact ⟨j + 1, by go_num, by omega, by omega, H8⟩
            · rw [hv, if_pos rfl, if_pos rfl] at k6
              rw [hv] at FC
              clear hv
              go_wp2_with fail
              with_reducible refine k6.mono ?_
              rintro e w8 ⟨na8, cap8, rfl, T8, I8⟩
              have cf := FC.out w8 I8.kp
              have H8 : Hid (KI w w8 p i a i ((bl nb k0).drop (j + 1))) := I8
              clear T8 I8 k6 FC
              go_wp2
              go_roundg (k0 + 1 - (j + 1))
              case measure => omega
              case rel => exact ⟨j + 1, by go_num, by omega, by omega, H8⟩
        · have e : j = k0 := by omega
          subst e
          have y2 : ¬ (j : Int) < j := by omega
          have I3 : Hid (KI w wr p i a i []) := by have := HJ.out; rwa [drop_end nb j j (Nat.le_refl _)] at this
          clear HJ
          go_wp2_with fail
          go_loopg [20] (i + 1) (fun g v20 wr => ∃ (x : Nat), v20 = .int .i64 (x : Int) ∧ x ≤ i ∧ i + 1 - x ≤ g ∧ Hid (KI w wr p i a i []))
          case atStart => exact ⟨0, rfl, by omega, by omega, I3⟩
          case round =>
            clear I3
            obtain ⟨x, rfl, hx, hgx, HX⟩ := hrel
            by_cases hlx : x < i
            · have y5 : (x : Int) < i := by omega
              have k6 := HX.out.read x hlx (by omega)
              rw [if_neg (by decide), if_neg (by decide)] at k6
              obtain ⟨a2, ha2, hb2, hc2⟩ : ∃ a2 : Nat, ((a : Int) + 1).tmod 4096 = (a2 : Int) ∧ a2 < 4096 ∧ a2 ≠ a := ⟨(a + 1) % 4096, by rw [Int.tmod_eq_emod_of_nonneg (by omega)]; omega, by omega, by omega⟩
              have y6 : (a2 : Int) < 4096 := by omega
              clear HX
              go_wp2_with fail
              with_reducible refine k6.mono ?_
              rintro e w8 ⟨na8, cap8, rfl, T8, I8⟩
              obtain ⟨b8, rfl, _, q8⟩ := T8.2 (by omega)
              have d8 := q8.cell a ha
              rw [Nat.zero_add, show kp1 a x a = x + 1 from upd_same _ _ _, show ((x + 1 : Nat) : Int) = (x : Int) + 1 by omega] at d8
              have d9 := q8.cell a2 hb2
              rw [Nat.zero_add, show kp1 a x a2 = 0 from upd_other _ _ _ _ hc2, show ((0 : Nat) : Int) = 0 from rfl] at d9
              have H8 : Hid (KI w w8 p i a i []) := I8
              clear T8 I8 q8 k6 hb2 hc2
              go_wp2
              go_roundg (i + 1 - (x + 1))
              case measure => omega
              case rel => exact ⟨x + 1, by go_num, by omega, by omega, H8⟩
            · have e : x = i := by omega
              subst e
              have y5 : ¬ (x : Int) < x := by omega
              have k5 : Calls Try.prog 9 #[.pointer (some ⟨p, 0, none⟩)] wr fun e w' => e = .returned (.tuple #[.int .i64 0, .int .i64 12]) ∧ DU (Up w) w' p x (KT a x) [] ∧ Fr (Up w) wr w' := by
                have := dd_take HX.out.du HX.out.free
                have hf := KT_full a x
                rw [show tkX x (KT a x) = 0 from if_pos hf, show tkR x (KT a x) = 12 from if_pos hf, show tkT x (KT a x) = KT a x from if_pos hf] at this
                exact this
              go_wp2_with fail
              with_reducible refine k5.mono ?_
              rintro e w8 ⟨rfl, P8, F8⟩
              have I8 := HX.out.next P8 F8
              have FIN : Aside (∀ w9, Kp w8 w9 → Kp w w9 ∧ Calls Try.prog 22 #[.pointer (some ⟨p, 0, none⟩)] w9 fun e w' => e = .returned (.int .i64 0) ∧ w' = w9) := fun w9 k9 => ⟨I8.kp.trans k9, dd_left (I8.du.kp k9)⟩
              clear P8 F8 I8 k5 HX
              go_wp2_with fail
              with_reducible refine (told_any _).mono ?_
              rintro e w9 ⟨rfl, K9⟩
              obtain ⟨K10, k10⟩ := FIN.out w9 K9
              have HK10 : Hid (Kp w w9) := K10
              clear K9 K10 FIN
              go_wp2_with (go_at_call 22; with_reducible refine k10.mono ?_; rintro e w' ⟨rfl, rfl⟩)
              go_ret
              exact ⟨rfl, HK10.out⟩

theorem keeps_any (n0 at0 : Int) (na : Option Addr) (mf cap : Nat) (nb : Nat → Bool) (w : World) (H : NS w na mf nb) (hcap : mf ≤ cap) (hna : na = none → cap = 0) :
    Calls Try.prog 4 #[.int .i64 n0, .slice na mf cap, .int .i64 at0] w fun e w' => e = .returned (.bool true) ∧ Kp w w' := by
  obtain ⟨m, r, n, e1, e2, e3, h1, h2⟩ := few n0
  obtain ⟨t, a, g1, g2, g3, g4, g5⟩ := place_of at0 4096 (by decide)
  rw [show ((4096 : Nat) : Int) = 4096 from rfl] at g1 g2 g3 g4
  by_cases h : 60 < mf
  · exact keeps_walk n0 at0 m r n t a 60 na mf cap nb w H hcap hna e1 e2 e3 h1 h2 g1 g2 g3 g4 g5 (by omega) (by omega) (by rw [if_pos (by omega)]; rfl)
  · exact keeps_walk n0 at0 m r n t a mf na mf cap nb w H hcap hna e1 e2 e3 h1 h2 g1 g2 g3 g4 g5 (by omega) (by omega) (by rw [if_neg (by omega)])

end Go.Proofs.Ytcgfifihkbiioaa
