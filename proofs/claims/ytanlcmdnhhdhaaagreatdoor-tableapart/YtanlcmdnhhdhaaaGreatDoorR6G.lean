/- demesnelaw13: TableApart. -/
import Derived.Test.YtanlcmdnhhdhaaaGreatDoorJ44
import Derived.Test.YtanlcmdnhhdhaaaGreatDoorJ33
import Derived.Test.YtanlcmdnhhdhaaaGreatDoorJ05
import Derived.Deep.CutBlock
import Derived.Deep.DeepCutAuto
namespace Go.Proofs.YtanlcmdnhhdhaaaGreatDoor
open Go.RowKit
set_option maxRecDepth 10000

theorem new_two {M : Nat → Nat → Nat} {y1 y2 : Nat} {root : Nat} {E : Nat → Nat → DV} (t : TG M (putC (fun _ => 0) y1 1) 64 (fun _ => false) root E) (hy : putC (fun _ => 0) y1 1 y2 = 0) : ∃ Za, TG (zerM M y2) (putC (putC (fun _ => 0) y1 1) y2 1) 64 Za root E ∧ DJ (putC (putC (fun _ => 0) y1 1) y2 1) Za (fun x => decide (x = y1)) := by
  have ne : y1 ≠ y2 := fun c => by subst c; rw [putC_same] at hy; cases hy
  refine ⟨_, t.other (M' := zerM M y2) (C' := putC (putC (fun _ => 0) y1 1) y2 1) (fun x h1 _ => ?_), fun x hx => ?_⟩
  · have e : x = y1 := Decidable.byContradiction fun c => h1 (by rw [putC_other _ _ c])
    subst e
    exact ⟨fun i _ => by unfold zerM; rw [if_neg ne], putC_other _ _ ne⟩
  · unfold oZ
    rw [decide_eq_true hx]
    by_cases c : x = y1
    · subst c
      rw [putC_same]
      simp
    · rw [putC_other (fun _ => 0) 1 c]
      show (true && !(decide ((0 : Nat) ≠ 0) && !false)) = !decide (x = y1)
      rw [decide_eq_false c]
      rfl
/-- Two lists of the same leaves: at each place they are alike. -/
theorem leaf_at {w : World} {na : Option Addr} {n cap : Nat} {A : List LV} (h : OL encL 58 7 w (.slice na n cap) A) {k : Nat} {x : LV} (hx : A[k]? = some x) : ∃ g, na = some ⟨g, 0, none⟩ ∧ n ≤ cap ∧ g < w.heap.size ∧ ∀ j z, (encL x)[j]? = some z → w.cell? ⟨g, k * 7 + j, none⟩ = some z := by
  obtain ⟨na', cap', e, hc, hh⟩ := OL.form h
  cases e
  rcases hh with ⟨_, _, rfl⟩ | ⟨g, rfl, hg⟩
  · cases hx
  · exact ⟨g, rfl, hc, hg, fun j z hz => OL.cell encL_ok h hx hz⟩
theorem TAl.ol {W w : World} {ba bb p pm br bf ra rb i o : Nat} {va : Value} {A : List LV} (h : TAl W w ba bb p pm br bf ra rb i o va A) : OL encL 58 7 w va A ∧ A.length ≤ 268960770 := by
  obtain ⟨X, M, C, Za, Zb, Ea, Eb, v, L, fr, h1, h2, h3, h4, h5, h6, _⟩ := h
  exact ⟨h4, h6⟩
theorem TFr.ol {W w : World} {ba p pm n : Nat} {va : Value} {A : List LV} (h : TFr W w ba p pm va A n) : OL encL 58 7 w va A := by
  obtain ⟨X, o, M, C, Z, r, Ea, h1, h2, h3⟩ := h
  exact h2
theorem ol_kp {w w' : World} {v : Value} {A : List LV} (h : OL encL 58 7 w v A) (k : Kp w w') : OL encL 58 7 w' v A := h.fr (k.fr (fun _ => False)) (fun _ _ => id)
set_option maxHeartbeats 16000000 in
theorem apart13_any (na : Option Addr) (mc cap : Nat) (V : Nat → OpV) (b0 : Bool) (w : World) (hO : Steps w na mc V) (hm : mc ≤ maxLen) (T : TAB w) :
    Calls Tryz.prog 5 #[.slice na mc cap, .bool b0] w fun e w' => e = .returned (.bool true) ∧ Kp w w' := by
  have k1 := begun_any 64 w T (by omega) (by omega)
  rw [show ((64 : Nat) : Int) = 64 from rfl] at k1
  have q3 : ∀ p (w : World), (binOp .eql 27 (.pointer (some ⟨p, 0, none⟩)) (.pointer none)).run Tryz.prog w = .ok (.bool false) w := fun p w => by kernel_rfl
  have HT : Hid (Steps w na mc V ∧ TAB w) := ⟨hO, T⟩
  have y0 : (mc : Int) ≤ 9223372036854775807 := by unfold maxLen at hm; omega
  clear hO hm T
  go_enter Tryz.func5, Tryz.ntmps5
  go_wp2_with fail
  with_reducible refine k1.mono ?_
  rintro e w1 ⟨pm, p, M, rfl, f1⟩
  obtain ⟨y1, hy1⟩ := tk_there (F := fT 64 (fun _ => 0)) (hi := 64) (by rw [cntT_all]; omega)
  have k2 := tnew_ok (Z := fun _ => false) f1 y1 hy1 (fun x => ⟨(fun c => by cases c), fun c => absurd rfl c⟩)
  have HC : Hid (cnt (fT 64 (putC (fun _ => 0) y1 1)) 64 + 1 = 64) := by have := cnt_take (C := fun _ => 0) hy1.free.1 rfl; rw [cntT_all] at this; exact this
  clear k1 f1 hy1
  go_wp2_with fail
  with_reducible refine k2.mono ?_
  rintro e w3 ⟨⟨ba, rfl, t3, hba⟩, r3⟩
  obtain ⟨y2, hy2⟩ := tk_there (F := fT 64 (putC (fun _ => 0) y1 1)) (hi := 64) (by have := HC.out; omega)
  have k4 := tnew_ok (Z := fun x => decide (x = y1)) t3.fw y2 hy2 (fun x => ⟨fun c => by have c := of_decide_eq_true c; subst c; rw [putC_same]; decide, fun c => decide_eq_true (Decidable.byContradiction fun d => c (by rw [putC_other _ _ d]))⟩)
  have H3 : Hid (TS w (fun i => False ∨ i = ba) w3 ba p pm 2100 64 0 (zerM M y1) (putC (fun _ => 0) y1 1) (fun _ => false) y1 eN ∧ putC (fun _ => 0) y1 1 y2 = 0) := ⟨t3, hy2.free.2⟩
  clear k2 t3 r3 hba hy2 HC
  go_wp2_with fail
  with_reducible refine k4.mono ?_
  rintro e w4 ⟨⟨bb, rfl, t4, hbb⟩, r4⟩
  obtain ⟨w5, hw5⟩ : ∃ w5, w5 = w4.alloc (.cells #[.int .i64 62] 3) := ⟨_, rfl⟩
  obtain ⟨bf, hbf⟩ : ∃ bf, bf = w4.heap.size := ⟨_, rfl⟩
  obtain ⟨w6, hw6⟩ : ∃ w6, w6 = w5.alloc (.cells #[.slice none 0 0, .pointer (some ⟨bf, 0, none⟩), .int .i64 2100, .bool false] 69) := ⟨_, rfl⟩
  obtain ⟨br, hbr⟩ : ∃ br, br = w4.heap.size + 1 := ⟨_, rfl⟩
  have I0 : Hid (TA w w6 ba bb p pm br bf y1 y2 0) := by
    obtain ⟨t3, hy2⟩ := H3.out
    obtain ⟨Za, tg, dj⟩ := new_two t3.tg hy2
    have k5 : Kp w4 w5 := by rw [hw5]; exact (Kp.refl w4).alloc _
    have k6 : Kp w5 w6 := by rw [hw6]; exact (Kp.refl w5).alloc _
    have s5 : w5.heap.size = w4.heap.size + 1 := by rw [hw5]; simp
    have s6 : w6.heap.size = w5.heap.size + 1 := by rw [hw6]; simp
    have la := t3.tx.lt
    have lb := t4.tx.lt
    have la' := t3.bw
    have lb' := t4.bw
    have R5 : w5.heap[bf]? = some (.cells #[.int .i64 62] 3 (0, 0)) := by rw [hw5, hbf]; exact heap_alloc_new w4 _
    have R6 : w6.heap[br]? = some (.cells #[.slice none 0 0, .pointer (some ⟨bf, 0, none⟩), .int .i64 2100, .bool false] 69 (0, 0)) := by rw [hw6, show br = w5.heap.size by omega]; exact heap_alloc_new w5 _
    have t6 := (t4.more k5 bf (by omega) (by omega)).more k6 br (by omega) (by omega)
    have s4 := t4.fw.kp.size
    have xa := t3.tx.fr r4 (fun c => c.2 (.inr rfl))
    refine ⟨fun i => (((False ∨ i = ba) ∨ i = bb) ∨ i = bf) ∨ i = br, _, _, Za, _, eN, eN, .slice none 0 0, [], 62, ⟨⟨⟨t6.fw, (xa.kp k5).kp k6, .inl (.inl (.inl (.inr rfl))), la', tg⟩, NE.made y1, ⟨R6, (k6.block bf (by omega)).trans R5, OL.nil _ _, (fun b e => by cases e), by omega, fun v hv => by cases hv⟩, fun i hi => ?_⟩, t6.tx, t6.xb, t6.bw, t6.tg, NE.made y2, dj, by omega, by omega, by have := r4.size; omega, (fun b e => by cases e)⟩, by simp, rfl⟩
    rcases hi with hi | hi | hi
    · exact ⟨by omega, .inr hi, by omega⟩
    · exact ⟨by omega, .inl (.inr hi), by omega⟩
    · cases hi
  clear k4 t4 hbb r4 H3
  go_upto_block 0 with fail
  rw [← hw5, ← hbr, ← hbf, ← hw6]
  clear hw5 hw6 hbf hbr
  go_cut [] (fun wx => Hid (TA w wx ba bb p pm br bf y1 y2 30))
  case first =>
    go_wp2_with fail
    go_loopg [14] 31 (fun gk v14 wr => ∃ (i : Nat), v14 = .int .i64 (i : Int) ∧ i ≤ 30 ∧ 31 - i ≤ gk ∧ Hid (TA w wr ba bb p pm br bf y1 y2 i))
    case atStart => exact ⟨0, rfl, by omega, by omega, I0⟩
    case round =>
      clear I0
      obtain ⟨i, rfl, hi, hgk, HI⟩ := hrel
      by_cases hlt : i < mc ∧ i < 30
      · have y1' : (i : Int) < mc := by omega
        have y2' : (i : Int) < 30 := by omega
        obtain ⟨⟨cb, co, rfl, d1, d2⟩, wo⟩ := HT.out.1 i hlt.1
        obtain ⟨o, ho⟩ : ∃ o, o = V i := ⟨_, rfl⟩
        rw [← ho] at d2 wo
        obtain ⟨t, m, k1, k2, k3, k4, k5⟩ := place_of o.kd 11 (by omega)
        rw [show ((11 : Nat) : Int) = 11 from rfl] at k1 k2 k3 k4
        have o0 := (HI.out.k.cell (p := ⟨cb, co + i * 8 + 0, none⟩) d1).trans (d2 0 _ rfl)
        have o1 := (HI.out.k.cell (p := ⟨cb, co + i * 8 + 1, none⟩) d1).trans (d2 1 _ rfl)
        have o2 := (HI.out.k.cell (p := ⟨cb, co + i * 8 + 2, none⟩) d1).trans (d2 2 _ rfl)
        have o3 := (HI.out.k.cell (p := ⟨cb, co + i * 8 + 3, none⟩) d1).trans (d2 3 _ rfl)
        have o4 := (HI.out.k.cell (p := ⟨cb, co + i * 8 + 4, none⟩) d1).trans (d2 4 _ rfl)
        have o5 := (HI.out.k.cell (p := ⟨cb, co + i * 8 + 5, none⟩) d1).trans (d2 5 _ rfl)
        have o6 := (HI.out.k.cell (p := ⟨cb, co + i * 8 + 6, none⟩) d1).trans (d2 6 _ rfl)
        have o7 := (HI.out.k.cell (p := ⟨cb, co + i * 8 + 7, none⟩) d1).trans (d2 7 _ rfl)
        simp only [Nat.add_zero] at o0
        by_cases e : m = 10
        · subst e
          have HJ : Hid (TA w wr ba bb p pm br bf y1 y2 (i + 1)) := HI.out.mono (by omega)
          clear HI o1 o2 o3 o4 o5 o6 o7 d2 wo ho
          go_wp2_with fail
          go_roundg (31 - (i + 1))
          case measure => omega
          case rel => exact ⟨i + 1, by go_num, by omega, by omega, HJ⟩
        · have e10 : ((m : Int) == 10) = false := by rw [beq_eq_false_iff_ne]; omega
          obtain ⟨z, hz⟩ : ∃ z, bits .and .i64 o.fm 1 = z := ⟨_, rfl⟩
          by_cases ez : z = 0
          · subst ez
            have cS := HI.out.step hlt.2 o wo m t k1 (by omega) k3 k4 k5 e
            clear HI d2 wo ho e
            go_wp2_with fail
            with_reducible refine cS.mono ?_
            rintro e w6 ⟨⟨z, rfl⟩, L6⟩
            have HJ : Hid (TA w w6 ba bb p pm br bf y1 y2 (i + 1)) := L6
            clear cS L6 o0 o1 o2 o3 o4 o5 o6 o7
            go_wp2_with fail
            go_roundg (31 - (i + 1))
            case measure => omega
            case rel => exact ⟨i + 1, by go_num, by omega, by omega, HJ⟩
          · have ez2 : (z == 0) = false := beq_false_of_ne ez
            have cL := HI.out.leaves
            have HC : Hid (∀ v, Kp w v → v.cell? ⟨cb, co + i * 8 + 1, none⟩ = some (.int .i64 o.fm) ∧ v.cell? ⟨cb, co + i * 8 + 3, none⟩ = some (.int .u64 (o.pg : Int)) ∧ v.cell? ⟨cb, co + i * 8 + 4, none⟩ = some (.bool o.r) ∧ v.cell? ⟨cb, co + i * 8 + 4 + 1, none⟩ = some (.bool o.q) ∧ v.cell? ⟨cb, co + i * 8 + 4 + 2, none⟩ = some (.bool o.x)) := fun v k => ⟨(k.cell (p := ⟨cb, co + i * 8 + 1, none⟩) d1).trans (d2 1 _ rfl), (k.cell (p := ⟨cb, co + i * 8 + 3, none⟩) d1).trans (d2 3 _ rfl), (k.cell (p := ⟨cb, co + i * 8 + 4, none⟩) d1).trans (d2 4 _ rfl), (k.cell (p := ⟨cb, co + i * 8 + 5, none⟩) d1).trans (d2 5 _ rfl), (k.cell (p := ⟨cb, co + i * 8 + 6, none⟩) d1).trans (d2 6 _ rfl)⟩
            obtain ⟨fa, ea, fa0, fa1⟩ : ∃ fa : Int, bits .and .i64 o.fm 1023 = fa ∧ 0 ≤ fa ∧ fa < 1024 := ⟨_, mask10 _, Int.emod_nonneg _ (by decide), Int.emod_lt_of_pos _ (by decide)⟩
            obtain ⟨p1, hp1⟩ : ∃ p1, p1 = pgT o.pg := ⟨_, rfl⟩
            have kP : Aside (∀ v, Calls Tryz.prog 13 #[.int .u64 (o.pg : Int)] v fun e w' => e = .returned (.int .u64 (p1 : Int)) ∧ Kp v w') := fun v => by rw [hp1]; exact page_tab o.pg v
            obtain ⟨pn, hpn, lpn⟩ : ∃ pn : Nat, IntKind.u64.wrap ((o.pg : Int) + 1) = (pn : Int) ∧ pn < 18446744073709551616 := ⟨(o.pg + 1) % 18446744073709551616, by simp [IntKind.wrap, IntKind.bits, IntKind.signed], Nat.mod_lt _ (by decide)⟩
            obtain ⟨p2, hp2⟩ : ∃ p2, p2 = pgT pn := ⟨_, rfl⟩
            have kP2 : Aside (∀ v, Calls Tryz.prog 13 #[.int .u64 (pn : Int)] v fun e w' => e = .returned (.int .u64 (p2 : Int)) ∧ Kp v w') := fun v => by rw [hp2]; exact page_tab pn v
            have kR : Aside (∀ v, Calls Tryz.prog 22 #[.agg #[.bool o.r, .bool o.q, .bool o.x]] v fun e w' => e = .returned (.agg #[.bool o.r, .bool (o.q && o.r), .bool o.x]) ∧ Kp v w') := fun v => right_any o.r o.q o.x v
            have hlen : Hid (i < 30) := hlt.2
            obtain ⟨f1, hf1⟩ : ∃ f1, IntKind.i64.wrap (fa + 100) = f1 := ⟨_, rfl⟩
            have cM : Aside (∀ v A va, TAl w v ba bb p pm br bf y1 y2 i 0 va A → Calls Tryz.prog 21 #[.pointer (some ⟨bb, 0, none⟩), .int .u64 (p1 : Int), .int .i64 f1, .agg #[.bool o.r, .bool (o.q && o.r), .bool o.x], .int .i64 0] v fun e w' => (∃ rr, e = .returned (.int .i64 rr)) ∧ TAl w w' ba bb p pm br bf y1 y2 i (0 + 600) va A) := fun v A va h => h.map p1 f1 o.r (o.q && o.r) o.x 0 (by omega) (by omega)
            have cU : Aside (∀ v A va, TAl w v ba bb p pm br bf y1 y2 i (0 + 600) va A → Calls Tryz.prog 23 #[.pointer (some ⟨bb, 0, none⟩), .int .u64 (p2 : Int)] v fun e w' => (∃ (fx : Nat) (rr : Int), e = .returned (.tuple #[.int .i64 (fx : Int), .int .i64 rr])) ∧ TAl w w' ba bb p pm br bf y1 y2 i (0 + 600 + 600) va A) := fun v A va h => h.unmap p2 (by omega) (by omega)
            clear hp1 hp2 HI d2 wo ho e o2 o3 o4 o5 o6 o7 ez
            go_wp2_with fail
            with_reducible refine cL.mono ?_
            rintro e w6 ⟨va, A, rfl, L6⟩
            obtain ⟨na1, cap1, ev, _⟩ := OL.form L6.ol.1
            subst ev
            clear cL o0 o1
            have k6d : Kp w6 w6.drew := (Kp.refl w6).drew
            have L6d := L6.kp k6d
            go_wp2_with fail
            go_region_held3 (fun v => v.cell? ⟨cb, co + i * 8 + 1, none⟩ = some (.int .i64 o.fm) ∧ v.cell? ⟨cb, co + i * 8 + 3, none⟩ = some (.int .u64 (o.pg : Int)) ∧ v.cell? ⟨cb, co + i * 8 + 4, none⟩ = some (.bool o.r) ∧ v.cell? ⟨cb, co + i * 8 + 4 + 1, none⟩ = some (.bool o.q) ∧ v.cell? ⟨cb, co + i * 8 + 4 + 2, none⟩ = some (.bool o.x))
              (first | exact HC.out _ L9.k | exact HC.out _ L8.k | exact HC.out _ L7.k | exact HC.out _ L6d.k | exact HC.out _ L6.k)
              (first | (go_at_call 13; with_reducible refine (kP.out _).mono ?_; rintro e w7 ⟨rfl, k7⟩; (first | have L7 := L8.kp k7 | have L7 := L6d.kp k7)) | (go_at_call 22; with_reducible refine (kR.out _).mono ?_; rintro e w8 ⟨rfl, k8⟩; (first | have L8 := L7.kp k8 | have L8 := L6d.kp k8)) | (go_at_call 21; (first | with_reducible refine (cM.out _ _ _ L8).mono ?_ | with_reducible refine (cM.out _ _ _ L7).mono ?_); rintro e w9 ⟨⟨rr, rfl⟩, L9⟩))
            all_goals
              clear cM kP kR
              have K9 := L9
              clear L6 L6d L7 L8 k7 k8 k6d L9
              go_wp2_with fail
              with_reducible refine (kP2.out _).mono ?_
              rintro e w10 ⟨rfl, k10⟩
              have L10 := K9.kp k10
              clear K9 k10 kP2
              go_wp2_with fail
              with_reducible refine (cU.out _ _ _ L10).mono ?_
              rintro e w11 ⟨⟨fx, r2, rfl⟩, L11⟩
              have cL := L11.leaves
              clear L10 cU L11
              go_wp2_with fail
              with_reducible refine cL.mono ?_
              rintro e w12 ⟨vb, rfl, ol, L12⟩
              obtain ⟨nb, cap2, ev, hc2, _⟩ := OL.form ol
              subst ev
              obtain ⟨n, hn⟩ : ∃ n, n = A.length := ⟨_, rfl⟩
              have HN : Hid (n = A.length ∧ n ≤ 268960770) := ⟨hn, by have := L12.ol.2; omega⟩
              have IJ : Hid (TAl w w12 ba bb p pm br bf y1 y2 i (0 + 600 + 600) (.slice na1 A.length cap1) A ∧ OL encL 58 7 w12 (.slice nb A.length cap2) A) := ⟨L12, ol⟩
              have nl : (n : Int) ≤ 268960770 := by have := HN.out.2; omega
              obtain ⟨_, _, ev, hc1, _⟩ := OL.form L12.ol.1
              cases ev
              clear cL ol L12 HC
              rw [← hn] at IJ hc1 hc2
              rw [← hn]
              clear hn
              go_wp2_with fail
              go_loopg [17] (n + 1) (fun gk vk wr => ∃ (k : Nat), vk = .int .i64 (k : Int) ∧ k ≤ n ∧ n + 1 - k ≤ gk ∧ Hid (TAl w wr ba bb p pm br bf y1 y2 i (0 + 600 + 600) (.slice (na1) n cap1) A ∧ OL encL 58 7 wr (.slice nb n cap2) A))
              case atStart => exact ⟨0, rfl, by omega, by omega, IJ⟩
              case round =>
                clear IJ
                obtain ⟨k, rfl, hk, hgj, HI⟩ := hrel
                by_cases hlt : k < n
                · have z2 : (k : Int) < n := by omega
                  obtain ⟨x, hx⟩ : ∃ x, A[k]? = some x := ⟨_, List.getElem?_eq_getElem (by have := HN.out.1; omega)⟩
                  obtain ⟨g1, rfl, l1, _, q1⟩ := leaf_at (show OL encL 58 7 wr (.slice na1 n cap1) A from HI.out.1.ol.1) hx
                  obtain ⟨g2, rfl, l2, _, q2⟩ := leaf_at HI.out.2 hx
                  have HQ : Hid (∀ v, Kp wr v → TAl w v ba bb p pm br bf y1 y2 i (0 + 600 + 600) (.slice (some ⟨g1, 0, none⟩) n cap1) A ∧ OL encL 58 7 v (.slice (some ⟨g2, 0, none⟩) n cap2) A) := fun v kv => ⟨HI.out.1.kp kv, ol_kp HI.out.2 kv⟩
                  obtain ⟨xg, xx, xr, xq, xe, xf, xl⟩ := x
                  have m1 : (n : Int) ≤ cap1 := by omega
                  have m2 : (n : Int) ≤ cap2 := by omega
                  have a0 := q1 0 _ rfl
                  have a1 := q1 1 _ rfl
                  have a2 := q1 2 _ rfl
                  have a3 := q1 3 _ rfl
                  have a4 := q1 4 _ rfl
                  have a5 := q1 5 _ rfl
                  have a6 := q1 6 _ rfl
                  have b0 := q2 0 _ rfl
                  have b1 := q2 1 _ rfl
                  have b2 := q2 2 _ rfl
                  have b3 := q2 3 _ rfl
                  have b4 := q2 4 _ rfl
                  have b5 := q2 5 _ rfl
                  have b6 := q2 6 _ rfl
                  simp only [Nat.add_zero] at a0 b0
                  have hq : ∀ w : World, (Op.equalIn 10000 58 (.agg #[.int .u64 (xg : Int), .int .i64 (xx : Int), .bool xr, .bool xq, .bool xe, .int .i64 xf, .int .i64 (xl : Int)]) (.agg #[.int .u64 (xg : Int), .int .i64 (xx : Int), .bool xr, .bool xq, .bool xe, .int .i64 xf, .int .i64 (xl : Int)])).run Tryz.prog w = .ok true w := fun w => by rw [eq_leaf]; simp [samP]
                  clear HI hx q1 q2 l1 l2
                  go_wp2_with fail
                  go_quiet (fail)
                  have HR := HQ.out (wr.drewN nq) ((Kp.refl wr).drewN nq)
                  clear a0 a1 a2 a3 a4 a5 a6 b0 b1 b2 b3 b4 b5 b6 hq HQ
                  go_wp2_with fail
                  go_roundg (n + 1 - (k + 1))
                  case measure => omega
                  case rel => exact ⟨k + 1, by go_num, by omega, by omega, HR⟩
                · have ek : n = k := by omega
                  subst ek
                  have HJ : Hid (TA w wr ba bb p pm br bf y1 y2 (i + 1)) := HI.out.1.ta (by omega)
                  clear HI hlt
                  go_wp2_with fail
                  go_roundg (31 - (i + 1))
                  case measure => exact Nat.lt_of_lt_of_le (Nat.sub_lt_sub_left (Nat.lt_succ_of_lt hlen.out) (Nat.lt_succ_self i)) hgk
                  case rel => exact ⟨i + 1, by go_num, by omega, by omega, HJ⟩
      · have HJ : Hid (TA w wr ba bb p pm br bf y1 y2 30) := HI.out.mono hi
        clear HI
        by_cases hm : i < mc
        · have ei : i = 30 := by omega
          subst ei
          have y1' : (30 : Int) < mc := by omega
          rw [show ((30 : Nat) : Int) = 30 from rfl]
          go_wp2_with fail
          go_meet
          case rel => exact HJ
        · have y1' : ¬ (i : Int) < mc := by omega
          go_wp2_with fail
          go_meet
          case rel => exact HJ
  case rest =>
    have cL := (hcut : TA w wc ba bb p pm br bf y1 y2 30).leaves
    clear hcut I0
    go_wp2_with fail
    with_reducible refine cL.mono ?_
    rintro e w2 ⟨va, A, rfl, L2⟩
    obtain ⟨na1, cap1, ev, hc1, _⟩ := OL.form L2.ol.1
    subst ev
    obtain ⟨n, hn⟩ : ∃ n, n = A.length := ⟨_, rfl⟩
    have HN : Hid (n = A.length ∧ n ≤ 268960770) := ⟨hn, by have := L2.ol.2; omega⟩
    have nl : (n : Int) ≤ 268960770 := by have := HN.out.2; omega
    obtain ⟨u, hu, cT, cF⟩ := L2.ends
    have cF : Aside (∀ w', Kp w2 w' → Calls Tryz.prog 25 #[.pointer (some ⟨bb, 0, none⟩)] w' fun e w'' => e = .returned (.int .i64 0) ∧ TFr w w'' ba p pm (.slice na1 A.length cap1) A u) := cF
    have cT := cT w2 (Kp.refl w2)
    have z1 : (u : Int) ≤ 64 := by omega
    clear cL L2
    rw [← hn] at hc1 cF ⊢
    clear hn
    go_wp2_with fail
    with_reducible refine cT.mono ?_
    rintro e w3 ⟨rfl, k3⟩
    have cG := cF.out _ k3
    clear cT cF k3
    go_wp2_with fail
    with_reducible refine cG.mono ?_
    rintro e w4 ⟨rfl, F4⟩
    have cL := F4.leaves
    clear cG F4
    go_wp2_with fail
    with_reducible refine cL.mono ?_
    rintro e w5 ⟨vb, rfl, ol, F5⟩
    obtain ⟨nb, cap2, ev, hc2, _⟩ := OL.form ol
    subst ev
    obtain ⟨f1, f2, hf, cR⟩ := F5.frees
    have IJ5 : Hid (TFr w w5 ba p pm (.slice na1 n cap1) A u ∧ OL encL 58 7 w5 (.slice nb n cap2) A) := ⟨F5, by rw [HN.out.1]; exact ol⟩
    have e1 : A.length = n := HN.out.1.symm
    rw [e1] at hc2 ⊢
    have hf2 : (64 : Int) - (u : Int) = (f2 : Int) := by omega
    clear cL F5 ol e1 hu
    go_wp2_with fail
    with_reducible refine cR.mono ?_
    rintro e w6 ⟨rfl, k6⟩
    have F6 := IJ5.out.1.kp k6
    have cT := F6.count
    have I6 : Hid (TFr w w6 ba p pm (.slice na1 n cap1) A u ∧ OL encL 58 7 w6 (.slice nb n cap2) A) := ⟨F6, ol_kp IJ5.out.2 k6⟩
    clear cR F6 k6 IJ5
    go_wp2_with fail
    with_reducible refine cT.mono ?_
    rintro e w7 ⟨rfl, k7⟩
    have IJ : Hid (TFr w w7 ba p pm (.slice na1 n cap1) A u ∧ OL encL 58 7 w7 (.slice nb n cap2) A) := ⟨I6.out.1.kp k7, ol_kp I6.out.2 k7⟩
    clear cT k7 I6
    go_wp2_with fail
    go_loopg [23] (n + 1) (fun gk vk wr => ∃ (k : Nat), vk = .int .i64 (k : Int) ∧ k ≤ n ∧ n + 1 - k ≤ gk ∧ Hid (TFr w wr ba p pm (.slice (na1) n cap1) A u ∧ OL encL 58 7 wr (.slice nb n cap2) A))
    case atStart => exact ⟨0, rfl, by omega, by omega, IJ⟩
    case round =>
      clear IJ
      obtain ⟨k, rfl, hk, hgj, HI⟩ := hrel
      by_cases hlt : k < n
      · have z2 : (k : Int) < n := by omega
        obtain ⟨x, hx⟩ : ∃ x, A[k]? = some x := ⟨_, List.getElem?_eq_getElem (by have := HN.out.1; omega)⟩
        obtain ⟨g1, rfl, l1, _, q1⟩ := leaf_at (show OL encL 58 7 wr (.slice na1 n cap1) A from TFr.ol HI.out.1) hx
        obtain ⟨g2, rfl, l2, _, q2⟩ := leaf_at HI.out.2 hx
        have HQ : Hid (∀ v, Kp wr v → TFr w v ba p pm (.slice (some ⟨g1, 0, none⟩) n cap1) A u ∧ OL encL 58 7 v (.slice (some ⟨g2, 0, none⟩) n cap2) A) := fun v kv => ⟨HI.out.1.kp kv, ol_kp HI.out.2 kv⟩
        obtain ⟨xg, xx, xr, xq, xe, xf, xl⟩ := x
        have m1 : (n : Int) ≤ cap1 := by omega
        have m2 : (n : Int) ≤ cap2 := by omega
        have a0 := q1 0 _ rfl
        have a1 := q1 1 _ rfl
        have a2 := q1 2 _ rfl
        have a3 := q1 3 _ rfl
        have a4 := q1 4 _ rfl
        have a5 := q1 5 _ rfl
        have a6 := q1 6 _ rfl
        have b0 := q2 0 _ rfl
        have b1 := q2 1 _ rfl
        have b2 := q2 2 _ rfl
        have b3 := q2 3 _ rfl
        have b4 := q2 4 _ rfl
        have b5 := q2 5 _ rfl
        have b6 := q2 6 _ rfl
        simp only [Nat.add_zero] at a0 b0
        have hq : ∀ w : World, (Op.equalIn 10000 58 (.agg #[.int .u64 (xg : Int), .int .i64 (xx : Int), .bool xr, .bool xq, .bool xe, .int .i64 xf, .int .i64 (xl : Int)]) (.agg #[.int .u64 (xg : Int), .int .i64 (xx : Int), .bool xr, .bool xq, .bool xe, .int .i64 xf, .int .i64 (xl : Int)])).run Tryz.prog w = .ok true w := fun w => by rw [eq_leaf]; simp [samP]
        clear HI hx q1 q2 l1 l2
        go_wp2_with fail
        go_quiet (fail)
        have HR := HQ.out (wr.drewN nq) ((Kp.refl wr).drewN nq)
        clear a0 a1 a2 a3 a4 a5 a6 b0 b1 b2 b3 b4 b5 b6 hq HQ
        go_wp2_with fail
        go_roundg (n + 1 - (k + 1))
        case measure => omega
        case rel => exact ⟨k + 1, by go_num, by omega, by omega, HR⟩
      · have ek : n = k := by omega
        subst ek
        have HK : Hid (Kp w wr) := HI.out.1.k
        have cT := told_any wr (HT.out.2.kp HK.out)
        clear HI hlt
        go_wp2_with fail
        with_reducible refine cT.mono ?_
        rintro e w8 ⟨rfl, k8⟩
        have HE : Hid (Kp w w8) := HK.out.trans k8
        clear cT k8
        go_wp2_with fail
        go_ret
        exact ⟨rfl, HE.out⟩
theorem apart13_law (na : Option Addr) (mc cap : Nat) (V : Nat → OpV) (a1 : Bool) (w : World) (hO : Steps w na mc V) (hm : mc ≤ maxLen) (T : TAB w) :
    Calls Tryz.prog 5 #[.slice na mc cap, .bool a1] w fun e w' => e = .returned (.bool true) ∧ Kp w w' := apart13_any na mc cap V a1 w hO hm T

end Go.Proofs.YtanlcmdnhhdhaaaGreatDoor
