/- VmidTurns. -/
import Derived.Test.YtclheedcdogkbaaI6
import Derived.Deep.DeepCutAuto
import Derived.Deep.CutBlock
namespace Go.Proofs.Ytclheedcdogkbaa
open Go.RowKit
set_option maxRecDepth 10000

/-- n IDs behind k asks by n guests in turn. -/
structure ev0 (n k : Nat) (s : IV) : Prop where
  ok : okV n s
  t : s.t = 0
  g : (k < n → s.g = k) ∧ (n ≤ k → s.g = n)
  f : ∀ i, 1 ≤ i → i ≤ s.g → s.f i = i
theorem hs_here {s : IV} {x : Nat} (hx : isG (x : Int) = true) (h1 : 1 ≤ x) (h2 : x ≤ s.g) (hf : ∀ i, 1 ≤ i → i ≤ s.g → s.f i = i) : hs s (x : Int) = x := by
  unfold hs
  rw [if_pos hx]
  rcases hsN_le s.f (x : Int) s.g 1 with c | ⟨c1, c2, c3⟩
  · exact absurd (congrArg Int.ofNat (hf x h1 h2)) (hsN_none (Nat.le_refl _) c x h1 (by omega))
  · have := hf _ c1 (by omega)
    omega
theorem hs_not {s : IV} {x : Nat} (hf : ∀ i, 1 ≤ i → i ≤ s.g → s.f i ≠ x) : hs s (x : Int) = 0 := by
  unfold hs
  split
  · exact hsN_zero fun i h1 h2 => by have := hf i h1 (by omega); omega
  · rfl
theorem isG_nat {x : Nat} (h1 : 1 ≤ x) (h2 : x ≤ 255) : isG (x : Int) = true := isG_iff.2 ⟨by omega, by omega⟩
theorem ev0.step {n k : Nat} {s : IV} (h : ev0 n k s) (x : Nat) (hx : x = k % n + 1) : ev0 n (k + 1) (getS n s x) ∧ getB n s x = false := by
  have n1 := h.ok.n1
  have n2 := h.ok.n2
  have hm : k % n < n := Nat.mod_lt _ n1
  have hG := isG_nat (x := x) (by omega) (by omega)
  by_cases c : n ≤ k
  · have hg := h.g.2 c
    have he := hs_here hG (by omega) (by omega) h.f
    have c' : hs s (x : Int) ≠ 0 := by rw [he]; omega
    unfold getS getB
    rw [if_pos hG, if_pos hG, if_pos c', if_pos c']
    exact ⟨⟨h.ok, h.t, ⟨fun _ => by omega, fun _ => hg⟩, h.f⟩, rfl⟩
  · have hg := h.g.1 (by omega)
    rw [Nat.mod_eq_of_lt (by omega)] at hx
    have he : hs s (x : Int) = 0 := hs_not fun i h1 h2 => by rw [h.f i h1 h2]; omega
    have c' : ¬ hs s (x : Int) ≠ 0 := fun e => e he
    have d' : ¬ s.g = n := by omega
    unfold getS getB
    rw [if_pos hG, if_pos hG, if_neg c', if_neg c', if_neg d', decide_eq_false d']
    refine ⟨⟨h.ok.give hG (by omega), h.t, ⟨fun _ => by show s.g + 1 = k + 1; omega, fun _ => by show s.g + 1 = n; omega⟩, fun i h1 h2 => ?_⟩, rfl⟩
    show updI s.f (s.g + 1) ((x : Int)).toNat i = i
    have h2 : i ≤ s.g + 1 := h2
    unfold updI
    by_cases e : i = s.g + 1
    · rw [if_pos e]; omega
    · rw [if_neg e]; exact h.f i h1 (by omega)
/-- n IDs behind k asks by n + 1 guests in turn. -/
structure ev1 (n k : Nat) (s : IV) : Prop where
  ok : okV n s
  kk : s.t * n + s.g = k
  g : 1 ≤ k → 1 ≤ s.g
  f : ∀ i, 1 ≤ i → i ≤ s.g → s.f i = (k - s.g + i - 1) % (n + 1) + 1
theorem ev1.step {n k : Nat} {s : IV} (h : ev1 n k s) (x : Nat) (hx : x = k % (n + 1) + 1) (hn : n + 1 ≤ 255) : ev1 n (k + 1) (getS n s x) := by
  have n1 := h.ok.n1
  have hm : k % (n + 1) < n + 1 := Nat.mod_lt _ (by omega)
  have hG := isG_nat (x := x) (by omega) (by omega)
  have hgn := h.ok.g
  have hk := h.kk
  have he : hs s (x : Int) = 0 := hs_not fun i h1 h2 => by
    rw [h.f i h1 h2, hx]
    intro e
    have e1 : (k - s.g + i - 1) % (n + 1) = k % (n + 1) := by omega
    have hle : s.g ≤ k := by rw [← hk]; exact Nat.le_add_left _ _
    obtain ⟨d, hd⟩ : ∃ d, k = (k - s.g + i - 1) + d := ⟨k - (k - s.g + i - 1), by omega⟩
    have d1 : 1 ≤ d ∧ d ≤ n := by omega
    rw [show k % (n + 1) = ((k - s.g + i - 1) + d) % (n + 1) by rw [← hd]] at e1
    generalize k - s.g + i - 1 = y at *
    have a1 := Nat.div_add_mod y (n + 1)
    have a2 := Nat.div_add_mod (y + d) (n + 1)
    rw [← e1] at a2
    have a3 : (n + 1) * ((y + d) / (n + 1)) = (n + 1) * (y / (n + 1)) + d := by omega
    have a4 : (n + 1) * ((y + d) / (n + 1) - y / (n + 1)) = d := by rw [Nat.mul_sub]; omega
    have a5 : 1 ≤ (y + d) / (n + 1) - y / (n + 1) := by
      rcases Nat.eq_zero_or_pos ((y + d) / (n + 1) - y / (n + 1)) with z | z
      · rw [z, Nat.mul_zero] at a4; omega
      · exact z
    have := Nat.mul_le_mul_left (n + 1) a5
    omega
  have c' : ¬ hs s (x : Int) ≠ 0 := fun e => e he
  unfold getS
  rw [if_pos hG, if_neg c']
  by_cases d : s.g = n
  · rw [if_pos d]
    refine ⟨h.ok.roll.give hG (by show (0 : Nat) ≠ n; omega), ?_, fun _ => Nat.le_refl 1, fun i h1 h2 => ?_⟩
    · show (s.t + 1) * n + 1 = k + 1
      rw [Nat.add_mul]; omega
    · have h2 : i ≤ 1 := h2
      have : i = 1 := by omega
      subst this
      show ((x : Int)).toNat = (k + 1 - 1 + 1 - 1) % (n + 1) + 1
      rw [show k + 1 - 1 + 1 - 1 = k by omega, ← hx]
      omega
  · rw [if_neg d]
    refine ⟨h.ok.give hG d, ?_, fun _ => by show 1 ≤ s.g + 1; omega, fun i h1 h2 => ?_⟩
    · show s.t * n + (s.g + 1) = k + 1; omega
    · show updI s.f (s.g + 1) ((x : Int)).toNat i = (k + 1 - (s.g + 1) + i - 1) % (n + 1) + 1
      have h2 : i ≤ s.g + 1 := h2
      have hle : s.g ≤ k := by rw [← hk]; exact Nat.le_add_left _ _
      unfold updI
      by_cases e : i = s.g + 1
      · rw [if_pos e, show k + 1 - (s.g + 1) + i - 1 = k by omega, ← hx]; omega
      · rw [if_neg e, h.f i h1 (by omega), show k + 1 - (s.g + 1) = k - s.g by omega]
theorem ev0.new {n : Nat} (h1 : 1 ≤ n) (h2 : n ≤ 255) : ev0 n 0 newS := ⟨newS_ok h1 h2, rfl, ⟨fun _ => rfl, fun h => by omega⟩, fun i a b => by have : i ≤ 0 := b; omega⟩
theorem ev1.new {n : Nat} (h1 : 1 ≤ n) (h2 : n ≤ 255) : ev1 n 0 newS := ⟨newS_ok h1 h2, by show 0 * n + 0 = 0; omega, fun h => by omega, fun i a b => by have : i ≤ 0 := b; omega⟩
/-- k asks by g guests in turn: by as many as there are IDs, or by one more. -/
def evN (n g k : Nat) (s : IV) : Prop := (g = n → ev0 n k s) ∧ (g = n + 1 → ev1 n k s)
theorem evN.ok {n g k : Nat} {s : IV} (hg : g = n ∨ g = n + 1) (h : evN n g k s) : okV n s := by
  rcases hg with e | e
  · exact (h.1 e).ok
  · exact (h.2 e).ok
theorem evN.step {n g k : Nat} {s : IV} (hn : n ≤ 20) (h : evN n g k s) (x : Nat) (hx : x = k % g + 1) : evN n g (k + 1) (getS n s x) :=
  ⟨fun e => ((h.1 e).step x (by rw [hx, e])).1, fun e => (h.2 e).step x (by rw [hx, e]) (by omega)⟩
theorem evN.end {n g r : Nat} {s : IV} (hr : 1 ≤ r) (h : evN n g (r * g) s) : (g = n → s.t = 0) ∧ (g = n + 1 → r ≤ s.t) := by
  refine ⟨fun e => (h.1 e).t, fun e => ?_⟩
  have h1 := (h.2 e)
  have hk := h1.kk
  have hg := h1.ok.g
  rw [e, Nat.mul_add, Nat.mul_one] at hk
  by_cases c : r ≤ s.t
  · exact c
  · exfalso
    have := Nat.mul_le_mul_right n (show s.t + 1 ≤ r by omega)
    rw [Nat.add_mul] at this
    omega
theorem evN.t {n g k : Nat} {s : IV} (hn : 1 ≤ n) (hg : g = n ∨ g = n + 1) (h : evN n g k s) : s.t ≤ k := by
  rcases hg with e | e
  · have := (h.1 e).t; omega
  · have := (h.2 e).kk
    have := Nat.le_mul_of_pos_right s.t hn
    omega
theorem evN.new {n g : Nat} (h1 : 1 ≤ n) (h2 : n ≤ 255) : evN n g 0 newS := ⟨fun _ => ev0.new h1 h2, fun _ => ev1.new h1 h2⟩

/-- The IDs behind a world. -/
structure VT (W : World) (w : World) (p n g k : Nat) (s : IV) : Prop where
  v : VI w p n s
  kp : Kp W w
  le : W.heap.size ≤ p
  ev : evN n g k s

def isN (n g : Nat) : Prop := g = n ∨ g = n + 1
def gOf (more : Bool) (n g : Nat) : Prop := g = if more = true then n + 1 else n

set_option maxHeartbeats 8000000 in
set_option maxRecDepth 100000 in
theorem turn_walk (a0 a2 : Int) (more : Bool) (m r n q R g : Nat) (w : World)
    (e1 : bits .and .i64 a0 31 = (m : Int)) (e2 : (m : Int).tmod 20 = (r : Int)) (e3 : 1 + (r : Int) = (n : Int)) (h1 : 1 ≤ n) (h2 : n ≤ 20) (e4 : bits .and .i64 a2 7 = (q : Int)) (e5 : (q : Int) + 1 = (R : Int)) (hR : 1 ≤ R ∧ R ≤ 8) (hg : gOf more n g) :
    Calls Try.prog 5 #[.int .i64 a0, .bool more, .int .i64 a2] w fun e w' => e = .returned (.bool true) ∧ Kp w w' := by
  have cN := vnew_ok n w h1 (by omega)
  have z1 : (n : Int) ≤ 20 := by omega
  have z2 : (1 : Int) ≤ n := by omega
  have z3 : (R : Int) ≤ 8 := by omega
  obtain ⟨p, hp⟩ : ∃ p, w.heap.size = p := ⟨_, rfl⟩
  have HP : Hid (w.heap.size = p) := hp
  rw [hp] at cN
  clear hp
  cases more
  · have z7 : g = n := hg
    subst z7
    have HH : Hid (1 ≤ g ∧ g ≤ 20 ∧ isN g g ∧ 1 ≤ R ∧ R ≤ 8 ∧ 1 ≤ R) := ⟨h1, h2, .inl rfl, hR.1, hR.2, hR.1⟩
    clear h1 h2 hR hg
    go_enter Try.func5, Try.ntmps5
    go_wp2_with fail
    with_reducible refine cN.mono ?_
    rintro e w1 ⟨rfl, v1, k1⟩
    have I0 : Hid (VT w w1 p g g 0 newS) := ⟨v1, k1, by have := HP.out; omega, evN.new HH.out.1 (by have := HH.out.2.1; omega)⟩
    clear cN v1 k1 e1 e2 e3
    go_wp2_with fail
    go_loopg [10, 11] R (fun gg v10 v11 wr => ∃ (j : Nat) (s : IV), v11 = .int .i64 (j : Int) ∧ v10 = .int .i64 (s.t : Int) ∧ j ≤ R ∧ R - j ≤ gg ∧ Hid (VT w wr p g g (j * g) s))
    case atStart => exact ⟨0, newS, rfl, rfl, by omega, by omega, by show VT w w1 p g g (0 * g) newS; rw [Nat.zero_mul]; exact I0.out⟩
    case round =>
      clear I0
      obtain ⟨j, s, rfl, rfl, hj, hgg, HI⟩ := hrel
      by_cases hlt : j < R
      · have y1 : (j : Int) < R := by omega
        have hG2 : g ≤ 21 := by omega
        have hjG : Hid (j * g ≤ 8 * 21) := Nat.mul_le_mul (Nat.le_trans hj HH.out.2.2.2.2.1) hG2
        go_wp2_with fail
        go_loopg [10, 12] g (fun gg v10 v12 wr => ∃ (i : Nat) (s : IV), v12 = .int .i64 ((i : Int) + 1) ∧ v10 = .int .i64 (s.t : Int) ∧ i ≤ g ∧ g - i ≤ gg ∧ Hid (VT w wr p g g (j * g + i) s))
        case atStart => exact ⟨0, s, by rfl, rfl, by omega, by omega, HI.out⟩
        case round =>
          clear HI
          obtain ⟨i, s, rfl, rfl, hi, hgi, HI⟩ := hrel
          have ht := HI.out.ev.t HH.out.1 HH.out.2.2.1
          have ht2 : s.t ≤ 190 := by have := hjG.out; omega
          have y5 : (s.t : Int) ≤ 190 := by omega
          by_cases hli : i < g
          · have y2 : (i : Int) < g := by omega
            have k1 := vget_any HI.out.v (HI.out.ev.ok HH.out.2.2.1) ((i : Int) + 1) (by omega)
            have hE : getE ((i : Int) + 1) = 0 := by unfold getE; rw [if_pos (isG_iff.2 ⟨by omega, by omega⟩)]
            have hT := getS_t g s ((i : Int) + 1)
            have hev := HI.out.ev.step HH.out.2.1 (i + 1) (by rw [Nat.mul_comm, Nat.mul_add_mod, Nat.mod_eq_of_lt hli])
            rw [show ((i + 1 : Nat) : Int) = (i : Int) + 1 by omega] at hev
            have HV : Hid (evN g g (j * g + i + 1) (getS g s ((i : Int) + 1)) ∧ (getS g s ((i : Int) + 1)).t = s.t + (if getB g s ((i : Int) + 1) = true then 1 else 0)) := ⟨hev, hT⟩
            rw [hE] at k1
            obtain ⟨id, hid⟩ : ∃ id : Nat, getI g s ((i : Int) + 1) = id := ⟨_, rfl⟩
            obtain ⟨B, hB⟩ : ∃ B, getB g s ((i : Int) + 1) = B := ⟨_, rfl⟩
            obtain ⟨S, hS⟩ : ∃ S, getS g s ((i : Int) + 1) = S := ⟨_, rfl⟩
            rw [hid, hB, hS] at k1
            rw [hB, hS] at HV
            clear hev hT hE ht ht2 hB hS hid
            go_wp2_with fail
            with_reducible refine k1.mono ?_
            rintro e w2 ⟨rfl, v2, f2⟩
            have HN : Hid (VT w w2 p g g (j * g + (i + 1)) S) := ⟨v2, f2.kp HI.out.kp (fun b hb => by have := HI.out.le; have e : b = p := hb; omega), HI.out.le, HV.out.1⟩
            have hT := HV.out.2
            clear k1 v2 f2 HI HV
            cases B
            · have HT : Hid (S.t = s.t) := hT
              clear hT
              go_wp2_with fail
              go_roundg (g - (i + 1))
              case measure => omega
              case rel => exact ⟨i + 1, S, by go_num, by rw [HT.out], by omega, by omega, HN⟩
            · have HT : Hid (S.t = s.t + 1) := hT
              clear hT
              go_wp2_with fail
              go_roundg (g - (i + 1))
              case measure => omega
              case rel => exact ⟨i + 1, S, by go_num, by rw [HT.out]; go_num, by omega, by omega, HN⟩
          · have ei : i = g := by omega
            have hN : Hid (VT w wr p g g ((j + 1) * g) s) := by
              have := HI.out
              rw [ei] at this
              show VT w wr p g g ((j + 1) * g) s
              rw [Nat.add_mul, Nat.one_mul]
              exact this
            have y2 : decide ((i : Int) + 1 ≤ (g : Int)) = false := decide_eq_false (by omega)
            have y3 : decide (i + 1 ≤ g) = false := decide_eq_false (by omega)
            clear ht ht2 HI ei
            go_wp2_with fail
            go_roundg (R - (j + 1))
            case measure => omega
            case rel => exact ⟨j + 1, s, by go_num, rfl, by omega, by omega, hN⟩
      · have ej : j = R := by omega
        subst ej
        obtain ⟨t0, t1⟩ := HI.out.ev.end HH.out.2.2.2.1
        have cT := vtold_any
        have cV : Aside (∀ w', Kp wr w' → Calls Try.prog 14 #[.pointer (some ⟨p, 0, none⟩)] w' fun e w'' => e = .returned (.int .i64 (s.t : Int)) ∧ w'' = w') := fun w' k => vturn_any (HI.out.v.kp k)
        have HK : Hid (Kp w wr) := HI.out.kp
        clear HI
        have t2 := t0 rfl
        rw [t2] at cV
        rw [t2]
        clear t0 t1 t2
        go_wp2_with fail
        with_reducible refine (cT _).mono ?_
        rintro e w2 ⟨rfl, K2⟩
        have cV2 := cV.out w2 K2
        have HK2 : Hid (Kp w w2) := HK.out.trans K2
        clear cV K2 HK cT
        go_wp2_with fail
        with_reducible refine cV2.mono ?_
        rintro e w2 ⟨rfl, rfl⟩
        go_wp2
        go_ret
        exact ⟨rfl, HK2.out⟩
  · have z7 : g = n + 1 := hg
    have z8 : (n : Int) + 1 = (g : Int) := by omega
    have z4 : (g : Int) ≤ 21 := by omega
    have HH : Hid (1 ≤ n ∧ n ≤ 20 ∧ isN n g ∧ 1 ≤ R ∧ R ≤ 8 ∧ g = n + 1) := ⟨h1, h2, .inr z7, hR.1, hR.2, z7⟩
    clear h1 h2 hR hg z7
    go_enter Try.func5, Try.ntmps5
    go_wp2_with fail
    with_reducible refine cN.mono ?_
    rintro e w1 ⟨rfl, v1, k1⟩
    have I0 : Hid (VT w w1 p n g 0 newS) := ⟨v1, k1, by have := HP.out; omega, evN.new HH.out.1 (by have := HH.out.2.1; omega)⟩
    clear cN v1 k1 e1 e2 e3
    go_wp2_with fail
    go_loopg [10, 11] R (fun gg v10 v11 wr => ∃ (j : Nat) (s : IV), v11 = .int .i64 (j : Int) ∧ v10 = .int .i64 (s.t : Int) ∧ j ≤ R ∧ R - j ≤ gg ∧ Hid (VT w wr p n g (j * g) s))
    case atStart => exact ⟨0, newS, rfl, rfl, by omega, by omega, by show VT w w1 p n g (0 * g) newS; rw [Nat.zero_mul]; exact I0.out⟩
    case round =>
      clear I0
      obtain ⟨j, s, rfl, rfl, hj, hgg, HI⟩ := hrel
      by_cases hlt : j < R
      · have y1 : (j : Int) < R := by omega
        have hG2 : g ≤ 21 := by omega
        have hjG : Hid (j * g ≤ 8 * 21) := Nat.mul_le_mul (Nat.le_trans hj HH.out.2.2.2.2.1) hG2
        go_wp2_with fail
        go_loopg [10, 12] g (fun gg v10 v12 wr => ∃ (i : Nat) (s : IV), v12 = .int .i64 ((i : Int) + 1) ∧ v10 = .int .i64 (s.t : Int) ∧ i ≤ g ∧ g - i ≤ gg ∧ Hid (VT w wr p n g (j * g + i) s))
        case atStart => exact ⟨0, s, by rfl, rfl, by omega, by omega, HI.out⟩
        case round =>
          clear HI
          obtain ⟨i, s, rfl, rfl, hi, hgi, HI⟩ := hrel
          have ht := HI.out.ev.t HH.out.1 HH.out.2.2.1
          have ht2 : s.t ≤ 190 := by have := hjG.out; omega
          have y5 : (s.t : Int) ≤ 190 := by omega
          by_cases hli : i < g
          · have y2 : (i : Int) < g := by omega
            have k1 := vget_any HI.out.v (HI.out.ev.ok HH.out.2.2.1) ((i : Int) + 1) (by omega)
            have hE : getE ((i : Int) + 1) = 0 := by unfold getE; rw [if_pos (isG_iff.2 ⟨by omega, by omega⟩)]
            have hT := getS_t n s ((i : Int) + 1)
            have hev := HI.out.ev.step HH.out.2.1 (i + 1) (by rw [Nat.mul_comm, Nat.mul_add_mod, Nat.mod_eq_of_lt hli])
            rw [show ((i + 1 : Nat) : Int) = (i : Int) + 1 by omega] at hev
            have HV : Hid (evN n g (j * g + i + 1) (getS n s ((i : Int) + 1)) ∧ (getS n s ((i : Int) + 1)).t = s.t + (if getB n s ((i : Int) + 1) = true then 1 else 0)) := ⟨hev, hT⟩
            rw [hE] at k1
            obtain ⟨id, hid⟩ : ∃ id : Nat, getI n s ((i : Int) + 1) = id := ⟨_, rfl⟩
            obtain ⟨B, hB⟩ : ∃ B, getB n s ((i : Int) + 1) = B := ⟨_, rfl⟩
            obtain ⟨S, hS⟩ : ∃ S, getS n s ((i : Int) + 1) = S := ⟨_, rfl⟩
            rw [hid, hB, hS] at k1
            rw [hB, hS] at HV
            clear hev hT hE ht ht2 hB hS hid
            go_wp2_with fail
            with_reducible refine k1.mono ?_
            rintro e w2 ⟨rfl, v2, f2⟩
            have HN : Hid (VT w w2 p n g (j * g + (i + 1)) S) := ⟨v2, f2.kp HI.out.kp (fun b hb => by have := HI.out.le; have e : b = p := hb; omega), HI.out.le, HV.out.1⟩
            have hT := HV.out.2
            clear k1 v2 f2 HI HV
            cases B
            · have HT : Hid (S.t = s.t) := hT
              clear hT
              go_wp2_with fail
              go_roundg (g - (i + 1))
              case measure => omega
              case rel => exact ⟨i + 1, S, by go_num, by rw [HT.out], by omega, by omega, HN⟩
            · have HT : Hid (S.t = s.t + 1) := hT
              clear hT
              go_wp2_with fail
              go_roundg (g - (i + 1))
              case measure => omega
              case rel => exact ⟨i + 1, S, by go_num, by rw [HT.out]; go_num, by omega, by omega, HN⟩
          · have ei : i = g := by omega
            have hN : Hid (VT w wr p n g ((j + 1) * g) s) := by
              have := HI.out
              rw [ei] at this
              show VT w wr p n g ((j + 1) * g) s
              rw [Nat.add_mul, Nat.one_mul]
              exact this
            have y2 : decide ((i : Int) + 1 ≤ (g : Int)) = false := decide_eq_false (by omega)
            have y3 : decide (i + 1 ≤ g) = false := decide_eq_false (by omega)
            clear ht ht2 HI ei
            go_wp2_with fail
            go_roundg (R - (j + 1))
            case measure => omega
            case rel => exact ⟨j + 1, s, by go_num, rfl, by omega, by omega, hN⟩
      · have ej : j = R := by omega
        subst ej
        obtain ⟨t0, t1⟩ := HI.out.ev.end HH.out.2.2.2.1
        have cT := vtold_any
        have cV : Aside (∀ w', Kp wr w' → Calls Try.prog 14 #[.pointer (some ⟨p, 0, none⟩)] w' fun e w'' => e = .returned (.int .i64 (s.t : Int)) ∧ w'' = w') := fun w' k => vturn_any (HI.out.v.kp k)
        have HK : Hid (Kp w wr) := HI.out.kp
        clear HI
        have t2 := t1 HH.out.2.2.2.2.2
        have t3 : ((s.t : Int) == 0) = false := by have := HH.out.2.2.2.1; rw [beq_eq_false_iff_ne]; omega
        have t5 : (s.t == 0) = false := by have := HH.out.2.2.2.1; rw [beq_eq_false_iff_ne]; omega
        have t4 : (j : Int) ≤ (s.t : Int) := by omega
        generalize s.t = t at *
        clear t0 t1
        go_wp2_with fail
        with_reducible refine (cT _).mono ?_
        rintro e w2 ⟨rfl, K2⟩
        have cV2 := cV.out w2 K2
        have HK2 : Hid (Kp w w2) := HK.out.trans K2
        clear cV K2 HK cT
        go_wp2_with fail
        with_reducible refine cV2.mono ?_
        rintro e w2 ⟨rfl, rfl⟩
        go_wp2
        go_ret
        exact ⟨rfl, HK2.out⟩

theorem turns_any (a0 : Int) (more : Bool) (a2 : Int) (w : World) :
    Calls Try.prog 5 #[.int .i64 a0, .bool more, .int .i64 a2] w fun e w' => e = .returned (.bool true) ∧ Kp w w' := by
  obtain ⟨m, m1, m2⟩ := and_lim a0 31 (by omega)
  obtain ⟨q, q1, q2⟩ := and_lim a2 7 (by omega)
  exact turn_walk a0 a2 more m (m % 20) (1 + m % 20) q (q + 1) _ w m1 (by rw [Int.tmod_eq_emod_of_nonneg (by omega)]; omega) (by omega) (by omega) (by omega) q1 (by omega) (by omega) rfl

end Go.Proofs.Ytclheedcdogkbaa
