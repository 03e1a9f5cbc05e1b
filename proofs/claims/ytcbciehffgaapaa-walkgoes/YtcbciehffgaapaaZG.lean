/- same; the reader of WalkGoes. -/
import Derived.Test.YtcbciehffgaapaaZF
import Derived.Test.YtcbciehffgaapaaEF
namespace Go.Proofs.Ytcbciehffgaapaa
open Go.RowKit

theorem steps_at {w : World} {na : Option Addr} {n c : Nat} {L : List SV} {e : TypeId} (h : OL encS e 9 w (.slice na n c) L) {i : Nat} {x : SV} (hi : L[i]? = some x) : ∃ g, na = some ⟨g, 0, none⟩ := by
  obtain ⟨_, _, e, _, h2⟩ := OL.form h
  cases e
  rcases h2 with ⟨_, _, h3⟩ | ⟨g, h3, _⟩
  · rw [h3] at hi; cases hi
  · exact ⟨g, h3⟩

theorem steps_shape {w : World} {v : Value} {L : List SV} {e : TypeId} (h : OL encS e 9 w v L) : ∃ na c, v = .slice na L.length c := by
  obtain ⟨na, cap, rfl, _⟩ := OL.form h
  exact ⟨_, _, rfl⟩

set_option maxHeartbeats 4000000 in
set_option maxRecDepth 10000 in
theorem same_any {w : World} {va vb : Value} {L : List SV} (hA : OL encS 52 9 w va L) (hB : OL encS 54 9 w vb L) (hL : L.length ≤ 100) :
    Calls Try.prog 15 #[va, vb] w fun e w' => e = .returned (.bool true) ∧ Kp w w' := by
  obtain ⟨n1, c1, rfl⟩ := steps_shape hA
  obtain ⟨n2, c2, rfl⟩ := steps_shape hB
  obtain ⟨ll, hll⟩ : ∃ ll, L.length = ll := ⟨_, rfl⟩
  have HL : Hid (L.length = ll) := hll
  rw [hll] at hA hB hL ⊢
  have HA : Hid (OL encS 52 9 w (.slice n1 ll c1) L) := hA
  have HB : Hid (OL encS 54 9 w (.slice n2 ll c2) L) := hB
  have HK0 : Hid (Kp w w) := Kp.refl _
  have yn : ((ll : Int) != (ll : Int)) = false := by simp
  clear hA hB hll
  go_enter Try.func15, Try.ntmps15
  go_wp2_with fail
  go_loopg [5] (ll + 1) (fun g v5 wr => ∃ i : Nat, v5 = .int .i64 (i : Int) ∧ i ≤ ll ∧ ll + 1 - i ≤ g ∧ Hid (Kp w wr))
  case atStart => exact ⟨0, rfl, Nat.zero_le _, by omega, HK0⟩
  case round =>
    clear HK0
    obtain ⟨i, rfl, i1, ig, HKr⟩ := hrel
    by_cases c : i < ll
    · obtain ⟨y, hy⟩ : ∃ y, L[i]? = some y := ⟨_, List.getElem?_eq_getElem (by rw [HL.out]; exact c)⟩
      obtain ⟨yl, yp, yu, ⟨yk, ya, yr, yq, yx, yf⟩⟩ := y
      obtain ⟨g1, rfl⟩ := steps_at HA.out hy
      obtain ⟨g2, rfl⟩ := steps_at HB.out hy
      have La := OL.fr HA.out (HKr.out.fr (fun _ => False)) (fun _ _ => id)
      have Lb := OL.fr HB.out (HKr.out.fr (fun _ => False)) (fun _ _ => id)
      have heq := fun w => eq_like yk (ya : Int) yr yq yx yf w
      have q1 : (i : Int) < (ll : Int) := by omega
      have q3 : (i : Int) ≤ 100 := by omega
      have n1 : ((yl : Int) != (yl : Int)) = false := by simp
      have n2 : ((yp : Int) != (yp : Int)) = false := by simp
      have n3 : ((yu : Int) != (yu : Int)) = false := by simp
      have a0 : wr.cell? ⟨g1, i * 9, none⟩ = some (.int .i64 (yl : Int)) := OL.cell encS_ok La (j := 0) hy rfl
      have b0 : wr.cell? ⟨g2, i * 9, none⟩ = some (.int .i64 (yl : Int)) := OL.cell encS_ok Lb (j := 0) hy rfl
      have a1 : wr.cell? ⟨g1, i * 9 + 1, none⟩ = some (.int .u64 (yp : Int)) := OL.cell encS_ok La (j := 1) hy rfl
      have b1 : wr.cell? ⟨g2, i * 9 + 1, none⟩ = some (.int .u64 (yp : Int)) := OL.cell encS_ok Lb (j := 1) hy rfl
      have a2 : wr.cell? ⟨g1, i * 9 + 2, none⟩ = some (.int .u64 (yu : Int)) := OL.cell encS_ok La (j := 2) hy rfl
      have b2 : wr.cell? ⟨g2, i * 9 + 2, none⟩ = some (.int .u64 (yu : Int)) := OL.cell encS_ok Lb (j := 2) hy rfl
      have a3 : wr.cell? ⟨g1, i * 9 + 3, none⟩ = some (.int .i64 yk) := OL.cell encS_ok La (j := 3) hy rfl
      have b3 : wr.cell? ⟨g2, i * 9 + 3, none⟩ = some (.int .i64 yk) := OL.cell encS_ok Lb (j := 3) hy rfl
      have a4 : wr.cell? ⟨g1, i * 9 + 4, none⟩ = some (.int .u64 (ya : Int)) := OL.cell encS_ok La (j := 4) hy rfl
      have b4 : wr.cell? ⟨g2, i * 9 + 4, none⟩ = some (.int .u64 (ya : Int)) := OL.cell encS_ok Lb (j := 4) hy rfl
      have a5 : wr.cell? ⟨g1, i * 9 + 5, none⟩ = some (.bool yr) := OL.cell encS_ok La (j := 5) hy rfl
      have b5 : wr.cell? ⟨g2, i * 9 + 5, none⟩ = some (.bool yr) := OL.cell encS_ok Lb (j := 5) hy rfl
      have a6 : wr.cell? ⟨g1, i * 9 + 6, none⟩ = some (.bool yq) := OL.cell encS_ok La (j := 6) hy rfl
      have b6 : wr.cell? ⟨g2, i * 9 + 6, none⟩ = some (.bool yq) := OL.cell encS_ok Lb (j := 6) hy rfl
      have a7 : wr.cell? ⟨g1, i * 9 + 7, none⟩ = some (.bool yx) := OL.cell encS_ok La (j := 7) hy rfl
      have b7 : wr.cell? ⟨g2, i * 9 + 7, none⟩ = some (.bool yx) := OL.cell encS_ok Lb (j := 7) hy rfl
      have a8 : wr.cell? ⟨g1, i * 9 + 8, none⟩ = some (.int .i64 yf) := OL.cell encS_ok La (j := 8) hy rfl
      have b8 : wr.cell? ⟨g2, i * 9 + 8, none⟩ = some (.int .i64 yf) := OL.cell encS_ok Lb (j := 8) hy rfl
      clear La Lb hy
      go_wp2_with fail
      go_quiet (fail)
      have HKr2 : Hid (Kp w (wr.drewN nq)) := HKr.out.drewN nq
      go_wp2
      go_roundg (ll + 1 - (i + 1))
      case measure => omega
      case rel => exact ⟨i + 1, by go_num, by omega, by omega, HKr2⟩
    · have q1 : ¬ (i : Int) < (ll : Int) := by omega
      go_wp2
      go_ret
      exact ⟨rfl, HKr.out⟩

/-- What the reader of WalkGoes leans on: the count at bn, the words at b, whether it stops at bs. -/
def IG (bn b bs : Nat) (va vx : Value) (A X : List Nat) (stop : Bool) (m : Nat) (w : World) : Prop := w.heap[bn]? = some (.cells #[.int .i64 (m : Int)] 3) ∧ w.heap[bs]? = some (.cells #[.bool stop] 4) ∧ IW b va vx A X w

set_option maxHeartbeats 2000000 in
theorem readG (bn b bs : Nat) (va vx : Value) (A X : List Nat) (stop : Bool) (lA : A.length ≤ 100) (lX : X.length ≤ 100) (wx : ∀ y ∈ X, y < 18446744073709551616) (h1 : b < bn) (h2 : bs < bn) (fa : ∀ g, va.ownBlock = some g → g < bn) (fx : ∀ g, vx.ownBlock = some g → g < bn) :
    RD (bn + 1) 10 #[.pointer (some ⟨bn, 0, none⟩), .pointer (some ⟨b, 0, none⟩), .pointer (some ⟨bs, 0, none⟩)] (rdW A X stop) (· = bn) (IG bn b bs va vx A X stop) where
  fn := ⟨_, Try.func10, rfl, by decide⟩
  lt g h := by omega
  word p := rdW_word wx stop p
  keep m w w' h k := ⟨(k.block _ (by omega)).trans h.1, (k.block _ (by omega)).trans h.2.1, (k.block _ (by omega)).trans h.2.2.1, h.2.2.2.1.below k (fun g e => by have := fa g e; omega), h.2.2.2.2.below k (fun g e => by have := fx g e; omega)⟩
  size m w h := lt_of_row h.1
  call n w p h hn hp := by
    show Calls Try.prog 10 #[.int .u64 (p : Int), .pointer (some ⟨bn, 0, none⟩), .pointer (some ⟨b, 0, none⟩), .pointer (some ⟨bs, 0, none⟩)] w fun e w' => e = .returned (.tuple #[.int .u64 ((rdW A X stop p).1 : Int), .bool (rdW A X stop p).2]) ∧ IG bn b bs va vx A X stop (n + 1) w' ∧ Fr (· = bn) w w'
    have k := cnt_step h.1
    obtain ⟨w1, hw1⟩ : ∃ w1, w1 = w.setCell ⟨bn, 0, none⟩ (.int .i64 ((n : Int) + 1)) := ⟨_, rfl⟩
    rw [← hw1] at k
    have I1 : IG bn b bs va vx A X stop (n + 1) w1 := ⟨k.1, (k.2.block _ (lt_of_row h.2.1) (by omega)).trans h.2.1, (k.2.block _ (lt_of_row h.2.2.1) (by omega)).trans h.2.2.1, h.2.2.2.1.fr k.2 (fun g e e' => by have := fa g e; omega), h.2.2.2.2.fr k.2 (fun g e e' => by have := fx g e; omega)⟩
    obtain ⟨na, n1, ca, rfl⟩ := h.2.2.2.1.shape
    obtain ⟨nx, n2, cx, rfl⟩ := h.2.2.2.2.shape
    have c := read_any I1.2.2.2.1 I1.2.2.2.2 p stop lA lX
    have c0 := I1.2.2.cells.1
    have c1 := I1.2.2.cells.2
    have cs := cell_one I1.2.1
    have cn := cell_one h.1
    have zn : w.frozen? ⟨bn, 0, none⟩ = false := frozen_of_row _ _ 0 _ _ h.1
    have yn : (n : Int) ≤ 100 := by omega
    have HI : Hid (IG bn b bs (.slice na n1 ca) (.slice nx n2 cx) A X stop (n + 1) w1) := I1
    have HF : Hid (Fr (· = bn) w w1) := k.2
    obtain ⟨x, hx⟩ : ∃ x, x = (rdW A X stop p).1 := ⟨_, rfl⟩
    obtain ⟨ok, hok⟩ : ∃ ok, ok = (rdW A X stop p).2 := ⟨_, rfl⟩
    rw [← hx, ← hok] at c ⊢
    clear h hx hok fa fx wx k I1
    go_enter Try.func10, Try.ntmps10
    rw [hw1] at c0 c1 cs c
    go_wp2_with fail
    with_reducible refine c.mono ?_
    rintro e w2 ⟨rfl, K⟩
    rw [← hw1] at K
    have HK : Hid (Kp w1 w2) := K
    clear K c c0 c1 cs
    go_wp2
    go_ret2
    refine ⟨rfl, ?_, HF.out.trans (HK.out.fr _)⟩
    have I := HI.out
    have g := HK.out
    exact ⟨(g.block _ (lt_of_row I.1)).trans I.1, (g.block _ (lt_of_row I.2.1)).trans I.2.1, I.2.2.kp g⟩

end Go.Proofs.Ytcbciehffgaapaa
