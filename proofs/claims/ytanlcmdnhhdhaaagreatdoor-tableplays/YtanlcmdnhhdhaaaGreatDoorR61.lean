/- The document's second stage: Join. -/
import Derived.Test.YtanlcmdnhhdhaaaGreatDoorJ36
namespace Go.Proofs.YtanlcmdnhhdhaaaGreatDoor
open Go.RowKit
set_option maxRecDepth 10000

/-- The leaf at n + i is the i-th Page of the block of x. -/
def jnP (L : List LV) (n first : Nat) (x : LV) (i : Nat) : Prop := ∃ y, L[n + i]? = some y ∧ y.g = first + i ∧ y.x = x.x + i ∧ samP y.r y.q y.e x.r x.q x.e = true ∧ y.f = x.f
/-- The page's block can be joined: from n on. -/
def JnC (L : List LV) (page n : Nat) (x : LV) : Prop := (∃ k b, L.findIdx? (hitL page) = some k ∧ L[k]? = some b ∧ b.l = 3) ∧ L.findIdx? (hitL (page / 512 * 512)) = some n ∧ L[n]? = some x ∧ n + 512 ≤ L.length ∧ x.x % 512 = 0 ∧ ∀ i, i < 512 → jnP L n (page / 512 * 512) x i
def bkV (x : LV) : LV := ⟨x.g, x.x, x.r, x.q, x.e, x.f, 2⟩
def jnL (L : List LV) (n : Nat) (x : LV) : List LV := L.take n ++ [bkV x] ++ L.drop (n + 512)
theorem mem_jn {L : List LV} {n : Nat} {x v : LV} (h : v ∈ jnL L n x) : v ∈ L ∨ v = bkV x := by
  unfold jnL at h
  simp only [List.mem_append, List.mem_singleton] at h
  rcases h with (h | h) | h
  · exact .inl (List.mem_of_mem_take h)
  · exact .inr h
  · exact .inl (List.mem_of_mem_drop h)
theorem okL_jn {L : List LV} {page n : Nat} {x : LV} (h : okL L) (j : JnC L page n x) : okL (jnL L n x) := fun v hv => by
  rcases mem_jn hv with c | c
  · exact h v c
  · obtain ⟨⟨k, b, j1, j2, j3⟩, _, j5, _, _, j8⟩ := j
    have hx := h x (List.mem_of_getElem? j5)
    obtain ⟨y, y1, y2, y3, _⟩ := j8 511 (by omega)
    have hy := h y (List.mem_of_getElem? y1)
    rw [c]
    refine ⟨.inl rfl, hx.2.1, hx.2.2.1, fun _ => ⟨by show x.x + 511 < 2100; omega, ?_⟩⟩
    obtain ⟨y', z1, z2, _⟩ := j8 0 (by omega)
    rw [Nat.add_zero, j5] at z1
    cases z1
    show x.g ≤ 268435456
    have : page / 512 * 512 + 511 < 268435968 := by rw [← y2]; exact hy.2.1
    omega
theorem len_jn {L : List LV} {n : Nat} {x : LV} (h : n + 512 ≤ L.length) : (jnL L n x).length ≤ L.length := by
  unfold jnL
  simp only [List.length_append, List.length_take, List.length_drop, List.length_cons, List.length_nil]
  omega
/-- What Join leaves. -/
def RJn (w w' : World) (br bf : Nat) (v : Value) (L : List LV) (fr : Int) (gone : Bool) (page : Nat) (rr : Int) : Prop :=
  (rr = 23 ∧ (gone = true ∨ ¬ 0 ≤ atI L page) ∧ RN w w' br bf v L fr gone) ∨ (rr = 20 ∧ gone = false ∧ 0 ≤ atI L page ∧ (∀ n x, ¬ JnC L page n x) ∧ RN w w' br bf v L fr gone) ∨
  (rr = 0 ∧ gone = false ∧ ∃ n x, JnC L page n x ∧ (setB fr L (jnL L n x) = true → RN w w' br bf v (jnL L n x) (fr - ((tabL (jnL L n x) : Int) - (tabL L : Int))) false) ∧ (setB fr L (jnL L n x) = false → RN w w' br bf v L fr false))
set_option maxHeartbeats 8000000 in
theorem rjoin_any {w : World} {br bf : Nat} {v : Value} {L : List LV} {fr : Int} {gone : Bool} (h : RQ w br bf v L fr gone) (hl : L.length ≤ 900000) (page : Nat) (hp : page < 18446744073709551616) (hf : -1000000000 ≤ fr ∧ fr ≤ 1000000000) :
    Calls Tryz.prog 39 #[.pointer (some ⟨br, 0, none⟩), .int .u64 (page : Int)] w fun e w' => ∃ rr, e = .returned (.int .i64 rr) ∧ Hid (RJn w w' br bf v L fr gone page rr) := by
  obtain ⟨na, cap, rfl, _⟩ := h.slice
  have ka := rat_any h (by omega) page hp
  have c0 := h.c0
  have c3 := h.c3
  have RS : Hid (∀ u, Kp w u → RN w u br bf (.slice na L.length cap) L fr gone) := fun u k => RN.same h k
  by_cases g1 : gone = true
  · have HE : Hid (RJn w w br bf (.slice na L.length cap) L fr gone page 23) := .inl ⟨rfl, .inl g1, RS.out _ (Kp.refl _)⟩
    subst g1
    generalize atI L page = k at *
    clear h hp
    go_enter Tryz.func39, Tryz.ntmps39
    go_wp2_with fail
    with_reducible refine ka.mono ?_
    rintro e w' ⟨rfl, rfl⟩
    go_wp2_with fail
    go_ret
    exact ⟨23, rfl, HE.out⟩
  obtain rfl : gone = false := by simpa using g1
  by_cases g2 : 0 ≤ atI L page
  · obtain ⟨k, b, f1, f2, f3, f4⟩ := at_some g2
    rw [f4] at ka
    obtain ⟨g, rfl, hgl, hc⟩ := h.ol.at f2
    have d6 := hc 6 _ rfl
    have kn := (List.getElem?_eq_some_iff.1 f2).1
    have hok := h.ok b (List.mem_of_getElem? f2)
    have y1 : (k : Int) < L.length := by omega
    have ha := andn_511 page hp
    obtain ⟨pf, hpf⟩ : ∃ pf, pf = page / 512 * 512 := ⟨_, rfl⟩
    have kb := rat_any h (by omega) pf (by omega)
    rw [← hpf] at ha
    have zpf : (pf : Int) < 18446744073709551616 := by omega
    obtain ⟨n0, hn0⟩ : ∃ n0, n0 = L.length := ⟨_, rfl⟩
    -- refused, and why
    have no : ∀ u, Kp w u → (∀ n x, ¬ JnC L page n x) → RJn w u br bf (.slice (some ⟨g, 0, none⟩) L.length cap) L fr false page 20 := fun u ku c => .inr (.inl ⟨rfl, rfl, g2, c, RS.out u ku⟩)
    rcases hok.1 with g4 | g4
    · have HE : Hid (RJn w w br bf (.slice (some ⟨g, 0, none⟩) L.length cap) L fr false page 20) := no w (Kp.refl _) (fun n x j => by
        obtain ⟨⟨k', b', e1, e2, e3⟩, _⟩ := j
        rw [f1] at e1; cases e1
        rw [f2] at e2; cases e2
        omega)
      rw [g4, show ((2 : Nat) : Int) = 2 from rfl] at d6
      generalize atI L pf = n at *
      clear h hp hc hok f1 f2 f3 f4 g1 g2 g4 kn no hpf hn0 RS zpf
      go_enter Tryz.func39, Tryz.ntmps39
      go_wp2_with fail
      with_reducible refine ka.mono ?_
      rintro e w' ⟨rfl, rfl⟩
      go_wp2_with fail
      with_reducible refine kb.mono ?_
      rintro e w'' ⟨rfl, rfl⟩
      go_wp2_with fail
      go_ret
      exact ⟨20, rfl, HE.out⟩
    · rw [g4, show ((3 : Nat) : Int) = 3 from rfl] at d6
      have HK : Hid (∃ k b, L.findIdx? (hitL page) = some k ∧ L[k]? = some b ∧ b.l = 3) := ⟨k, b, f1, f2, g4⟩
      by_cases g5 : 0 ≤ atI L pf
      · obtain ⟨n, x, p1, p2, p3, p4⟩ := at_some g5
        rw [p4] at kb
        obtain ⟨g', eg, _, hcx⟩ := h.ol.at p2
        cases eg
        have nn := (List.getElem?_eq_some_iff.1 p2).1
        have hox := h.ok x (List.mem_of_getElem? p2)
        have e1 := hcx 1 _ rfl
        obtain ⟨m5, hm5⟩ : ∃ m5, m5 = x.x % 512 := ⟨_, rfl⟩
        have b2 : (x.x : Int).tmod 512 = (m5 : Int) := by rw [Int.tmod_eq_emod_of_nonneg (by omega)]; omega
        have yn : (n : Int) < L.length := by omega
        by_cases g6 : n + 512 ≤ L.length
        · by_cases g7 : m5 = 0
          · skip
            have HJ : Hid (RQ w br bf (.slice (some ⟨g, 0, none⟩) L.length cap) L fr false ∧ L.length ≤ 900000 ∧ (-1000000000 ≤ fr ∧ fr ≤ 1000000000) ∧ g < w.heap.size ∧ L.findIdx? (hitL pf) = some n ∧ L[n]? = some x ∧ n + 512 ≤ L.length ∧ x.x % 512 = 0 ∧ pf = page / 512 * 512 ∧ x.x < 2100 ∧ (n0 = L.length ∧ pf ≤ 268435967)) := ⟨h, hl, hf, hgl, p1, p2, g6, by omega, hpf, hox.2.2.1, hn0, by
              have hb := hok.2.1
              have e : b.g = page := by
                unfold hitL at f3
                rw [g4] at f3
                simpa using f3
              omega⟩
            have NO : Hid (∀ u, Kp w u → (∀ n x, ¬ JnC L page n x) → RJn w u br bf (.slice (some ⟨g, 0, none⟩) L.length cap) L fr false page 20) := no
            have HCX : Hid (∀ u, Kp w u → ∀ j y, (encL x)[j]? = some y → u.cell? ⟨g, n * 7 + j, none⟩ = some y) := fun u ku j y hy => by rw [ku.cell (p := ⟨g, n * 7 + j, none⟩) hgl]; exact hcx j y hy
            subst g7
            rw [show ((0 : Nat) : Int) = 0 from rfl] at b2
            have y5 : ¬ (L.length : Int) < (n : Int) + 512 := by omega
            have y6 : decide ((L.length : Int) < (n : Int) + 512) = false := decide_eq_false y5
            have z5 : (n : Int) ≤ 900000 := by omega
            rw [← hn0] at c0 y1 yn y5 y6
            have zn : (n0 : Int) ≤ 900000 := by omega
            clear h hp hc hok f1 f2 f3 f4 g1 g2 g4 kn no hpf hn0 RS p1 p2 p3 p4 hcx nn hox hm5 g5 hl hf zpf
            go_enter Tryz.func39, Tryz.ntmps39
            go_wp2_with fail
            with_reducible refine ka.mono ?_
            rintro e w' ⟨rfl, rfl⟩
            go_wp2_with fail
            with_reducible refine kb.mono ?_
            rintro e w'' ⟨rfl, rfl⟩
            clear ka kb
            go_wp2_with fail
            clear d6 e1 c3 y1 b2 y5
            go_loopg [8] 513 (fun gg v8 wr => ∃ i : Nat, v8 = .int .i64 (i : Int) ∧ i ≤ 512 ∧ 513 - i ≤ gg ∧ Hid (Kp w'' wr ∧ ∀ j, j < i → jnP L n pf x j))
            case atStart => exact ⟨0, rfl, by omega, by omega, Kp.refl _, fun j hj => absurd hj (Nat.not_lt_zero j)⟩
            case round =>
              obtain ⟨i, rfl, hi, hg, HI⟩ := hrel
              by_cases e : i < 512
              · obtain ⟨ni, hni⟩ : ∃ ni, ni = n + i := ⟨_, rfl⟩
                obtain ⟨y, hy⟩ : ∃ y, L[ni]? = some y := ⟨_, List.getElem?_eq_getElem (by have := HJ.out.2.2.2.2.2.2; omega)⟩
                obtain ⟨g', eg, _, hcy⟩ := HJ.out.1.ol.at hy
                cases eg
                have kw := HI.out.1
                have hoy := HJ.out.1.ok y (List.mem_of_getElem? hy)
                obtain ⟨fi, hfi⟩ : ∃ fi, fi = pf + i := ⟨_, rfl⟩
                obtain ⟨xi, hxi⟩ : ∃ xi, xi = x.x + i := ⟨_, rfl⟩
                have fail : (y.g ≠ fi ∨ y.x ≠ xi ∨ samP y.r y.q y.e x.r x.q x.e = false ∨ y.f ≠ x.f) → ∀ n x, ¬ JnC L page n x := fun c n' x' j => by
                  obtain ⟨_, e1, e2, _, _, e5⟩ := j
                  have hJ := HJ.out
                  rw [← hJ.2.2.2.2.2.2.2.2.1, hJ.2.2.2.2.1] at e1; cases e1
                  rw [hJ.2.2.2.2.2.1] at e2; cases e2
                  obtain ⟨y', q1, q2, q3, q4, q5⟩ := e5 i e
                  rw [← hni, hy] at q1; cases q1
                  rw [← hJ.2.2.2.2.2.2.2.2.1, ← hfi] at q2
                  rw [← hxi] at q3
                  rcases c with c | c | c | c
                  · exact c q2
                  · exact c q3
                  · rw [c] at q4; cases q4
                  · exact c q5
                have good : y.g = fi → y.x = xi → samP y.r y.q y.e x.r x.q x.e = true → y.f = x.f → ∀ j, j < i + 1 → jnP L n pf x j := fun a1 a2 a3 a4 j hj => by
                  by_cases ej : j = i
                  · subst ej; exact ⟨y, by rw [← hni]; exact hy, by rw [a1, hfi], by rw [a2, hxi], a3, a4⟩
                  · exact HI.out.2 j (by omega)
                have hq := eq_permP y.r y.q y.e x.r x.q x.e
                have cy : ∀ u, Kp w'' u → ∀ j v, (encL y)[j]? = some v → u.cell? ⟨g, ni * 7 + j, none⟩ = some v := fun u ku j v hv => by rw [ku.cell (p := ⟨g, ni * 7 + j, none⟩) HJ.out.2.2.2.1]; exact hcy j v hv
                have r0 : wr.cell? ⟨g, ni * 7, none⟩ = some (.int .u64 (y.g : Int)) := cy wr kw 0 _ rfl
                have r1 := cy wr kw 1 _ rfl
                have r2 := cy wr kw 2 _ rfl
                have r3 := cy wr kw 3 _ rfl
                have r4 := cy wr kw 4 _ rfl
                have r5 := cy wr kw 5 _ rfl
                have r6 := cy wr kw 6 _ rfl
                have q0 : wr.cell? ⟨br, 0, none⟩ = some (.slice (some ⟨g, 0, none⟩) n0 cap) := by have := (HJ.out.1.kp kw).c0; rw [← HJ.out.2.2.2.2.2.2.2.2.2.2.1] at this; exact this
                have ca : ∀ ob : Obj, (wr.alloc ob).cell? ⟨br, 0, none⟩ = some (.slice (some ⟨g, 0, none⟩) n0 cap) := fun ob => by have := (HJ.out.1.kp (kw.alloc ob)).c0; rw [← HJ.out.2.2.2.2.2.2.2.2.2.2.1] at this; exact this
                have xa : ∀ (ob : Obj) j v, (encL x)[j]? = some v → (wr.alloc ob).cell? ⟨g, n * 7 + j, none⟩ = some v := fun ob => HCX.out _ (kw.alloc ob)
                have s1 := fun ob => xa ob 1 _ rfl
                have s2 := fun ob => xa ob 2 _ rfl
                have s3 := fun ob => xa ob 3 _ rfl
                have s4 := fun ob => xa ob 4 _ rfl
                have s5 := fun ob => xa ob 5 _ rfl
                have HK2 : Hid (∀ ob q, Kp w'' ((wr.alloc ob).drewN q)) := fun ob q => (kw.alloc ob).drewN q
                have t1 : (n : Int) + (i : Int) = (ni : Int) := by omega
                have t2 : (ni : Int) < n0 := by have := HJ.out.2.2.2.2.2.2; omega
                have t3 : (pf : Int) + (i : Int) = (fi : Int) := by omega
                have t4 : (x.x : Int) + (i : Int) = (xi : Int) := by omega
                have t5 : (xi : Int) ≤ 3000 := by have := HJ.out.2.2.2.2.2.2.2.2.2.1; omega
                have t6 : (i : Int) < 512 := by omega
                have t7 : (fi : Int) ≤ 268436500 := by have := HJ.out.2.2.2.2.2.2.2.2.2.2.2; omega
                obtain ⟨DD, hDD⟩ : ∃ DD, DD = samP y.r y.q y.e x.r x.q x.e := ⟨_, rfl⟩
                rw [← hDD] at hq fail good
                have HFG : Hid (((y.g ≠ fi ∨ y.x ≠ xi ∨ DD = false ∨ y.f ≠ x.f) → ∀ n x, ¬ JnC L page n x) ∧ (y.g = fi → y.x = xi → DD = true → y.f = x.f → ∀ j, j < i + 1 → jnP L n pf x j)) := ⟨fail, good⟩
                generalize y.g = yg at *
                generalize y.x = yx at *
                generalize y.r = yr at *
                generalize y.q = yq at *
                generalize y.e = ye at *
                generalize y.f = yf at *
                generalize y.l = yl at *
                generalize x.x = xx at *
                generalize x.r = xr at *
                generalize x.q = xq at *
                generalize x.e = xe at *
                generalize x.f = xf at *
                clear fail good hDD xa cy hcy hoy hy hni hfi hxi kw HI
                by_cases a1 : yg = fi
                · subst a1
                  by_cases a2 : yx = xi
                  · subst a2
                    cases DD
                    · have HX : Hid (∀ n x, ¬ JnC L page n x) := HFG.out.1 (.inr (.inr (.inl rfl)))
                      clear HFG
                      go_wp2_with fail
                      go_quiet (fail)
                      go_wp2_with fail
                      go_ret
                      exact ⟨20, rfl, NO.out _ (HK2.out _ _) HX.out⟩
                    · by_cases a4 : yf = xf
                      · subst a4
                        have HN : Hid (∀ j, j < i + 1 → jnP L n pf x j) := HFG.out.2 rfl rfl rfl rfl
                        clear HFG
                        go_wp2_with fail
                        go_quiet (fail)
                        go_wp2_with fail
                        go_roundg (513 - (i + 1))
                        case measure => omega
                        case rel => exact ⟨i + 1, by go_num, by omega, by omega, HK2.out _ _, HN.out⟩
                      · have HX : Hid (∀ n x, ¬ JnC L page n x) := HFG.out.1 (.inr (.inr (.inr a4)))
                        have m1 : (yf == xf) = false := by rw [beq_eq_false_iff_ne]; exact a4
                        have m2 : (yf != xf) = true := by rw [bne_iff_ne]; exact a4
                        have m3 : decide (yf = xf) = false := decide_eq_false a4
                        clear a4
                        clear HFG
                        go_wp2_with fail
                        go_quiet (fail)
                        go_wp2_with fail
                        go_ret
                        exact ⟨20, rfl, NO.out _ (HK2.out _ _) HX.out⟩
                  · have HX : Hid (∀ n x, ¬ JnC L page n x) := HFG.out.1 (.inr (.inl a2))
                    have m1 := beq_nat_f a2
                    have m2 : ((yx : Int) != (xi : Int)) = true := by rw [bne_iff_ne]; omega
                    have m3 : decide ((yx : Int) = (xi : Int)) = false := decide_eq_false (by omega)
                    have m4 : decide (yx = xi) = false := decide_eq_false a2
                    clear a2
                    clear HFG
                    go_wp2_with fail
                    go_quiet (fail)
                    go_wp2_with fail
                    go_ret
                    exact ⟨20, rfl, NO.out _ (HK2.out _ _) HX.out⟩
                · have HX : Hid (∀ n x, ¬ JnC L page n x) := HFG.out.1 (.inl a1)
                  have m1 := beq_nat_f a1
                  have m2 : ((yg : Int) != (fi : Int)) = true := by rw [bne_iff_ne]; omega
                  have m3 : decide ((yg : Int) = (fi : Int)) = false := decide_eq_false (by omega)
                  have m4 : decide (yg = fi) = false := decide_eq_false a1
                  clear a1
                  clear HFG
                  go_wp2_with fail
                  go_quiet (fail)
                  go_wp2_with fail
                  go_ret
                  exact ⟨20, rfl, NO.out _ (HK2.out _ _) HX.out⟩
              · obtain rfl : i = 512 := by omega
                rw [show ((512 : Nat) : Int) = 512 from rfl]
                have kw := HI.out.1
                have hJ := HJ.out
                have jc : JnC L page n x := by
                  have ep := hJ.2.2.2.2.2.2.2.2.1
                  exact ⟨HK.out, by rw [← ep]; exact hJ.2.2.2.2.1, hJ.2.2.2.2.2.1, hJ.2.2.2.2.2.2.1, hJ.2.2.2.2.2.2.2.1, fun i hi => by rw [← ep]; exact HI.out.2 i hi⟩
                have okj := okL_jn hJ.1.ok jc
                have lj := len_jn (x := x) hJ.2.2.2.2.2.2.1
                have hlen := hJ.2.2.2.2.2.2.2.2.2.2.1
                have q0 : ∀ u, Kp w'' u → u.cell? ⟨br, 0, none⟩ = some (.slice (some ⟨g, 0, none⟩) n0 cap) := fun u ku => by have := (hJ.1.kp ku).c0; rw [← hlen] at this; exact this
                have kb : Kp wr (wr.alloc (.cells #[.int .u64 (x.g : Int), .int .i64 (x.x : Int), .bool x.r, .bool x.q, .bool x.e, .int .i64 x.f, .int .i64 2] 93)) := (Kp.refl _).alloc _
                have ke : Kp (wr.alloc (.cells #[.int .u64 (x.g : Int), .int .i64 (x.x : Int), .bool x.r, .bool x.q, .bool x.e, .int .i64 x.f, .int .i64 2] 93)) ((wr.alloc (.cells #[.int .u64 (x.g : Int), .int .i64 (x.x : Int), .bool x.r, .bool x.q, .bool x.e, .int .i64 x.f, .int .i64 2] 93)).alloc (.cells #[] 93)) := (Kp.refl _).alloc _
                have hcap := hJ.1.ol.len.2
                obtain ⟨na1, n1, cap1, w1, r1, hn1, o1, k1, b1⟩ := leaf_append (W := wr.alloc (.cells #[.int .u64 (x.g : Int), .int .i64 (x.x : Int), .bool x.r, .bool x.q, .bool x.e, .int .i64 x.f, .int .i64 2] 93)) (ro_empty (wr.alloc (.cells #[.int .u64 (x.g : Int), .int .i64 (x.x : Int), .bool x.r, .bool x.q, .bool x.e, .int .i64 x.f, .int .i64 2] 93))) ke (fun b hb => by cases hb; exact Nat.le_refl _) (L.take n) ((hJ.1.ol.take (k := n) (by omega)).kp ((kw.trans kb).trans ke)) (by have := hJ.2.1; simp only [List.length_take, List.length_nil]; omega) 67
                rw [List.nil_append] at o1
                have es : (wr.alloc (.cells #[.int .u64 (x.g : Int), .int .i64 (x.x : Int), .bool x.r, .bool x.q, .bool x.e, .int .i64 x.f, .int .i64 2] 93)).heap.size = wr.heap.size + 1 := by simp
                rw [es] at r1
                have hbl := (k1.block wr.heap.size (by simp)).trans (heap_alloc_new wr (.cells #[.int .u64 (x.g : Int), .int .i64 (x.x : Int), .bool x.r, .bool x.q, .bool x.e, .int .i64 x.f, .int .i64 2] 93))
                have u0 : w1.cell? ⟨wr.heap.size, 0, none⟩ = some (.int .u64 (x.g : Int)) := by rw [cell_of_row w1 _ 0 _ _ _ hbl]; rfl
                have u1 : w1.cell? ⟨wr.heap.size, 1, none⟩ = some (.int .i64 (x.x : Int)) := by rw [cell_of_row w1 _ 1 _ _ _ hbl]; rfl
                have u2 : w1.cell? ⟨wr.heap.size, 2, none⟩ = some (.bool x.r) := by rw [cell_of_row w1 _ 2 _ _ _ hbl]; rfl
                have u3 : w1.cell? ⟨wr.heap.size, 3, none⟩ = some (.bool x.q) := by rw [cell_of_row w1 _ 3 _ _ _ hbl]; rfl
                have u4 : w1.cell? ⟨wr.heap.size, 4, none⟩ = some (.bool x.e) := by rw [cell_of_row w1 _ 4 _ _ _ hbl]; rfl
                have u5 : w1.cell? ⟨wr.heap.size, 5, none⟩ = some (.int .i64 x.f) := by rw [cell_of_row w1 _ 5 _ _ _ hbl]; rfl
                have u6 : w1.cell? ⟨wr.heap.size, 6, none⟩ = some (.int .i64 2) := by rw [cell_of_row w1 _ 6 _ _ _ hbl]; rfl
                have k1a : Kp w1 (w1.alloc (.cells #[.int .u64 (x.g : Int), .int .i64 (x.x : Int), .bool x.r, .bool x.q, .bool x.e, .int .i64 x.f, .int .i64 2] 93)) := (Kp.refl _).alloc _
                obtain ⟨na2, n2, cap2, w2, r2, hn2, o2, k2, b2⟩ := leaf_append (W := wr.alloc (.cells #[.int .u64 (x.g : Int), .int .i64 (x.x : Int), .bool x.r, .bool x.q, .bool x.e, .int .i64 x.f, .int .i64 2] 93)) (o1.kp k1a) (k1.trans k1a) b1 [bkV x] (one_src w1 (bkV x)) (by have := hJ.2.1; simp only [List.length_take, List.length_nil, List.length_cons]; omega) 67
                have q1 := q0 _ kw
                have q2 := q0 _ (kw.trans kb)
                have q3 := q0 _ ((kw.trans kb).trans ke)
                have q4 := q0 _ (((kw.trans kb).trans k2))
                have xc := HCX.out wr kw
                have s0 : wr.cell? ⟨g, n * 7, none⟩ = some (.int .u64 (x.g : Int)) := xc 0 _ rfl
                have s1 := xc 1 _ rfl
                have s2 := xc 2 _ rfl
                have s3 := xc 3 _ rfl
                have s4 := xc 4 _ rfl
                have s5 := xc 5 _ rfl
                have s6 := xc 6 _ rfl
                obtain ⟨n5, hn5⟩ : ∃ n5, n5 = n + 512 := ⟨_, rfl⟩
                have t1 : (n : Int) + 512 = (n5 : Int) := by omega
                have t3 : (n5 : Int) ≤ 900000 := by have := hJ.2.1; have := hJ.2.2.2.2.2.2.1; omega
                have t4 : IntKind.i64.wrap (n5 : Int) = (n5 : Int) := by rw [IntKind.wrap_i64]; omega
                have t5 : (n : Int) ≤ n0 := by omega
                have t6 : (n : Int) ≤ cap := by omega
                have hn5' : n5 ≤ L.length := by have := hJ.2.2.2.2.2.2.1; omega
                by_cases ec : cap = n5
                · have sd := hJ.1.ol.drop0 (k := n5) (by omega)
                  obtain ⟨na3, n3, cap3, w3, r3, hn3, o3, k3, b3⟩ := leaf_append (W := wr.alloc (.cells #[.int .u64 (x.g : Int), .int .i64 (x.x : Int), .bool x.r, .bool x.q, .bool x.e, .int .i64 x.f, .int .i64 2] 93)) o2 k2 b2 (L.drop n5) (sd.kp (((kw.trans kb).trans k2))) (by have := hJ.2.1; simp only [List.length_append, List.length_take, List.length_drop, List.length_nil, List.length_cons]; omega) 67
                  have o3' : RO w3 (.slice na3 n3 cap3) (jnL L n x) := by unfold jnL; rw [← hn5]; exact o3
                  have ks := rset_new hJ.1 (by have := hJ.2.1; omega) ((kw.trans kb).trans k3) o3' okj (by have := hJ.2.1; omega) (fun b hb => Nat.le_trans (kw.trans kb).size (b3 b hb)) (by have := hJ.2.2.1; omega)
                  obtain ⟨sb, hsb⟩ : ∃ sb, sb = setB fr L (jnL L n x) := ⟨_, rfl⟩
                  have KS : Aside (Calls Tryz.prog 73 #[.pointer (some ⟨br, 0, none⟩), .slice na3 n3 cap3] w3 fun e w' => e = .returned (.bool sb) ∧ Hid (RJn w'' w' br bf (.slice (some ⟨g, 0, none⟩) L.length cap) L fr false page 0)) := ks.mono fun e w' ⟨a1, a2⟩ => ⟨by rw [a1, hsb], .inr (.inr ⟨rfl, rfl, n, x, jc, a2.out.1, a2.out.2⟩)⟩
                  clear ks hsb o3 o3' k3 b3 hn3 sd
                  have en : n0 = n5 := by omega
                  clear hn5 hn5' hlen t5 hcap
                  subst ec
                  subst en
                  clear hn1 o1 k1 b1 k1a hn2 o2 k2 b2 kb ke es hbl xc q0 okj lj jc HI hJ kw
                  generalize x.g = xg at *
                  generalize x.x = xx at *
                  generalize x.r = xr at *
                  generalize x.q = xq at *
                  generalize x.e = xe at *
                  generalize x.f = xf at *
                  generalize x.l = xl at *
                  repeat' (first | (first | ((with_reducible refine wp_append_of r1 (.tmp 132) (.tmp 138) ?_ ?_ ?_ ?_ ?_); rfl; rfl; rfl; rfl) | ((with_reducible refine wp_append_of r2 (.tmp 140) (.tmp 142) ?_ ?_ ?_ ?_ ?_); rfl; rfl; rfl; rfl) | ((with_reducible refine wp_append_of r3 (.tmp 145) (.tmp 152) ?_ ?_ ?_ ?_ ?_); rfl; rfl; rfl; rfl) | (go_at_call 73; with_reducible refine KS.out.mono ?_; rintro e w4 ⟨rfl, S4⟩)) | go_values | go_skip | go_guarded | go_step | go_upon | go_back | (simp only []) | (go_values <;> (try go_simp)) | (go_ite <;> go_prune <;> (try go_simp)))
                  go_ret
                  exact ⟨0, rfl, S4.out⟩
                · have sd := hJ.1.ol.drop (k := n5) (by omega)
                  rw [← hlen] at sd
                  obtain ⟨na3, n3, cap3, w3, r3, hn3, o3, k3, b3⟩ := leaf_append (W := wr.alloc (.cells #[.int .u64 (x.g : Int), .int .i64 (x.x : Int), .bool x.r, .bool x.q, .bool x.e, .int .i64 x.f, .int .i64 2] 93)) o2 k2 b2 (L.drop n5) (sd.kp (((kw.trans kb).trans k2))) (by have := hJ.2.1; simp only [List.length_append, List.length_take, List.length_drop, List.length_nil, List.length_cons]; omega) 67
                  have o3' : RO w3 (.slice na3 n3 cap3) (jnL L n x) := by unfold jnL; rw [← hn5]; exact o3
                  have ks := rset_new hJ.1 (by have := hJ.2.1; omega) ((kw.trans kb).trans k3) o3' okj (by have := hJ.2.1; omega) (fun b hb => Nat.le_trans (kw.trans kb).size (b3 b hb)) (by have := hJ.2.2.1; omega)
                  obtain ⟨sb, hsb⟩ : ∃ sb, sb = setB fr L (jnL L n x) := ⟨_, rfl⟩
                  have KS : Aside (Calls Tryz.prog 73 #[.pointer (some ⟨br, 0, none⟩), .slice na3 n3 cap3] w3 fun e w' => e = .returned (.bool sb) ∧ Hid (RJn w'' w' br bf (.slice (some ⟨g, 0, none⟩) L.length cap) L fr false page 0)) := ks.mono fun e w' ⟨a1, a2⟩ => ⟨by rw [a1, hsb], .inr (.inr ⟨rfl, rfl, n, x, jc, a2.out.1, a2.out.2⟩)⟩
                  clear ks hsb o3 o3' k3 b3 hn3 sd
                  have t8 : (n5 : Int) ≤ cap := by omega
                  have t9 : (n5 : Int) ≤ n0 := by omega
                  have t10 : (n0 : Int) ≤ cap := by omega
                  have t11 : ¬ cap = n5 := ec
                  clear ec hn5 hn5' hlen hcap
                  clear hn1 o1 k1 b1 k1a hn2 o2 k2 b2 kb ke es hbl xc q0 okj lj jc HI hJ kw
                  generalize x.g = xg at *
                  generalize x.x = xx at *
                  generalize x.r = xr at *
                  generalize x.q = xq at *
                  generalize x.e = xe at *
                  generalize x.f = xf at *
                  generalize x.l = xl at *
                  repeat' (first | (first | ((with_reducible refine wp_append_of r1 (.tmp 132) (.tmp 138) ?_ ?_ ?_ ?_ ?_); rfl; rfl; rfl; rfl) | ((with_reducible refine wp_append_of r2 (.tmp 140) (.tmp 142) ?_ ?_ ?_ ?_ ?_); rfl; rfl; rfl; rfl) | ((with_reducible refine wp_append_of r3 (.tmp 145) (.tmp 152) ?_ ?_ ?_ ?_ ?_); rfl; rfl; rfl; rfl) | (go_at_call 73; with_reducible refine KS.out.mono ?_; rintro e w4 ⟨rfl, S4⟩)) | go_values | go_skip | go_guarded | go_step | go_upon | go_back | (simp only []) | (go_values <;> (try go_simp)) | (go_ite <;> go_prune <;> (try go_simp)))
                  go_ret
                  exact ⟨0, rfl, S4.out⟩
          · have HE : Hid (RJn w w br bf (.slice (some ⟨g, 0, none⟩) L.length cap) L fr false page 20) := no w (Kp.refl _) (fun n' x' j => by
              obtain ⟨_, e1, e2, _, e4, _⟩ := j
              rw [← hpf, p1] at e1; cases e1
              rw [p2] at e2; cases e2
              omega)
            have b3 : ((m5 : Int) == 0) = false := by rw [beq_eq_false_iff_ne]; omega
            have b4 : ((m5 : Int) != 0) = true := by rw [bne_iff_ne]; omega
            have b5 : decide ((m5 : Int) = 0) = false := decide_eq_false (by omega)
            have b6 : decide (m5 = 0) = false := decide_eq_false g7
            have y5 : ¬ (L.length : Int) < (n : Int) + 512 := by omega
            clear h hp hc hok f1 f2 f3 f4 g1 g2 g4 kn no hpf hn0 RS zpf p1 p2 p3 p4 hcx nn hox hm5 g5 g6 g7
            go_enter Tryz.func39, Tryz.ntmps39
            go_wp2_with fail
            with_reducible refine ka.mono ?_
            rintro e w' ⟨rfl, rfl⟩
            go_wp2_with fail
            with_reducible refine kb.mono ?_
            rintro e w'' ⟨rfl, rfl⟩
            go_wp2_with fail
            go_ret
            exact ⟨20, rfl, HE.out⟩
        · have HE : Hid (RJn w w br bf (.slice (some ⟨g, 0, none⟩) L.length cap) L fr false page 20) := no w (Kp.refl _) (fun n' x' j => by
            obtain ⟨_, e1, e2, e3, _⟩ := j
            rw [← hpf, p1] at e1; cases e1
            omega)
          have y5 : (L.length : Int) < (n : Int) + 512 := by omega
          have z5 : (n : Int) ≤ 900000 := by omega
          clear h hp hc hok f1 f2 f3 f4 g1 g2 g4 kn no hpf hn0 RS zpf p1 p2 p3 p4 hcx nn hox hm5 g5 g6
          go_enter Tryz.func39, Tryz.ntmps39
          go_wp2_with fail
          with_reducible refine ka.mono ?_
          rintro e w' ⟨rfl, rfl⟩
          go_wp2_with fail
          with_reducible refine kb.mono ?_
          rintro e w'' ⟨rfl, rfl⟩
          go_wp2_with fail
          go_ret
          exact ⟨20, rfl, HE.out⟩
      · have HE : Hid (RJn w w br bf (.slice (some ⟨g, 0, none⟩) L.length cap) L fr false page 20) := no w (Kp.refl _) (fun n x j => by
          obtain ⟨_, e1, _⟩ := j
          rw [← hpf, (at_neg g5).2] at e1
          cases e1)
        rw [(at_neg g5).1] at kb
        clear h hp hc hok f1 f2 f3 f4 g1 g2 g4 g5 kn no hpf hn0 RS zpf
        go_enter Tryz.func39, Tryz.ntmps39
        go_wp2_with fail
        with_reducible refine ka.mono ?_
        rintro e w' ⟨rfl, rfl⟩
        go_wp2_with fail
        with_reducible refine kb.mono ?_
        rintro e w'' ⟨rfl, rfl⟩
        go_wp2_with fail
        go_ret
        exact ⟨20, rfl, HE.out⟩
  · have HE : Hid (RJn w w br bf (.slice na L.length cap) L fr false page 23) := .inl ⟨rfl, .inr g2, RS.out _ (Kp.refl _)⟩
    rw [(at_neg g2).1] at ka
    clear h hp g1 g2
    go_enter Tryz.func39, Tryz.ntmps39
    go_wp2_with fail
    with_reducible refine ka.mono ?_
    rintro e w' ⟨rfl, rfl⟩
    go_wp2_with fail
    go_ret
    exact ⟨23, rfl, HE.out⟩
end Go.Proofs.YtanlcmdnhhdhaaaGreatDoor
