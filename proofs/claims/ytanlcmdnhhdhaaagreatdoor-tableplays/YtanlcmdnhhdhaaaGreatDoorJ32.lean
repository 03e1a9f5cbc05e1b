/- Joined: R50, R51. -/
import Derived.Test.YtanlcmdnhhdhaaaGreatDoorJ31
import Derived.BigQuiet
/- The document's second stage: lists of leaves; tables, at. -/
namespace Go.Proofs.YtanlcmdnhhdhaaaGreatDoor
open Go.RowKit
set_option maxRecDepth 10000

/-- A list of the document's leaves, of one's own. -/
def RO (w : World) (v : Value) (L : List LV) : Prop := OL encL 93 7 w v L
theorem RO.fr {w w' : World} {v : Value} {L : List LV} {S : Nat → Prop} (h : RO w v L) (k : Fr S w w') (hS : ∀ g, v.ownBlock = some g → ¬ S g) : RO w' v L := OL.fr h k hS
theorem RO.kp {w w' : World} {v : Value} {L : List LV} (h : RO w v L) (k : Kp w w') : RO w' v L := OL.fr h (k.fr (fun _ => False)) (fun _ _ => id)
/-- What lies at a place of it. -/
theorem RO.at {w : World} {na : Option Addr} {n cap : Nat} {L : List LV} (h : RO w (.slice na n cap) L) {i : Nat} {x : LV} (hi : L[i]? = some x) : ∃ g, na = some ⟨g, 0, none⟩ ∧ g < w.heap.size ∧ ∀ j u, (encL x)[j]? = some u → w.cell? ⟨g, i * 7 + j, none⟩ = some u := by
  obtain ⟨na', cap', e, _, hc⟩ := OL.form h
  cases e
  rcases hc with ⟨_, _, rfl⟩ | ⟨g, rfl, hg⟩
  · simp at hi
  · exact ⟨g, rfl, hg, fun j u hu => OL.cell encL_ok h hi hu⟩
theorem RO.len {w : World} {na : Option Addr} {n cap : Nat} {L : List LV} (h : RO w (.slice na n cap) L) : n = L.length ∧ n ≤ cap := by
  obtain ⟨na', cap', e, hl, _⟩ := OL.form h
  cases e
  exact ⟨rfl, hl⟩
/-- What the document's lists are made of. -/
def okL (L : List LV) : Prop := ∀ v ∈ L, (v.l = 2 ∨ v.l = 3) ∧ v.g < 268435968 ∧ v.x < 2100 ∧ (v.l = 2 → v.x + 511 < 2100 ∧ v.g ≤ 268435456)
def gL (L : List LV) (i : Nat) : Nat := (L.getD i lvZ).g
def lL (L : List LV) (i : Nat) : Nat := (L.getD i lvZ).l
/-- Does the leaf at i want a table of the level that the one ahead of it does not? -/
def newT (L : List LV) (i lv : Nat) : Bool := decide (i = 0) || decide (gL L (i - 1) / 2 ^ (9 * (4 - lv)) ≠ gL L i / 2 ^ (9 * (4 - lv)))
def tabI (L : List LV) : Nat → Nat
  | 0 => 0
  | i + 1 => tabI L i + cnt (fun k => newT L i (k + 1)) (lL L i)
/-- How many tables they want, but the root. -/
def tabL (L : List LV) : Nat := tabI L L.length
theorem gL_at {L : List LV} {i : Nat} {x : LV} (h : L[i]? = some x) : gL L i = x.g ∧ lL L i = x.l := by
  unfold gL lL
  rw [List.getD_eq_getElem?_getD, h]
  exact ⟨rfl, rfl⟩
theorem tabI_le {L : List LV} (ok : okL L) : ∀ i, i ≤ L.length → tabI L i ≤ 3 * i
  | 0, _ => Nat.le_refl _
  | i + 1, h => by
    have ih := tabI_le ok i (by omega)
    have hl : lL L i ≤ 3 := by
      obtain ⟨x, hx⟩ : ∃ x, L[i]? = some x := ⟨_, List.getElem?_eq_getElem (by omega)⟩
      rw [(gL_at hx).2]
      have := (ok x (List.mem_of_getElem? hx)).1
      omega
    have := cnt_le (fun k => newT L i (k + 1)) (lL L i)
    unfold tabI
    omega
/-- The page is a leaf's. -/
def hitL (page : Nat) (v : LV) : Bool := (v.g == page) || ((v.l == 2) && (v.g == page / 512 * 512))
def atI (L : List LV) (page : Nat) : Int := match L.findIdx? (hitL page) with | some i => (i : Int) | none => -1

set_option maxHeartbeats 8000000 in
theorem rtables_any {w : World} {na : Option Addr} {n cap : Nat} {L : List LV} (h : RO w (.slice na n cap) L) (ok : okL L) (hl : L.length ≤ 1000000) :
    Calls Tryz.prog 80 #[.slice na n cap] w fun e w' => e = .returned (.int .i64 (tabL L : Nat)) ∧ Kp w w' := by
  have hn := h.len.1
  have HH : Hid (RO w (.slice na n cap) L ∧ okL L ∧ L.length ≤ 1000000 ∧ n = L.length) := ⟨h, ok, hl, hn⟩
  have z0 : (n : Int) ≤ 1000000 := by omega
  clear h ok hl hn
  go_enter Tryz.func80, Tryz.ntmps80
  go_wp2_with fail
  go_loopg [3, 4] (n + 1) (fun gg v3 v4 wr => ∃ i t : Nat, v4 = .int .i64 (i : Int) ∧ v3 = .int .i64 (t : Int) ∧ i ≤ n ∧ n + 1 - i ≤ gg ∧ Hid (t = tabI L i ∧ Kp w wr))
  case atStart => exact ⟨0, 0, rfl, rfl, by omega, by omega, rfl, Kp.refl _⟩
  case round =>
    obtain ⟨i, t, rfl, rfl, hi, hg, HI⟩ := hrel
    by_cases e : i < n
    · obtain ⟨x, hx⟩ : ∃ x, L[i]? = some x := ⟨_, List.getElem?_eq_getElem (by have := HH.out.2.2.2; omega)⟩
      obtain ⟨g, rfl, hgl, hc⟩ := HH.out.1.at hx
      have hok := HH.out.2.1 x (List.mem_of_getElem? hx)
      have ht := tabI_le HH.out.2.1 i (by have := HH.out.2.2.2; omega)
      have y1 : (i : Int) < n := by omega
      have z1 : (t : Int) ≤ 3000000 := by have := HI.out.1; have := HH.out.2.2; omega
      obtain ⟨lx, hlx⟩ : ∃ lx, lx = x.l := ⟨_, rfl⟩
      obtain ⟨gx, hgx⟩ : ∃ gx, gx = x.g := ⟨_, rfl⟩
      have hl3 : lx = 2 ∨ lx = 3 := by rw [hlx]; exact hok.1
      -- the cells, in every world that keeps
      have c6 : ∀ v, Kp w v → v.cell? ⟨g, i * 7 + 6, none⟩ = some (.int .i64 (lx : Int)) := fun v k => by rw [k.cell (p := ⟨g, i * 7 + 6, none⟩) hgl, hc 6 _ rfl, hlx]
      have c0 : ∀ v, Kp w v → v.cell? ⟨g, i * 7, none⟩ = some (.int .u64 (gx : Int)) := fun v k => by rw [k.cell (p := ⟨g, i * 7, none⟩) hgl]; have := hc 0 _ rfl; rw [hgx]; exact this
      have HX : Hid (L[i]? = some x ∧ lx = x.l ∧ gx = x.g ∧ (lx = 2 ∨ lx = 3) ∧ (∀ v, Kp w v → v.cell? ⟨g, i * 7 + 6, none⟩ = some (.int .i64 (lx : Int))) ∧ ∀ v, Kp w v → v.cell? ⟨g, i * 7, none⟩ = some (.int .u64 (gx : Int))) := ⟨hx, hlx, hgx, hl3, c6, c0⟩
      have z2 : (lx : Int) ≤ 3 := by omega
      clear hc hok ht hlx hgx hl3 c6 c0
      go_wp2_with fail
      go_loopg [3, 5] 5 (fun g2 v3 v5 wx => ∃ lv t2 : Nat, v5 = .int .i64 (lv : Int) ∧ v3 = .int .i64 (t2 : Int) ∧ 1 ≤ lv ∧ lv ≤ lx + 1 ∧ 5 - lv ≤ g2 ∧ Hid (t2 = tabI L i + cnt (fun k => newT L i (k + 1)) (lv - 1) ∧ Kp w wx))
      case atStart => exact ⟨1, t, rfl, rfl, by omega, by omega, by omega, HI.out⟩
      case round =>
        obtain ⟨lv, t2, rfl, rfl, h1, h2, hg2, HJ⟩ := hrel
        have d6 := HX.out.2.2.2.2.1 _ HJ.out.2
        have d0 := HX.out.2.2.2.2.2 _ HJ.out.2
        by_cases e2 : lv ≤ lx
        · have y2 : (lv : Int) ≤ lx := by omega
          have z3 : (t2 : Int) ≤ 3000010 := by have := HJ.out.1; have := cnt_le (fun k => newT L i (k + 1)) (lv - 1); have := HI.out.1; have := tabI_le HH.out.2.1 i (by have := HH.out.2.2.2; omega); have := HH.out.2.2; omega
          have hlv : lv = 1 ∨ lv = 2 ∨ lv = 3 := by have := HX.out.2.2.2.1; omega
          rcases hlv with rfl | rfl | rfl
          · by_cases ei : i = 0
            · subst ei
              have HN : Hid (t2 + 1 = tabI L 0 + cnt (fun k => newT L 0 (k + 1)) (2 - 1) ∧ ∀ v, Kp wr v → Kp w v) := ⟨by have e1 := HJ.out.1; have e2 : t2 = tabI L 0 + cnt (fun k => newT L 0 (k + 1)) 0 := e1; show _ = tabI L 0 + (cnt (fun k => newT L 0 (k + 1)) 0 + if newT L 0 1 then 1 else 0); rw [if_pos (show newT L 0 1 = true from rfl)]; omega, fun v k => HJ.out.2.trans k⟩
              clear HI HJ
              rw [show ((0 : Nat) : Int) = 0 from rfl, show ((1 : Nat) : Int) = 1 from rfl]
              go_wp2_with fail
              go_quiet (fail)
              go_wp2_with fail
              go_roundg (5 - (1 + 1))
              case measure => omega
              case rel => exact ⟨1 + 1, t2 + 1, by go_num, by go_num, by omega, by omega, by omega, HN.out.1, HN.out.2 _ ((Kp.refl _).drewN _)⟩
            · obtain ⟨y, hy⟩ : ∃ y, L[i - 1]? = some y := ⟨_, List.getElem?_eq_getElem (by have := HH.out.2.2.2; omega)⟩
              obtain ⟨g', eg, _, hc'⟩ := HH.out.1.at hy
              cases eg
              obtain ⟨j, hj⟩ : ∃ j, j = i - 1 := ⟨_, rfl⟩
              obtain ⟨qa, ha⟩ : ∃ qa, qa = y.g / 134217728 := ⟨_, rfl⟩
              obtain ⟨qb, hb⟩ : ∃ qb, qb = gx / 134217728 := ⟨_, rfl⟩
              have ey := (gL_at hy).1
              have ex := (gL_at HX.out.1).1
              rw [← HX.out.2.2.1] at ex
              have d1 : wr.cell? ⟨g, j * 7, none⟩ = some (.int .u64 (y.g : Int)) := by rw [HJ.out.2.cell (p := ⟨g, j * 7, none⟩) hgl, hj]; exact hc' 0 _ rfl
              have nw : newT L i 1 = decide (qa ≠ qb) := by unfold newT; rw [decide_eq_false ei, Bool.false_or, ey, ex, ha, hb]
              have y3 : ((i : Int) == 0) = false := by rw [beq_eq_false_iff_ne]; omega
              have y4 : decide ((i : Int) = 0) = false := decide_eq_false (by omega)
              have y5 : (i : Int) - 1 = (j : Int) := by omega
              have y6 : (j : Int) < n := by omega
              have y7 : (y.g : Int) / 134217728 = (qa : Int) := by omega
              have y8 : (gx : Int) / 134217728 = (qb : Int) := by omega
              have HK : Hid (∀ v, Kp wr v → Kp w v) := fun v k => HJ.out.2.trans k
              generalize y.g = gy at *
              by_cases eq : qa = qb
              · have HN : Hid (t2 = tabI L i + cnt (fun k => newT L i (k + 1)) (2 - 1)) := by have e1 := HJ.out.1; have e2 : t2 = tabI L i + cnt (fun k => newT L i (k + 1)) 0 := e1; show _ = tabI L i + (cnt (fun k => newT L i (k + 1)) 0 + if newT L i 1 then 1 else 0); rw [if_neg (by rw [nw, eq]; simp)]; omega
                subst eq
                clear HI HJ hy ey ex nw ha hb hc' hj ei
                rw [show ((1 : Nat) : Int) = 1 from rfl]
                go_wp2_with fail
                go_quiet (fail)
                go_wp2_with fail
                go_roundg (5 - (1 + 1))
                case measure => omega
                case rel => exact ⟨1 + 1, t2, by go_num, by go_num, by omega, by omega, by omega, HN.out, HK.out _ ((Kp.refl _).drewN _)⟩
              · have HN : Hid (t2 + 1 = tabI L i + cnt (fun k => newT L i (k + 1)) (2 - 1)) := by have e1 := HJ.out.1; have e2 : t2 = tabI L i + cnt (fun k => newT L i (k + 1)) 0 := e1; show _ = tabI L i + (cnt (fun k => newT L i (k + 1)) 0 + if newT L i 1 then 1 else 0); rw [if_pos (by rw [nw]; simpa using eq)]; omega
                have y9 : ((qa : Int) == (qb : Int)) = false := by rw [beq_eq_false_iff_ne]; omega
                have y10 : ((qa : Int) != (qb : Int)) = true := by rw [bne_iff_ne]; omega
                have y11 : decide ((qa : Int) = (qb : Int)) = false := decide_eq_false (by omega)
                have y12 : decide (qa = qb) = false := decide_eq_false eq
                clear HI HJ hy ey ex nw ha hb hc' hj ei
                rw [show ((1 : Nat) : Int) = 1 from rfl]
                go_wp2_with fail
                go_quiet (fail)
                go_wp2_with fail
                go_roundg (5 - (1 + 1))
                case measure => omega
                case rel => exact ⟨1 + 1, t2 + 1, by go_num, by go_num, by omega, by omega, by omega, HN.out, HK.out _ ((Kp.refl _).drewN _)⟩
          · by_cases ei : i = 0
            · subst ei
              have HN : Hid (t2 + 1 = tabI L 0 + cnt (fun k => newT L 0 (k + 1)) (3 - 1) ∧ ∀ v, Kp wr v → Kp w v) := ⟨by have e1 := HJ.out.1; have e2 : t2 = tabI L 0 + cnt (fun k => newT L 0 (k + 1)) 1 := e1; show _ = tabI L 0 + (cnt (fun k => newT L 0 (k + 1)) 1 + if newT L 0 2 then 1 else 0); rw [if_pos (show newT L 0 2 = true from rfl)]; omega, fun v k => HJ.out.2.trans k⟩
              clear HI HJ
              rw [show ((0 : Nat) : Int) = 0 from rfl, show ((2 : Nat) : Int) = 2 from rfl]
              go_wp2_with fail
              go_quiet (fail)
              go_wp2_with fail
              go_roundg (5 - (2 + 1))
              case measure => omega
              case rel => exact ⟨2 + 1, t2 + 1, by go_num, by go_num, by omega, by omega, by omega, HN.out.1, HN.out.2 _ ((Kp.refl _).drewN _)⟩
            · obtain ⟨y, hy⟩ : ∃ y, L[i - 1]? = some y := ⟨_, List.getElem?_eq_getElem (by have := HH.out.2.2.2; omega)⟩
              obtain ⟨g', eg, _, hc'⟩ := HH.out.1.at hy
              cases eg
              obtain ⟨j, hj⟩ : ∃ j, j = i - 1 := ⟨_, rfl⟩
              obtain ⟨qa, ha⟩ : ∃ qa, qa = y.g / 262144 := ⟨_, rfl⟩
              obtain ⟨qb, hb⟩ : ∃ qb, qb = gx / 262144 := ⟨_, rfl⟩
              have ey := (gL_at hy).1
              have ex := (gL_at HX.out.1).1
              rw [← HX.out.2.2.1] at ex
              have d1 : wr.cell? ⟨g, j * 7, none⟩ = some (.int .u64 (y.g : Int)) := by rw [HJ.out.2.cell (p := ⟨g, j * 7, none⟩) hgl, hj]; exact hc' 0 _ rfl
              have nw : newT L i 2 = decide (qa ≠ qb) := by unfold newT; rw [decide_eq_false ei, Bool.false_or, ey, ex, ha, hb]
              have y3 : ((i : Int) == 0) = false := by rw [beq_eq_false_iff_ne]; omega
              have y4 : decide ((i : Int) = 0) = false := decide_eq_false (by omega)
              have y5 : (i : Int) - 1 = (j : Int) := by omega
              have y6 : (j : Int) < n := by omega
              have y7 : (y.g : Int) / 262144 = (qa : Int) := by omega
              have y8 : (gx : Int) / 262144 = (qb : Int) := by omega
              have HK : Hid (∀ v, Kp wr v → Kp w v) := fun v k => HJ.out.2.trans k
              generalize y.g = gy at *
              by_cases eq : qa = qb
              · have HN : Hid (t2 = tabI L i + cnt (fun k => newT L i (k + 1)) (3 - 1)) := by have e1 := HJ.out.1; have e2 : t2 = tabI L i + cnt (fun k => newT L i (k + 1)) 1 := e1; show _ = tabI L i + (cnt (fun k => newT L i (k + 1)) 1 + if newT L i 2 then 1 else 0); rw [if_neg (by rw [nw, eq]; simp)]; omega
                subst eq
                clear HI HJ hy ey ex nw ha hb hc' hj ei
                rw [show ((2 : Nat) : Int) = 2 from rfl]
                go_wp2_with fail
                go_quiet (fail)
                go_wp2_with fail
                go_roundg (5 - (2 + 1))
                case measure => omega
                case rel => exact ⟨2 + 1, t2, by go_num, by go_num, by omega, by omega, by omega, HN.out, HK.out _ ((Kp.refl _).drewN _)⟩
              · have HN : Hid (t2 + 1 = tabI L i + cnt (fun k => newT L i (k + 1)) (3 - 1)) := by have e1 := HJ.out.1; have e2 : t2 = tabI L i + cnt (fun k => newT L i (k + 1)) 1 := e1; show _ = tabI L i + (cnt (fun k => newT L i (k + 1)) 1 + if newT L i 2 then 1 else 0); rw [if_pos (by rw [nw]; simpa using eq)]; omega
                have y9 : ((qa : Int) == (qb : Int)) = false := by rw [beq_eq_false_iff_ne]; omega
                have y10 : ((qa : Int) != (qb : Int)) = true := by rw [bne_iff_ne]; omega
                have y11 : decide ((qa : Int) = (qb : Int)) = false := decide_eq_false (by omega)
                have y12 : decide (qa = qb) = false := decide_eq_false eq
                clear HI HJ hy ey ex nw ha hb hc' hj ei
                rw [show ((2 : Nat) : Int) = 2 from rfl]
                go_wp2_with fail
                go_quiet (fail)
                go_wp2_with fail
                go_roundg (5 - (2 + 1))
                case measure => omega
                case rel => exact ⟨2 + 1, t2 + 1, by go_num, by go_num, by omega, by omega, by omega, HN.out, HK.out _ ((Kp.refl _).drewN _)⟩
          · by_cases ei : i = 0
            · subst ei
              have HN : Hid (t2 + 1 = tabI L 0 + cnt (fun k => newT L 0 (k + 1)) (4 - 1) ∧ ∀ v, Kp wr v → Kp w v) := ⟨by have e1 := HJ.out.1; have e2 : t2 = tabI L 0 + cnt (fun k => newT L 0 (k + 1)) 2 := e1; show _ = tabI L 0 + (cnt (fun k => newT L 0 (k + 1)) 2 + if newT L 0 3 then 1 else 0); rw [if_pos (show newT L 0 3 = true from rfl)]; omega, fun v k => HJ.out.2.trans k⟩
              clear HI HJ
              rw [show ((0 : Nat) : Int) = 0 from rfl, show ((3 : Nat) : Int) = 3 from rfl]
              go_wp2_with fail
              go_quiet (fail)
              go_wp2_with fail
              go_roundg (5 - (3 + 1))
              case measure => omega
              case rel => exact ⟨3 + 1, t2 + 1, by go_num, by go_num, by omega, by omega, by omega, HN.out.1, HN.out.2 _ ((Kp.refl _).drewN _)⟩
            · obtain ⟨y, hy⟩ : ∃ y, L[i - 1]? = some y := ⟨_, List.getElem?_eq_getElem (by have := HH.out.2.2.2; omega)⟩
              obtain ⟨g', eg, _, hc'⟩ := HH.out.1.at hy
              cases eg
              obtain ⟨j, hj⟩ : ∃ j, j = i - 1 := ⟨_, rfl⟩
              obtain ⟨qa, ha⟩ : ∃ qa, qa = y.g / 512 := ⟨_, rfl⟩
              obtain ⟨qb, hb⟩ : ∃ qb, qb = gx / 512 := ⟨_, rfl⟩
              have ey := (gL_at hy).1
              have ex := (gL_at HX.out.1).1
              rw [← HX.out.2.2.1] at ex
              have d1 : wr.cell? ⟨g, j * 7, none⟩ = some (.int .u64 (y.g : Int)) := by rw [HJ.out.2.cell (p := ⟨g, j * 7, none⟩) hgl, hj]; exact hc' 0 _ rfl
              have nw : newT L i 3 = decide (qa ≠ qb) := by unfold newT; rw [decide_eq_false ei, Bool.false_or, ey, ex, ha, hb]
              have y3 : ((i : Int) == 0) = false := by rw [beq_eq_false_iff_ne]; omega
              have y4 : decide ((i : Int) = 0) = false := decide_eq_false (by omega)
              have y5 : (i : Int) - 1 = (j : Int) := by omega
              have y6 : (j : Int) < n := by omega
              have y7 : (y.g : Int) / 512 = (qa : Int) := by omega
              have y8 : (gx : Int) / 512 = (qb : Int) := by omega
              have HK : Hid (∀ v, Kp wr v → Kp w v) := fun v k => HJ.out.2.trans k
              generalize y.g = gy at *
              by_cases eq : qa = qb
              · have HN : Hid (t2 = tabI L i + cnt (fun k => newT L i (k + 1)) (4 - 1)) := by have e1 := HJ.out.1; have e2 : t2 = tabI L i + cnt (fun k => newT L i (k + 1)) 2 := e1; show _ = tabI L i + (cnt (fun k => newT L i (k + 1)) 2 + if newT L i 3 then 1 else 0); rw [if_neg (by rw [nw, eq]; simp)]; omega
                subst eq
                clear HI HJ hy ey ex nw ha hb hc' hj ei
                rw [show ((3 : Nat) : Int) = 3 from rfl]
                go_wp2_with fail
                go_quiet (fail)
                go_wp2_with fail
                go_roundg (5 - (3 + 1))
                case measure => omega
                case rel => exact ⟨3 + 1, t2, by go_num, by go_num, by omega, by omega, by omega, HN.out, HK.out _ ((Kp.refl _).drewN _)⟩
              · have HN : Hid (t2 + 1 = tabI L i + cnt (fun k => newT L i (k + 1)) (4 - 1)) := by have e1 := HJ.out.1; have e2 : t2 = tabI L i + cnt (fun k => newT L i (k + 1)) 2 := e1; show _ = tabI L i + (cnt (fun k => newT L i (k + 1)) 2 + if newT L i 3 then 1 else 0); rw [if_pos (by rw [nw]; simpa using eq)]; omega
                have y9 : ((qa : Int) == (qb : Int)) = false := by rw [beq_eq_false_iff_ne]; omega
                have y10 : ((qa : Int) != (qb : Int)) = true := by rw [bne_iff_ne]; omega
                have y11 : decide ((qa : Int) = (qb : Int)) = false := decide_eq_false (by omega)
                have y12 : decide (qa = qb) = false := decide_eq_false eq
                clear HI HJ hy ey ex nw ha hb hc' hj ei
                rw [show ((3 : Nat) : Int) = 3 from rfl]
                go_wp2_with fail
                go_quiet (fail)
                go_wp2_with fail
                go_roundg (5 - (3 + 1))
                case measure => omega
                case rel => exact ⟨3 + 1, t2 + 1, by go_num, by go_num, by omega, by omega, by omega, HN.out, HK.out _ ((Kp.refl _).drewN _)⟩
        · have el : lv = lx + 1 := by omega
          have y2 : ¬ (lv : Int) ≤ lx := by omega
          have HN : Hid (t2 = tabI L (i + 1) ∧ Kp w wr) := ⟨by have e1 := HJ.out.1; rw [el, show lx + 1 - 1 = lx by omega] at e1; show t2 = tabI L i + cnt (fun k => newT L i (k + 1)) (lL L i); rw [(gL_at HX.out.1).2, ← HX.out.2.1]; exact e1, HJ.out.2⟩
          clear HI HJ el
          go_wp2_with fail
          go_roundg (n + 1 - (i + 1))
          case measure => omega
          case rel => exact ⟨i + 1, t2, by go_num, rfl, by omega, by omega, HN.out⟩
    · have ei : i = n := by omega
      have y1 : ¬ (i : Int) < n := by omega
      have HN : Hid (t = tabL L ∧ Kp w wr) := ⟨by have := HI.out.1; unfold tabL; rw [← HH.out.2.2.2, ← ei]; exact this, HI.out.2⟩
      clear HI ei
      go_wp2_with fail
      go_ret
      exact ⟨by rw [← HN.out.1]; rfl, HN.out.2⟩
end Go.Proofs.YtanlcmdnhhdhaaaGreatDoor

/- The document's second stage: a table; at, bad, Tables. -/
namespace Go.Proofs.YtanlcmdnhhdhaaaGreatDoor
open Go.RowKit
set_option maxRecDepth 10000

/-- The document's table: its leaves, how many table pages are free. -/
structure RQ (w : World) (br bf : Nat) (v : Value) (L : List LV) (fr : Int) (gone : Bool) : Prop where
  b : w.heap[br]? = some (.cells #[v, .pointer (some ⟨bf, 0, none⟩), .int .i64 2100, .bool gone] 69 (0, 0))
  f : w.heap[bf]? = some (.cells #[.int .i64 fr] 3 (0, 0))
  ol : RO w v L
  nb : ∀ b, v.ownBlock = some b → b ≠ br ∧ b ≠ bf
  ne : br ≠ bf
  ok : okL L
section
variable {w w' : World} {br bf : Nat} {v : Value} {L : List LV} {fq : Int} {gone : Bool}
theorem RQ.lt (h : RQ w br bf v L fq gone) : br < w.heap.size := (Array.getElem?_eq_some_iff.1 h.b).1
theorem RQ.ltf (h : RQ w br bf v L fq gone) : bf < w.heap.size := (Array.getElem?_eq_some_iff.1 h.f).1
theorem RQ.fr (h : RQ w br bf v L fq gone) {S : Nat → Prop} (k : Fr S w w') (h1 : ¬ S br) (h2 : ¬ S bf) (h3 : ∀ b, v.ownBlock = some b → ¬ S b) : RQ w' br bf v L fq gone := ⟨(k.block br h.lt h1).trans h.b, (k.block bf h.ltf h2).trans h.f, h.ol.fr k h3, h.nb, h.ne, h.ok⟩
theorem RQ.kp (h : RQ w br bf v L fq gone) (k : Kp w w') : RQ w' br bf v L fq gone := h.fr (k.fr (fun _ => False)) id id (fun _ _ => id)
theorem RQ.c0 (h : RQ w br bf v L fq gone) : w.cell? ⟨br, 0, none⟩ = some v := by rw [cell_of_row w br 0 _ _ _ h.b]; rfl
theorem RQ.c1 (h : RQ w br bf v L fq gone) : w.cell? ⟨br, 1, none⟩ = some (.pointer (some ⟨bf, 0, none⟩)) := by rw [cell_of_row w br 1 _ _ _ h.b]; rfl
theorem RQ.c2 (h : RQ w br bf v L fq gone) : w.cell? ⟨br, 2, none⟩ = some (.int .i64 2100) := by rw [cell_of_row w br 2 _ _ _ h.b]; rfl
theorem RQ.c3 (h : RQ w br bf v L fq gone) : w.cell? ⟨br, 3, none⟩ = some (.bool gone) := by rw [cell_of_row w br 3 _ _ _ h.b]; rfl
theorem RQ.cf (h : RQ w br bf v L fq gone) : w.cell? ⟨bf, 0, none⟩ = some (.int .i64 fq) := by rw [cell_of_row w bf 0 _ _ _ h.f]; rfl
theorem RQ.zb (h : RQ w br bf v L fq gone) (j : Nat) : w.frozen? ⟨br, j, none⟩ = false := frozen_of_row w br j _ _ h.b
theorem RQ.zf (h : RQ w br bf v L fq gone) (j : Nat) : w.frozen? ⟨bf, j, none⟩ = false := frozen_of_row w bf j _ _ h.f
theorem RQ.slice (h : RQ w br bf v L fq gone) : ∃ na cap, v = .slice na L.length cap ∧ L.length ≤ cap := by
  obtain ⟨na, cap, e, hl, _⟩ := OL.form h.ol
  exact ⟨na, cap, e, hl⟩
end
theorem beq_nat_t {a b : Nat} (h : a = b) : ((a : Int) == (b : Int)) = true := by rw [h]; simp
theorem beq_nat_f {a b : Nat} (h : a ≠ b) : ((a : Int) == (b : Int)) = false := by rw [beq_eq_false_iff_ne]; omega
theorem andn_511 (page : Nat) (h : page < 18446744073709551616) : bits .andNot .u64 (page : Int) 511 = ((page / 512 * 512 : Nat) : Int) := by
  have := u64_andNot_nat page 511 h (by decide)
  rw [show ((511 : Nat) : Int) = 511 from rfl] at this
  rw [this]
  congr 1
  apply Nat.eq_of_testBit_eq
  intro i
  rw [Nat.testBit_and, show (18446744073709551615 - 511 : Nat) = (2 ^ 55 - 1) * 2 ^ 9 from by decide, show (512 : Nat) = 2 ^ 9 from rfl, Nat.testBit_mul_two_pow, Nat.testBit_mul_two_pow, Nat.testBit_two_pow_sub_one, Nat.testBit_div_two_pow]
  by_cases c : 9 ≤ i
  · rw [show i - 9 + 9 = i by omega]
    by_cases c2 : i - 9 < 55
    · simp [c, c2]
    · have : page.testBit i = false := Nat.testBit_lt_two_pow (Nat.lt_of_lt_of_le h (Nat.pow_le_pow_right (show 2 > 0 by decide) (show 64 ≤ i by omega)))
      simp [this]
  · simp [c]
theorem find_none {α : Type} {p : α → Bool} {L : List α} (h : ∀ j x, j < L.length → L[j]? = some x → p x = false) : L.findIdx? p = none := by
  rw [List.findIdx?_eq_none_iff]
  intro x hx
  obtain ⟨j, hj, rfl⟩ := List.mem_iff_getElem.1 hx
  exact h j _ hj (List.getElem?_eq_getElem hj)
theorem find_some {α : Type} {p : α → Bool} {L : List α} {i : Nat} {x : α} (hx : L[i]? = some x) (hp : p x = true) (h : ∀ j x, j < i → L[j]? = some x → p x = false) : L.findIdx? p = some i := by
  rw [List.findIdx?_eq_some_iff_getElem]
  have hi := (List.getElem?_eq_some_iff.1 hx).1
  refine ⟨hi, ?_, fun j hj => ?_⟩
  · rw [(List.getElem?_eq_some_iff.1 hx).2]; exact hp
  · have := h j _ hj (List.getElem?_eq_getElem (by omega))
    rw [this]; decide
set_option maxHeartbeats 8000000 in
theorem rat_any {w : World} {br bf : Nat} {v : Value} {L : List LV} {fr : Int} {gone : Bool} (h : RQ w br bf v L fr gone) (hl : L.length ≤ 1000000) (page : Nat) (hp : page < 18446744073709551616) :
    Calls Tryz.prog 72 #[.pointer (some ⟨br, 0, none⟩), .int .u64 (page : Int)] w fun e w' => e = .returned (.int .i64 (atI L page)) ∧ w' = w := by
  obtain ⟨na, cap, rfl, _⟩ := h.slice
  have c0 := h.c0
  have ha := andn_511 page hp
  have HH : Hid (RQ w br bf (.slice na L.length cap) L fr gone) := h
  obtain ⟨n, hn⟩ : ∃ n, n = L.length := ⟨_, rfl⟩
  rw [← hn] at c0
  have HN : Hid (n = L.length) := hn
  have z0 : (n : Int) ≤ 1000000 := by omega
  obtain ⟨r, hr⟩ : ∃ r, r = atI L page := ⟨_, rfl⟩
  rw [← hr]
  have HR : Hid (r = atI L page) := hr
  obtain ⟨pf, hpf⟩ : ∃ pf, pf = page / 512 * 512 := ⟨_, rfl⟩
  rw [← hpf] at ha
  have HP : Hid (pf = page / 512 * 512) := hpf
  clear h hl hp hr hn hpf
  go_enter Tryz.func72, Tryz.ntmps72
  go_wp2_with fail
  go_loopg [5] (n + 1) (fun gg v5 wr => ∃ i : Nat, v5 = .int .i64 (i : Int) ∧ i ≤ n ∧ n + 1 - i ≤ gg ∧ wr = w ∧ Hid (∀ j x, j < i → L[j]? = some x → hitL page x = false))
  case atStart => exact ⟨0, rfl, by omega, by omega, rfl, (show ∀ j x, j < 0 → L[j]? = some x → hitL page x = false from fun j x hj => by omega)⟩
  case round =>
    obtain ⟨i, rfl, hi, hg, rfl, HI⟩ := hrel
    by_cases e : i < n
    · obtain ⟨x, hx⟩ : ∃ x, L[i]? = some x := ⟨_, List.getElem?_eq_getElem (by have := HN.out; omega)⟩
      obtain ⟨g, rfl, _, hc⟩ := HH.out.ol.at hx
      have d0 : wr.cell? ⟨g, i * 7, none⟩ = some (.int .u64 (x.g : Int)) := hc 0 _ rfl
      have d6 : wr.cell? ⟨g, i * 7 + 6, none⟩ = some (.int .i64 (x.l : Int)) := hc 6 _ rfl
      have y1 : (i : Int) < n := by omega
      have ht : hitL page x = ((x.g == page) || ((x.l == 2) && (x.g == pf))) := by unfold hitL; rw [HP.out]
      have hit : hitL page x = true → r = (i : Int) := fun c => by rw [HR.out]; unfold atI; rw [find_some hx c HI.out]
      have nxt : hitL page x = false → ∀ j x, j < i + 1 → L[j]? = some x → hitL page x = false := fun c j x' hj hx' => by
        by_cases ej : j = i
        · subst ej; rw [hx] at hx'; cases hx'; exact c
        · exact HI.out j x' (by omega) hx'
      have hok := HH.out.ok x (List.mem_of_getElem? hx)
      generalize x.g = gx at *
      generalize x.l = lx at *
      have z1 : (lx : Int) ≤ 3 := by omega
      by_cases c1 : gx = page
      · have HE : Hid (r = (i : Int)) := hit (by rw [ht, c1]; simp)
        have y2 := beq_nat_t c1
        clear hc ht hit nxt hok hx c1
        go_wp2_with fail
        go_ret
        exact ⟨by rw [HE.out]; rfl, rfl⟩
      · have y2 := beq_nat_f c1
        have y2' : decide ((gx : Int) = (page : Int)) = false := decide_eq_false (by omega)
        by_cases c2 : lx = 2
        · have y3 : ((lx : Int) == 2) = true := by rw [c2]; rfl
          by_cases c3 : gx = pf
          · have HE : Hid (r = (i : Int)) := hit (by rw [ht, c2, c3]; simp)
            have y4 := beq_nat_t c3
            clear hc ht hit nxt hok hx c1 c2 c3
            go_wp2_with fail
            go_ret
            exact ⟨by rw [HE.out]; rfl, rfl⟩
          · have HE : Hid (∀ j x, j < i + 1 → L[j]? = some x → hitL page x = false) := nxt (by rw [ht]; simp [c1, c3])
            have y4 := beq_nat_f c3
            have y4' : decide ((gx : Int) = (pf : Int)) = false := decide_eq_false (by omega)
            clear hc ht hit nxt hok hx c1 c2 c3
            go_wp2_with fail
            go_roundg (n + 1 - (i + 1))
            case measure => omega
            case rel => exact ⟨i + 1, by go_num, by omega, by omega, rfl, HE⟩
        · have y3 : ((lx : Int) == 2) = false := by rw [beq_eq_false_iff_ne]; omega
          have y3' : decide ((lx : Int) = 2) = false := decide_eq_false (by omega)
          have HE : Hid (∀ j x, j < i + 1 → L[j]? = some x → hitL page x = false) := nxt (by rw [ht]; simp [c1, c2])
          clear hc ht hit nxt hok hx c1 c2
          go_wp2_with fail
          go_roundg (n + 1 - (i + 1))
          case measure => omega
          case rel => exact ⟨i + 1, by go_num, by omega, by omega, rfl, HE⟩
    · have y1 : ¬ (i : Int) < n := by omega
      have HE : Hid (r = -1) := by
        show r = -1
        rw [HR.out]; unfold atI; rw [find_none (fun j x hj hx => HI.out j x (by have := HN.out; omega) hx)]
      clear HI
      go_wp2_with fail
      go_ret
      exact ⟨by rw [HE.out]; rfl, rfl⟩
/-- What the document refuses. -/
def badN (page : Nat) (fs r q : Bool) (s : Int) : Int := if 268435456 ≤ page ∨ fs = false then 2 else if canB r q s = false then 1 else 0
set_option maxHeartbeats 4000000 in
theorem rbad_any (page : Nat) (fs r q x : Bool) (s : Int) (w : World) :
    Calls Tryz.prog 71 #[.int .u64 (page : Int), .bool fs, .agg #[.bool r, .bool q, .bool x], .int .i64 s] w fun e w' => e = .returned (.int .i64 (badN page fs r q s)) ∧ Kp w w' := by
  unfold badN canB
  by_cases c1 : 268435456 ≤ page
  · have g1 : decide ((268435456 : Int) ≤ (page : Int)) = true := decide_eq_true (by omega)
    have g2 : decide (268435456 ≤ page) = true := decide_eq_true c1
    rw [if_pos (.inl c1)]
    clear c1
    go_enter Tryz.func71, Tryz.ntmps71
    go_wp2_with fail
    go_ret
    exact ⟨rfl, (Kp.refl _).alloc _⟩
  · have g1 : decide ((268435456 : Int) ≤ (page : Int)) = false := decide_eq_false (by omega)
    have g2 : decide (268435456 ≤ page) = false := decide_eq_false c1
    cases fs
    · rw [if_pos (.inr rfl)]
      clear c1
      go_enter Tryz.func71, Tryz.ntmps71
      go_wp2_with fail
      go_ret
      exact ⟨rfl, (Kp.refl _).alloc _⟩
    · rw [if_neg (fun c => c.elim c1 (fun c => by cases c))]
      clear c1
      cases r <;> cases q
      all_goals
        by_cases c2 : 0 ≤ s
        · by_cases c3 : s ≤ 15
          · have y2 : ¬ s < 0 := by omega
            have y3 : ¬ 15 < s := by omega
            simp only [c2, c3, decide_true, Bool.and_true, Bool.or_false, Bool.or_true, Bool.not_true, Bool.not_false, if_true, if_false, reduceCtorEq]
            go_enter Tryz.func71, Tryz.ntmps71
            go_wp2_with fail
            go_ret
            exact ⟨rfl, (Kp.refl _).alloc _⟩
          · have y3 : 15 < s := by omega
            have y2 : ¬ s < 0 := by omega
            simp only [c3, decide_false, Bool.and_false, if_true]
            go_enter Tryz.func71, Tryz.ntmps71
            go_wp2_with fail
            go_ret
            exact ⟨rfl, (Kp.refl _).alloc _⟩
        · have y2 : s < 0 := by omega
          simp only [c2, decide_false, Bool.and_false, Bool.false_and, if_true]
          go_enter Tryz.func71, Tryz.ntmps71
          go_wp2_with fail
          go_ret
          exact ⟨rfl, (Kp.refl _).alloc _⟩
set_option maxHeartbeats 4000000 in
theorem rtabs_any {w : World} {br bf : Nat} {v : Value} {L : List LV} {fr : Int} {gone : Bool} (h : RQ w br bf v L fr gone) (hl : L.length ≤ 1000000) :
    Calls Tryz.prog 45 #[.pointer (some ⟨br, 0, none⟩)] w fun e w' => e = .returned (.int .i64 (if gone then 0 else 1 + (tabL L : Nat))) ∧ Kp w w' := by
  obtain ⟨na, cap, rfl, _⟩ := h.slice
  have c0 := h.c0
  have c3 := h.c3
  have kt := rtables_any h.ol h.ok hl
  have z1 : (tabL L : Int) ≤ 3000000 := by have := tabI_le h.ok L.length (Nat.le_refl _); unfold tabL; omega
  generalize tabL L = t at *
  clear h hl
  cases gone
  · rw [if_neg (by decide)]
    go_enter Tryz.func45, Tryz.ntmps45
    go_wp2_with fail
    with_reducible refine kt.mono ?_
    rintro e w1 ⟨rfl, k1⟩
    go_wp2_with fail
    go_ret
    exact ⟨rfl, k1⟩
  · rw [if_pos rfl]
    go_enter Tryz.func45, Tryz.ntmps45
    go_wp2_with fail
    go_ret
    exact ⟨rfl, Kp.refl _⟩
end Go.Proofs.YtanlcmdnhhdhaaaGreatDoor
