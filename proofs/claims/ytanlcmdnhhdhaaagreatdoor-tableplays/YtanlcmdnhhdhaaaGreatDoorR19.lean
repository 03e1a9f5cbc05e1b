/- stage2: each: all entries, by page. -/
import Derived.Test.YtanlcmdnhhdhaaaGreatDoorJ22
namespace Go.Proofs.YtanlcmdnhhdhaaaGreatDoor
open Go.RowKit
set_option maxRecDepth 10000

/-- The first page of an entry. -/
def pgE (l e : Nat) : Nat := e * 2 ^ (27 - 9 * l)
/-- A visitor: what it adds of an entry, whether it goes deeper; S its blocks. -/
structure VS {α : Type} (w0 : World) (g : FuncId) (cap : Array Value) (vis : Nat → Nat → DV → List α) (deep : Nat → DV → Bool) (I : List α → (Nat → Prop) → World → Prop) : Prop where
  fn : ∃ fn, Tryz.prog.funcs[g]? = some fn ∧ fn.body.isSome = true ∧ ¬ fn.name = "runtime.NumGoroutine"
  kp : ∀ L S w, I L S w → Kp w0 w
  own : ∀ L S w, I L S w → ∀ b, S b → b < w.heap.size
  keep : ∀ L S w w', I L S w → Kp w w' → I L S w'
  one : ∀ p l d, (vis p l d).length ≤ 1
  call : ∀ L S w (page l a : Nat) (d : DV), I L S w → page < 268435456 → l ≤ 3 → okD l d → (d.k = 2 → l = 2) → d.k ≠ 0 → L.length ≤ 4000000000 → Calls Tryz.prog g (#[.int .u64 (page : Int), svV ⟨l, a, 0, d⟩] ++ cap) w fun e w' => e = .returned (.bool (deep l d)) ∧ ∃ S', I (L ++ vis page l d) S' w' ∧ Fr S w w' ∧ Less S S' w
section
variable {α : Type}
/-- What a visitor is told of an entry, and of what it leads to. -/
def vEn (E : Nat → Nat → DV) (vis : Nat → Nat → DV → List α) (deep : Nat → DV → Bool) (rec : Nat → List α) (l e : Nat) : List α :=
  if (E l e).k = 0 then [] else vis (pgE l e) l (E l e) ++ (if deep l (E l e) = true ∧ (E l e).k = 1 then rec e else [])
/-- All of a table's, n levels deep. -/
def trv (E : Nat → Nat → DV) (vis : Nat → Nat → DV → List α) (deep : Nat → DV → Bool) : Nat → Nat → Nat → List α
  | 0, _, _ => []
  | n + 1, l, j => (List.range 512).flatMap fun i => vEn E vis deep (trv E vis deep n (l + 1)) l (512 * j + i)
theorem flatMap_step (f : Nat → List α) (k : Nat) : (List.range (k + 1)).flatMap f = (List.range k).flatMap f ++ f k := by
  rw [List.range_succ, List.flatMap_append]; simp
theorem flatMap_stop (f : Nat → List α) (m : Nat) : ∀ k, m ≤ k → (∀ i, m ≤ i → f i = []) → (List.range k).flatMap f = (List.range m).flatMap f
  | 0, h, _ => by rw [show m = 0 by omega]
  | k + 1, h, hf => by
    by_cases c : m = k + 1
    · rw [c]
    · rw [flatMap_step, hf k (by omega), List.append_nil, flatMap_stop f m k (by omega) hf]
end
section
variable {W w w0 : World} {X Y : Nat → Prop} {bt p pm N pool o : Nat} {M : Nat → Nat → Nat} {C : Nat → Nat} {Z : Nat → Bool} {root : Nat} {E : Nat → Nat → DV}
/-- Where tables lie, as numbers. -/
theorem TG.small (h : TG M C pool Z root E) : ∀ l j x, l ≤ 3 → tbl root E l j = some x → j < 2 ^ (9 * l - 8)
  | 0, j, x, _, e => by
    have e' : (if j = 0 then some root else none) = some x := e
    by_cases c : j = 0
    · subst c; exact Nat.two_pow_pos _
    · rw [if_neg c] at e'; cases e'
  | 1, j, x, _, e => by
    rw [tbl_succ] at e
    by_cases c : (E 0 j).k = 1
    · have := h.two j (by rw [c]; decide); exact this
    · rw [if_neg c] at e; cases e
  | l + 2, j, x, hl, e => by
    rw [tbl_succ] at e
    by_cases c : (E (l + 1) j).k = 1
    · obtain ⟨y, hy⟩ := h.up (l + 1) j (by omega) (by rw [c]; decide)
      have := TG.small h (l + 1) (j / 512) y (by omega) hy
      rcases (by omega : l = 0 ∨ l = 1) with rfl | rfl
      · show j < 1024
        have : j / 512 < 2 := this
        omega
      · show j < 524288
        have : j / 512 < 1024 := this
        omega
    · rw [if_neg c] at e; cases e
theorem pgE_lt (h : TG M C pool Z root E) {l j x i : Nat} (hl : l ≤ 3) (h1 : 1 ≤ l) (hx : tbl root E l j = some x) (hi : i < 512) : pgE l (512 * j + i) < 268435456 := by
  have := h.small l j x hl hx
  unfold pgE
  rcases (by omega : l = 1 ∨ l = 2 ∨ l = 3) with rfl | rfl | rfl
  · have : j < 2 := this
    show (512 * j + i) * 262144 < _; omega
  · have : j < 1024 := this
    show (512 * j + i) * 512 < _; omega
  · have : j < 524288 := this
    show (512 * j + i) * 1 < _; omega
theorem pgE_next {l e : Nat} (hl : l ≤ 2) : pgE (l + 1) (512 * e) = pgE l e := by
  unfold pgE
  rcases (by omega : l = 0 ∨ l = 1 ∨ l = 2) with rfl | rfl | rfl
  · show 512 * e * 262144 = e * 134217728; omega
  · show 512 * e * 512 = e * 262144; omega
  · show 512 * e * 1 = e * 512; omega
theorem pgE_add {l j i : Nat} (hl : l ≤ 3) : pgE l (512 * j) + i * spn (l : Int) / 4096 = pgE l (512 * j + i) := by
  unfold pgE
  rcases (by omega : l = 0 ∨ l = 1 ∨ l = 2 ∨ l = 3) with rfl | rfl | rfl | rfl
  · show 512 * j * 134217728 + i * 549755813888 / 4096 = (512 * j + i) * 134217728; omega
  · show 512 * j * 262144 + i * 1073741824 / 4096 = (512 * j + i) * 262144; omega
  · show 512 * j * 512 + i * 2097152 / 4096 = (512 * j + i) * 512; omega
  · show 512 * j * 1 + i * 4096 / 4096 = (512 * j + i) * 1; omega
theorem spn_le {l : Nat} : spn (l : Int) ≤ 549755813888 := by
  unfold spn
  split
  · refine Nat.le_trans (Nat.pow_le_pow_right (by decide) (show sh (l : Int) ≤ 39 by unfold sh; omega)) (by decide)
  · omega

/-- What eachOf does of a table of the level l. -/
def EO {α : Type} (bt : Nat) (g : FuncId) (cap : Array Value) (I : List α → (Nat → Prop) → World → Prop) (root : Nat) (E : Nat → Nat → DV) (tr : Nat → List α) (l room : Nat) : Prop :=
  ∀ (j x : Nat) (L : List α) (S : Nat → Prop) (w : World), tbl root E l j = some x → I L S w → L.length + room ≤ 4000000000 →
    Calls Tryz.prog 94 #[.pointer (some ⟨bt, 0, none⟩), .int .u64 ((x * 4096 : Nat) : Int), .int .i64 (l : Int), .int .u64 ((pgE l (512 * j) : Nat) : Int), .func (.func g) #[] cap] w fun e w' => e = .returned (.tuple #[]) ∧ (∃ S', I (L ++ tr j) S' w' ∧ Fr S w w' ∧ Less S S' w) ∧ (tr j).length ≤ room
/-- Between the entries. -/
structure VJ {α : Type} (I : List α → (Nat → Prop) → World → Prop) (L : List α) (S0 : Nat → Prop) (w wr : World) (b0 : Nat) (D : List DV) (f : Nat → List α) (k : Nat) : Prop where
  ex : ∃ S, I (L ++ (List.range k).flatMap f) S wr ∧ Fr S0 w wr ∧ Less S0 S w ∧ ¬ S b0
  wd : WD wr b0 D
set_option maxHeartbeats 16000000 in
theorem eachOf_step {α : Type} {g : FuncId} {cap : Array Value} {vis : Nat → Nat → DV → List α} {deep : Nat → DV → Bool} {I : List α → (Nat → Prop) → World → Prop} (T : TS W X w0 bt p pm N pool o M C Z root E) (V : VS w0 g cap vis deep I)
    (l lim room : Nat) (tr : Nat → List α) (hl : l ≤ 3) (hlim : (1 ≤ l ∧ lim = 512) ∨ (l = 0 ∧ lim = 2)) (IH : l ≤ 2 → EO bt g cap I root E tr (l + 1) room) (hroom : l = 3 → room = 0) :
    EO bt g cap I root E (fun j => (List.range 512).flatMap fun i => vEn E vis deep tr l (512 * j + i)) l (lim * (room + 1)) := by
  intro j x L S w hx hI hL
  have hn := T.fw.nums
  have hxp := (T.tg.mine l j x hl hx).1
  have ke := entries_any (T.kps (V.kp _ _ _ hI)) hl hx
  have hcf : ∀ args w, (callFunc g args).run Tryz.prog w = .ok (.enter g args) w := by
    obtain ⟨fn, hf, hb, hnm⟩ := V.fn
    obtain ⟨c, hb⟩ := Option.isSome_iff_exists.1 hb
    intro args w
    simp [callFunc, go_sem, hf, hb, hnm]
  have kS := fun v => span_any (l : Int) v
  have kA : Aside (∀ i : Nat, i < 512 → ∀ v, Calls Tryz.prog 108 #[.int .u64 ((x * 4096 : Nat) : Int), .int .i64 (i : Int)] v fun e w' => e = .returned (.int .u64 ((x * 4096 + 8 * i : Nat) : Int)) ∧ w' = v) := fun i hi v => entryAt_any x i v (by omega) hi
  have hsp := spn_le (l := l)
  have hp0 : pgE l (512 * j) < 1099511627776 := by
    have := T.tg.small l j x hl hx
    unfold pgE
    rcases (by omega : l = 0 ∨ l = 1 ∨ l = 2 ∨ l = 3) with rfl | rfl | rfl | rfl
    · have : j < 1 := this
      show 512 * j * 134217728 < _; omega
    · have : j < 2 := this
      show 512 * j * 262144 < _; omega
    · have : j < 1024 := this
      show 512 * j * 512 < _; omega
    · have : j < 524288 := this
      show 512 * j * 1 < _; omega
  have HH : Hid (tbl root E l j = some x ∧ I L S w ∧ L.length + lim * (room + 1) ≤ 4000000000) := ⟨hx, hI, hL⟩
  have HT : Hid (TS W X w0 bt p pm N pool o M C Z root E ∧ VS w0 g cap vis deep I ∧ (l ≤ 2 → EO bt g cap I root E tr (l + 1) room)) := ⟨T, V, IH⟩
  have z1 : (l : Int) ≤ 3 := by omega
  clear hn hxp IH T V hx hI hL
  generalize hxa : x * 4096 = xa at *
  go_enter Tryz.func94, Tryz.ntmps94
  go_wp2_with fail
  with_reducible refine ke.mono ?_
  rintro e w1 ⟨⟨rfl, D1⟩, K1⟩
  have J0 : VJ I L S w w1 w.heap.size ((List.range 512).map fun i => E l (512 * j + i)) (fun i => vEn E vis deep tr l (512 * j + i)) 0 := by
    obtain ⟨h1, h2, h3⟩ := HH.out
    refine ⟨⟨S, ?_, K1.fr S, fun k hk => .inl hk, fun c => by have := HT.out.2.1.own _ _ _ h2 _ c; omega⟩, D1⟩
    show I (L ++ []) S w1
    rw [List.append_nil]
    exact HT.out.2.1.keep _ _ _ _ h2 K1
  have HJ : Hid (VJ I L S w w1 w.heap.size ((List.range 512).map fun i => E l (512 * j + i)) (fun i => vEn E vis deep tr l (512 * j + i)) 0) := J0
  have HZ : Hid (w.heap.size < w1.heap.size) := D1.lt
  clear ke D1 K1 J0
  go_wp2_with fail
  go_loopg [19] 514 (fun gg v19 wr => ∃ k : Nat, v19 = .int .i64 (k : Int) ∧ k ≤ lim ∧ 513 - k ≤ gg ∧ Hid (VJ I L S w wr w.heap.size ((List.range 512).map fun i => E l (512 * j + i)) (fun i => vEn E vis deep tr l (512 * j + i)) k ∧ ((List.range k).flatMap fun i => vEn E vis deep tr l (512 * j + i)).length ≤ k * (room + 1)))
  case atStart => exact ⟨0, rfl, by omega, by omega, HJ.out, by simp⟩
  case round =>
    obtain ⟨k, rfl, hk, hg, HI⟩ := hrel
    by_cases ek : k < 512
    · obtain ⟨d, hd⟩ : ∃ d, d = E l (512 * j + k) := ⟨_, rfl⟩
      have cu := fun j' y hy => HI.out.1.wd.cell (i := k) (j := j') (x := d) (y := y) (by rw [List.getElem?_map, List.getElem?_range ek, hd]; rfl) hy
      have HD : Hid (d = E l (512 * j + k)) := hd
      obtain ⟨m, hm⟩ : ∃ m, m = k * spn (l : Int) := ⟨_, rfl⟩
      obtain ⟨pg, hpg⟩ : ∃ pg, pg = pgE l (512 * j + k) := ⟨_, rfl⟩
      have hm2 : m ≤ 511 * 549755813888 := by rw [hm]; exact Nat.mul_le_mul (by omega) hsp
      have e1 : IntKind.u64.wrap ((k : Int) * (spn (l : Int) : Int)) = (m : Int) := by
        rw [hm]
        simp only [IntKind.wrap, IntKind.bits, IntKind.signed]
        have : ((k * spn (l : Int) : Nat) : Int) = (k : Int) * (spn (l : Int) : Int) := by simp
        rw [← this, ← hm]
        simp; omega
      have e2 : (pgE l (512 * j) : Int) + (m : Int) / 4096 = (pg : Int) := by
        have := pgE_add (l := l) (j := j) (i := k) hl
        rw [← hm, ← hpg] at this
        omega
      have y1 : (m : Int) ≤ 280925220896768 := by omega
      have y2 : (pgE l (512 * j) : Int) < 1099511627776 := by omega
      have y3 : (k : Int) < 512 := by omega
      obtain ⟨dk, da, dr, dq, dx, df⟩ := d
      have x0 := cu 0 _ rfl
      have x1 := cu 1 _ rfl
      have x2 := cu 2 _ rfl
      have x3 := cu 3 _ rfl
      have x4 := cu 4 _ rfl
      have x5 := cu 5 _ rfl
      simp only [Nat.add_zero] at x0
      have HP : Hid (pg = pgE l (512 * j + k) ∧ pgE l (512 * j) < 1099511627776) := ⟨hpg, hp0⟩
      clear cu hd hm hpg hm2
      generalize hf0 : pgE l (512 * j) = f0 at *
      generalize spn (l : Int) = sp at *
      by_cases cp : 268435456 ≤ pg
      · have kl : l = 0 ∧ lim = 2 ∧ k = 2 := by
          rcases hlim with ⟨a1, a2⟩ | ⟨a1, a2⟩
          · have := pgE_lt HT.out.1.tg hl a1 HH.out.1 ek
            have := HP.out.1
            omega
          · refine ⟨a1, a2, ?_⟩
            have e := HP.out.1
            subst a1
            have j0 : j < 1 := HT.out.1.tg.small 0 j x (by omega) HH.out.1
            have : pgE 0 (512 * j + k) = (512 * j + k) * 134217728 := rfl
            omega
        have HE : Hid ((∃ S', I (L ++ (List.range 512).flatMap fun i => vEn E vis deep tr l (512 * j + i)) S' wr ∧ Fr S w wr ∧ Less S S' w) ∧ ((List.range 512).flatMap fun i => vEn E vis deep tr l (512 * j + i)).length ≤ lim * (room + 1)) := by
          obtain ⟨⟨⟨S1, i1, i2, i3, i4⟩, i5⟩, i6⟩ := HI.out
          obtain ⟨a1, a2, a3⟩ := kl
          have j0 : j < 1 := by
            have := HT.out.1.tg.small l j x hl HH.out.1
            rw [a1] at this
            exact this
          have st : (List.range 512).flatMap (fun i => vEn E vis deep tr l (512 * j + i)) = (List.range k).flatMap fun i => vEn E vis deep tr l (512 * j + i) := flatMap_stop _ k 512 (by omega) fun i hi => by
            unfold vEn
            rw [if_pos]
            by_cases c : (E l (512 * j + i)).k = 0
            · exact c
            · exfalso
              subst a1
              have := HT.out.1.tg.two _ c
              omega
          rw [st]
          exact ⟨⟨S1, i1, i2, i3⟩, by rw [a3] at i6; rw [a2, a3]; exact i6⟩
        have HK : Hid (Kp wr (wr.alloc (.cells #[.int .i64 dk, .int .u64 (da : Int), .bool dr, .bool dq, .bool dx, .int .i64 df] 62))) := (Kp.refl wr).alloc _
        have g1 : decide ((268435456 : Int) ≤ (pg : Int)) = true := decide_eq_true (by omega)
        have g2 : decide (268435456 ≤ pg) = true := decide_eq_true (by omega)
        clear hsp hp0 kA kl HI
        go_wp2_with (go_at_call 93; with_reducible refine (kS _).mono ?_; rintro _ w' ⟨rfl, rfl⟩)
        (try simp only [Exit.inBlock, Exit.then])
        refine bodyPost_ret (results_none rfl _ _ _) rfl ?_
        obtain ⟨⟨S1, i1, i2, i3⟩, i6⟩ := HE.out
        exact ⟨rfl, ⟨S1, HT.out.2.1.keep _ _ _ _ i1 HK.out, i2.trans (HK.out.fr _), i3⟩, i6⟩
      · have kl : k < lim := by
          rcases hlim with ⟨a1, a2⟩ | ⟨a1, a2⟩
          · omega
          · have e := HP.out.1
            subst a1
            have : pgE 0 (512 * j + k) = (512 * j + k) * 134217728 := rfl
            omega
        have g1 : decide ((268435456 : Int) ≤ (pg : Int)) = false := decide_eq_false (by omega)
        have g2 : decide (268435456 ≤ pg) = false := decide_eq_false (by omega)
        by_cases c0 : dk = 0
        · subst c0
          have H2 : Hid (VJ I L S w (wr.alloc (.cells #[.int .i64 0, .int .u64 (da : Int), .bool dr, .bool dq, .bool dx, .int .i64 df] 62)) w.heap.size ((List.range 512).map fun i => E l (512 * j + i)) (fun i => vEn E vis deep tr l (512 * j + i)) (k + 1) ∧ ((List.range (k + 1)).flatMap fun i => vEn E vis deep tr l (512 * j + i)).length ≤ (k + 1) * (room + 1)) := by
            obtain ⟨⟨⟨S1, i1, i2, i3, i4⟩, i5⟩, i6⟩ := HI.out
            have kk : Kp wr (wr.alloc (.cells #[.int .i64 0, .int .u64 (da : Int), .bool dr, .bool dq, .bool dx, .int .i64 df] 62)) := (Kp.refl wr).alloc _
            have ev : vEn E vis deep tr l (512 * j + k) = [] := by
              unfold vEn
              rw [← HD.out, if_pos rfl]
            have es : (List.range (k + 1)).flatMap (fun i => vEn E vis deep tr l (512 * j + i)) = (List.range k).flatMap fun i => vEn E vis deep tr l (512 * j + i) := by rw [flatMap_step, ev, List.append_nil]
            refine ⟨⟨⟨S1, by rw [es]; exact HT.out.2.1.keep _ _ _ _ i1 kk, i2.trans (kk.fr _), i3, i4⟩, i5.kp kk⟩, ?_⟩
            rw [es, Nat.add_mul]
            omega
          clear hsp hp0 kA HI
          go_wp2_with (go_at_call 93; with_reducible refine (kS _).mono ?_; rintro _ w' ⟨rfl, rfl⟩)
          go_roundg (513 - (k + 1))
          case measure => omega
          case rel => exact ⟨k + 1, by go_num, by omega, by omega, H2⟩
        · have c0' : (dk == 0) = false := by rw [beq_eq_false_iff_ne]; exact c0
          have KV : Aside (∀ v, Kp wr v → BX v wr.heap.size dk da dr dq dx df → Calls Tryz.prog g (#[.int .u64 (pg : Int), svV ⟨l, x * 4096 + 8 * k, 0, ⟨dk, da, dr, dq, dx, df⟩⟩] ++ cap) v fun e w' => e = .returned (.bool (deep l ⟨dk, da, dr, dq, dx, df⟩)) ∧ BX w' wr.heap.size dk da dr dq dx df ∧ Hid ((∃ S', I (L ++ ((List.range k).flatMap fun i => vEn E vis deep tr l (512 * j + i)) ++ vis pg l ⟨dk, da, dr, dq, dx, df⟩) S' w' ∧ Fr S w w' ∧ Less S S' w ∧ ¬ S' w.heap.size) ∧ WD w' w.heap.size ((List.range 512).map fun i => E l (512 * j + i)))) := fun v kv bx => by
            obtain ⟨⟨⟨S1, i1, i2, i3, i4⟩, i5⟩, i6⟩ := HI.out
            obtain ⟨t1, t2, t3⟩ := HH.out
            have hk' : k * (room + 1) ≤ lim * (room + 1) := Nat.mul_le_mul_right _ hk
            have vo := HT.out.2.1.own _ _ _ i1
            refine (HT.out.2.1.call _ S1 v pg l (x * 4096 + 8 * k) ⟨dk, da, dr, dq, dx, df⟩ (HT.out.2.1.keep _ _ _ _ i1 kv) (by omega) hl (by rw [HD.out]; exact HT.out.1.tg.ok _ _ hl) (by rw [HD.out]; exact HT.out.1.tg.blk _ _ hl) c0 (by rw [List.length_append]; omega)).mono fun e w' ⟨e1, S', e2, e3, e4⟩ => ⟨e1, ?_, ⟨S', e2, ?_, ?_, ?_⟩, ?_⟩
            · exact (e3.block _ bx.lt (fun c => by have := vo _ c; omega)).trans bx
            · exact (i2.trans (kv.fr _)).trans2 e3 (fun i hi c => (i3 i c).resolve_right (by omega))
            · intro b hb
              have s1 := i2.size
              have s2 := kv.size
              rcases e4 b hb with c | c
              · exact i3 b c
              · exact .inr (by omega)
            · intro c
              have s1 := i2.size
              have s2 := kv.size
              have s3 := i5.lt
              rcases e4 _ c with c | c
              · exact i4 c
              · omega
            · exact OL.fr (i5.kp kv) e3 (fun b hb c => i4 (by cases hb; exact c))
          have ka := kA.out k ek
          rw [hxa] at KV
          generalize hdp : deep l ⟨dk, da, dr, dq, dx, df⟩ = dp at *
          obtain ⟨ad, had⟩ : ∃ ad, ad = xa + 8 * k := ⟨_, rfl⟩
          have ka2 : ∀ v, Calls Tryz.prog 108 #[.int .u64 (xa : Int), .int .i64 (k : Int)] v fun e w' => e = .returned (.int .u64 (ad : Int)) ∧ w' = v := fun v => by rw [had]; exact ka v
          rw [← had] at KV
          have kv := KV.out (wr.alloc (.cells #[.int .i64 dk, .int .u64 (da : Int), .bool dr, .bool dq, .bool dx, .int .i64 df] 62)).drew (((Kp.refl wr).alloc _).drew) (BX.kp (w := wr.alloc (.cells #[.int .i64 dk, .int .u64 (da : Int), .bool dr, .bool dq, .bool dx, .int .i64 df] 62)) (heap_alloc_new wr _) (Kp.refl _).drew)
          simp only [svV] at kv
          rw [show ((0 : Nat) : Int) = 0 from rfl] at kv
          clear hsp hp0 KV ka had kA
          go_wp2_with (go_at_call 93; with_reducible refine (kS _).mono ?_; rintro _ w' ⟨rfl, rfl⟩)
          go_region_with (first | (go_at_call 108; with_reducible refine (ka2 _).mono ?_; rintro _ w' ⟨rfl, rfl⟩) | (with_reducible refine kv.mono ?_; rintro _ w4 ⟨rfl, B4, H4⟩))
          all_goals
            have d0 := B4.c0
            have d1 := B4.c1
            have HDP : Hid (deep l ⟨dk, da, dr, dq, dx, df⟩ = dp) := hdp
            clear hdp B4 kv ka2 x0 x1 x2 x3 x4 x5
            by_cases cr : dp = true ∧ dk = 1
            · obtain ⟨rfl, rfl⟩ := cr
              have KE : Aside (Calls Tryz.prog 94 #[.pointer (some ⟨bt, 0, none⟩), .int .u64 (da : Int), .int .i64 ((l : Int) + 1), .int .u64 (pg : Int), .func (.func g) #[] cap] w4 fun e w' => e = .returned (.tuple #[]) ∧ Hid (VJ I L S w w' w.heap.size ((List.range 512).map fun i => E l (512 * j + i)) (fun i => vEn E vis deep tr l (512 * j + i)) (k + 1) ∧ ((List.range (k + 1)).flatMap fun i => vEn E vis deep tr l (512 * j + i)).length ≤ (k + 1) * (room + 1))) := by
                obtain ⟨⟨S4, q1, q2, q3, q4⟩, q5⟩ := H4.out
                obtain ⟨_, i6⟩ := HI.out
                obtain ⟨t1, t2, t3⟩ := HH.out
                have ok := HT.out.1.tg.ok l (512 * j + k) hl
                rw [← HD.out] at ok
                have pr := ok.parts
                have l2 : l ≤ 2 := pr.2.2.2.2.2.2.2.1 rfl
                have a0 : da % 4096 = 0 := pr.2.2.2.2.2.1
                have tb : tbl root E (l + 1) (512 * j + k) = some (da / 4096) := by rw [tbl_succ, ← HD.out, if_pos rfl]
                have ev : vEn E vis deep tr l (512 * j + k) = vis pg l ⟨1, da, dr, dq, dx, df⟩ ++ tr (512 * j + k) := by
                  unfold vEn
                  rw [← HD.out, if_neg (by show ¬ (1 : Int) = 0; decide), if_pos ⟨HDP.out, rfl⟩, HP.out.1]
                have vl := HT.out.2.1.one pg l ⟨1, da, dr, dq, dx, df⟩
                have hk' : (k + 1) * (room + 1) ≤ lim * (room + 1) := Nat.mul_le_mul_right _ (by omega)
                have hk2 : (k + 1) * (room + 1) = k * (room + 1) + (room + 1) := by rw [Nat.add_mul, Nat.one_mul]
                have := HT.out.2.2 l2 (512 * j + k) (da / 4096) _ S4 w4 tb q1 (by rw [List.length_append, List.length_append]; omega)
                rw [show da / 4096 * 4096 = da by omega, pgE_next l2, ← HP.out.1] at this
                refine this.mono fun e w' ⟨e1, ⟨S5, e2, e3, e4⟩, e5⟩ => ⟨e1, ⟨⟨S5, ?_, ?_, ?_, ?_⟩, ?_⟩, ?_⟩
                · rw [flatMap_step, ev, ← List.append_assoc, ← List.append_assoc]; exact e2
                · exact q2.trans2 e3 (fun i hi c => (q3 i c).resolve_right (by omega))
                · intro b hb
                  have s1 := q2.size
                  rcases e4 b hb with c | c
                  · exact q3 b c
                  · exact .inr (by omega)
                · intro c
                  have s3 := q5.lt
                  rcases e4 _ c with c | c
                  · exact q4 c
                  · omega
                · exact OL.fr q5 e3 (fun b hb c => q4 (by cases hb; exact c))
                · rw [flatMap_step, ev, List.length_append, List.length_append]; omega
              have ke := KE.out
              clear KE HI H4
              go_wp2_with fail
              with_reducible refine ke.mono ?_
              rintro _ w5 ⟨rfl, H5⟩
              clear ke
              go_wp2_with fail
              go_roundg (513 - (k + 1))
              case measure => omega
              case rel => exact ⟨k + 1, by go_num, by omega, by omega, H5⟩
            · have H5 : Hid (VJ I L S w w4 w.heap.size ((List.range 512).map fun i => E l (512 * j + i)) (fun i => vEn E vis deep tr l (512 * j + i)) (k + 1) ∧ ((List.range (k + 1)).flatMap fun i => vEn E vis deep tr l (512 * j + i)).length ≤ (k + 1) * (room + 1)) := by
                obtain ⟨⟨S4, q1, q2, q3, q4⟩, q5⟩ := H4.out
                obtain ⟨_, i6⟩ := HI.out
                have ev : vEn E vis deep tr l (512 * j + k) = vis pg l ⟨dk, da, dr, dq, dx, df⟩ := by
                  unfold vEn
                  rw [← HD.out, if_neg c0, if_neg (fun c => cr ⟨HDP.out.symm.trans c.1, c.2⟩), List.append_nil, HP.out.1]
                have vl := HT.out.2.1.one pg l ⟨dk, da, dr, dq, dx, df⟩
                have hk2 : (k + 1) * (room + 1) = k * (room + 1) + (room + 1) := by rw [Nat.add_mul, Nat.one_mul]
                refine ⟨⟨⟨S4, by rw [flatMap_step, ev, ← List.append_assoc]; exact q1, q2, q3, q4⟩, q5⟩, ?_⟩
                rw [flatMap_step, ev, List.length_append]; omega
              cases dp
              · clear HI H4
                go_wp2_with fail
                go_roundg (513 - (k + 1))
                case measure => omega
                case rel => exact ⟨k + 1, by go_num, by omega, by omega, H5⟩
              · have c1 : (dk == 1) = false := by rw [beq_eq_false_iff_ne]; exact fun c => cr ⟨rfl, c⟩
                clear HI H4
                go_wp2_with fail
                go_roundg (513 - (k + 1))
                case measure => omega
                case rel => exact ⟨k + 1, by go_num, by omega, by omega, H5⟩
    · have l1 : lim = 512 ∧ k = 512 := by omega
      obtain ⟨a2, a3⟩ := l1
      subst a3
      have HE : Hid ((∃ S', I (L ++ (List.range 512).flatMap fun i => vEn E vis deep tr l (512 * j + i)) S' wr ∧ Fr S w wr ∧ Less S S' w) ∧ ((List.range 512).flatMap fun i => vEn E vis deep tr l (512 * j + i)).length ≤ lim * (room + 1)) := by
        obtain ⟨⟨⟨S1, i1, i2, i3, i4⟩, i5⟩, i6⟩ := HI.out
        exact ⟨⟨S1, i1, i2, i3⟩, by rw [a2]; exact i6⟩
      clear hsp hp0 kA HI
      go_wp2_with fail
      go_end0
      exact ⟨rfl, HE.out⟩
end
end Go.Proofs.YtanlcmdnhhdhaaaGreatDoor
