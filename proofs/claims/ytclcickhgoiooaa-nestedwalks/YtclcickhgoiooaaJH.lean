/- Joined: NH, NI. -/
import Derived.Test.YtclcickhgoiooaaNG
/- nested: firstLeaf. -/
namespace Go.Proofs.Ytclcickhgoiooaa
open Go.RowKit
set_option maxRecDepth 10000

/-- The first stage's words, read through the second one. -/
def rd1 (rd : Nat → Nat × Bool) (two : Nat) (p : Nat) : Nat × Bool := if (enF rd two p).k = 0 then (enW rd two p, true) else (0, false)
def sumN (rd : Nat → Nat × Bool) (two : Nat) : List SV → Nat
  | [] => 0
  | x :: L => enN rd two x.p + sumN rd two L
theorem sumN_snoc (rd : Nat → Nat × Bool) (two : Nat) (x : SV) : ∀ L, sumN rd two (L ++ [x]) = sumN rd two L + enN rd two x.p
  | [] => by simp [sumN]
  | y :: L => by rw [List.cons_append, sumN, sumN, sumN_snoc rd two x L]; omega
theorem enN_le (rd : Nat → Nat × Bool) (two u : Nat) : enN rd two u ≤ 5 := by
  have := slN_le rd two u
  unfold enN
  split <;> omega
theorem sumN_le (rd : Nat → Nat × Bool) (two : Nat) : ∀ L, sumN rd two L ≤ 5 * L.length
  | [] => Nat.le_refl _
  | x :: L => by
    have := sumN_le rd two L
    have := enN_le rd two x.p
    rw [sumN, List.length_cons]; omega
/-- The table that comes next. -/
def lastT (root : Nat) (L : List SV) : Nat := match L.getLast? with | none => root | some x => x.d.a
theorem lastT_snoc (root : Nat) (L : List SV) (x : SV) : lastT root (L ++ [x]) = x.d.a := by simp [lastT]

/-- On the way, with the steps L; at its end. -/
def fsA (r1 : Nat → Nat × Bool) (root u : Nat) (L : List SV) : Prop := sofar 1 root u r1 L L.length (lastT root L) ∧ (∀ R, sofarH 1 root u (fun n _ => rdK (L.map SV.u ++ R) n) L L.length (lastT root L)) ∧ ∀ x ∈ L, x.u < 18446744073709551616
def fsB (r1 : Nat → Nat × Bool) (root u : Nat) (L : List SV) (k : Int) : Prop := k ≠ -1 ∧ (goW 1 u r1 4 0 root).1 = L ∧ (goW 1 u r1 4 0 root).2.1 = k ∧ (∃ H, wyH (L.map SV.u) root u = (L, k, H)) ∧ ∀ x ∈ L, x.u < 18446744073709551616
section
variable {r1 : Nat → Nat × Bool} {root u : Nat} {L : List SV}
theorem fsA_nil (hr : root < 18446744073709551616) : fsA r1 root u [] :=
  ⟨⟨rfl, by decide, hr, by simp [lastT]⟩, fun R => ⟨rfl, by decide, hr, by simp [lastT]⟩, fun _ h => by cases h⟩
theorem rdK_end (K : List Nat) : rdK K K.length = (0, false) := by unfold rdK; simp
theorem rdK_mid (K : List Nat) (x : Nat) (R : List Nat) : rdK (K ++ x :: R) K.length = (x, true) := by unfold rdK; simp
theorem fsA_stop (h : fsA r1 root u L) : wyH (L.map SV.u) root u = (L, -1, L.map SV.p ++ [atN (lastT root L) u L.length]) := by
  have := h.2.1 []
  rw [List.append_nil] at this
  refine sofarH_stop this ?_
  have e := rdK_end (L.map SV.u)
  rw [List.length_map] at e
  show (rdK (L.map SV.u) L.length).2 = false
  rw [e]
theorem fsA_lack (K : List Nat) (q : Nat) (hK : K.length = L.length) : lkN K (L.map SV.p ++ [q]) = q := lk_more K (L.map SV.p) q (by rw [List.length_map]; omega)
theorem fsA_fault (h : fsA r1 root u L) (hf : (r1 (atN (lastT root L) u L.length)).2 = false) : (goW 1 u r1 4 0 root).1 = L ∧ (goW 1 u r1 4 0 root).2.1 = -1 := by
  rw [sofar_stop h.1 hf]; exact ⟨rfl, rfl⟩
theorem fsA_next (h : fsA r1 root u L) (x : Nat) (hx : r1 (atN (lastT root L) u L.length) = (x, true)) (hw : x < 18446744073709551616) :
    fsA r1 root u (L ++ [⟨L.length, atN (lastT root L) u L.length, x, dvN 1 L.length x⟩]) ∨ ∃ k, fsB r1 root u (L ++ [⟨L.length, atN (lastT root L) u L.length, x, dvN 1 L.length x⟩]) k := by
  have h1 : (r1 (atN (lastT root L) u L.length)).2 = true := by rw [hx]
  have h2 : (r1 (atN (lastT root L) u L.length)).1 = x := by rw [hx]
  have em : ∀ R, rdK ((L.map SV.u ++ [x]) ++ R) L.length = (x, true) := fun R => by
    have := rdK_mid (L.map SV.u) x R
    rw [List.length_map] at this
    rw [List.append_assoc]; exact this
  have hmem : ∀ y ∈ L ++ [⟨L.length, atN (lastT root L) u L.length, x, dvN 1 L.length x⟩], y.u < 18446744073709551616 := fun y hy => by
    rcases List.mem_append.1 hy with c | c
    · exact h.2.2 y c
    · rw [List.mem_singleton.1 c]; exact hw
  by_cases hk : (dvN 1 L.length x).k = 1
  · left
    have s1 := sofar_on h.1 h1 (by rw [h2]; exact hk)
    rw [h2] at s1
    refine ⟨?_, fun R => ?_, hmem⟩
    · rw [lastT_snoc, List.length_append]; exact s1
    · have hh := h.2.1 ([x] ++ R)
      rw [← List.append_assoc] at hh
      have s2 := sofarH_on hh (show (rdK ((L.map SV.u ++ [x]) ++ R) L.length).2 = true by rw [em]) (show (dvN 1 L.length (rdK ((L.map SV.u ++ [x]) ++ R) L.length).1).k = 1 by rw [em]; exact hk)
      rw [lastT_snoc, List.length_append, List.map_append]
      simp only [em] at s2
      exact s2
  · right
    have s1 := sofar_end h.1 h1 (by rw [h2]; exact hk)
    rw [h2] at s1
    have hh := h.2.1 [x]
    have em0 := em []
    rw [List.append_nil] at em0
    have s2 := sofarH_end hh (show (rdK (L.map SV.u ++ [x]) L.length).2 = true by rw [em0]) (show ¬ (dvN 1 L.length (rdK (L.map SV.u ++ [x]) L.length).1).k = 1 by rw [em0]; exact hk)
    simp only [em0] at s2
    refine ⟨endN (dvN 1 L.length x).k (decE 1 L.length x), ?_, by rw [s1], by rw [s1], ⟨_, by rw [List.map_append]; exact s2⟩, hmem⟩
    unfold endN
    split
    · decide
    · split
      · decide
      · split <;> decide
theorem fsB_last {k : Int} (h : fsB r1 root u L k) : ∃ (I : List SV) (x : SV), L = I ++ [x] ∧ x.l = I.length ∧ I.length ≤ 3 ∧ x.d = dvN 1 x.l x.u := by
  obtain ⟨I, x, h1, h2, h3, _, _, h6, _⟩ := goW_last 1 u r1 4 0 root rfl (by decide) (by rw [h.2.2.1]; exact h.1)
  rw [h.2.1] at h1
  exact ⟨I, x, h1, by omega, by omega, h6⟩
theorem fsA_len (h : fsA r1 root u L) : L.length ≤ 3 := h.1.2.1
end

/-- What firstLeaf tells. -/
def g1 (rd : Nat → Nat × Bool) (two root u : Nat) : List SV × Int × Nat := goW 1 u (rd1 rd two) 4 0 root
def stP (rd : Nat → Nat × Bool) (two root u : Nat) : Nat := atN (lastT root (g1 rd two root u).1) u (g1 rd two root u).1.length
def flF (rd : Nat → Nat × Bool) (two root u : Nat) : FV := if (g1 rd two root u).2.1 = -1 then ⟨(enF rd two (stP rd two root u)).s, (enF rd two (stP rd two root u)).k, ((g1 rd two root u).1.length : Int), (enF rd two (stP rd two root u)).a, (enF rd two (stP rd two root u)).t⟩ else if (g1 rd two root u).2.1 = 0 then zF else ⟨1, (g1 rd two root u).2.1, (((g1 rd two root u).1.getLastD zS).l : Int), u, false⟩
def flL (rd : Nat → Nat × Bool) (two root u : Nat) : SV := if (g1 rd two root u).2.1 = 0 then (g1 rd two root u).1.getLastD zS else zS
def flN (rd : Nat → Nat × Bool) (two root u : Nat) : Nat := if (g1 rd two root u).2.1 = -1 then sumN rd two (g1 rd two root u).1 + enN rd two (stP rd two root u) else sumN rd two (g1 rd two root u).1

/-- The world at the label. -/
structure FJ (w : World) (S : Nat → Prop) (p N o : Nat) (B : Nat → Nat → Nat) (two root : Nat) (on : Bool) (u : Nat) (na : Option Addr) (cap : Nat) (L : List SV) (v : World) : Prop where
  mem : PMo v S p N (o + 5 * L.length) B
  fr : Fr S w v
  cv : RX v w.heap.size 29 [.int .u64 (two : Int), .bool on, .int .u64 (root : Int)]
  cl : RX v (w.heap.size + 1) 80 (encS zS)
  cf : RX v (w.heap.size + 2) 35 (encF zF)
  kn : UW v (.slice na L.length cap) (L.map SV.u)
  own : ∀ g, (Value.slice na L.length cap).ownBlock = some g → w.heap.size + 3 ≤ g
  st : fsA (rd1 (rdB N B) two) root u L ∨ ∃ k, fsB (rd1 (rdB N B) two) root u L k
theorem FJ.kp {w : World} {S : Nat → Prop} {p N o : Nat} {B : Nat → Nat → Nat} {two root : Nat} {on : Bool} {u : Nat} {na : Option Addr} {cap : Nat} {L : List SV} {v v' : World} (h : FJ w S p N o B two root on u na cap L v) (k : Kp v v') : FJ w S p N o B two root on u na cap L v' :=
  ⟨h.mem.kp k, h.fr.trans (k.fr S), h.cv.kp k, h.cl.kp k, h.cf.kp k, h.kn.kp k, h.own, h.st⟩
def firstJ (w : World) (S : Nat → Prop) (p N o : Nat) (B : Nat → Nat → Nat) (two root : Nat) (on : Bool) (u : Nat) : Act → World → Prop := fun a' w' => ∃ (na : Option Addr) (cap : Nat) (L : List SV) (u3 u5 u11 u12 u13 u14 u15 u16 u17 u18 u19 u20 u21 u22 u23 u24 u25 u26 u27 u28 u29 u30 u31 u32 u33 u34 u35 u36 u37 u38 u39 u40 u41 u42 u43 u44 u45 u46 u47 u48 u49 u50 u51 u52 u53 u54 u55 u56 u57 u58 u59 u60 u61 u62 u63 u64 u65 u66 u67 u68 u69 u70 u71 : Value),
  a' = { tmps := #[.pointer (some ⟨p, 0, none⟩), .agg #[.int .u64 (two : Int), .bool on, .int .u64 (root : Int)], .int .u64 (u : Int), u3, .pointer (some ⟨w.heap.size, 0, none⟩), u5, .pointer (some ⟨w.heap.size + 1, 0, none⟩), .pointer (some ⟨w.heap.size + 2, 0, none⟩), .int .i64 0, .slice na L.length cap, .int .i64 (sumN (rdB N B) two L : Nat), u11, u12, u13, u14, u15, u16, u17, u18, u19, u20, u21, u22, u23, u24, u25, u26, u27, u28, u29, u30, u31, u32, u33, u34, u35, u36, u37, u38, u39, u40, u41, u42, u43, u44, u45, u46, u47, u48, u49, u50, u51, u52, u53, u54, u55, u56, u57, u58, u59, u60, u61, u62, u63, u64, u65, u66, u67, u68, u69, u70, u71], defers := [] } ∧ FJ w S p N o B two root on u na cap L w'

theorem res_lf {w : World} {a b : Nat} {fn : Func} {c d e : Tmp} {tmps : Array Value} {s : SV} {f : FV} (hf : fn.results = #[.cell c 80, .cell d 35, .tmp e]) (hc : tmps.getD c undef = .pointer (some ⟨a, 0, none⟩)) (hd : tmps.getD d undef = .pointer (some ⟨b, 0, none⟩)) (A : RX w a 80 (encS s)) (B : RX w b 35 (encF f)) :
    (results fn tmps).run Try.prog w = .ok (.tuple #[stV s, faV f, tmps.getD e undef]) w := by
  have hc' : tmps[c]?.getD undef = .pointer (some ⟨a, 0, none⟩) := by simpa using hc
  have hd' : tmps[d]?.getD undef = .pointer (some ⟨b, 0, none⟩) := by simpa using hd
  simp [results, hf, hc', hd', asAddr, load_step s A, load_fault f B]
/-- What is stored at the end. -/
def put3 (w : World) (a b : Nat) (s : SV) (f : FV) : World := putR (putR w a 0 (encS s)) b 0 (encF f)
theorem put3_fr (w : World) (a b : Nat) (s : SV) (f : FV) : Fr (fun i => i = a ∨ i = b) w (put3 w a b s f) := ((putR_fr w a 0 (encS s)).mono (fun _ _ e => .inl e)).trans ((putR_fr _ b 0 (encF f)).mono (fun _ _ e => .inr e))
theorem put3_s {w : World} {a b : Nat} {s s' : SV} {f : FV} (h : RX w a 80 (encS s')) (hab : a ≠ b) : RX (put3 w a b s f) a 80 (encS s) := (h.put (U := encS s) rfl).fr (putR_fr _ b 0 (encF f)) hab
theorem put3_f {w : World} {a b : Nat} {s : SV} {f f' : FV} (h : RX w b 35 (encF f')) (hab : b ≠ a) : RX (put3 w a b s f) b 35 (encF f) := (h.fr (putR_fr w a 0 (encS s)) hab).put (U := encF f) rfl
/-- The end of it. -/
theorem FJ.fin {w : World} {S : Nat → Prop} {p N o : Nat} {B : Nat → Nat → Nat} {v : World} (cl : RX v (w.heap.size + 1) 80 (encS zS)) (cf : RX v (w.heap.size + 2) 35 (encF zF)) (hm : PMo v S p N (o + 20) B) (hf : Fr S w v) (hS : ∀ i, S i → i < w.heap.size) (s : SV) (f : FV) :
    RX (put3 v (w.heap.size + 1) (w.heap.size + 2) s f) (w.heap.size + 1) 80 (encS s) ∧ RX (put3 v (w.heap.size + 1) (w.heap.size + 2) s f) (w.heap.size + 2) 35 (encF f) ∧ PMo (put3 v (w.heap.size + 1) (w.heap.size + 2) s f) S p N (o + 20) B ∧ Fr S w (put3 v (w.heap.size + 1) (w.heap.size + 2) s f) := by
  have F := put3_fr v (w.heap.size + 1) (w.heap.size + 2) s f
  exact ⟨put3_s cl (by omega), put3_f cf (by omega), hm.fr F (fun i hi c => by have := hS i hi; omega), hf.trans2 F (fun i hi c => by omega)⟩
def measF (a : Act) : Nat := match a.tmps.getD 9 undef with | .slice _ n _ => 5 - n | _ => 0

end Go.Proofs.Ytclcickhgoiooaa

/- nested: firstLeaf, by its goto. -/
namespace Go.Proofs.Ytclcickhgoiooaa
open Go.RowKit
set_option maxRecDepth 10000

set_option maxHeartbeats 4000000 in
theorem firstLeaf_any {w : World} {S : Nat → Prop} {p N o : Nat} {B : Nat → Nat → Nat} (h : PMo w S p N o B) (two root : Nat) (on : Bool) (u : Nat) (ht : two < 18446744073709551616) (hr : root < 18446744073709551616) (hu : u < 18446744073709551616) (ho : o < 1000000000000000000) :
    Calls Try.prog 29 #[.pointer (some ⟨p, 0, none⟩), .agg #[.int .u64 (two : Int), .bool on, .int .u64 (root : Int)], .int .u64 (u : Int)] w fun e w' => e = .returned (.tuple #[stV (flL (rdB N B) two root u), faV (flF (rdB N B) two root u), .int .i64 (flN (rdB N B) two root u : Nat)]) ∧ PMo w' S p N (o + 20) B ∧ Fr S w w' := by
  obtain ⟨w2, hw2⟩ : ∃ w2, w2 = ((w.alloc (.cells #[.int .u64 (two : Int), .bool on, .int .u64 (root : Int)] 29)).alloc (.cells #[.int .i64 0, .int .u64 0, .int .u64 0, .int .i64 0, .int .u64 0, .bool false, .bool false, .bool false, .int .i64 0] 80)).alloc (.cells #[.int .i64 0, .int .i64 0, .int .i64 0, .int .u64 0, .bool false] 35) := ⟨_, rfl⟩
  have J0 : FJ w S p N o B two root on u none 0 [] w2 := by
    have k2 : Kp w w2 := by rw [hw2]; exact (((Kp.refl w).alloc _).alloc _).alloc _
    have a1 := RX.made w 29 [.int .u64 (two : Int), .bool on, .int .u64 (root : Int)]
    have a2 := RX.made (w.alloc (.cells #[.int .u64 (two : Int), .bool on, .int .u64 (root : Int)] 29)) 80 (encS zS)
    have a3 := RX.made ((w.alloc (.cells #[.int .u64 (two : Int), .bool on, .int .u64 (root : Int)] 29)).alloc (.cells (encS zS).toArray 80)) 35 (encF zF)
    rw [show (w.alloc (.cells #[.int .u64 (two : Int), .bool on, .int .u64 (root : Int)] 29)).heap.size = w.heap.size + 1 by simp] at a2
    rw [show ((w.alloc (.cells #[.int .u64 (two : Int), .bool on, .int .u64 (root : Int)] 29)).alloc (.cells (encS zS).toArray 80)).heap.size = w.heap.size + 2 by simp] at a3
    refine ⟨(h.kp k2).le (by omega), k2.fr S, by rw [hw2]; exact a1.kp (((Kp.refl _).alloc _).alloc _), by rw [hw2]; exact a2.kp ((Kp.refl _).alloc _), by rw [hw2]; exact a3, OL.nil _ _, (fun g e => by cases e), .inl (fsA_nil hr)⟩
  have HS : Hid (∀ i, S i → i < w.heap.size) := h.own
  have HJ0 : Hid (FJ w S p N o B two root on u none 0 [] w2) := J0
  clear h J0
  go_enter Try.func29, Try.ntmps29
  go_wp2_with fail
  refine scope_again 0 (firstJ w S p N o B two root on u) (fun a' _ => measF a') rfl (fun pass => ?_) ?_
  · have PASS : Aside (∀ a v, firstJ w S p N o B two root on u a v → _) := pass
    clear pass
    go_wp2_with fail
    go_step3
    rename_i hK
    refine hK _ _ (PASS.out _ _ ⟨none, 0, [], _, _, _, _, _, _, _, _, _, _, _, _, _, _, _, _, _, _, _, _, _, _, _, _, _, _, _, _, _, _, _, _, _, _, _, _, _, _, _, _, _, _, _, _, _, _, _, _, _, _, _, _, _, _, _, _, _, _, _, _, _, _, _, rfl, by rw [← hw2]; exact HJ0.out⟩)
  · rintro a' v ⟨na, cap, L, u3, u5, u11, u12, u13, u14, u15, u16, u17, u18, u19, u20, u21, u22, u23, u24, u25, u26, u27, u28, u29, u30, u31, u32, u33, u34, u35, u36, u37, u38, u39, u40, u41, u42, u43, u44, u45, u46, u47, u48, u49, u50, u51, u52, u53, u54, u55, u56, u57, u58, u59, u60, u61, u62, u63, u64, u65, u66, u67, u68, u69, u70, u71, rfl, J⟩
    have HJ : Hid (FJ w S p N o B two root on u na cap L v) := J
    have hz : ∀ x ∈ L.map SV.u, x < 18446744073709551616 := fun x hx => by
      obtain ⟨y, hy, rfl⟩ := List.mem_map.1 hx
      rcases J.st with c | ⟨k, c⟩
      · exact c.2.2 y hy
      · exact c.2.2.2.2 y hy
    have kw := wayBy_any J.kn hz root u hr hu
    have sl := sumN_le (rdB N B) two L
    have CV := J.cv
    have v0 := CV.cell (j := 0) rfl; have v1 := CV.cell (j := 1) rfl; have v2 := CV.cell (j := 2) rfl; have fv := CV.fz
    rcases J.st with hA | ⟨k, hB⟩
    · have e1 := fsA_stop hA
      have hl := fsA_len hA
      rw [e1] at kw
      have kw : Calls Try.prog 61 #[.slice na L.length cap, .int .u64 (root : Int), .int .u64 (u : Int)] v fun e w' => e = .returned (.tuple #[.slice (some ⟨v.heap.size + 2, 0, none⟩) L.length 4, .int .i64 (-1), .int .u64 (atN (lastT root L) u L.length : Int)]) ∧ WL w' (v.heap.size + 2) L ∧ Kp v w' := by
        rw [← fsA_lack (L := L) (L.map SV.u) (atN (lastT root L) u L.length) (by rw [List.length_map])]; exact kw
      obtain ⟨q, hq⟩ : ∃ q, atN (lastT root L) u L.length = q := ⟨_, rfl⟩
      have hq' : q < 18446744073709551616 := by rw [← hq]; exact at_lt _ _ _
      rw [hq] at kw
      have HA : Hid (fsA (rd1 (rdB N B) two) root u L ∧ atN (lastT root L) u L.length = q ∧ L.length ≤ 3) := ⟨hA, hq, hl⟩
      have ke := fun (w3 : World) (k3 : Kp v w3) => entry_any (HJ.out.mem.kp k3) two q ht hq' (by omega)
      have KE : Aside (∀ (w3 : World) (k3 : Kp v w3), _) := ke
      clear e1 hA hl hq hq' ke J hz CV
      by_cases hf : (enF (rdB N B) two q).k = 0
      · have hr1 : rd1 (rdB N B) two q = (enW (rdB N B) two q, true) := by unfold rd1; rw [if_pos hf]
        have hx : enW (rdB N B) two q < 18446744073709551616 := by
          unfold enW
          split
          · exact HJ.out.mem.word _
          · decide
        obtain ⟨f, hf'⟩ : ∃ f, enF (rdB N B) two q = f := ⟨_, rfl⟩
        obtain ⟨fs, fk, fl, fa, ft⟩ := f
        rw [hf'] at hf
        have hf : fk = 0 := hf
        subst hf
        have nx := fsA_next HA.out.1 (enW (rdB N B) two q) (by rw [HA.out.2.1]; exact hr1) hx
        rw [HA.out.2.1] at nx
        have sn := sumN_snoc (rdB N B) two ⟨L.length, q, enW (rdB N B) two q, dvN 1 L.length (enW (rdB N B) two q)⟩ L
        have ke : Aside (∀ (w3 : World) (k3 : Kp v w3), Calls Try.prog 62 #[.pointer (some ⟨p, 0, none⟩), .int .u64 (two : Int), .int .u64 (q : Int)] w3 fun e w' => e = .returned (.tuple #[.int .u64 (enW (rdB N B) two q : Nat), .agg #[.int .i64 fs, .int .i64 0, .int .i64 fl, .int .u64 (fa : Int), .bool ft], .int .i64 (enN (rdB N B) two q : Nat)]) ∧ PMo w' S p N (o + 5 * L.length + 5) B ∧ Fr S w3 w') := fun w3 k3 => by
          have := KE.out w3 k3
          rw [hf'] at this
          exact this
        have HN : Hid ((fsA (rd1 (rdB N B) two) root u (L ++ [⟨L.length, q, enW (rdB N B) two q, dvN 1 L.length (enW (rdB N B) two q)⟩]) ∨ ∃ k, fsB (rd1 (rdB N B) two) root u (L ++ [⟨L.length, q, enW (rdB N B) two q, dvN 1 L.length (enW (rdB N B) two q)⟩]) k) ∧ sumN (rdB N B) two (L ++ [⟨L.length, q, enW (rdB N B) two q, dvN 1 L.length (enW (rdB N B) two q)⟩]) = sumN (rdB N B) two L + enN (rdB N B) two q) := ⟨nx, sn⟩
        have z1 : (sumN (rdB N B) two L : Int) ≤ 15 := by have := HA.out.2.2; omega
        have z2 : (enN (rdB N B) two q : Int) ≤ 5 := by have := enN_le (rdB N B) two q; omega
        clear nx sn hf' hr1 KE sl HJ0 hw2 ht hr hu hx
        go_wp2_with fail
        with_reducible refine kw.mono ?_
        rintro e w3 ⟨rfl, L3, K3⟩
        clear kw
        have v4 := (HJ.out.cv.kp K3).cell (j := 0) rfl
        go_wp2_with fail
        with_reducible refine (ke.out w3 K3).mono ?_
        rintro e w4 ⟨rfl, M4, F4⟩
        clear ke
        obtain ⟨w6, hw6⟩ : ∃ w6, w6 = (w4.alloc (.cells #[.int .i64 fs, .int .i64 0, .int .i64 fl, .int .u64 (fa : Int), .bool ft] 35)).alloc (.cells #[.int .u64 (enW (rdB N B) two q : Nat)] 23) := ⟨_, rfl⟩
        have k6 : Kp w4 w6 := by rw [hw6]; exact ((Kp.refl w4).alloc _).alloc _
        have C6 : w6.heap[w4.heap.size + 1]? = some (.cells #[.int .u64 (enW (rdB N B) two q : Nat)] 23) := by
          rw [hw6]
          have := RX.made (w4.alloc (.cells #[.int .i64 fs, .int .i64 0, .int .i64 fl, .int .u64 (fa : Int), .bool ft] 35)) 23 [.int .u64 (enW (rdB N B) two q : Nat)]
          rw [show (w4.alloc (.cells #[.int .i64 fs, .int .i64 0, .int .i64 fl, .int .u64 (fa : Int), .bool ft] 35)).heap.size = w4.heap.size + 1 by simp] at this
          exact this
        have sz : w.heap.size + 3 ≤ w4.heap.size := by have := HJ.out.cf.lt; have := K3.size; have := F4.size; omega
        have sz6 := k6.size
        have ow : ∀ g, (Value.slice na L.length cap).ownBlock = some g → ¬ S g := fun g e c => by have := HJ.out.own g e; have := HS.out g c; omega
        have U6 := ((HJ.out.kn.kp K3).fr F4 ow).kp k6
        obtain ⟨v', w7, r1, U7, F7, o7⟩ := U6.snoc (enW (rdB N B) two q) (w4.heap.size + 1) C6 (by rw [List.length_map]; have := HA.out.2.2; omega)
        obtain ⟨na', cap', hv', _⟩ := OL.form U7
        rw [List.length_append, List.length_map, List.length_singleton] at hv'
        subst hv'
        have ow7 : ∀ g, (Value.slice na L.length cap).ownBlock = some g → w.heap.size + 3 ≤ g := HJ.out.own
        have HJ7 : Hid (FJ w S p N o B two root on u na' cap' (L ++ [⟨L.length, q, enW (rdB N B) two q, dvN 1 L.length (enW (rdB N B) two q)⟩]) w7) := by
          have J6 := ((HJ.out.cv.kp K3).fr F4 (fun c => by have := HS.out _ c; omega)).kp k6
          have CL := ((HJ.out.cl.kp K3).fr F4 (fun c => by have := HS.out _ c; omega)).kp k6
          have CF := ((HJ.out.cf.kp K3).fr F4 (fun c => by have := HS.out _ c; omega)).kp k6
          refine ⟨?_, ?_, J6.fr F7 (fun e => by have := ow7 _ e; omega), CL.fr F7 (fun e => by have := ow7 _ e; omega), CF.fr F7 (fun e => by have := ow7 _ e; omega), ?_, ?_, HN.out.1⟩
          · exact ((M4.kp k6).fr F7 (fun i hi e => ow i e hi)).le (by rw [List.length_append, List.length_singleton]; omega)
          · exact (((HJ.out.fr.trans (K3.fr S)).trans F4).trans (k6.fr S)).trans2 F7 (fun i hi e => by have := ow7 _ e; omega)
          · rw [List.length_append, List.length_singleton, List.map_append]; exact U7
          · intro g e
            rw [List.length_append, List.length_singleton] at e
            rcases o7 with o7 | o7
            · exact ow7 g (o7 ▸ e)
            · rw [o7] at e; cases e; omega
        rw [hw6] at r1
        clear hw6 k6 C6 U6 U7 F7 o7 ow ow7 sz sz6 M4 F4 L3 K3 HJ
        repeat' (first | ((with_reducible refine wp_append_of r1 (.tmp 50) (.tmp 52) ?_ ?_ ?_ ?_ ?_); rfl; rfl; rfl; rfl) | go_values | go_skip | go_guarded | go_step | go_upon | go_back | (simp only []) | (go_values <;> (try go_simp)) | (go_ite <;> go_prune <;> (try go_simp)))
        go_step3
        refine ⟨rfl, ⟨na', cap', L ++ [⟨L.length, q, enW (rdB N B) two q, dvN 1 L.length (enW (rdB N B) two q)⟩], _, _, _, _, _, _, _, _, _, _, _, _, _, _, _, _, _, _, _, _, _, _, _, _, _, _, _, _, _, _, _, _, _, _, _, _, _, _, _, _, _, _, _, _, _, _, _, _, _, _, _, _, _, _, _, _, _, _, _, _, _, _, _, by rw [HN.out.2, List.length_append, List.length_singleton]; rfl, HJ7.out⟩, ?_⟩
        simp [measF]
        have := HA.out.2.2
        omega
      · have hr1 : (rd1 (rdB N B) two q).2 = false := by unfold rd1; rw [if_neg hf]
        obtain ⟨g1a, g1b⟩ := fsA_fault HA.out.1 (by rw [HA.out.2.1]; exact hr1)
        have eL : flL (rdB N B) two root u = zS := by unfold flL g1; rw [g1b, if_neg (by decide)]
        have eS : stP (rdB N B) two root u = q := by unfold stP g1; rw [g1a]; exact HA.out.2.1
        obtain ⟨f, hf'⟩ : ∃ f, enF (rdB N B) two q = f := ⟨_, rfl⟩
        obtain ⟨fs, fk, fl, fa, ft⟩ := f
        have eF : flF (rdB N B) two root u = ⟨fs, fk, (L.length : Int), fa, ft⟩ := by unfold flF; rw [show (g1 (rdB N B) two root u).2.1 = -1 from g1b, if_pos rfl, eS, show (g1 (rdB N B) two root u).1 = L from g1a, hf']
        have eN : flN (rdB N B) two root u = sumN (rdB N B) two L + enN (rdB N B) two q := by unfold flN; rw [show (g1 (rdB N B) two root u).2.1 = -1 from g1b, if_pos rfl, eS, show (g1 (rdB N B) two root u).1 = L from g1a]
        have ke : Aside (∀ (w3 : World) (k3 : Kp v w3), Calls Try.prog 62 #[.pointer (some ⟨p, 0, none⟩), .int .u64 (two : Int), .int .u64 (q : Int)] w3 fun e w' => e = .returned (.tuple #[.int .u64 (enW (rdB N B) two q : Nat), .agg #[.int .i64 fs, .int .i64 fk, .int .i64 fl, .int .u64 (fa : Int), .bool ft], .int .i64 (enN (rdB N B) two q : Nat)]) ∧ PMo w' S p N (o + 5 * L.length + 5) B ∧ Fr S w3 w') := fun w3 k3 => by
          have := KE.out w3 k3
          rw [hf'] at this
          exact this
        rw [hf'] at hf
        have hf : ¬ fk = 0 := hf
        have y1 : (fk != 0) = true := by rw [bne_iff_ne]; exact hf
        have HV : Hid (flL (rdB N B) two root u = zS ∧ flF (rdB N B) two root u = ⟨fs, fk, (L.length : Int), fa, ft⟩ ∧ flN (rdB N B) two root u = sumN (rdB N B) two L + enN (rdB N B) two q) := ⟨eL, eF, eN⟩
        have z1 : (sumN (rdB N B) two L : Int) ≤ 15 := by have := HA.out.2.2; omega
        have z2 : (enN (rdB N B) two q : Int) ≤ 5 := by have := enN_le (rdB N B) two q; omega
        clear eL eF eN eS g1a g1b hf' hr1 KE hf sl HJ0 hw2 ht hr hu
        go_wp2_with fail
        with_reducible refine kw.mono ?_
        rintro e w3 ⟨rfl, L3, K3⟩
        clear kw
        have v4 := (HJ.out.cv.kp K3).cell (j := 0) rfl
        go_wp2_with fail
        with_reducible refine (ke.out w3 K3).mono ?_
        rintro e w4 ⟨rfl, M4, F4⟩
        clear ke
        go_wp2_with fail
        obtain ⟨w6, hw6⟩ : ∃ w6, w6 = w4.alloc (.cells #[.int .i64 fs, .int .i64 fk, .int .i64 (L.length : Int), .int .u64 (fa : Int), .bool ft] 35) := ⟨_, rfl⟩
        have k6 : Kp w4 w6 := by rw [hw6]; exact (Kp.refl w4).alloc _
        have CG : RX w6 w4.heap.size 35 (encF ⟨fs, fk, (L.length : Int), fa, ft⟩) := by rw [hw6]; exact RX.made w4 _ _
        have CL := ((HJ.out.cl.kp K3).fr F4 (fun c => by have := HS.out _ c; omega)).kp k6
        have CF := ((HJ.out.cf.kp K3).fr F4 (fun c => by have := HS.out _ c; omega)).kp k6
        have HE : Hid _ := FJ.fin (o := o) CL CF ((M4.kp k6).le (by have := HA.out.2.2; omega)) (((HJ.out.fr.trans (K3.fr S)).trans F4).trans (k6.fr S)) HS.out zS ⟨fs, fk, (L.length : Int), fa, ft⟩
        have h0 := CG.cell (j := 0) rfl; have h1 := CG.cell (j := 1) rfl; have h2 := CG.cell (j := 2) rfl; have h3 := CG.cell (j := 3) rfl; have h4 := CG.cell (j := 4) rfl; have fh := CG.fz
        have l0 := CL.cell (j := 0) rfl; have l1 := CL.cell (j := 1) rfl; have l2 := CL.cell (j := 2) rfl; have l3 := CL.cell (j := 3) rfl; have l4 := CL.cell (j := 4) rfl; have l5 := CL.cell (j := 5) rfl; have l6 := CL.cell (j := 6) rfl; have l7 := CL.cell (j := 7) rfl; have l8 := CL.cell (j := 8) rfl; have fl := CL.fz
        have g0 := CF.cell (j := 0) rfl; have g1 := CF.cell (j := 1) rfl; have g2 := CF.cell (j := 2) rfl; have g3 := CF.cell (j := 3) rfl; have g4 := CF.cell (j := 4) rfl; have fg := CF.fz
        have sz : w.heap.size + 3 ≤ w4.heap.size := by have := HJ.out.cf.lt; have := K3.size; have := F4.size; omega
        have n1 : ¬ w4.heap.size = w.heap.size + 1 := by omega
        have n2 : ¬ w.heap.size + 1 = w4.heap.size := by omega
        have n3 : ¬ w4.heap.size = w.heap.size + 2 := by omega
        have n4 : ¬ w.heap.size + 2 = w4.heap.size := by omega
        clear sz
        rw [← hw6]
        clear hw6 k6 CG CL CF M4 F4 L3 K3 HJ
        go_region
        all_goals
          go_wp2
          simp only [Exit.jump]
          rw [← putR_five, ← putR_nine]
          change bodyPost _ _ _ _ _ (put3 _ _ _ zS ⟨fs, fk, (L.length : Int), fa, ft⟩).drew
          exact bodyPost_ret (res_lf rfl rfl rfl (HE.out.1.kp (Kp.refl _).drew) (HE.out.2.1.kp (Kp.refl _).drew)) rfl ⟨by rw [HV.out.1, HV.out.2.1, HV.out.2.2]; rfl, HE.out.2.2.1.kp (Kp.refl _).drew, HE.out.2.2.2.drew⟩
    · obtain ⟨I, x, hL, hxl, hI, hxd⟩ := fsB_last hB
      obtain ⟨hk1, g1a, g1b, ⟨H, hH⟩, _⟩ := hB
      have gl : (g1 (rdB N B) two root u).1.getLastD zS = x := by unfold g1; rw [g1a, hL]; simp
      obtain ⟨y, hy⟩ : ∃ y, lkN (L.map SV.u) H = y := ⟨_, rfl⟩
      rw [hH] at kw
      have kw : Calls Try.prog 61 #[.slice na L.length cap, .int .u64 (root : Int), .int .u64 (u : Int)] v fun e w' => e = .returned (.tuple #[.slice (some ⟨v.heap.size + 2, 0, none⟩) L.length 4, .int .i64 k, .int .u64 (y : Int)]) ∧ WL w' (v.heap.size + 2) L ∧ Kp v w' := by rw [← hy]; exact kw
      obtain ⟨n, hn⟩ : ∃ n, I.length = n := ⟨_, rfl⟩
      have hLn : L.length = n + 1 := by rw [hL, List.length_append, List.length_singleton, hn]
      have hLx : L[n]? = some x := by rw [hL, ← hn]; simp
      rw [hLn] at kw
      have y0 : (k == -1) = false := by rw [beq_eq_false_iff_ne]; exact hk1
      have z0' : (n : Int) ≤ 3 := by omega
      have z1 : (sumN (rdB N B) two L : Int) ≤ 20 := by omega
      have eN : flN (rdB N B) two root u = sumN (rdB N B) two L := by unfold flN; rw [show (g1 (rdB N B) two root u).2.1 = k from g1b, if_neg hk1, show (g1 (rdB N B) two root u).1 = L from g1a]
      have HL : Hid (L.length = n + 1 ∧ L[n]? = some x ∧ n ≤ 3) := ⟨hLn, hLx, by omega⟩
      obtain ⟨xl, xp, xu, xk, xa, xr, xq, xx, xf⟩ := x
      by_cases k0 : k = 0
      · subst k0
        have eL : flL (rdB N B) two root u = ⟨xl, xp, xu, ⟨xk, xa, xr, xq, xx, xf⟩⟩ := by unfold flL; rw [show (g1 (rdB N B) two root u).2.1 = 0 from g1b, if_pos rfl, gl]
        have eF : flF (rdB N B) two root u = zF := by unfold flF; rw [show (g1 (rdB N B) two root u).2.1 = 0 from g1b, if_neg (by decide), if_pos rfl]
        have HV : Hid _ := And.intro eL (And.intro eF eN)
        clear eL eF eN gl g1a g1b hH hy hn hLx hL hxl hI hxd sl HJ0 hw2 ht hr hu hz CV J hk1
        rw [hLn]
        clear hLn
        go_wp2_with fail
        with_reducible refine kw.mono ?_
        rintro e w3 ⟨rfl, L3, K3⟩
        clear kw
        have cc : ∀ (j : Nat) (y : Value), (encS ⟨xl, xp, xu, ⟨xk, xa, xr, xq, xx, xf⟩⟩)[j]? = some y → w3.cell? ⟨v.heap.size + 2, n * 9 + j, none⟩ = some y := fun j y hy => L3.cell HL.out.2.1 hy
        have x0 := cc 0 _ rfl
        have x1 := cc 1 _ rfl
        have x2 := cc 2 _ rfl
        have x3 := cc 3 _ rfl
        have x4 := cc 4 _ rfl
        have x5 := cc 5 _ rfl
        have x6 := cc 6 _ rfl
        have x7 := cc 7 _ rfl
        have x8 := cc 8 _ rfl
        simp only [Nat.add_zero] at x0
        obtain ⟨w6, hw6⟩ : ∃ w6, w6 = w3.alloc (.cells #[.int .i64 (xl : Int), .int .u64 (xp : Int), .int .u64 (xu : Int), .int .i64 xk, .int .u64 (xa : Int), .bool xr, .bool xq, .bool xx, .int .i64 xf] 80) := ⟨_, rfl⟩
        have k6 : Kp w3 w6 := by rw [hw6]; exact (Kp.refl w3).alloc _
        have CL := (HJ.out.cl.kp K3).kp k6
        have CF := (HJ.out.cf.kp K3).kp k6
        have HF : Aside (∀ s f, _) := FJ.fin (o := o) CL CF (((HJ.out.mem.kp K3).kp k6).le (by have := HL.out.1; have := HL.out.2.2; omega)) ((HJ.out.fr.trans (K3.fr S)).trans (k6.fr S)) HS.out
        have sz : w.heap.size + 3 ≤ w3.heap.size := by have := HJ.out.cf.lt; have := K3.size; omega
        have n1 : ¬ w3.heap.size = w.heap.size + 1 := by omega
        have n2 : ¬ w.heap.size + 1 = w3.heap.size := by omega
        have n3 : ¬ w3.heap.size = w.heap.size + 2 := by omega
        have n4 : ¬ w.heap.size + 2 = w3.heap.size := by omega
        clear sz
        rw [hw6] at CL CF HF
        have l0 := CL.cell (j := 0) rfl; have l1 := CL.cell (j := 1) rfl; have l2 := CL.cell (j := 2) rfl; have l3 := CL.cell (j := 3) rfl; have l4 := CL.cell (j := 4) rfl; have l5 := CL.cell (j := 5) rfl; have l6 := CL.cell (j := 6) rfl; have l7 := CL.cell (j := 7) rfl; have l8 := CL.cell (j := 8) rfl; have fl := CL.fz
        have g0 := CF.cell (j := 0) rfl; have g1 := CF.cell (j := 1) rfl; have g2 := CF.cell (j := 2) rfl; have g3 := CF.cell (j := 3) rfl; have g4 := CF.cell (j := 4) rfl; have fg := CF.fz
        clear hw6 k6 CL CF L3 K3 HJ cc
        go_wp2
        simp only [Exit.jump]
        rw [← putR_five, ← putR_nine]
        change bodyPost _ _ _ _ _ (put3 _ _ _ ⟨xl, xp, xu, ⟨xk, xa, xr, xq, xx, xf⟩⟩ zF)
        have HE := HF.out ⟨xl, xp, xu, ⟨xk, xa, xr, xq, xx, xf⟩⟩ zF
        exact bodyPost_ret (res_lf rfl rfl rfl HE.1 HE.2.1) rfl ⟨by rw [HV.out.1, HV.out.2.1, HV.out.2.2]; rfl, HE.2.2.1, HE.2.2.2⟩
      · have eL : flL (rdB N B) two root u = zS := by unfold flL; rw [show (g1 (rdB N B) two root u).2.1 = k from g1b, if_neg k0]
        have eF : flF (rdB N B) two root u = ⟨1, k, (xl : Int), u, false⟩ := by unfold flF; rw [show (g1 (rdB N B) two root u).2.1 = k from g1b, if_neg hk1, if_neg k0, gl]
        have HV : Hid _ := And.intro eL (And.intro eF eN)
        have y2 : (k != 0) = true := by rw [bne_iff_ne]; exact k0
        clear eL eF eN gl g1a g1b hH hy hn hLx hL hxl hI hxd sl HJ0 hw2 ht hr hu hz CV J hk1 k0
        rw [hLn]
        clear hLn
        go_wp2_with fail
        with_reducible refine kw.mono ?_
        rintro e w3 ⟨rfl, L3, K3⟩
        clear kw
        have cc : ∀ (j : Nat) (y : Value), (encS ⟨xl, xp, xu, ⟨xk, xa, xr, xq, xx, xf⟩⟩)[j]? = some y → w3.cell? ⟨v.heap.size + 2, n * 9 + j, none⟩ = some y := fun j y hy => L3.cell HL.out.2.1 hy
        have x0 := cc 0 _ rfl
        have x1 := cc 1 _ rfl
        have x2 := cc 2 _ rfl
        have x3 := cc 3 _ rfl
        have x4 := cc 4 _ rfl
        have x5 := cc 5 _ rfl
        have x6 := cc 6 _ rfl
        have x7 := cc 7 _ rfl
        have x8 := cc 8 _ rfl
        simp only [Nat.add_zero] at x0
        obtain ⟨w6, hw6⟩ : ∃ w6, w6 = w3.alloc (.cells #[.int .i64 (xl : Int), .int .u64 (xp : Int), .int .u64 (xu : Int), .int .i64 xk, .int .u64 (xa : Int), .bool xr, .bool xq, .bool xx, .int .i64 xf] 80) := ⟨_, rfl⟩
        have k6 : Kp w3 w6 := by rw [hw6]; exact (Kp.refl w3).alloc _
        have CL := (HJ.out.cl.kp K3).kp k6
        have CF := (HJ.out.cf.kp K3).kp k6
        have HF : Aside (∀ s f, _) := FJ.fin (o := o) CL CF (((HJ.out.mem.kp K3).kp k6).le (by have := HL.out.1; have := HL.out.2.2; omega)) ((HJ.out.fr.trans (K3.fr S)).trans (k6.fr S)) HS.out
        have sz : w.heap.size + 3 ≤ w3.heap.size := by have := HJ.out.cf.lt; have := K3.size; omega
        have n1 : ¬ w3.heap.size = w.heap.size + 1 := by omega
        have n2 : ¬ w.heap.size + 1 = w3.heap.size := by omega
        have n3 : ¬ w3.heap.size = w.heap.size + 2 := by omega
        have n4 : ¬ w.heap.size + 2 = w3.heap.size := by omega
        clear sz
        rw [hw6] at CL CF HF
        have l0 := CL.cell (j := 0) rfl; have l1 := CL.cell (j := 1) rfl; have l2 := CL.cell (j := 2) rfl; have l3 := CL.cell (j := 3) rfl; have l4 := CL.cell (j := 4) rfl; have l5 := CL.cell (j := 5) rfl; have l6 := CL.cell (j := 6) rfl; have l7 := CL.cell (j := 7) rfl; have l8 := CL.cell (j := 8) rfl; have fl := CL.fz
        have g0 := CF.cell (j := 0) rfl; have g1 := CF.cell (j := 1) rfl; have g2 := CF.cell (j := 2) rfl; have g3 := CF.cell (j := 3) rfl; have g4 := CF.cell (j := 4) rfl; have fg := CF.fz
        clear hw6 k6 CL CF L3 K3 HJ cc
        go_wp2_with fail
        go_region
        all_goals
          go_wp2
          simp only [Exit.jump]
          rw [← putR_five, ← putR_nine]
          change bodyPost _ _ _ _ _ (put3 _ _ _ zS ⟨1, k, (xl : Int), u, false⟩).drew
          have HE := HF.out zS ⟨1, k, (xl : Int), u, false⟩
          exact bodyPost_ret (res_lf rfl rfl rfl (HE.1.kp (Kp.refl _).drew) (HE.2.1.kp (Kp.refl _).drew)) rfl ⟨by rw [HV.out.1, HV.out.2.1, HV.out.2.2]; rfl, HE.2.2.1.kp (Kp.refl _).drew, HE.2.2.2.drew⟩

end Go.Proofs.Ytclcickhgoiooaa
