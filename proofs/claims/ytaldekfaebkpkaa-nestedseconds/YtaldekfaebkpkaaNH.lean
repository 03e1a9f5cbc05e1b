/- nested: firstLeaf. -/
import Derived.Test.YtaldekfaebkpkaaNG
namespace Go.Proofs.Ytaldekfaebkpkaa
open Go.RowKit
set_option maxRecDepth 10000

/-- The first stage's words, read through the second one. -/
def rd1 (rd : Nat → Nat × Bool) (two : Nat) (p : Nat) : Nat × Bool := if (enF rd two p).k = 0 then (enW rd two p, true) else (0, false)
def sumN (rd : Nat → Nat × Bool) (two : Nat) : List SV → Nat
  | [] => 0
  | x :: L => enN rd two x.p + sumN rd two L
theorem sumN_snoc (rd : Nat → Nat × Bool) (two : Nat) (x : SV) : ∀ L, sumN rd two (L ++ [x]) = sumN rd two L + enN rd two x.p
  | [] => by simp [sumN]
  | y :: L => by rw [List.cons_append, sumN, sumN, sumN_snoc rd two x L]; omega
theorem enN_le (rd : Nat → Nat × Bool) (two u : Nat) : enN rd two u ≤ 5 := by
  have := slN_le rd two u
  unfold enN
  split <;> omega
theorem sumN_le (rd : Nat → Nat × Bool) (two : Nat) : ∀ L, sumN rd two L ≤ 5 * L.length
  | [] => Nat.le_refl _
  | x :: L => by
    have := sumN_le rd two L
    have := enN_le rd two x.p
    rw [sumN, List.length_cons]; omega
/-- The table that comes next. -/
def lastT (root : Nat) (L : List SV) : Nat := match L.getLast? with | none => root | some x => x.d.a
theorem lastT_snoc (root : Nat) (L : List SV) (x : SV) : lastT root (L ++ [x]) = x.d.a := by simp [lastT]

/-- On the way, with the steps L; at its end. -/
def fsA (r1 : Nat → Nat × Bool) (root u : Nat) (L : List SV) : Prop := sofar 1 root u r1 L L.length (lastT root L) ∧ (∀ R, sofarH 1 root u (fun n _ => rdK (L.map SV.u ++ R) n) L L.length (lastT root L)) ∧ ∀ x ∈ L, x.u < 18446744073709551616
def fsB (r1 : Nat → Nat × Bool) (root u : Nat) (L : List SV) (k : Int) : Prop := k ≠ -1 ∧ (goW 1 u r1 4 0 root).1 = L ∧ (goW 1 u r1 4 0 root).2.1 = k ∧ (∃ H, wyH (L.map SV.u) root u = (L, k, H)) ∧ ∀ x ∈ L, x.u < 18446744073709551616
section
variable {r1 : Nat → Nat × Bool} {root u : Nat} {L : List SV}
theorem fsA_nil (hr : root < 18446744073709551616) : fsA r1 root u [] :=
  ⟨⟨rfl, by decide, hr, by simp [lastT]⟩, fun R => ⟨rfl, by decide, hr, by simp [lastT]⟩, fun _ h => by cases h⟩
theorem rdK_end (K : List Nat) : rdK K K.length = (0, false) := by unfold rdK; simp
theorem rdK_mid (K : List Nat) (x : Nat) (R : List Nat) : rdK (K ++ x :: R) K.length = (x, true) := by unfold rdK; simp
theorem fsA_stop (h : fsA r1 root u L) : wyH (L.map SV.u) root u = (L, -1, L.map SV.p ++ [atN (lastT root L) u L.length]) := by
  have := h.2.1 []
  rw [List.append_nil] at this
  refine sofarH_stop this ?_
  have e := rdK_end (L.map SV.u)
  rw [List.length_map] at e
  show (rdK (L.map SV.u) L.length).2 = false
  rw [e]
theorem fsA_lack (K : List Nat) (q : Nat) (hK : K.length = L.length) : lkN K (L.map SV.p ++ [q]) = q := lk_more K (L.map SV.p) q (by rw [List.length_map]; omega)
theorem fsA_fault (h : fsA r1 root u L) (hf : (r1 (atN (lastT root L) u L.length)).2 = false) : (goW 1 u r1 4 0 root).1 = L ∧ (goW 1 u r1 4 0 root).2.1 = -1 := by
  rw [sofar_stop h.1 hf]; exact ⟨rfl, rfl⟩
theorem fsA_next (h : fsA r1 root u L) (x : Nat) (hx : r1 (atN (lastT root L) u L.length) = (x, true)) (hw : x < 18446744073709551616) :
    fsA r1 root u (L ++ [⟨L.length, atN (lastT root L) u L.length, x, dvN 1 L.length x⟩]) ∨ ∃ k, fsB r1 root u (L ++ [⟨L.length, atN (lastT root L) u L.length, x, dvN 1 L.length x⟩]) k := by
  have h1 : (r1 (atN (lastT root L) u L.length)).2 = true := by rw [hx]
  have h2 : (r1 (atN (lastT root L) u L.length)).1 = x := by rw [hx]
  have em : ∀ R, rdK ((L.map SV.u ++ [x]) ++ R) L.length = (x, true) := fun R => by
    have := rdK_mid (L.map SV.u) x R
    rw [List.length_map] at this
    rw [List.append_assoc]; exact this
  have hmem : ∀ y ∈ L ++ [⟨L.length, atN (lastT root L) u L.length, x, dvN 1 L.length x⟩], y.u < 18446744073709551616 := fun y hy => by
    rcases List.mem_append.1 hy with c | c
    · exact h.2.2 y c
    · rw [List.mem_singleton.1 c]; exact hw
  by_cases hk : (dvN 1 L.length x).k = 1
  · left
    have s1 := sofar_on h.1 h1 (by rw [h2]; exact hk)
    rw [h2] at s1
    refine ⟨?_, fun R => ?_, hmem⟩
    · rw [lastT_snoc, List.length_append]; exact s1
    · have hh := h.2.1 ([x] ++ R)
      rw [← List.append_assoc] at hh
      have s2 := sofarH_on hh (show (rdK ((L.map SV.u ++ [x]) ++ R) L.length).2 = true by rw [em]) (show (dvN 1 L.length (rdK ((L.map SV.u ++ [x]) ++ R) L.length).1).k = 1 by rw [em]; exact hk)
      rw [lastT_snoc, List.length_append, List.map_append]
      simp only [em] at s2
      exact s2
  · right
    have s1 := sofar_end h.1 h1 (by rw [h2]; exact hk)
    rw [h2] at s1
    have hh := h.2.1 [x]
    have em0 := em []
    rw [List.append_nil] at em0
    have s2 := sofarH_end hh (show (rdK (L.map SV.u ++ [x]) L.length).2 = true by rw [em0]) (show ¬ (dvN 1 L.length (rdK (L.map SV.u ++ [x]) L.length).1).k = 1 by rw [em0]; exact hk)
    simp only [em0] at s2
    refine ⟨endN (dvN 1 L.length x).k (decE 1 L.length x), ?_, by rw [s1], by rw [s1], ⟨_, by rw [List.map_append]; exact s2⟩, hmem⟩
    unfold endN
    split
    · decide
    · split
      · decide
      · split <;> decide
theorem fsB_last {k : Int} (h : fsB r1 root u L k) : ∃ (I : List SV) (x : SV), L = I ++ [x] ∧ x.l = I.length ∧ I.length ≤ 3 ∧ x.d = dvN 1 x.l x.u := by
  obtain ⟨I, x, h1, h2, h3, _, _, h6, _⟩ := goW_last 1 u r1 4 0 root rfl (by decide) (by rw [h.2.2.1]; exact h.1)
  rw [h.2.1] at h1
  exact ⟨I, x, h1, by omega, by omega, h6⟩
theorem fsA_len (h : fsA r1 root u L) : L.length ≤ 3 := h.1.2.1
end

/-- What firstLeaf tells. -/
def g1 (rd : Nat → Nat × Bool) (two root u : Nat) : List SV × Int × Nat := goW 1 u (rd1 rd two) 4 0 root
def stP (rd : Nat → Nat × Bool) (two root u : Nat) : Nat := atN (lastT root (g1 rd two root u).1) u (g1 rd two root u).1.length
def flF (rd : Nat → Nat × Bool) (two root u : Nat) : FV := if (g1 rd two root u).2.1 = -1 then ⟨(enF rd two (stP rd two root u)).s, (enF rd two (stP rd two root u)).k, ((g1 rd two root u).1.length : Int), (enF rd two (stP rd two root u)).a, (enF rd two (stP rd two root u)).t⟩ else if (g1 rd two root u).2.1 = 0 then zF else ⟨1, (g1 rd two root u).2.1, (((g1 rd two root u).1.getLastD zS).l : Int), u, false⟩
def flL (rd : Nat → Nat × Bool) (two root u : Nat) : SV := if (g1 rd two root u).2.1 = 0 then (g1 rd two root u).1.getLastD zS else zS
def flN (rd : Nat → Nat × Bool) (two root u : Nat) : Nat := if (g1 rd two root u).2.1 = -1 then sumN rd two (g1 rd two root u).1 + enN rd two (stP rd two root u) else sumN rd two (g1 rd two root u).1

/-- The world at the label. -/
structure FJ (w : World) (S : Nat → Prop) (p N o : Nat) (B : Nat → Nat → Nat) (two root : Nat) (on : Bool) (u : Nat) (na : Option Addr) (cap : Nat) (L : List SV) (v : World) : Prop where
  mem : PMo v S p N (o + 5 * L.length) B
  fr : Fr S w v
  cv : RX v w.heap.size 45 [.int .u64 (two : Int), .bool on, .int .u64 (root : Int)]
  cl : RX v (w.heap.size + 1) 73 (encS zS)
  cf : RX v (w.heap.size + 2) 33 (encF zF)
  kn : UW v (.slice na L.length cap) (L.map SV.u)
  own : ∀ g, (Value.slice na L.length cap).ownBlock = some g → w.heap.size + 3 ≤ g
  st : fsA (rd1 (rdB N B) two) root u L ∨ ∃ k, fsB (rd1 (rdB N B) two) root u L k
theorem FJ.kp {w : World} {S : Nat → Prop} {p N o : Nat} {B : Nat → Nat → Nat} {two root : Nat} {on : Bool} {u : Nat} {na : Option Addr} {cap : Nat} {L : List SV} {v v' : World} (h : FJ w S p N o B two root on u na cap L v) (k : Kp v v') : FJ w S p N o B two root on u na cap L v' :=
  ⟨h.mem.kp k, h.fr.trans (k.fr S), h.cv.kp k, h.cl.kp k, h.cf.kp k, h.kn.kp k, h.own, h.st⟩
def firstJ (w : World) (S : Nat → Prop) (p N o : Nat) (B : Nat → Nat → Nat) (two root : Nat) (on : Bool) (u : Nat) : Act → World → Prop := fun a' w' => ∃ (na : Option Addr) (cap : Nat) (L : List SV) (u3 u5 u11 u12 u13 u14 u15 u16 u17 u18 u19 u20 u21 u22 u23 u24 u25 u26 u27 u28 u29 u30 u31 u32 u33 u34 u35 u36 u37 u38 u39 u40 u41 u42 u43 u44 u45 u46 u47 u48 u49 u50 u51 u52 u53 u54 u55 u56 u57 u58 u59 u60 u61 u62 u63 u64 u65 u66 u67 u68 u69 u70 u71 : Value),
  a' = { tmps := #[.pointer (some ⟨p, 0, none⟩), .agg #[.int .u64 (two : Int), .bool on, .int .u64 (root : Int)], .int .u64 (u : Int), u3, .pointer (some ⟨w.heap.size, 0, none⟩), u5, .pointer (some ⟨w.heap.size + 1, 0, none⟩), .pointer (some ⟨w.heap.size + 2, 0, none⟩), .int .i64 0, .slice na L.length cap, .int .i64 (sumN (rdB N B) two L : Nat), u11, u12, u13, u14, u15, u16, u17, u18, u19, u20, u21, u22, u23, u24, u25, u26, u27, u28, u29, u30, u31, u32, u33, u34, u35, u36, u37, u38, u39, u40, u41, u42, u43, u44, u45, u46, u47, u48, u49, u50, u51, u52, u53, u54, u55, u56, u57, u58, u59, u60, u61, u62, u63, u64, u65, u66, u67, u68, u69, u70, u71], defers := [] } ∧ FJ w S p N o B two root on u na cap L w'

theorem res_lf {w : World} {a b : Nat} {fn : Func} {c d e : Tmp} {tmps : Array Value} {s : SV} {f : FV} (hf : fn.results = #[.cell c 73, .cell d 33, .tmp e]) (hc : tmps.getD c undef = .pointer (some ⟨a, 0, none⟩)) (hd : tmps.getD d undef = .pointer (some ⟨b, 0, none⟩)) (A : RX w a 73 (encS s)) (B : RX w b 33 (encF f)) :
    (results fn tmps).run Try.prog w = .ok (.tuple #[stV s, faV f, tmps.getD e undef]) w := by
  have hc' : tmps[c]?.getD undef = .pointer (some ⟨a, 0, none⟩) := by simpa using hc
  have hd' : tmps[d]?.getD undef = .pointer (some ⟨b, 0, none⟩) := by simpa using hd
  simp [results, hf, hc', hd', asAddr, load_step s A, load_fault f B]
/-- What is stored at the end. -/
def put3 (w : World) (a b : Nat) (s : SV) (f : FV) : World := putR (putR w a 0 (encS s)) b 0 (encF f)
theorem put3_fr (w : World) (a b : Nat) (s : SV) (f : FV) : Fr (fun i => i = a ∨ i = b) w (put3 w a b s f) := ((putR_fr w a 0 (encS s)).mono (fun _ _ e => .inl e)).trans ((putR_fr _ b 0 (encF f)).mono (fun _ _ e => .inr e))
theorem put3_s {w : World} {a b : Nat} {s s' : SV} {f : FV} (h : RX w a 73 (encS s')) (hab : a ≠ b) : RX (put3 w a b s f) a 73 (encS s) := (h.put (U := encS s) rfl).fr (putR_fr _ b 0 (encF f)) hab
theorem put3_f {w : World} {a b : Nat} {s : SV} {f f' : FV} (h : RX w b 33 (encF f')) (hab : b ≠ a) : RX (put3 w a b s f) b 33 (encF f) := (h.fr (putR_fr w a 0 (encS s)) hab).put (U := encF f) rfl
/-- The end of it. -/
theorem FJ.fin {w : World} {S : Nat → Prop} {p N o : Nat} {B : Nat → Nat → Nat} {v : World} (cl : RX v (w.heap.size + 1) 73 (encS zS)) (cf : RX v (w.heap.size + 2) 33 (encF zF)) (hm : PMo v S p N (o + 20) B) (hf : Fr S w v) (hS : ∀ i, S i → i < w.heap.size) (s : SV) (f : FV) :
    RX (put3 v (w.heap.size + 1) (w.heap.size + 2) s f) (w.heap.size + 1) 73 (encS s) ∧ RX (put3 v (w.heap.size + 1) (w.heap.size + 2) s f) (w.heap.size + 2) 33 (encF f) ∧ PMo (put3 v (w.heap.size + 1) (w.heap.size + 2) s f) S p N (o + 20) B ∧ Fr S w (put3 v (w.heap.size + 1) (w.heap.size + 2) s f) := by
  have F := put3_fr v (w.heap.size + 1) (w.heap.size + 2) s f
  exact ⟨put3_s cl (by omega), put3_f cf (by omega), hm.fr F (fun i hi c => by have := hS i hi; omega), hf.trans2 F (fun i hi c => by omega)⟩
def measF (a : Act) : Nat := match a.tmps.getD 9 undef with | .slice _ n _ => 5 - n | _ => 0

end Go.Proofs.Ytaldekfaebkpkaa
