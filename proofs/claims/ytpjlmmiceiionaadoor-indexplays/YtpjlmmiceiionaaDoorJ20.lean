/- Joined: SQ, CA, CI, C4, KB, EM. -/
import Derived.Test.YtpjlmmiceiionaaDoorB4
import Derived.Test.YtpjlmmiceiionaaDoorP1
import Derived.Test.YtpjlmmiceiionaaDoorJ08
import Derived.Test.YtpjlmmiceiionaaDoorD14
import Derived.Test.YtpjlmmiceiionaaDoorP6
import Derived.Test.YtpjlmmiceiionaaDoorJ00
import Derived.Test.YtpjlmmiceiionaaDoorAL
import Derived.Deep.RegionHeld3
import Derived.BigQuiet
import Derived.Orders
/- Bytes as strings: alike just where their texts are. -/
namespace Go.Proofs.YtpjlmmiceiionaaDoor
open Go.RowKit Go.Maps

theorem strOf_succ (f : Nat → Nat) (n : Nat) : strOf f (n + 1) = (strOf f n).push (UInt8.ofNat (f n)) := by
  unfold strOf
  rw [List.range_succ, List.map_append, List.foldl_append]
  rfl
theorem strOf_data (f : Nat → Nat) : ∀ n, (strOf f n).data.toList = (List.range n).map fun i => UInt8.ofNat (f i)
  | 0 => rfl
  | n + 1 => by
    rw [strOf_succ, List.range_succ, List.map_append, ← strOf_data f n]
    simp [ByteArray.push]
theorem strOf_inj {f g : Nat → Nat} {n : Nat} (hf : Bytes f) (hg : Bytes g) (h : strOf f n = strOf g n) : ∀ i, i < n → f i = g i := fun i hi => by
  have e : (List.range n).map (fun i => UInt8.ofNat (f i)) = (List.range n).map (fun i => UInt8.ofNat (g i)) := by rw [← strOf_data, ← strOf_data, h]
  have e2 := congrArg (fun l => l[i]?) e
  simp [hi] at e2
  have e3 := congrArg UInt8.toNat e2
  simp at e3
  have := hf i
  have := hg i
  omega
theorem strOf_eq {f g : Nat → Nat} {n : Nat} (hf : Bytes f) (hg : Bytes g) : ((strOf f n).toList == (strOf g n).toList) = alike f g n := by
  cases e : alike f g n
  · rw [beq_eq_false_iff_ne]
    intro h
    rw [ByteArray.toList_eq, ByteArray.toList_eq] at h
    have h2 : strOf f n = strOf g n := by
      have : (strOf f n).data = (strOf g n).data := Array.ext' h
      cases hx : strOf f n
      cases hy : strOf g n
      rw [hx, hy] at this
      congr
    rw [alike_of (strOf_inj hf hg h2)] at e
    cases e
  · rw [strOf_like ((alike_iff f g n).1 e)]
    exact beq_self_eq_true _

end Go.Proofs.YtpjlmmiceiionaaDoor

/- index: pages' digests as keys; pages byte by byte. -/
namespace Go.Proofs.YtpjlmmiceiionaaDoor
open Go.RowKit Go.Maps
set_option maxRecDepth 10000

/-- A page's digest. -/
def dgt (h : Nat → Nat) : CN := (sre h 512, sim h 512)
theorem dgt_ok {h : Nat → Nat} (hb : Bytes h) : okC (dgt h) := ⟨by have := sre_le hb 512; show (sre h 512).natAbs < _; omega, by have := sim_le hb 512; show (sim h 512).natAbs < _; omega⟩
theorem dgof_any (b o cap : Nat) (f : Nat → Nat) (w : World) (H : BS w b o 4096 f) (hcap : 4096 ≤ cap) :
    Calls Tryd.prog 27 #[.slice (some ⟨b, o, none⟩) 4096 cap] w fun e w' => e = .returned (.tuple #[cK (dgt f), .int .i64 0]) ∧ w' = w :=
  (of_any b o cap f w H hcap).mono fun e w' ⟨re, im, h1, h2, h3, h4⟩ => by
    have hk := dgt_ok H.byte
    rw [h1, FC_fl h2 hk.1, FC_fl h3 hk.2]
    exact ⟨rfl, h4⟩
theorem dgof_no (na : Option Addr) (m cap : Nat) (w : World) (h : m < 4096) :
    Calls Tryd.prog 27 #[.slice na m cap] w fun e w' => e = .returned (.tuple #[cK (0, 0), .int .i64 1]) ∧ w' = w :=
  (of_refuses na m cap w h).mono fun e w' ⟨h1, h2⟩ => ⟨by rw [h1]; unfold cK; rw [show flC (0 : Int) = 0 from by decide], h2⟩
theorem rdof_any (b cap : Nat) (f : Nat → Nat) (w : World) (H : BS w b 0 4096 f) :
    Calls Tryd.prog 31 #[.slice (some ⟨b, 0, none⟩) 4096 cap] w fun e w' => e = .returned (.tuple #[cK (dgt f), .int .i64 0]) ∧ w' = w := rof_any b cap f w H

set_option maxHeartbeats 1000000 in
theorem beq_any (b cb d cd n : Nat) (f g : Nat → Nat) (w : World) (H1 : BS w b 0 n f) (H2 : BS w d 0 n g) :
    Calls Tryd.prog 57 #[.slice (some ⟨b, 0, none⟩) n cb, .slice (some ⟨d, 0, none⟩) n cd] w fun e w' => e = .returned (.bool (alike f g n)) ∧ w' = w := by
  have s1 := string_any w b 0 n cb f H1.cells
  have s2 := string_any w d 0 n cd g H2.cells
  have se := strOf_eq (n := n) H1.byte H2.byte
  clear H1 H2
  generalize strOf f n = x at *
  generalize strOf g n = y at *
  go_enter Tryd.func57, Tryd.ntmps57
  go_wp2
  go_ret
  exact ⟨by first | rfl | (rw [← se]; rfl), rfl⟩

end Go.Proofs.YtpjlmmiceiionaaDoor

/- cmp.Compare of numbers. -/
namespace Go.Proofs.YtpjlmmiceiionaaDoor
open Go.RowKit
set_option maxRecDepth 10000

def cmpI (a b : Int) : Int := if a < b then -1 else if b < a then 1 else 0
set_option maxHeartbeats 2000000 in
theorem nan_int (a : Int) (w : World) : Calls Tryd.prog 78 #[.int .i64 a] w fun e w' => e = .returned (.bool false) ∧ w' = w := by
  go_enter Tryd.func78, Tryd.ntmps78
  go_wp2_with fail
  go_ret
  exact ⟨by simp, rfl⟩
set_option maxHeartbeats 2000000 in
theorem comp_int (a b : Int) (w : World) : Calls Tryd.prog 61 #[.int .i64 a, .int .i64 b] w fun e w' => e = .returned (.int .i64 (cmpI a b)) ∧ w' = w := by
  have n1 := fun w => nan_int a w
  have n2 := fun w => nan_int b w
  unfold cmpI
  go_enter Tryd.func61, Tryd.ntmps61
  by_cases c1 : a < b
  · rw [if_pos c1]
    go_wp2_with fail
    with_reducible refine (n1 _).mono ?_
    rintro e w' ⟨rfl, rfl⟩
    go_wp2_with fail
    with_reducible refine (n2 _).mono ?_
    rintro e w' ⟨rfl, rfl⟩
    clear n1 n2
    go_wp2_with fail
    go_ret
    exact ⟨rfl, rfl⟩
  · rw [if_neg c1]
    by_cases c2 : b < a
    · rw [if_pos c2]
      go_wp2_with fail
      with_reducible refine (n1 _).mono ?_
      rintro e w' ⟨rfl, rfl⟩
      go_wp2_with fail
      with_reducible refine (n2 _).mono ?_
      rintro e w' ⟨rfl, rfl⟩
      clear n1 n2
      go_wp2_with fail
      go_ret
      exact ⟨rfl, rfl⟩
    · rw [if_neg c2]
      go_wp2_with fail
      with_reducible refine (n1 _).mono ?_
      rintro e w' ⟨rfl, rfl⟩
      go_wp2_with fail
      with_reducible refine (n2 _).mono ?_
      rintro e w' ⟨rfl, rfl⟩
      clear n1 n2
      go_wp2_with fail
      go_ret
      exact ⟨rfl, rfl⟩

end Go.Proofs.YtpjlmmiceiionaaDoor

/- index: sets of frames below 64, as one word or none: find, bit. -/
namespace Go.Proofs.YtpjlmmiceiionaaDoor
open Go.RowKit
set_option maxRecDepth 10000

/-- Words as they lie. -/
def LTwd : LT (Int × Nat) := ⟨fun u => [.int .i64 u.1, .int .u64 (u.2 : Int)], 2, 101, 71⟩
theorem LTwd_ok : LTok LTwd where
  E := ⟨fun _ => rfl, fun _ u hu => by
    simp only [LTwd, List.mem_cons, List.not_mem_nil, or_false] at hu
    rcases hu with rfl | rfl <;> rfl, by decide⟩
  ht := Tryd.underlying71
  hi := ⟨_, _, rfl, rfl, rfl, by decide, rfl⟩
  hs w := by kernel_rfl
/-- The words of the frames of m. -/
def wl (m : Nat) : List (Int × Nat) := if m = 0 then [] else [(0, m)]
theorem wl_0 : wl 0 = [] := rfl
theorem wl_s {m : Nat} (h : m ≠ 0) : wl m = [(0, m)] := if_neg h
/-- v is the set of the frames of m, in a block at or above b. -/
def SWd (w : World) (b : Nat) (v : Value) (m : Nat) : Prop := AX LTwd w b v (wl m)
theorem pw64l {b : Nat} (h : b < 64) : 2 ^ b < 18446744073709551616 := Nat.pow_lt_pow_right (by decide) h (a := 2) (n := 64)
theorem wrap_u {x : Nat} (h : x < 18446744073709551616) : IntKind.u64.wrap (x : Int) = (x : Int) := by
  rw [IntKind.wrap_u64]
  omega
set_option maxHeartbeats 1000000 in
theorem ibit_any (f : Nat) (hf : f < 64) (w : World) :
    Calls Tryd.prog 49 #[.int .i64 (f : Int)] w fun e w' => e = .returned (.int .u64 ((2 ^ f : Nat) : Int)) ∧ w' = w := by
  have a1 : (f : Int).tmod 64 = (f : Int) := by
    rw [Int.tmod_eq_emod_of_nonneg (by omega)]
    omega
  have a0 : IntKind.i64.wrap (f : Int) = (f : Int) := by
    rw [IntKind.wrap_i64]
    omega
  have hq := pw64l hf
  have a2 : IntKind.u64.wrap (2 ^ f) = ((2 ^ f : Nat) : Int) := by
    rw [show ((2 : Int) ^ f) = ((2 ^ f : Nat) : Int) from (Int.natCast_pow 2 f).symm]
    exact wrap_u hq
  obtain ⟨q, hq2⟩ : ∃ q, q = 2 ^ f := ⟨_, rfl⟩
  rw [← hq2] at a2 hq ⊢
  clear hq2
  go_enter Tryd.func49, Tryd.ntmps49
  go_wp2_with fail
  go_ret
  exact ⟨rfl, rfl⟩

set_option maxHeartbeats 2000000 in
/-- The word's place against a frame's. -/
theorem iless_any (m : Nat) (w : World) :
    Calls Tryd.prog 65 #[.agg #[.int .i64 0, .int .u64 (m : Int)], .int .i64 0] w fun e w' => e = .returned (.int .i64 0) ∧ Kp w w' := by
  have cc := fun w => comp_int 0 0 w
  rw [show cmpI 0 0 = 0 from rfl] at cc
  have E : Hid (Kp w (w.alloc (.cells #[.int .i64 0, .int .u64 (m : Int)] 101))) := (Kp.refl w).alloc _
  go_enter Tryd.func65, Tryd.ntmps65
  go_wp2_with (go_at_call 61; with_reducible refine (cc _).mono ?_; rintro e w' ⟨rfl, rfl⟩)
  go_ret
  exact ⟨rfl, E.out⟩

set_option maxHeartbeats 4000000 in
theorem isearch_0 (na : Option Addr) (cap : Nat) (w : World) (u : Value) :
    Calls Tryd.prog 64 #[.slice na 0 cap, .int .i64 0, u] w fun e w' => e = .returned (.tuple #[.int .i64 0, .bool false]) ∧ w' = w := by
  go_enter Tryd.func64, Tryd.ntmps64
  go_wp2_with fail
  go_loopg [9, 10, 11] 1 (fun n v9 v10 v11 wr => v9 = .int .i64 0 ∧ v10 = .int .i64 0 ∧ wr = w)
  case atStart => exact ⟨rfl, rfl, rfl⟩
  case round =>
    obtain ⟨rfl, rfl, rfl⟩ := hrel
    go_wp2_with fail
    go_ret2
    exact ⟨rfl, rfl⟩

set_option maxHeartbeats 4000000 in
theorem isearch_1 (g cap m : Nat) (w : World) (hg : g < w.heap.size) (c0 : w.cell? ⟨g, 0, none⟩ = some (.int .i64 0)) (c1 : w.cell? ⟨g, 1, none⟩ = some (.int .u64 (m : Int))) :
    Calls Tryd.prog 64 #[.slice (some ⟨g, 0, none⟩) 1 cap, .int .i64 0, .func (.func 65) #[] #[]] w fun e w' => e = .returned (.tuple #[.int .i64 0, .bool true]) ∧ Kp w w' := by
  have cl := fun w => iless_any m w
  have HH : Hid (g < w.heap.size ∧ w.cell? ⟨g, 0, none⟩ = some (.int .i64 0) ∧ w.cell? ⟨g, 1, none⟩ = some (.int .u64 (m : Int))) := ⟨hg, c0, c1⟩
  clear hg c0 c1
  go_enter Tryd.func64, Tryd.ntmps64
  go_wp2_with fail
  go_loopg [9, 10, 11] 1 (fun n v9 v10 v11 wr => v9 = .int .i64 0 ∧ (∃ j : Nat, v10 = .int .i64 (j : Int) ∧ j ≤ n ∧ j ≤ 1) ∧ Hid (Kp w wr))
  case atStart => exact ⟨rfl, ⟨1, rfl, by omega, by omega⟩, Kp.refl w⟩
  case round =>
    obtain ⟨rfl, ⟨j, rfl, hj, h1⟩, HK⟩ := hrel
    have d0 := (HK.out.cell (p := ⟨g, 0, none⟩) HH.out.1).trans HH.out.2.1
    have d1 := (HK.out.cell (p := ⟨g, 1, none⟩) HH.out.1).trans HH.out.2.2
    by_cases c : j = 0
    · subst c
      go_wp2_with fail
      with_reducible refine (cl _).mono ?_
      rintro e w' ⟨rfl, k1⟩
      have K1 : Hid _ := k1
      clear k1
      go_wp2_with fail
      go_ret2
      exact ⟨rfl, HK.out.trans K1.out⟩
    · obtain rfl : j = 1 := by omega
      go_wp2_with fail
      with_reducible refine (cl _).mono ?_
      rintro e w' ⟨rfl, k1⟩
      have K1 : Hid _ := k1
      clear k1
      go_wp2_with fail
      go_roundg 0
      case measure => omega
      case rel => exact ⟨rfl, ⟨0, rfl, by omega, by omega⟩, HK.out.trans K1.out⟩

set_option maxHeartbeats 2000000 in
theorem ifind_0 (na : Option Addr) (cap f : Nat) (hf : f < 64) (w : World) :
    Calls Tryd.prog 47 #[.slice na 0 cap, .int .i64 (f : Int)] w fun e w' => e = .returned (.tuple #[.int .i64 0, .bool false]) ∧ w' = w := by
  have cs := fun w => isearch_0 na cap w (.func (.func 65) #[] #[])
  have q : (f : Int) / 64 = 0 := by omega
  go_enter Tryd.func47, Tryd.ntmps47
  go_wp2_with fail
  with_reducible refine (cs _).mono ?_
  rintro e w' ⟨rfl, rfl⟩
  go_wp2_with fail
  go_ret2
  exact ⟨rfl, rfl⟩
set_option maxHeartbeats 2000000 in
theorem ifind_1 (g cap m f : Nat) (hf : f < 64) (w : World) (hg : g < w.heap.size) (c0 : w.cell? ⟨g, 0, none⟩ = some (.int .i64 0)) (c1 : w.cell? ⟨g, 1, none⟩ = some (.int .u64 (m : Int))) :
    Calls Tryd.prog 47 #[.slice (some ⟨g, 0, none⟩) 1 cap, .int .i64 (f : Int)] w fun e w' => e = .returned (.tuple #[.int .i64 0, .bool true]) ∧ Kp w w' := by
  have cs := isearch_1 g cap m w hg c0 c1
  have q : (f : Int) / 64 = 0 := by omega
  clear hg c0 c1
  go_enter Tryd.func47, Tryd.ntmps47
  go_wp2_with fail
  with_reducible refine cs.mono ?_
  rintro e w' ⟨rfl, k1⟩
  have K1 : Hid _ := k1
  clear k1
  go_wp2_with fail
  go_ret2
  exact ⟨rfl, K1.out⟩

end Go.Proofs.YtpjlmmiceiionaaDoor

/- Regions that draw their order and only read, whose callees lay blocks of their own. -/
namespace Go.Proofs.YtpjlmmiceiionaaDoor
open Go.RowKit

theorem mixed : Tryd.prog.follows .mixedOrders = true := by kernel_rfl
/-- A world in which all that lay in w lies. -/
structure KeptBy (w : World) where
  v : World
  k : Kp w v

theorem KeptBy.some {w : World} : Nonempty (KeptBy w) := ⟨⟨w, Kp.refl w⟩⟩

theorem wp_region_kept {P : Program} {id : Nat} {Q : Exit → Act → World → Prop} {a : Act} {w : World} {l : List Oper} (hm : P.follows .mixedOrders = true) (hB : Region.lexB .any l.toArray = true)
    (h : wpQuiet P l.toArray (fun w' => ∃ p : KeptBy w, w' = p.v) (fun a' => ∀ w', (∃ p : KeptBy w, w' = p.v) → Q .normal a' w') l a) : (Code.region id l.toArray true).wp P Q a w :=
  wp_region_quiet (C := fun w' => ∃ p : KeptBy w, w' = p.v) hm hB ⟨⟨w.drew, (Kp.refl w).drew⟩, rfl⟩ (by simpa using h)
theorem Calls.kept_of {P : Program} {f : FuncId} {args : Array Value} {w : World} {p : KeptBy w} {v : Value}
    (h : Calls P f args p.v fun e w' => e = .returned v ∧ Kp p.v w') : Calls P f args p.v fun e w'' => e = .returned v ∧ ∃ q : KeptBy w, w'' = q.v :=
  h.mono fun _ w' ⟨he, hk⟩ => ⟨he, ⟨w', p.k.trans hk⟩, rfl⟩

end Go.Proofs.YtpjlmmiceiionaaDoor

/- A region that draws its order, by what holds once some of its operations are done. -/
namespace Go.Proofs.YtpjlmmiceiionaaDoor
open Go.RowKit

/-- How many are not done. -/
def undone (n : Nat) (listed : Array Bool) : Nat := ((List.range n).filter fun i => !listed.getD i true).length
theorem undone_lt {n i : Nat} {listed : Array Bool} (hi : i < n) (h : listed.getD i true = false) : undone n (listed.setIfInBounds i true) < undone n listed := by
  have hs : i < listed.size := by
    by_cases c : i < listed.size
    · exact c
    · simp [Array.getD, c] at h
  have e : ((List.range n).filter fun j => !(listed.setIfInBounds i true).getD j true) = ((List.range n).filter fun j => !listed.getD j true).filter fun j => decide (j ≠ i) := by
    rw [List.filter_filter]
    apply List.filter_congr
    intro j _
    by_cases c : j = i
    · subst c
      simp [Array.getD, hs]
    · rw [getD_set_ne true (fun e => c e.symm)]
      simp [c]
  unfold undone
  rw [e]
  rw [List.length_filter_lt_length_iff_exists]
  exact ⟨i, by simp [List.mem_filter, hi]; simpa using h, by simp⟩
theorem wpAny_inv {P : Program} {ops : Array Oper} {Q : Exit → Act → World → Prop} (Inv : Array Bool → Act → World → Prop)
    (step : ∀ listed a w i, Inv listed a w → i ∈ Region.ready .any ops listed → wpOp P ops Q i (Inv (listed.setIfInBounds i true)) a w)
    (done : ∀ listed a w, Inv listed a w → Region.ready .any ops listed = [] → Q .normal a w) :
    ∀ fuel listed a w, undone ops.size listed ≤ fuel → Inv listed a w → wpAny P .any ops Q fuel listed a w
  | 0, listed, a, w, hf, h => by
    have hr : Region.ready .any ops listed = [] := by
      unfold Region.ready
      rw [List.filter_eq_nil_iff]
      intro i hi
      unfold undone at hf
      have h0 := List.length_eq_zero_iff.1 (Nat.le_zero.1 hf)
      rw [List.filter_eq_nil_iff] at h0
      have := h0 i hi
      simp at this
      simp [this]
    exact ⟨hr, done listed a w h hr⟩
  | fuel + 1, listed, a, w, hf, h => by
    refine ⟨done listed a w h, fun i hi => ?_⟩
    refine wpOp_mono (fun a' w' h' => ?_) (step listed a w i h hi)
    have hm : i < ops.size ∧ listed.getD i true = false := by
      unfold Region.ready at hi
      rw [List.mem_filter] at hi
      refine ⟨by simpa using hi.1, ?_⟩
      have := hi.2
      simp only [Bool.and_eq_true, Bool.not_eq_true'] at this
      exact this.1
    have := undone_lt hm.1 hm.2
    exact wpAny_inv Inv step done fuel _ a' w' (by omega) h'
theorem wp_region_inv {P : Program} {id : Nat} {ops : Array Oper} {Q : Exit → Act → World → Prop} {a : Act} {w : World} (hm : P.follows .mixedOrders = true) (Inv : Array Bool → Act → World → Prop)
    (h0 : Inv (Array.replicate ops.size false) a w.drew)
    (step : ∀ listed a w i, Inv listed a w → i ∈ Region.ready .any ops listed → wpOp P ops Q i (Inv (listed.setIfInBounds i true)) a w)
    (done : ∀ listed a w, Inv listed a w → Region.ready .any ops listed = [] → Q .normal a w) : (Code.region id ops true).wp P Q a w := by
  refine wp_region_any hm (wpAny_inv Inv step done _ _ _ _ ?_ h0)
  unfold undone
  exact Nat.le_trans (List.length_filter_le _ _) (by simp)
theorem wpOp_of {P : Program} {ops : Array Oper} {Q : Exit → Act → World → Prop} {i : Nat} {K : Act → World → Prop} {a : Act} {w : World} {o : Oper} (ho : ops[i]? = some o) (hg : o.guard = none) (h : o.wp P a w K Q) : wpOp P ops Q i K a w := by
  unfold wpOp
  rw [ho]
  simp only [Region.wanted, hg]
  exact .inl h

end Go.Proofs.YtpjlmmiceiionaaDoor
