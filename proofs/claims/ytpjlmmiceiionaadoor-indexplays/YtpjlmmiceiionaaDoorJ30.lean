/- Joined: C3, C9. -/
import Derived.Test.YtpjlmmiceiionaaDoorC1
import Derived.Test.YtpjlmmiceiionaaDoorC8
import Derived.RangeFuncBox
import Derived.RangeFuncLeaves
import Derived.Maps.AppendAt
import Derived.WalkKit
/- 'for k, v := range m' over such a map: each entry once, in whatever order. -/
namespace Go.Proofs.YtpjlmmiceiionaaDoor
open Go.RowKit Go.MapKept Go.ChangeMaps

variable {κ : Type} {T k e : TypeId} {kv : κ → Value} {ok : κ → Prop} {w w' : World} {b r c : Nat} {g : κ → Option Value} {K D : List κ}

/-- The walk at r over the map at b: those of D are done, c are left. -/
def EWm (kv : κ → Value) (ok : κ → Prop) (w : World) (b r : Nat) (g : κ → Option Value) (K D : List κ) (c : Nat) : Prop :=
  ∃ es clock since seen c0, w.heap[b]? = some (.map es clock) ∧ Ents kv ok es clock g K ∧ w.heap[r]? = some (.mapIter (some b) since seen c0) ∧ (∀ x ∈ es.toList, x.born < since) ∧ since ≤ c0 ∧ since ≤ clock ∧
    (leftOf es seen).size = c ∧ D.Nodup ∧ (∀ x ∈ D, x ∈ K) ∧ ∀ y ∈ es.toList, ∀ x, ok x → y.key = kv x → (x ∈ D ↔ seen.contains y.born = true)

theorem EWm.map (h : EWm kv ok w b r g K D c) : EMp kv ok w b g K := by
  obtain ⟨es, clock, since, seen, c0, hb, he, _⟩ := h
  exact ⟨es, clock, hb, he⟩
theorem EWm.lt (h : EWm kv ok w b r g K D c) : r < w.heap.size := by
  obtain ⟨es, clock, since, seen, c0, _, _, hr, _⟩ := h
  exact (Array.getElem?_eq_some_iff.1 hr).1
theorem EWm.fr (h : EWm kv ok w b r g K D c) {S : Nat → Prop} (q : Fr S w w') (hS : ¬ S b) (hr : ¬ S r) : EWm kv ok w' b r g K D c := by
  have h1 := h.map.lt
  have h2 := h.lt
  obtain ⟨es, clock, since, seen, c0, hb, he, hq, rest⟩ := h
  exact ⟨es, clock, since, seen, c0, (q.block b h1 hS).trans hb, he, (q.block r h2 hr).trans hq, rest⟩
theorem EWm.left_eq (h : EWm kv ok w b r g K D c) : w.rangeLeft b r = c := by
  obtain ⟨es, clock, since, seen, c0, hb, _, hr, _, _, _, hc, _⟩ := h
  simp only [World.rangeLeft, hb, hr]
  exact hc
theorem EWm.ne (h : EWm kv ok w b r g K D c) : r ≠ b := by
  obtain ⟨es, clock, since, seen, c0, hb, _, hr, _⟩ := h
  intro e
  rw [e, hb] at hr
  cases hr

theorem EMp.range (ht : Tryd.prog.underlying T = some (.map k e)) (h : EMp kv ok w b g K) :
    ∃ w', (Instr.range T (.map (some b))).run Tryd.prog w = .ok (.pointer (some ⟨w.heap.size, 0, none⟩)) w' ∧ EWm kv ok w' b w.heap.size g K [] K.length ∧ Kp w w' ∧ w'.heap.size = w.heap.size + 1 := by
  have hlt := h.lt
  obtain ⟨es, clock, hb, h⟩ := h
  refine ⟨_, run_range_map w T k e b es clock ht hb, ⟨es, clock, clock, #[], clock, ((MapKept.heap_alloc w _).2 b hlt).trans hb, h, (MapKept.heap_alloc w _).1, h.st.1, Nat.le_refl _, Nat.le_refl _, ?_, List.nodup_nil, (fun _ h => by cases h), fun y _ x _ _ => by simp⟩, (Kp.refl w).alloc _, by simp⟩
  show (Array.filter (fun e => !(#[] : Array Nat).contains e.born) es).size = _
  rw [Array.filter_eq_self.2 (by simp)]
  exact h.sz

theorem EWm.next (V : KV k kv ok) (h : EWm kv ok w b r g K D c) (ty : TypeId) :
    (c = 0 ∧ (∀ x ∈ K, x ∈ D) ∧ (Instr.next (.pointer (some ⟨r, 0, none⟩)) false ty).run Tryd.prog w = .ok (.tuple #[.bool false]) w) ∨
    ∃ x v w' c', x ∈ K ∧ g x = some v ∧ x ∉ D ∧ (Instr.next (.pointer (some ⟨r, 0, none⟩)) false ty).run Tryd.prog w = .ok (.tuple #[.bool true, kv x, v]) w' ∧ EWm kv ok w' b r g K (D ++ [x]) c' ∧ c' < c ∧ Fr (· = r) w w' ∧ w'.heap.size = w.heap.size ∧
      (Instr.entry (.pointer (some ⟨r, 0, none⟩))).run Tryd.prog w' = .ok (.tuple #[kv x, v]) w' := by
  have hne := h.ne
  obtain ⟨es, clock, since, seen, c0, hb, h, hr, hold, hsc, hsk, rfl, nd, sub, hD⟩ := h
  rcases run_next_at (P := Tryd.prog) w ty r b since c0 seen es clock hr hb hold hsc with ⟨h0, hrun⟩ | ⟨y, he, w1, hal, hrun⟩
  · refine .inl ⟨h0, fun x hx => ?_, hrun⟩
    obtain ⟨v, hv⟩ := Option.isSome_iff_exists.1 ((h.mem x).1 hx)
    obtain ⟨y, hy, hk, _⟩ := h.have_ x v hv
    exact (hD y hy x (h.okk x hx) hk).2 (by have := all_seen es seen h0 y hy; simpa using this)
  · obtain ⟨hem, hes⟩ := mem_left he
    obtain ⟨x, hx, hk, hg⟩ := h.read y hem
    have hr1 : w1.heap[r]? = some (.mapIter (some b) since seen c0) := by rcases hal with rfl | rfl <;> exact hr
    have hb1 : w1.heap[b]? = some (.map es clock) := by rcases hal with rfl | rfl <;> exact hb
    have hset := heap_set (o' := .mapIter (some b) since (seen.push y.born) clock) hr1
    have hb' : (setBlock w1 r (.mapIter (some b) since (seen.push y.born) clock)).heap[b]? = some (.map es clock) := (hset.2 b (fun e1 => hne e1.symm)).trans hb1
    have hst := (stamped_iff es clock).1 h.st
    have nD : x ∉ D := fun hd => by
      have := (hD y hem x hx hk).1 hd
      rw [hes] at this
      cases this
    have xK : x ∈ K := (h.mem x).2 (by rw [hg]; rfl)
    rw [hk] at hrun
    refine .inr ⟨x, y.val, _, _, xK, hg, nD, hrun,
      ⟨es, clock, since, seen.push y.born, clock, hb', h, hset.1, hold, hsk, hsk, rfl, ?_, ?_, fun z hz u hu hku => ?_⟩, left_shrinks es seen y he, ?_, ?_, ?_⟩
    · exact List.nodup_append.2 ⟨nd, (by simp), fun a ha q hq => by simp at hq; subst hq; exact fun e => nD (e ▸ ha)⟩
    · intro u hu
      rcases List.mem_append.1 hu with hu | hu
      · exact sub u hu
      · simp at hu; rw [hu]; exact xK
    · rw [List.mem_append, List.mem_singleton, hD z hz u hu hku, contains_push]
      by_cases cb : z.born = y.born
      · have : z = y := born_inj hst.2.1 hz hem cb
        subst this
        have : u = x := V.inj u x hu hx (hku.symm.trans hk)
        simp [this]
      · have : u ≠ x := fun e => cb (by
          subst e
          have := entry_eq_of_key hst.2.2 hz hem (hku.trans hk.symm)
          rw [this])
        simp [this, cb]
    · rcases hal with rfl | rfl <;> exact ⟨rfl, rfl, rfl, by simp [setBlock], fun i _ hi => hset.2 i hi⟩
    · rcases hal with rfl | rfl <;> simp [setBlock]
    · have := run_entry_at (P := Tryd.prog) _ r b since seen es clock y hset.1 hb' hem hst.2.1
      rw [hk] at this
      exact this

end Go.Proofs.YtpjlmmiceiionaaDoor

/- index: slices.Collect over a set's iterator. -/
namespace Go.Proofs.YtpjlmmiceiionaaDoor
open Go.RowKit
set_option maxRecDepth 100000
attribute [local go_sem] Oper.semAt_some

/-- Frames as they lie. -/
def LTfr : LT Nat := ⟨fun x => [.int .i64 (x : Int)], 1, 3, 46⟩
theorem LTfr_ok : LTok LTfr where
  E := ⟨fun _ => rfl, fun _ u hu => by
    simp only [LTfr, List.mem_cons, List.not_mem_nil, or_false] at hu
    subst hu; rfl, by decide⟩
  ht := Tryd.underlying46
  hi := ⟨_, _, rfl, rfl, rfl, by decide, rfl⟩
  hs w := by kernel_rfl
theorem info_i : (Tryd.prog.info? 3).map (fun i => (i.zero, i.size, i.bytes)) = some (some (.int .i64 0), 1, 8) := by kernel_rfl

/-- The box at B holds the frames that have come. -/
def Got (n₀ B : Nat) (pre : List Nat) (W : World) : Prop := ∃ v, Boxed W B 46 v ∧ W.ownsRow n₀ 3 1 v pre.length (pre.map fun x : Nat => Value.int .i64 (x : Int))
theorem ownsRow_kq {n₀ : Nat} {e : TypeId} {sz k : Nat} {v : Value} {xs : List Value} {A B' : World} {B : Nat} (h : A.ownsRow n₀ e sz v k xs) (q : Kq B A B') : B'.ownsRow n₀ e sz v k xs := by
  obtain ⟨h1, h2⟩ := h
  rcases h2 with h2 | ⟨g, cap, cur, rfl, h3, h4, h5⟩
  · exact ⟨h1, .inl h2⟩
  · exact ⟨h1, .inr ⟨g, cap, cur, rfl, h3, q.keep _ _ h4 (.inr rfl), h5⟩⟩
theorem Got.kq {n₀ Bx B : Nat} {pre : List Nat} {A B' : World} (h : Got n₀ Bx pre A) (q : Kq B A B') : Got n₀ Bx pre B' := by
  obtain ⟨v, h1, h2⟩ := h
  exact ⟨v, q.keep _ _ h1 (.inr rfl), ownsRow_kq h2 q⟩
theorem flat_fr (pre : List Nat) : pre.flatMap LTfr.enc = pre.map fun x : Nat => Value.int .i64 (x : Int) := by
  induction pre with
  | nil => rfl
  | cons x l ih => rw [List.flatMap_cons, List.map_cons, ih]; rfl
theorem row_ax {n₀ : Nat} {v : Value} {pre : List Nat} {W : World} (h : W.ownsRow n₀ 3 1 v pre.length (pre.map fun x : Nat => Value.int .i64 (x : Int))) : AX LTfr W n₀ v pre := by
  obtain ⟨h1, h2⟩ := h
  refine ⟨⟨by rw [flat_fr]; exact h1, ?_⟩, fun g hg => ?_⟩
  · rcases h2 with h2 | ⟨g, cap, cur, rfl, h3, h4, h5, h6, h7, h8⟩
    · exact .inl h2
    · exact .inr ⟨g, cap, cur, rfl, Nat.zero_le _, h4, h5, h6, h7, by rw [flat_fr]; exact h8⟩
  · rcases h2 with ⟨rfl, _⟩ | ⟨g', cap, cur, rfl, h3, h4, h5⟩
    · cases hg
    · cases hg
      exact ⟨h3, (Array.getElem?_eq_some_iff.1 h4).1⟩
theorem Boxed.kq {W W' : World} {B Bx : Nat} {t : TypeId} {v : Value} (h : Boxed W Bx t v) (q : Kq B W W') : Boxed W' Bx t v := q.keep _ _ h (.inr rfl)

set_option maxHeartbeats 4000000 in
theorem appendSeq_any {w : World} {v : Value} {xs : List Nat} (T : TAB w) (hit : EachOk w v xs) (hx : xs.length ≤ 1000) :
    Calls Tryd.prog 58 #[.slice none 0 0, .func (.func 38) #[v] #[]] w fun e w' => ∃ u, e = .returned u ∧ AX LTfr w' w.heap.size u xs ∧ Kp w w' := by
  obtain ⟨i0, hi, hz0, hz1, hz2⟩ := info_parts info_i
  have hT := T.lt
  refine (callsIn_wide (n := 3)).1 ?_
  refine callsIn_of_wp_marks Tryd.func58 rfl trivial ?_ rfl
  simp only [Tryd.ntmps58, List.size_toArray, List.length_cons, List.length_nil, Nat.reduceAdd, Nat.reduceSub, Array.replicate_succ, Array.replicate_zero, List.push_toArray, List.append_toArray, List.nil_append, List.cons_append]
  have HH : Hid (EachOk w v xs ∧ TAB w) := ⟨hit, T⟩
  clear hit T
  gi_wp2
  have kA : Kp w (w.alloc (.cells #[.slice none 0 0] 46)) := (Kp.refl w).alloc _
  have bO := Boxed.new w 46 (.slice none 0 0)
  refine wp_each (w := w.alloc (.cells #[.slice none 0 0] 46)) (n := 1) (v := v) (xs := xs) kA rfl HH.out.1 rfl (Got w.heap.size w.heap.size) (fun _ => False)
    (fun s A B h q => h.kq q) (fun _ _ h _ => h) ⟨_, bO, World.ownsRow_nil _ _ _ _⟩
    (fun x => { tmps := #[.slice none 0 0, .func (.func 38) #[v] #[], .pointer (some ⟨w.heap.size, 0, none⟩), undef, .slice none 0 0, .int .i64 (x : Int), .func (.func 38) #[v] #[], .int .i64 (x : Int), undef, undef, undef, undef, undef], defers := [] }) ?assign ?body ?done ?stop
  case assign =>
    intro l x W K hK
    gi_wp2
    exact hK
  case body =>
    rintro l pre x W kW ⟨u, hv, hrow⟩ hlt
    have hc := hv.cell
    have hpl : pre.length + 1 ≤ xs.length := by have := hlt.length_le; simpa using this
    have hB : w.heap.size ≤ W.heap.size := kW.size
    clear HH kA bO
    gi_wp2_with (gi_at_builtin; refine wpListIn_append_own _ rfl _ _ 46 rfl w.heap.size 3 i0 (.int .i64 0) 1 8 Tryd.underlying46 hi hz0 hz1 hz2 rfl (by decide) _ _ _ rfl (hrow.alloc _) ⟨W.heap.size, 0, none⟩ 1 1 [.int .i64 (x : Int)] rfl rfl (cell_one_new _ _ _) (by simp [Value.oneCell']) (by unfold maxLen; omega) (by omega) (by simp; omega) ?_; intro v' w1 hown' hgrow _; obtain ⟨g', cap', rfl⟩ := ownsRow_succ hown'; obtain ⟨hv1, hv2, hr2, hk2, hb2⟩ := hv.appended (by decide) hrow hB (Nat.le_refl _) hown' hgrow; have hc1 := hv1.cell; have hf1 := hv1.frozen)
    have hb4 : Below w.heap.size W (w1.setCell ⟨w.heap.size, 0, none⟩ (.slice (some ⟨g', 0, none⟩) (pre.length + 1) cap')) := hb2
    refine ⟨hk2.from _, ⟨hb2.size, fun k cs q hk => ?_, fun T => ⟨Nat.lt_of_lt_of_le T.lt hb2.size, fun i hi => (hb4.cell (p := ⟨0, i, none⟩) hT).trans (T.cell i hi)⟩⟩, Go.RowKit.Below.trans kW hb2, _, hv2, by simpa using hr2⟩
    have n1 : k ≠ w.heap.size := fun e => by
      subst e
      have := hv.symm.trans hk
      simp only [Option.some.injEq, Obj.cells.injEq] at this
      exact absurd this.2.1 (by decide)
    have n2 : u.ownBlock ≠ some k := fun e => by
      rcases hrow.2 with ⟨rfl, _⟩ | ⟨g, cap, cur, rfl, _, h4, _⟩
      · cases e
      · cases e
        have := h4.symm.trans hk
        simp only [Option.some.injEq, Obj.cells.injEq] at this
        exact absurd this.2.1 (by decide)
    have hkl := (Array.getElem?_eq_some_iff.1 hk).1
    rw [Go.RowKit.Below.heap_setCell _ _ _ _ n1, hgrow.block k (by simp; omega) (fun e => n2 e.symm)]
    exact (Below.heap_alloc W _ k hkl).trans hk
  case done =>
    rintro D W hD kW ⟨u, hv, hrow⟩ hK
    have hc := hv.cell
    gi_wp2
    refine ⟨by simp, .inl ⟨_, _, rfl, run_takeDeferred hK, ?_⟩⟩
    have q : Kq w.heap.size W (W.putObj D (.deferred none)) := Kq.put _ hK (by simp at hD; omega) rfl
    exact ⟨_, results_tmp rfl _ _ _, u, rfl, row_ax (ownsRow_kq hrow q), q.kp kW (Nat.le_refl _)⟩
  case stop =>
    rintro D W _ h _
    exact h.elim

end Go.Proofs.YtpjlmmiceiionaaDoor
