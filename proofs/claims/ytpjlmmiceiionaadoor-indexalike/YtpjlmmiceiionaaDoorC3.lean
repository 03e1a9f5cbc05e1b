/- 'for k, v := range m' over such a map: each entry once, in whatever order. -/
import Derived.Test.YtpjlmmiceiionaaDoorC1
namespace Go.Proofs.YtpjlmmiceiionaaDoor
open Go.RowKit Go.MapKept Go.ChangeMaps

variable {κ : Type} {T k e : TypeId} {kv : κ → Value} {ok : κ → Prop} {w w' : World} {b r c : Nat} {g : κ → Option Value} {K D : List κ}

/-- The walk at r over the map at b: those of D are done, c are left. -/
def EWm (kv : κ → Value) (ok : κ → Prop) (w : World) (b r : Nat) (g : κ → Option Value) (K D : List κ) (c : Nat) : Prop :=
  ∃ es clock since seen c0, w.heap[b]? = some (.map es clock) ∧ Ents kv ok es clock g K ∧ w.heap[r]? = some (.mapIter (some b) since seen c0) ∧ (∀ x ∈ es.toList, x.born < since) ∧ since ≤ c0 ∧ since ≤ clock ∧
    (leftOf es seen).size = c ∧ D.Nodup ∧ (∀ x ∈ D, x ∈ K) ∧ ∀ y ∈ es.toList, ∀ x, ok x → y.key = kv x → (x ∈ D ↔ seen.contains y.born = true)

theorem EWm.map (h : EWm kv ok w b r g K D c) : EMp kv ok w b g K := by
  obtain ⟨es, clock, since, seen, c0, hb, he, _⟩ := h
  exact ⟨es, clock, hb, he⟩
theorem EWm.lt (h : EWm kv ok w b r g K D c) : r < w.heap.size := by
  obtain ⟨es, clock, since, seen, c0, _, _, hr, _⟩ := h
  exact (Array.getElem?_eq_some_iff.1 hr).1
theorem EWm.fr (h : EWm kv ok w b r g K D c) {S : Nat → Prop} (q : Fr S w w') (hS : ¬ S b) (hr : ¬ S r) : EWm kv ok w' b r g K D c := by
  have h1 := h.map.lt
  have h2 := h.lt
  obtain ⟨es, clock, since, seen, c0, hb, he, hq, rest⟩ := h
  exact ⟨es, clock, since, seen, c0, (q.block b h1 hS).trans hb, he, (q.block r h2 hr).trans hq, rest⟩
theorem EWm.left_eq (h : EWm kv ok w b r g K D c) : w.rangeLeft b r = c := by
  obtain ⟨es, clock, since, seen, c0, hb, _, hr, _, _, _, hc, _⟩ := h
  simp only [World.rangeLeft, hb, hr]
  exact hc
theorem EWm.ne (h : EWm kv ok w b r g K D c) : r ≠ b := by
  obtain ⟨es, clock, since, seen, c0, hb, _, hr, _⟩ := h
  intro e
  rw [e, hb] at hr
  cases hr

theorem EMp.range (ht : Tryd.prog.underlying T = some (.map k e)) (h : EMp kv ok w b g K) :
    ∃ w', (Instr.range T (.map (some b))).run Tryd.prog w = .ok (.pointer (some ⟨w.heap.size, 0, none⟩)) w' ∧ EWm kv ok w' b w.heap.size g K [] K.length ∧ Kp w w' ∧ w'.heap.size = w.heap.size + 1 := by
  have hlt := h.lt
  obtain ⟨es, clock, hb, h⟩ := h
  refine ⟨_, run_range_map w T k e b es clock ht hb, ⟨es, clock, clock, #[], clock, ((MapKept.heap_alloc w _).2 b hlt).trans hb, h, (MapKept.heap_alloc w _).1, h.st.1, Nat.le_refl _, Nat.le_refl _, ?_, List.nodup_nil, (fun _ h => by cases h), fun y _ x _ _ => by simp⟩, (Kp.refl w).alloc _, by simp⟩
  show (Array.filter (fun e => !(#[] : Array Nat).contains e.born) es).size = _
  rw [Array.filter_eq_self.2 (by simp)]
  exact h.sz

theorem EWm.next (V : KV k kv ok) (h : EWm kv ok w b r g K D c) (ty : TypeId) :
    (c = 0 ∧ (∀ x ∈ K, x ∈ D) ∧ (Instr.next (.pointer (some ⟨r, 0, none⟩)) false ty).run Tryd.prog w = .ok (.tuple #[.bool false]) w) ∨
    ∃ x v w' c', x ∈ K ∧ g x = some v ∧ x ∉ D ∧ (Instr.next (.pointer (some ⟨r, 0, none⟩)) false ty).run Tryd.prog w = .ok (.tuple #[.bool true, kv x, v]) w' ∧ EWm kv ok w' b r g K (D ++ [x]) c' ∧ c' < c ∧ Fr (· = r) w w' ∧ w'.heap.size = w.heap.size ∧
      (Instr.entry (.pointer (some ⟨r, 0, none⟩))).run Tryd.prog w' = .ok (.tuple #[kv x, v]) w' := by
  have hne := h.ne
  obtain ⟨es, clock, since, seen, c0, hb, h, hr, hold, hsc, hsk, rfl, nd, sub, hD⟩ := h
  rcases run_next_at (P := Tryd.prog) w ty r b since c0 seen es clock hr hb hold hsc with ⟨h0, hrun⟩ | ⟨y, he, w1, hal, hrun⟩
  · refine .inl ⟨h0, fun x hx => ?_, hrun⟩
    obtain ⟨v, hv⟩ := Option.isSome_iff_exists.1 ((h.mem x).1 hx)
    obtain ⟨y, hy, hk, _⟩ := h.have_ x v hv
    exact (hD y hy x (h.okk x hx) hk).2 (by have := all_seen es seen h0 y hy; simpa using this)
  · obtain ⟨hem, hes⟩ := mem_left he
    obtain ⟨x, hx, hk, hg⟩ := h.read y hem
    have hr1 : w1.heap[r]? = some (.mapIter (some b) since seen c0) := by rcases hal with rfl | rfl <;> exact hr
    have hb1 : w1.heap[b]? = some (.map es clock) := by rcases hal with rfl | rfl <;> exact hb
    have hset := heap_set (o' := .mapIter (some b) since (seen.push y.born) clock) hr1
    have hb' : (setBlock w1 r (.mapIter (some b) since (seen.push y.born) clock)).heap[b]? = some (.map es clock) := (hset.2 b (fun e1 => hne e1.symm)).trans hb1
    have hst := (stamped_iff es clock).1 h.st
    have nD : x ∉ D := fun hd => by
      have := (hD y hem x hx hk).1 hd
      rw [hes] at this
      cases this
    have xK : x ∈ K := (h.mem x).2 (by rw [hg]; rfl)
    rw [hk] at hrun
    refine .inr ⟨x, y.val, _, _, xK, hg, nD, hrun,
      ⟨es, clock, since, seen.push y.born, clock, hb', h, hset.1, hold, hsk, hsk, rfl, ?_, ?_, fun z hz u hu hku => ?_⟩, left_shrinks es seen y he, ?_, ?_, ?_⟩
    · exact List.nodup_append.2 ⟨nd, (by simp), fun a ha q hq => by simp at hq; subst hq; exact fun e => nD (e ▸ ha)⟩
    · intro u hu
      rcases List.mem_append.1 hu with hu | hu
      · exact sub u hu
      · simp at hu; rw [hu]; exact xK
    · rw [List.mem_append, List.mem_singleton, hD z hz u hu hku, contains_push]
      by_cases cb : z.born = y.born
      · have : z = y := born_inj hst.2.1 hz hem cb
        subst this
        have : u = x := V.inj u x hu hx (hku.symm.trans hk)
        simp [this]
      · have : u ≠ x := fun e => cb (by
          subst e
          have := entry_eq_of_key hst.2.2 hz hem (hku.trans hk.symm)
          rw [this])
        simp [this, cb]
    · rcases hal with rfl | rfl <;> exact ⟨rfl, rfl, rfl, by simp [setBlock], fun i _ hi => hset.2 i hi⟩
    · rcases hal with rfl | rfl <;> simp [setBlock]
    · have := run_entry_at (P := Tryd.prog) _ r b since seen es clock y hset.1 hb' hem hst.2.1
      rw [hk] at this
      exact this

end Go.Proofs.YtpjlmmiceiionaaDoor
