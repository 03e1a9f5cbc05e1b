/- Maps by whatever keys, in plain words: entries as they lie (keys that the kit's readings don't know, as whole complex numbers). -/
import Derived.Test.YtpjlmmiceiionaaDoorJ00
import Derived.Maps.OwnSet
import Derived.Maps.RangeWalk
namespace Go.Proofs.YtpjlmmiceiionaaDoor
open Go.RowKit Go.MapKept Go.ChangeMaps Go.WideElems

/-- How the keys kv x of the type k behave, for each x with ok x. -/
structure KV {κ : Type} (k : TypeId) (kv : κ → Value) (ok : κ → Prop) : Prop where
  inj : ∀ x y, ok x → ok y → kv x = kv y → x = y
  check : ∀ (w : World) (em : Bool) x, ok x → (Instr.checkKey em 10000 k (kv x)).run Tryd.prog w = .ok () w
  find : ∀ (w : World) x, ok x → ∀ es : List MapEntry, (∀ e ∈ es, ∃ y, ok y ∧ e.key = kv y) →
    ((Instr.findKey k (kv x) es).run Tryd.prog w = .ok none w ∧ ∀ e ∈ es, e.key ≠ kv x) ∨ ∃ j e, (Instr.findKey k (kv x) es).run Tryd.prog w = .ok (some (j, e.val)) w ∧ es[j]? = some e ∧ e.key = kv x
  stays : ∀ (w : World) x, ok x → (Instr.keyThatStays (kv x) (kv x)).run Tryd.prog w = .ok (kv x) w

variable {κ : Type} {T k e : TypeId} {kv : κ → Value} {ok : κ → Prop} {w w' : World} {b r : Nat} {g : κ → Option Value} {K : List κ}

/-- The entries es tell g; K its keys. -/
structure Ents (kv : κ → Value) (ok : κ → Prop) (es : Array MapEntry) (clock : Nat) (g : κ → Option Value) (K : List κ) : Prop where
  st : Stamped es clock
  sz : es.size = K.length
  nd : K.Nodup
  mem : ∀ x, x ∈ K ↔ (g x).isSome = true
  okk : ∀ x ∈ K, ok x
  read : ∀ y ∈ es.toList, ∃ x, ok x ∧ y.key = kv x ∧ g x = some y.val
  have_ : ∀ x v, g x = some v → ∃ y ∈ es.toList, y.key = kv x ∧ y.val = v

/-- The map at b. -/
def EMp (kv : κ → Value) (ok : κ → Prop) (w : World) (b : Nat) (g : κ → Option Value) (K : List κ) : Prop := ∃ es clock, w.heap[b]? = some (.map es clock) ∧ Ents kv ok es clock g K

theorem EMp.lt (h : EMp kv ok w b g K) : b < w.heap.size := by
  obtain ⟨es, clock, hb, _⟩ := h
  exact (Array.getElem?_eq_some_iff.1 hb).1
theorem EMp.made (kv : κ → Value) (ok : κ → Prop) (w : World) : EMp kv ok (w.alloc (.map #[] 0)) w.heap.size (fun _ => none) [] :=
  ⟨#[], 0, heap_alloc_new w _, stamped_empty 0, rfl, List.nodup_nil, (fun x => by simp), (fun _ h => by cases h), (fun _ h => by cases h), (fun _ _ h => by cases h)⟩
theorem EMp.fr (h : EMp kv ok w b g K) {S : Nat → Prop} (q : Fr S w w') (hS : ¬ S b) : EMp kv ok w' b g K := by
  have hl := h.lt
  obtain ⟨es, clock, hb, h⟩ := h
  exact ⟨es, clock, (q.block b hl hS).trans hb, h⟩
theorem EMp.kp (h : EMp kv ok w b g K) (q : Kp w w') : EMp kv ok w' b g K := h.fr (q.fr (fun _ => False)) id

variable [DecidableEq κ] in
def setg (g : κ → Option Value) (x : κ) (v : Option Value) : κ → Option Value := fun y => if y = x then v else g y
variable [DecidableEq κ] in
theorem setg_same (g : κ → Option Value) (x : κ) (v : Option Value) : setg g x v x = v := if_pos rfl
variable [DecidableEq κ] in
theorem setg_other (g : κ → Option Value) {x y : κ} (v : Option Value) (h : y ≠ x) : setg g x v y = g y := if_neg h

theorem Ents.keyed {es : Array MapEntry} {clock : Nat} (h : Ents kv ok es clock g K) : ∀ y ∈ es.toList, ∃ x, ok x ∧ y.key = kv x := fun y hy => by
  obtain ⟨x, h1, h2, _⟩ := h.read y hy
  exact ⟨x, h1, h2⟩
theorem Ents.none {es : Array MapEntry} {clock : Nat} (h : Ents kv ok es clock g K) {x : κ} (h2 : ∀ y ∈ es.toList, y.key ≠ kv x) : g x = .none := by
  cases e : g x with
  | none => rfl
  | some v => obtain ⟨y, hy, hk, _⟩ := h.have_ x v e; exact absurd hk (h2 y hy)
theorem Ents.some (V : KV k kv ok) {es : Array MapEntry} {clock : Nat} (h : Ents kv ok es clock g K) {x : κ} (hx : ok x) {y : MapEntry} (hy : y ∈ es.toList) (hk : y.key = kv x) : g x = .some y.val := by
  obtain ⟨z, h1, h2, h3⟩ := h.read y hy
  obtain rfl := V.inj z x h1 hx (h2.symm.trans hk)
  exact h3

/-- m[x]; v, ok := m[x]. -/
theorem EMp.look (V : KV k kv ok) (ht : Tryd.prog.underlying T = some (.map k e)) {z : Value} (hz : ∀ w, (zeroValue e).run Tryd.prog w = .ok z w) (h : EMp kv ok w b g K) (x : κ) (hx : ok x) (c : Bool) :
    (Instr.lookup T (.map (some b)) (kv x) c).run Tryd.prog w = .ok (if c then .tuple #[(g x).getD z, .bool (g x).isSome] else (g x).getD z) w := by
  obtain ⟨es, clock, hb, h⟩ := h
  rcases V.find w x hx es.toList h.keyed with ⟨h1, h2⟩ | ⟨j, y, h1, h2, h3⟩
  · rw [h.none h2]
    simp [Instr.lookup, run_underlying ht, MapKept.run_getObj_map hb, V.check w _ x hx, h1, hz, Result.andThen]
  · rw [h.some V hx (List.mem_of_getElem? h2) h3]
    simp [Instr.lookup, run_underlying ht, MapKept.run_getObj_map hb, V.check w _ x hx, h1, Result.andThen]
variable [DecidableEq κ] in
/-- m[x] = v. -/
theorem EMp.store (V : KV k kv ok) (ht : Tryd.prog.underlying T = some (.map k e)) (h : EMp kv ok w b g K) (x : κ) (hx : ok x) (v : Value) :
    ∃ w', (Instr.mapUpdate T (.map (some b)) (kv x) v).run Tryd.prog w = .ok () w' ∧ EMp kv ok w' b (setg g x (some v)) (if x ∈ K then K else K ++ [x]) ∧ Fr (· = b) w w' := by
  obtain ⟨es, clock, hb, h⟩ := h
  have frame : ∀ o : Obj, Fr (· = b) w (setBlock w b o) := fun o => ⟨rfl, rfl, rfl, by simp [setBlock], fun i _ hi => (heap_set (o' := o) hb).2 i hi⟩
  rcases V.find w x hx es.toList h.keyed with ⟨h1, h2⟩ | ⟨j, y, h1, h2, h3⟩
  · have gn := h.none h2
    have hK : x ∉ K := fun c => by have := (h.mem x).1 c; rw [gn] at this; cases this
    rw [if_neg hK]
    refine ⟨_, by simp [Instr.mapUpdate, run_underlying ht, MapKept.run_getObj_map hb, V.check w false x hx, h1, MapKept.run_setObj_map _ hb, Result.andThen, setBlock], ⟨es.push ⟨kv x, v, clock⟩, clock + 1, (heap_set hb).1, stamped_push h.st h2, by simp [h.sz], ?_, ?_, ?_, ?_, ?_⟩, frame _⟩
    · exact List.nodup_append.2 ⟨h.nd, (by simp), fun a ha c hc => by simp at hc; subst hc; exact fun e => hK (e ▸ ha)⟩
    · intro y
      by_cases c : y = x
      · subst c; simp [setg_same]
      · rw [setg_other _ _ c]; simp [c, h.mem]
    · intro y hy
      rcases List.mem_append.1 hy with hy | hy
      · exact h.okk y hy
      · simp at hy; rw [hy]; exact hx
    · intro y hy
      simp only [Array.toList_push, List.mem_append, List.mem_singleton] at hy
      rcases hy with hy | rfl
      · obtain ⟨z, z1, z2, z3⟩ := h.read y hy
        exact ⟨z, z1, z2, by rw [setg_other _ _ (fun c => by subst c; exact h2 y hy z2)]; exact z3⟩
      · exact ⟨x, hx, rfl, setg_same _ _ _⟩
    · intro y u hy
      by_cases c : y = x
      · subst c
        rw [setg_same] at hy
        exact ⟨⟨kv y, v, clock⟩, by simp, rfl, by simpa using hy⟩
      · rw [setg_other _ _ c] at hy
        obtain ⟨z, z1, z2⟩ := h.have_ y u hy
        exact ⟨z, by simp [z1], z2⟩
  · have hm0 : y ∈ es.toList := List.mem_of_getElem? h2
    have gs := h.some V hx hm0 h3
    have hK : x ∈ K := (h.mem x).2 (by rw [gs]; rfl)
    rw [if_pos hK]
    have hj : es[j]? = some y := by simpa using h2
    have hjl : j < es.toList.length := (List.getElem?_eq_some_iff.1 h2).1
    have hkeyf : ∀ e', es[j]? = some e' → ({ e' with key := kv x, val := v } : MapEntry).key = e'.key := fun e' he' => by rw [hj] at he'; cases he'; exact h3.symm
    have hlist : (es.modify j (fun e' => { e' with key := kv x, val := v })).toList = es.toList.set j { y with key := kv x, val := v } := by rw [Array.toList_modify, modify_eq_set _ _ _ _ h2]
    have pw := ((stamped_iff es clock).1 h.st).2.2
    have who : ∀ i z, es.toList[i]? = some z → z.key = kv x → i = j := by
      intro i z hi hz
      rcases Nat.lt_trichotomy i j with c | c | c
      · exact absurd (hz.trans h3.symm) (List.pairwise_iff_getElem.1 pw i j (List.getElem?_eq_some_iff.1 hi).1 hjl c |> fun q => by rw [(List.getElem?_eq_some_iff.1 hi).2, (List.getElem?_eq_some_iff.1 h2).2] at q; exact q)
      · exact c
      · exact absurd (h3.trans hz.symm) (List.pairwise_iff_getElem.1 pw j i hjl (List.getElem?_eq_some_iff.1 hi).1 c |> fun q => by rw [(List.getElem?_eq_some_iff.1 hi).2, (List.getElem?_eq_some_iff.1 h2).2] at q; exact q)
    refine ⟨_, by simp [Instr.mapUpdate, run_underlying ht, MapKept.run_getObj_map hb, V.check w false x hx, h1, hj, h3, V.stays w x hx, MapKept.run_setObj_map _ hb, Result.andThen, setBlock],
      ⟨es.modify j (fun e' => { e' with key := kv x, val := v }), clock, (heap_set hb).1, stamped_modify h.st _ _ (fun _ _ => rfl) (fun e' _ he' => hkeyf e' he'), by simp [h.sz], h.nd, ?_, h.okk, ?_, ?_⟩, frame _⟩
    · intro z
      by_cases c : z = x
      · subst c; simp [setg_same, hK]
      · rw [setg_other _ _ c]; exact h.mem z
    · intro z hz
      rw [hlist] at hz
      obtain ⟨i, hi, ez⟩ := List.getElem_of_mem hz
      rw [List.getElem_set] at ez
      split at ez
      · subst ez; exact ⟨x, hx, rfl, setg_same _ _ _⟩
      · rename_i hne
        have hi' : i < es.toList.length := by simpa using hi
        obtain ⟨u, u1, u2, u3⟩ := h.read z (ez ▸ List.getElem_mem hi')
        refine ⟨u, u1, u2, ?_⟩
        rw [setg_other _ _ (fun c => ?_)]
        · exact u3
        · subst c
          exact hne (who i z (by rw [List.getElem?_eq_getElem hi', ez]) u2).symm
    · intro u q hu
      by_cases c : u = x
      · subst c
        rw [setg_same] at hu
        refine ⟨{ y with key := kv u, val := v }, ?_, rfl, by simpa using hu⟩
        rw [hlist]
        exact List.mem_iff_getElem?.2 ⟨j, by rw [List.getElem?_set_self hjl]⟩
      · rw [setg_other _ _ c] at hu
        obtain ⟨z, z1, z2, z3⟩ := h.have_ u q hu
        refine ⟨z, ?_, z2, z3⟩
        rw [hlist]
        obtain ⟨i, hi⟩ := List.getElem?_of_mem z1
        refine List.mem_iff_getElem?.2 ⟨i, ?_⟩
        rw [List.getElem?_set_ne]
        · exact hi
        · intro d
          subst d
          rw [h2] at hi
          cases hi
          exact c (V.inj u x (h.okk u ((h.mem u).2 (by rw [hu]; rfl))) hx (z2.symm.trans h3))
variable [DecidableEq κ] in
/-- delete(m, x). -/
theorem EMp.drop (V : KV k kv ok) (ht : Tryd.prog.underlying T = some (.map k e)) (h : EMp kv ok w b g K) (x : κ) (hx : ok x) (ty : TypeId) :
    ∃ w', (Builtin.delete_ #[T, k] ty #[.map (some b), kv x]).run Tryd.prog w = .ok (.tuple #[]) w' ∧ EMp kv ok w' b (setg g x none) (K.erase x) ∧ Fr (· = b) w w' := by
  obtain ⟨es, clock, hb, h⟩ := h
  have frame : ∀ o : Obj, Fr (· = b) w (setBlock w b o) := fun o => ⟨rfl, rfl, rfl, by simp [setBlock], fun i _ hi => (heap_set (o' := o) hb).2 i hi⟩
  have mem' : ∀ y, y ∈ K.erase x ↔ (setg g x none y).isSome = true := fun y => by
    rw [h.nd.mem_erase_iff]
    by_cases c : y = x
    · subst c; simp [setg_same]
    · rw [setg_other _ _ c]; simp [c, h.mem]
  rcases V.find w x hx es.toList h.keyed with ⟨h1, h2⟩ | ⟨j, y, h1, h2, h3⟩
  · have gn := h.none h2
    have hK : x ∉ K := fun c => by have := (h.mem x).1 c; rw [gn] at this; cases this
    refine ⟨_, by simp [Builtin.delete_, run_underlying ht, MapKept.run_getObj_map hb, V.check w _ x hx, h1, MapKept.run_setObj_map _ hb, Result.andThen, setBlock], ⟨es, clock, (heap_set hb).1, h.st, by rw [List.erase_of_not_mem hK]; exact h.sz, h.nd.erase x, mem', fun z hz => h.okk z (List.mem_of_mem_erase hz), fun z hz => ?_, fun z v hz => ?_⟩, frame _⟩
    · obtain ⟨u, u1, u2, u3⟩ := h.read z hz
      exact ⟨u, u1, u2, by rw [setg_other _ _ (fun c => by subst c; exact h2 z hz u2)]; exact u3⟩
    · by_cases c : z = x
      · subst c; rw [setg_same] at hz; cases hz
      · rw [setg_other _ _ c] at hz; exact h.have_ z v hz
  · have hm0 : y ∈ es.toList := List.mem_of_getElem? h2
    have gs := h.some V hx hm0 h3
    have hK : x ∈ K := (h.mem x).2 (by rw [gs]; rfl)
    have hjl : j < es.toList.length := (List.getElem?_eq_some_iff.1 h2).1
    have hjs : j < es.size := by simpa using hjl
    have hsub : (es.eraseIdxIfInBounds j).toList = es.toList.eraseIdx j := by
      unfold Array.eraseIdxIfInBounds
      rw [dif_pos hjs]
      simp
    have pw := ((stamped_iff es clock).1 h.st).2.2
    have who : ∀ z, z ∈ es.toList.eraseIdx j ↔ z ∈ es.toList ∧ z.key ≠ kv x := by
      intro z
      rw [List.mem_eraseIdx_iff_getElem?]
      constructor
      · rintro ⟨i, hne, hi⟩
        refine ⟨List.mem_of_getElem? hi, fun hz => ?_⟩
        rcases Nat.lt_or_gt_of_ne hne with c | c
        · exact (List.pairwise_iff_getElem.1 pw i j (List.getElem?_eq_some_iff.1 hi).1 hjl c) (by rw [(List.getElem?_eq_some_iff.1 hi).2, (List.getElem?_eq_some_iff.1 h2).2]; exact hz.trans h3.symm)
        · exact (List.pairwise_iff_getElem.1 pw j i hjl (List.getElem?_eq_some_iff.1 hi).1 c) (by rw [(List.getElem?_eq_some_iff.1 hi).2, (List.getElem?_eq_some_iff.1 h2).2]; exact h3.trans hz.symm)
      · rintro ⟨hz, hne⟩
        obtain ⟨i, hi⟩ := List.getElem?_of_mem hz
        refine ⟨i, fun c => hne ?_, hi⟩
        rw [c, h2] at hi
        cases hi
        exact h3
    refine ⟨_, by simp [Builtin.delete_, run_underlying ht, MapKept.run_getObj_map hb, V.check w _ x hx, h1, MapKept.run_setObj_map _ hb, Result.andThen, setBlock], ⟨es.eraseIdxIfInBounds j, clock, (heap_set hb).1, stamped_erase h.st j, ?_, h.nd.erase x, mem', fun z hz => h.okk z (List.mem_of_mem_erase hz), fun z hz => ?_, fun z v hz => ?_⟩, frame _⟩
    · rw [← Array.length_toList, hsub, List.length_eraseIdx_of_lt hjl, List.length_erase_of_mem hK, Array.length_toList, h.sz]
    · rw [hsub, who] at hz
      obtain ⟨u, u1, u2, u3⟩ := h.read z hz.1
      exact ⟨u, u1, u2, by rw [setg_other _ _ (fun c => by subst c; exact hz.2 u2)]; exact u3⟩
    · by_cases c : z = x
      · subst c; rw [setg_same] at hz; cases hz
      · rw [setg_other _ _ c] at hz
        obtain ⟨u, u1, u2, u3⟩ := h.have_ z v hz
        refine ⟨u, ?_, u2, u3⟩
        rw [hsub, who]
        exact ⟨u1, fun d => c (V.inj z x (h.okk z ((h.mem z).2 (by rw [hz]; rfl))) hx (u2.symm.trans d))⟩
/-- len(m). -/
theorem EMp.len (h : EMp kv ok w b g K) : ∃ es clock, w.heap[b]? = some (.map es clock) ∧ es.size = K.length := by
  obtain ⟨es, clock, hb, h⟩ := h
  exact ⟨es, clock, hb, h.sz⟩

end Go.Proofs.YtpjlmmiceiionaaDoor
