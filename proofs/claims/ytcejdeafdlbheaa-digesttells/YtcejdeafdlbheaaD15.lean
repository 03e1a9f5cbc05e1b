/- DigestTells: the walk. -/
import Derived.Test.YtcejdeafdlbheaaD14
import Derived.Laws.Cells
namespace Go.Proofs.Ytcejdeafdlbheaa
open Go.RowKit

/-- append(q, 0xA5) of a page of its own: the page's bytes stay, and 0xA5 lies behind them. -/
theorem tail_page (W : World) (base g cap : Nat) (f : Nat → Nat) (hb : Bytes f) (hbase : base ≤ W.heap.size) (H : W.ownsRow base 5 1 (.slice (some ⟨g, 0, none⟩) 4096 cap) 4096 (bytesOf f 4096)) :
    ∃ g' cap' W', (Builtin.append_ #[23, 23] 23 #[.slice (some ⟨g, 0, none⟩) 4096 cap, .slice (some ⟨W.heap.size, 0, none⟩) 1 1]).run Try.prog (W.alloc (.cells #[.int .u8 165] 5)) = .ok (.slice (some ⟨g', 0, none⟩) 4097 cap') W' ∧
      base ≤ g' ∧ 4097 ≤ cap' ∧ BS W' g' 0 4097 (upd f 4096 165) ∧ (∀ W0, W0.heap.size ≤ base → Kp W0 W → Kp W0 W') := by
  obtain ⟨i0, hi, hz0, hz1, hz2⟩ := info_u8
  have H1 := H.alloc (.cells #[.int .u8 165] 5)
  have hnew : ∀ j u, ([.int .u8 165] : List Value)[j]? = some u → (W.alloc (.cells #[.int .u8 165] 5)).cell? ((⟨W.heap.size, 0, none⟩ : Addr).add j) = some u := by
    intro j u hu
    match j with
    | 0 => simp at hu; subst hu; show (W.alloc _).cell? ⟨W.heap.size, 0, none⟩ = _; rw [World.cell?_alloc_at _ _ _ _ rfl]; rfl
    | j + 1 => simp at hu
  obtain ⟨v', W', h1, h2, h3, _⟩ := run_append_own (P := Try.prog) (W.alloc (.cells #[.int .u8 165] 5)) base 23 23 5 i0 (.int .u8 0) 1 1 Try.underlying23 hi hz0 hz1 hz2 rfl (by decide) _ 4096 _ H1 ⟨W.heap.size, 0, none⟩ 1 1 [.int .u8 165] rfl hnew (by intro u hu; simp at hu; subst hu; rfl) (by decide) (by decide) (by simp; omega)
  have e : bytesOf f 4096 ++ [.int .u8 165] = bytesOf (upd f 4096 165) 4097 := by
    apply List.ext_getElem?
    intro i
    by_cases c : i < 4096
    · rw [List.getElem?_append_left (by rw [bytesOf_len]; exact c), bytesOf_get _ _ _ c, bytesOf_get _ _ _ (by omega), upd_other _ _ _ _ (by omega)]
    · rw [List.getElem?_append_right (by rw [bytesOf_len]; omega), bytesOf_len]
      by_cases c' : i = 4096
      · subst c'; rw [bytesOf_get _ _ _ (by omega), upd_same]; rfl
      · rw [List.getElem?_eq_none (by simp; omega), List.getElem?_eq_none (by rw [bytesOf_len]; omega)]
  rw [e] at h2
  obtain ⟨g', cap', rfl, k1, k2, k3⟩ := own_page (n := 4097) h2 (by decide) (hb.upd _ _ (by decide))
  have hg : base ≤ g := by
    obtain ⟨_, h | ⟨g0, _, _, e0, h0, _⟩⟩ := H
    · cases h.1
    · cases e0; exact h0
  exact ⟨g', cap', W', h1, k1, k2, k3, fun W0 h0 hk => kp_grown (hk.alloc _) (Nat.le_trans h0 hg) h3⟩

theorem BS.less {w : World} {b o m n : Nat} {f : Nat → Nat} (h : BS w b o m f) (hn : n ≤ m) : BS w b o n f := ⟨h.lt, fun i hi => h.cell i (by omega), fun i hi => h.frz i (by omega), h.byte⟩
theorem BS.like {w : World} {b o m : Nat} {f g : Nat → Nat} (h : BS w b o m f) (hg : ∀ i, i < m → g i = f i) (hb : Bytes g) : BS w b o m g := ⟨h.lt, fun i hi => by rw [hg i hi]; exact h.cell i hi, h.frz, hb⟩

/-- A page's bytes as a string. -/
def strOf (f : Nat → Nat) (n : Nat) : ByteArray := ((List.range n).map fun i => ((f i : Nat) : Int)).foldl (fun r n => r.push (UInt8.ofNat n.toNat)) ByteArray.empty
theorem string_any (w : World) (b n cap : Nat) (f : Nat → Nat) (H : BS w b 0 n f) :
    (convert 23 9 (.slice (some ⟨b, 0, none⟩) n cap)).run Try.prog w = .ok (.string (strOf f n)) w := by
  rw [run_convert_bytes_string w 23 9 5 _ _ _ Try.underlying23 Try.underlying5 Try.underlying9]
  refine run_bytesToString w ⟨b, 0, none⟩ n cap _ ?_
  have := run_loadCells_list (P := Try.prog) (w := w) ⟨b, 0, none⟩ (bytesOf f n) H.news
  rw [bytesOf_len] at this
  rw [this]
  simp [bytesOf]

end Go.Proofs.Ytcejdeafdlbheaa
