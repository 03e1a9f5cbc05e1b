/- Joined: CH, LU. -/
import Derived.Test.YtpjlmmiceiionaaDoorCG
import Derived.Test.YtpjlmmiceiionaaDoorU1
import Derived.Test.YtpjlmmiceiionaaDoorRows
/- index: slices.SortFunc over few groups. -/
namespace Go.Proofs.YtpjlmmiceiionaaDoor
open Go.RowKit Go.Sort
set_option maxRecDepth 100000

section
variable {w0 W : World} {g : Nat} {d : Array GE}
set_option maxHeartbeats 4000000 in
theorem insG_nil (W : World) (f : Value) :
    Calls Tryd.prog 68 #[.slice none 0 0, .int .i64 0, .int .i64 0, f] W fun e W' => e = .returned (.tuple #[]) ∧ W' = W := by
  go_enter Tryd.func68, Tryd.ntmps68
  go_wp2_with fail
  go_loopg [8] 1 (fun g1 vi wr => vi = .int .i64 1 ∧ wr = W)
  case atStart => exact ⟨rfl, rfl⟩
  case round =>
    obtain ⟨rfl, rfl⟩ := hrel
    go_wp2_with fail
    go_end0
    exact ⟨rfl, rfl⟩
set_option maxHeartbeats 8000000 in
theorem pdqG_nil (W : World) (l : Int) (f : Value) :
    Calls Tryd.prog 59 #[.slice none 0 0, .int .i64 0, .int .i64 0, .int .i64 l, f] W fun e W' => e = .returned (.tuple #[]) ∧ W' = W := by
  have ci := insG_nil W f
  go_enter Tryd.func59, Tryd.ntmps59
  go_wp2_with fail
  go_loopg [1, 2, 3, 10, 11] 1 (fun g1 v1 v2 v3 v10 v11 wr => v1 = .int .i64 0 ∧ v2 = .int .i64 0 ∧ v3 = .int .i64 l ∧ v10 = .bool true ∧ v11 = .bool true ∧ wr = W)
  case atStart => exact ⟨rfl, rfl, rfl, rfl, rfl, rfl⟩
  case round =>
    obtain ⟨rfl, rfl, rfl, rfl, rfl, rfl⟩ := hrel
    go_wp2_with fail
    with_reducible refine ci.mono ?_
    rintro e W' ⟨rfl, rfl⟩
    clear ci
    go_wp2_with fail
    refine bodyPost_ret (results_none rfl _ _ _) rfl ?_
    exact ⟨rfl, rfl⟩
set_option maxHeartbeats 8000000 in
theorem pdqG_any (S : SGr w0 g d W) (b cap : Nat) (hn : b = d.size) (hl : b ≤ 12) (l : Int) :
    Calls Tryd.prog 59 #[.slice (some ⟨g, 0, none⟩) b cap, .int .i64 0, .int .i64 (b : Int), .int .i64 l, .func (.func 43) #[] #[]] W fun e W' => e = .returned (.tuple #[]) ∧ ∃ d', SGr w0 g d' W' ∧ PermIn 0 b d d' ∧ SortedIn geL 0 b d' := by
  have ci := insG_any S b cap hn (by omega)
  have hz : (b : Int) ≤ 12 := by omega
  clear S hn
  go_enter Tryd.func59, Tryd.ntmps59
  go_wp2_with fail
  go_loopg [1, 2, 3, 10, 11] 1 (fun g1 v1 v2 v3 v10 v11 wr => v1 = .int .i64 0 ∧ v2 = .int .i64 (b : Int) ∧ v3 = .int .i64 l ∧ v10 = .bool true ∧ v11 = .bool true ∧ wr = W)
  case atStart => exact ⟨rfl, rfl, rfl, rfl, rfl, rfl⟩
  case round =>
    obtain ⟨rfl, rfl, rfl, rfl, rfl, rfl⟩ := hrel
    go_wp2_with fail
    with_reducible refine ci.mono ?_
    rintro e W' ⟨rfl, hd⟩
    have HD := hidG hd
    clear ci hd
    go_wp2_with fail
    refine bodyPost_ret (results_none rfl _ _ _) rfl ?_
    exact ⟨rfl, HD.out⟩
set_option maxHeartbeats 2000000 in
theorem sortG_nil (W : World) :
    Calls Tryd.prog 42 #[.slice none 0 0, .func (.func 43) #[] #[]] W fun e W' => e = .returned (.tuple #[]) ∧ W' = W := by
  have cl : Calls Tryd.prog 60 #[.int .u64 0] W fun e w' => e = .returned (.int .i64 (lg 0 : Nat)) ∧ w' = W := len_any 0 W (by decide)
  have cp := fun l => pdqG_nil W l (.func (.func 43) #[] #[])
  go_enter Tryd.func42, Tryd.ntmps42
  go_wp2_with fail
  with_reducible refine cl.mono ?_
  rintro e W' ⟨rfl, rfl⟩
  clear cl
  go_wp2_with fail
  with_reducible refine (cp _).mono ?_
  rintro e W' ⟨rfl, rfl⟩
  clear cp
  go_wp2_with fail
  go_end0
  exact ⟨rfl, rfl⟩
set_option maxHeartbeats 2000000 in
theorem sortG_any (S : SGr w0 g d W) (b cap : Nat) (hn : b = d.size) (hl : b ≤ 12) :
    Calls Tryd.prog 42 #[.slice (some ⟨g, 0, none⟩) b cap, .func (.func 43) #[] #[]] W fun e W' => e = .returned (.tuple #[]) ∧ ∃ d', SGr w0 g d' W' ∧ PermIn 0 b d d' ∧ SortedIn geL 0 b d' := by
  have cl := len_any b W (by omega)
  have cp := fun l => pdqG_any S b cap hn hl l
  have hw : IntKind.u64.wrap (b : Int) = (b : Int) := by rw [IntKind.wrap_u64]; omega
  clear S hn
  go_enter Tryd.func42, Tryd.ntmps42
  go_wp2_with fail
  with_reducible refine cl.mono ?_
  rintro e W' ⟨rfl, rfl⟩
  clear cl
  go_wp2_with fail
  with_reducible refine (cp _).mono ?_
  rintro e W' ⟨rfl, hd⟩
  have HD := hidG hd
  clear cp hd
  go_wp2_with fail
  go_end0
  exact ⟨rfl, HD.out⟩
end

end Go.Proofs.YtpjlmmiceiionaaDoor

/- Two rising lists of the same members are one. -/
namespace Go.Proofs.YtpjlmmiceiionaaDoor

theorem list_uniq {α : Type} (f : α → Nat) : ∀ A B : List α, A.Pairwise (fun x y => f x < f y) → B.Pairwise (fun x y => f x < f y) → (∀ x, x ∈ A ↔ x ∈ B) → A = B
  | [], [], _, _, _ => rfl
  | [], b :: _, _, _, h => absurd ((h b).2 List.mem_cons_self) List.not_mem_nil
  | a :: _, [], _, _, h => absurd ((h a).1 List.mem_cons_self) List.not_mem_nil
  | a :: A, b :: B, pa, pb, h => by
    rw [List.pairwise_cons] at pa pb
    have e : a = b := by
      rcases List.mem_cons.1 ((h a).1 List.mem_cons_self) with c | c
      · exact c
      · rcases List.mem_cons.1 ((h b).2 List.mem_cons_self) with d | d
        · exact d.symm
        · have := pa.1 b d; have := pb.1 a c; omega
    subst e
    have : A = B := list_uniq f A B pa.2 pb.2 fun x => by
      have hx := h x
      simp only [List.mem_cons] at hx
      constructor
      · intro hm
        rcases hx.1 (.inr hm) with c | c
        · have := pa.1 x hm; rw [c] at this; omega
        · exact c
      · intro hm
        rcases hx.2 (.inr hm) with c | c
        · have := pb.1 x hm; rw [c] at this; omega
        · exact c
    rw [this]

end Go.Proofs.YtpjlmmiceiionaaDoor
