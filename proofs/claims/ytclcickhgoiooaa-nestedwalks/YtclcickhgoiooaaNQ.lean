/- demesnelaw14: the memory's walks by its words; told. -/
import Derived.Test.YtclcickhgoiooaaNK
import Derived.Test.YtclcickhgoiooaaNN
namespace Go.Proofs.Ytclcickhgoiooaa
open Go.RowKit
set_option maxRecDepth 10000

section
variable {W w : World} {X : Nat → Prop} {p o : Nat} {M : Nat → Nat → Nat}
theorem WW.of {S : Nat → Prop} {B : Nat → Nat → Nat} {w' : World} {o' : Nat} (h1 : wM B = M) (h3 : ∀ i, S i → OuX W X i) (h4 : ∀ i, X i → i < w.heap.size) (h5 : Kp W w) (m : PMo w' S p 40 o' B) (f : Fr S w w') : WW W X p o' M w' ∧ Fr (OuX W X) w w' :=
  ⟨⟨S, B, h1, m, h3, fun i hi => Nat.lt_of_lt_of_le (h4 i hi) f.size, f.kp h5 (fun i hi => (h3 i hi).1)⟩, f.mono (fun i _ hi => h3 i hi)⟩
theorem wsecond_any (h : WW W X p o M w) (two u : Nat) (acc : Int) (ht : two < 18446744073709551616) (hu : u < 18446744073709551616) (ho : o < 3000000000000000000) :
    Calls Try.prog 28 #[.pointer (some ⟨p, 0, none⟩), .int .u64 (two : Int), .int .u64 (u : Int), .int .i64 acc] w fun e w' => e = .returned (.tuple #[ouV (seO (rdM M) two u acc), faV (seF (rdM M) two u acc), .int .i64 (slN (rdM M) two u : Nat)]) ∧ WW W X p (o + 4) M w' ∧ Fr (OuX W X) w w' := by
  obtain ⟨S, B, rfl, h2, h3, h4, h5⟩ := h
  rw [← rdM_of]
  exact (second_any h2 two u acc ht hu ho).mono fun e w' ⟨e1, e2, e3⟩ => ⟨e1, WW.of rfl h3 h4 h5 e2 e3⟩
theorem woff_any (h : WW W X p o M w) (two root u : Nat) (acc : Int) (ht : two < 18446744073709551616) (hu : u < 281474976710656) (ho : o < 3000000000000000000) :
    Calls Try.prog 6 #[.pointer (some ⟨p, 0, none⟩), .agg #[.int .u64 (two : Int), .bool false, .int .u64 (root : Int)], .int .u64 (u : Int), .int .i64 acc] w fun e w' => e = .returned (.tuple #[ouV (seO (rdM M) two u acc), faV (seF (rdM M) two u acc), .int .i64 (slN (rdM M) two u : Nat)]) ∧ WW W X p (o + 4) M w' ∧ Fr (OuX W X) w w' := by
  obtain ⟨S, B, rfl, h2, h3, h4, h5⟩ := h
  rw [← rdM_of]
  refine (walk_off _ two root u acc w S (fun v => PMo v S p 40 (o + 4) B) _ _ _ hu h2.own (fun v v' H k => H.fr k (fun i hi c => by have := h2.own i hi; omega)) (fun w2 k2 => second_any (h2.kp k2) two u acc ht (by omega) ho)).mono fun e w' ⟨e1, e2, e3⟩ => ⟨e1, WW.of rfl h3 h4 h5 e2 e3⟩
theorem won_any (h : WW W X p o M w) (two root u : Nat) (acc : Int) (ht : two < 18446744073709551616) (hu : u < 281474976710656) (hr1 : root % 4096 = 0) (hr2 : root < 1099511627776) (ho : o < 1000000000000000000) (ov : OV) (fv : FV) (n : Nat) (hc : onC (rdM M) two root u acc ov fv n) :
    Calls Try.prog 6 #[.pointer (some ⟨p, 0, none⟩), .agg #[.int .u64 (two : Int), .bool true, .int .u64 (root : Int)], .int .u64 (u : Int), .int .i64 acc] w fun e w' => e = .returned (.tuple #[ouV ov, faV fv, .int .i64 (n : Int)]) ∧ WW W X p (o + 24) M w' ∧ Fr (OuX W X) w w' := by
  obtain ⟨S, B, rfl, h2, h3, h4, h5⟩ := h
  rw [← rdM_of] at hc
  exact (walk_on h2 two root u acc ht hu hr1 hr2 ho ov fv n hc).mono fun e w' ⟨e1, e2, e3⟩ => ⟨e1, WW.of rfl h3 h4 h5 e2 e3⟩
end
theorem wnil_any (two root u : Nat) (acc : Int) (hu : u < 281474976710656) (w : World) :
    Calls Try.prog 6 #[.pointer none, .agg #[.int .u64 (two : Int), .bool false, .int .u64 (root : Int)], .int .u64 (u : Int), .int .i64 acc] w fun e w' => e = .returned (.tuple #[ouV zO, faV ⟨2, 4, -1, u, acc == 2⟩, .int .i64 ((0 : Nat) : Int)]) ∧ Kp w w' :=
  (walk_off (.pointer none) two root u acc w (fun _ => False) (fun _ => True) zO ⟨2, 4, -1, u, acc == 2⟩ 0 hu (fun _ h => h.elim) (fun _ _ _ _ => trivial) (fun w2 k2 => (second_nil two u acc (by omega) w2).mono fun e w' ⟨e1, e2⟩ => ⟨e1, trivial, e2.fr _⟩)).mono fun e w' ⟨e1, _, e3⟩ => ⟨e1, e3.kp (Kp.refl w) (fun _ h => h.elim)⟩

end Go.Proofs.Ytclcickhgoiooaa
