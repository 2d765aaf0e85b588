/-
  Contracts: the document's Add, Mean, Gap; same, by, weight, based.
-/
import Derived.Test.YtklkjgdhfanlcaaMomB
namespace Go.Proofs.Ytklkjgdhfanlcaa
open Go.RowKit

/-- What a member counts: how far it is, and its weight. -/
def oby (x : Int) : Int := x.tmod 1048576
def owt (y : Int) : Int := y.tmod 1048577
theorem oby_bd (x : Int) : -1048576 < oby x ∧ oby x < 1048576 := by
  unfold oby
  exact ⟨Int.lt_tmod_of_pos x (by omega), Int.tmod_lt_of_pos x (by omega)⟩
theorem owt_bd {y : Int} (h : 0 ≤ y) : 0 ≤ owt y ∧ owt y ≤ 1048576 := by
  unfold owt
  have := Int.tmod_nonneg 1048577 h
  have := Int.tmod_lt_of_pos y (show (0 : Int) < 1048577 by omega)
  omega
/-- A base that may be. -/
def bsd (n : Int) : Int := n.tmod 1152921504606846976
theorem bsd_bd (n : Int) : -1152921504606846976 < bsd n ∧ bsd n < 1152921504606846976 := by
  unfold bsd
  exact ⟨Int.lt_tmod_of_pos n (by omega), Int.tmod_lt_of_pos n (by omega)⟩

theorem by_any (x y : Int) (o : Bool) (w : World) : Calls Try.prog 12 #[.agg #[.int .i32 x, .int .u32 y, .bool o]] w fun e w' => e = .returned (.int .i64 (oby x)) ∧ Kp No w w' := by
  obtain ⟨h0, h1⟩ := oby_bd x
  have e1 : IntKind.i64.wrap (x.tmod 1048576) = oby x := wrapI ⟨by unfold oby at h0; omega, by unfold oby at h1; omega⟩
  clear h0 h1
  go_enter Try.func12, Try.ntmps12
  go_wp2
  go_ret
  exact ⟨rfl, (Kp.refl No w).alloc _⟩

theorem wgt_any (x y : Int) (o : Bool) (w : World) (hy : 0 ≤ y) : Calls Try.prog 14 #[.agg #[.int .i32 x, .int .u32 y, .bool o]] w fun e w' => e = .returned (.int .i64 (owt y)) ∧ Kp No w w' := by
  obtain ⟨h0, h1⟩ := owt_bd hy
  have e1 : IntKind.i64.wrap (y.tmod 1048577) = owt y := wrapI ⟨by unfold owt at h0; omega, by unfold owt at h1; omega⟩
  clear h0 h1 hy
  go_enter Try.func14, Try.ntmps14
  go_wp2
  go_ret
  exact ⟨rfl, (Kp.refl No w).alloc _⟩

theorem based_any (n : Int) (w : World) : Calls Try.prog 10 #[.int .i64 n] w fun e w' => e = .returned (.int .i64 (bsd n)) ∧ w' = w := by
  go_enter Try.func10, Try.ntmps10
  go_wp2
  go_ret
  exact ⟨rfl, rfl⟩

theorem refadd_is {b a p v q k d a' p' : Int} {w : World} (hd : v - b = d) (id : I64 d) (i1 : I64 (k * q)) (i2 : I64 (k * q * d)) (ha : a + k * q = a') (hp : p + k * q * d = p') (ia : I64 a') (ip : I64 p') :
    Calls Try.prog 15 #[.agg #[.int .i64 b, .int .i64 a, .int .i64 p], .int .i64 v, .int .i64 q, .int .i64 k] w fun e w' => e = .returned (.agg #[.int .i64 b, .int .i64 a', .int .i64 p']) ∧ Kp No w w' := by
  have e1 : IntKind.i64.wrap (v - b) = d := by rw [hd]; exact wrapI id
  have e2 := wrapI i1
  have e3 := wrapI i2
  have e4 : IntKind.i64.wrap (a + k * q) = a' := by rw [ha]; exact wrapI ia
  have e5 : IntKind.i64.wrap (p + k * q * d) = p' := by rw [hp]; exact wrapI ip
  clear hd id i1 i2 ha hp ia ip
  go_enter Try.func15, Try.ntmps15
  go_wp2
  refine bodyPost_ret (v := .agg #[.int .i64 b, .int .i64 a', .int .i64 p']) ?_ rfl ⟨rfl, ((Kp.refl No w).alloc _).alloc _⟩
  rw [results_cell rfl]
  go_simp

theorem refgap_is {b a p v d z g : Int} {w : World} (hd : v - b = d) (hz : a * d = z) (hp : p - z = g) (id : I64 d) (iz : I64 z) (ig : I64 g) :
    Calls Try.prog 22 #[.agg #[.int .i64 b, .int .i64 a, .int .i64 p], .int .i64 v] w fun e w' => e = .returned (.int .i64 g) ∧ Kp No w w' := by
  have e1 : IntKind.i64.wrap (v - b) = d := by rw [hd]; exact wrapI id
  have e2 : IntKind.i64.wrap (a * d) = z := by rw [hz]; exact wrapI iz
  have e3 : IntKind.i64.wrap (p - z) = g := by rw [hp]; exact wrapI ig
  clear hd hz hp id iz ig
  go_enter Try.func22, Try.ntmps22
  go_wp2
  go_ret
  exact ⟨rfl, (Kp.refl No w).alloc _⟩

theorem same_any {b a p : Int} {w : World} (fa : F53 a) (fp : F53 p) :
    Calls Try.prog 17 #[.agg #[.int .i64 b, .complex .f64 (fl a) (fl p)], .agg #[.int .i64 b, .int .i64 a, .int .i64 p]] w fun e w' => e = .returned (.bool true) ∧ Kp No w w' := by
  have e0 : (b == b) = true := by simp
  have e1 : (FloatKind.f64.format.order (fl a) (fl a) == some .eq) = true := (fl_eq fa fa).trans (by simp)
  have e2 : (FloatKind.f64.format.order (fl p) (fl p) == some .eq) = true := (fl_eq fp fp).trans (by simp)
  clear fa fp
  go_enter Try.func17, Try.ntmps17
  go_wp2
  go_ret
  exact ⟨rfl, ((Kp.refl No w).alloc _).alloc _⟩
end Go.Proofs.Ytklkjgdhfanlcaa
