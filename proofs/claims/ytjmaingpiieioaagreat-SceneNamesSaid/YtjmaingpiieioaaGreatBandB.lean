/-
  Contracts: fit, Right (both).
-/
import Derived.Test.YtjmaingpiieioaaGreatBandA
namespace Go.Proofs.YtjmaingpiieioaaGreat
open Go.RowKit

/-- Two structs of three cells in the call's own first two blocks: the one that came in, the one that goes out. -/
structure B2 (a : World) (x y z x' y' z' : Value) (w : World) : Prop where
  kept : Kp No a w
  one : Blk w a.heap.size 49 #[x, y, z]
  two : Blk w (a.heap.size + 1) 49 #[x', y', z']
section
variable {a w w' : World} {x y z x' y' z' : Value}
theorem B2.start (w : World) (x y z x' y' z' : Value) : B2 w x y z x' y' z' ((w.alloc (.cells #[x, y, z] 49)).alloc (.cells #[x', y', z'] 49)) :=
  ⟨((Kp.refl No w).alloc _).alloc _, (Blk.new w _ #[x, y, z]).kp0 ((Kp.refl No _).alloc _), (Blk.new (w.alloc (.cells #[x, y, z] _)) _ #[x', y', z']).next (by simp)⟩
theorem B2.kp (h : B2 a x y z x' y' z' w) (k : Kp No w w') : B2 a x y z x' y' z' w' := ⟨h.kept.trans k, h.one.kp0 k, h.two.kp0 k⟩
theorem B2.put0 (h : B2 a x y z x' y' z' w) (u : Value) : B2 a u y z x' y' z' (w.setCell ⟨a.heap.size, 0, none⟩ u) :=
  ⟨h.kept.setCell (p := ⟨a.heap.size, 0, none⟩) (.inr (Nat.le_refl _)) u, h.one.put 0 u, h.two.kp (Kp.set1 _ _ _ _) (fun e => by have : a.heap.size + 1 = a.heap.size := e; omega)⟩
theorem B2.put1 (h : B2 a x y z x' y' z' w) (u : Value) : B2 a x u z x' y' z' (w.setCell ⟨a.heap.size, 1, none⟩ u) :=
  ⟨h.kept.setCell (p := ⟨a.heap.size, 1, none⟩) (.inr (Nat.le_refl _)) u, h.one.put 1 u, h.two.kp (Kp.set1 _ _ _ _) (fun e => by have : a.heap.size + 1 = a.heap.size := e; omega)⟩
theorem B2.put2 (h : B2 a x y z x' y' z' w) (u : Value) : B2 a x y u x' y' z' (w.setCell ⟨a.heap.size, 2, none⟩ u) :=
  ⟨h.kept.setCell (p := ⟨a.heap.size, 2, none⟩) (.inr (Nat.le_refl _)) u, h.one.put 2 u, h.two.kp (Kp.set1 _ _ _ _) (fun e => by have : a.heap.size + 1 = a.heap.size := e; omega)⟩
theorem B2.cells (h : B2 a x y z x' y' z' w) : w.cell? ⟨a.heap.size, 0, none⟩ = some x ∧ w.cell? ⟨a.heap.size, 1, none⟩ = some y ∧ w.cell? ⟨a.heap.size, 2, none⟩ = some z ∧ w.frozen? ⟨a.heap.size, 0, none⟩ = false ∧ w.frozen? ⟨a.heap.size, 1, none⟩ = false ∧ w.frozen? ⟨a.heap.size, 2, none⟩ = false :=
  ⟨h.one.cell 0, h.one.cell 1, h.one.cell 2, h.one.frozen 0, h.one.frozen 1, h.one.frozen 2⟩
theorem B2.outs (h : B2 a x y z x' y' z' w) : w.cell? ⟨a.heap.size + 1, 0, none⟩ = some x' ∧ w.cell? ⟨a.heap.size + 1, 1, none⟩ = some y' ∧ w.cell? ⟨a.heap.size + 1, 2, none⟩ = some z' ∧ w.frozen? ⟨a.heap.size + 1, 0, none⟩ = false ∧ w.frozen? ⟨a.heap.size + 1, 1, none⟩ = false ∧ w.frozen? ⟨a.heap.size + 1, 2, none⟩ = false ∧ a.heap.size < w.heap.size ∧ a.heap.size + 1 < w.heap.size :=
  ⟨h.two.cell 0, h.two.cell 1, h.two.cell 2, h.two.frozen 0, h.two.frozen 1, h.two.frozen 2, h.one.lt, h.two.lt⟩
theorem B2.out (h : B2 a x y z x' y' z' w) (u v t : Value) : Kp No a (((w.setCell ⟨a.heap.size + 1, 0, none⟩ u).setCell ⟨a.heap.size + 1, 1, none⟩ v).setCell ⟨a.heap.size + 1, 2, none⟩ t) :=
  ((h.kept.setCell (p := ⟨a.heap.size + 1, 0, none⟩) (.inr (Nat.le_succ _)) u).setCell (p := ⟨a.heap.size + 1, 1, none⟩) (.inr (Nat.le_succ _)) v).setCell (p := ⟨a.heap.size + 1, 2, none⟩) (.inr (Nat.le_succ _)) t
theorem B2.upd (h : B2 a x y z x' y' z' w) (u v t : Value) : B2 a x y z u v t (((w.setCell ⟨a.heap.size + 1, 0, none⟩ u).setCell ⟨a.heap.size + 1, 1, none⟩ v).setCell ⟨a.heap.size + 1, 2, none⟩ t) :=
  ⟨h.out u v t, ((h.one.kp (Kp.set1 _ _ _ _) (fun e => by have : a.heap.size = a.heap.size + 1 := e; omega)).kp (Kp.set1 _ _ _ _) (fun e => by have : a.heap.size = a.heap.size + 1 := e; omega)).kp (Kp.set1 _ _ _ _) (fun e => by have : a.heap.size = a.heap.size + 1 := e; omega), ((h.two.put 0 u).put 1 v).put 2 t⟩
end

theorem fit_zero {p q u : Int} (h : cl q 0 1048576 = 0) (w : World) : Calls Tryz.prog 69 #[.agg #[.int .i64 p, .int .i64 q, .int .i64 u]] w fun e w' => e = .returned (.agg #[.int .i64 (cl p 0 1048576), .int .i64 0, .int .i64 0]) ∧ Kp No w w' := by
  have HH := hid h
  clear h
  go_enter Tryz.func69, Tryz.ntmps69
  go_wp2_with fail
  refine (hold0_any q _).mono ?_
  rintro e w1 ⟨rfl, rfl⟩
  rw [HH.out]
  have B := hid (B2.start w (.int .i64 p) (.int .i64 0) (.int .i64 u) (.int .i64 0) (.int .i64 0) (.int .i64 0))
  go_wp2_with fail
  refine (limited_any _ _ _ _).mono ?_
  rintro e w2 ⟨rfl, k2⟩
  have C := hid (B.out.kp k2)
  clear B k2
  obtain ⟨c0, c1, c2, _, _, _⟩ := C.out.cells
  obtain ⟨d0, d1, d2, f0, f1, f2, lt, lt'⟩ := C.out.outs
  rw [show (!((0 : Int) == 0)) = false from rfl]
  go_wp2_with fail
  refine (hold0_any p _).mono ?_
  rintro e w3 ⟨rfl, rfl⟩
  go_wp2_with fail
  refine bodyPost_ret (v := .agg #[.int .i64 (cl p 0 1048576), .int .i64 0, .int .i64 0]) ?_ rfl ⟨rfl, C.out.out _ _ _⟩
  rw [results_cell rfl]
  go_simp
theorem fit_some {p q u x : Int} (h : cl q 0 1048576 = x) (hx : x ≠ 0) (w : World) : Calls Tryz.prog 69 #[.agg #[.int .i64 p, .int .i64 q, .int .i64 u]] w fun e w' => e = .returned (.agg #[.int .i64 (cl p 1 1048576), .int .i64 x, .int .i64 (tk u)]) ∧ Kp No w w' := by
  have HH := hid h
  have hx' : (!(x == 0)) = true := by simp [hx]
  clear h
  go_enter Tryz.func69, Tryz.ntmps69
  go_wp2_with fail
  refine (hold0_any q _).mono ?_
  rintro e w1 ⟨rfl, rfl⟩
  rw [HH.out]
  have B := hid (B2.start w (.int .i64 p) (.int .i64 x) (.int .i64 u) (.int .i64 0) (.int .i64 0) (.int .i64 0))
  go_wp2_with fail
  refine (limited_any _ _ _ _).mono ?_
  rintro e w2 ⟨rfl, k2⟩
  have C := hid (B.out.kp k2)
  clear B k2
  obtain ⟨c0, c1, c2, e0, e1, e2⟩ := C.out.cells
  obtain ⟨d0, d1, d2, f0, f1, f2, lt, lt'⟩ := C.out.outs
  rw [hx']
  go_wp2_with fail
  refine (hold1_any p _).mono ?_
  rintro e w3 ⟨rfl, rfl⟩
  go_wp2_with fail
  refine (ticks_any u _).mono ?_
  rintro e w3 ⟨rfl, rfl⟩
  go_wp2_with fail
  refine bodyPost_ret (v := .agg #[.int .i64 (cl p 1 1048576), .int .i64 x, .int .i64 (tk u)]) ?_ rfl ⟨rfl, ((C.out.put0 _).put2 _).out _ _ _⟩
  rw [results_cell rfl]
  go_simp
end Go.Proofs.YtjmaingpiieioaaGreat
