/-
  BandA BandB BandC BandD: texts laid into one.
-/
import Derived.Test.YtggmdgdgljlddaaGreatRows
import Derived.Test.YtggmdgdgljlddaaGreatHeld
import Derived.Laws.StructEq

/-
  Contracts: band's hold, holdTicks, limited, fit, Right, Shut, Left, Charge, Ends, Pass; the document's Held, Right, Left, Charge, Ends, Pass.
-/
namespace Go.Proofs.YtggmdgdgljlddaaGreat
open Go.RowKit

/-- A number as it is held; a time. -/
def cl (x a b : Int) : Int := if x < a then a else if b < x then b else x
def tk (x : Int) : Int := if x < 0 then 0 else if 1099511627776 < x then 1099511627776 else x
theorem tk_bd (x : Int) : 0 ≤ tk x ∧ tk x ≤ 1099511627776 := by unfold tk; split <;> (try split) <;> omega
theorem tk_cl (x : Int) : cl x 0 1099511627776 = tk x := rfl
theorem tk_in {x : Int} (h0 : 0 ≤ x) (h1 : x ≤ 1099511627776) : tk x = x := by unfold tk; split <;> (try split) <;> omega

theorem hold0_any (x : Int) (w : World) : Calls Tryz.prog 53 #[.int .i64 x, .int .i64 0, .int .i64 1048576] w fun e w' => e = .returned (.int .i64 (cl x 0 1048576)) ∧ w' = w := by
  rcases (show x < 0 ∨ 1048576 < x ∨ (0 ≤ x ∧ x ≤ 1048576) from by omega) with h | h | h
  · have hh : cl x 0 1048576 = 0 := by unfold cl; split <;> (try split) <;> omega
    have H := hid hh; clear hh
    go_enter Tryz.func53, Tryz.ntmps53
    go_wp2
    all_goals go_ret
    all_goals (rw [H.out]; exact ⟨by first | rfl | go_num, rfl⟩)
  · have hh : cl x 0 1048576 = 1048576 := by unfold cl; split <;> (try split) <;> omega
    have H := hid hh; clear hh
    go_enter Tryz.func53, Tryz.ntmps53
    go_wp2
    all_goals go_ret
    all_goals (rw [H.out]; exact ⟨by first | rfl | go_num, rfl⟩)
  · have hh : cl x 0 1048576 = x := by unfold cl; split <;> (try split) <;> omega
    have H := hid hh; clear hh
    go_enter Tryz.func53, Tryz.ntmps53
    go_wp2
    all_goals go_ret
    all_goals (rw [H.out]; exact ⟨by first | rfl | go_num, rfl⟩)

theorem hold1_any (x : Int) (w : World) : Calls Tryz.prog 53 #[.int .i64 x, .int .i64 1, .int .i64 1048576] w fun e w' => e = .returned (.int .i64 (cl x 1 1048576)) ∧ w' = w := by
  rcases (show x < 1 ∨ 1048576 < x ∨ (1 ≤ x ∧ x ≤ 1048576) from by omega) with h | h | h
  · have hh : cl x 1 1048576 = 1 := by unfold cl; split <;> (try split) <;> omega
    have H := hid hh; clear hh
    go_enter Tryz.func53, Tryz.ntmps53
    go_wp2
    all_goals go_ret
    all_goals (rw [H.out]; exact ⟨by first | rfl | go_num, rfl⟩)
  · have hh : cl x 1 1048576 = 1048576 := by unfold cl; split <;> (try split) <;> omega
    have H := hid hh; clear hh
    go_enter Tryz.func53, Tryz.ntmps53
    go_wp2
    all_goals go_ret
    all_goals (rw [H.out]; exact ⟨by first | rfl | go_num, rfl⟩)
  · have hh : cl x 1 1048576 = x := by unfold cl; split <;> (try split) <;> omega
    have H := hid hh; clear hh
    go_enter Tryz.func53, Tryz.ntmps53
    go_wp2
    all_goals go_ret
    all_goals (rw [H.out]; exact ⟨by first | rfl | go_num, rfl⟩)

theorem holdt_any (x : Int) (w : World) : Calls Tryz.prog 53 #[.int .i64 x, .int .i64 0, .int .i64 1099511627776] w fun e w' => e = .returned (.int .i64 (cl x 0 1099511627776)) ∧ w' = w := by
  rcases (show x < 0 ∨ 1099511627776 < x ∨ (0 ≤ x ∧ x ≤ 1099511627776) from by omega) with h | h | h
  · have hh : cl x 0 1099511627776 = 0 := by unfold cl; split <;> (try split) <;> omega
    have H := hid hh; clear hh
    go_enter Tryz.func53, Tryz.ntmps53
    go_wp2
    all_goals go_ret
    all_goals (rw [H.out]; exact ⟨by first | rfl | go_num, rfl⟩)
  · have hh : cl x 0 1099511627776 = 1099511627776 := by unfold cl; split <;> (try split) <;> omega
    have H := hid hh; clear hh
    go_enter Tryz.func53, Tryz.ntmps53
    go_wp2
    all_goals go_ret
    all_goals (rw [H.out]; exact ⟨by first | rfl | go_num, rfl⟩)
  · have hh : cl x 0 1099511627776 = x := by unfold cl; split <;> (try split) <;> omega
    have H := hid hh; clear hh
    go_enter Tryz.func53, Tryz.ntmps53
    go_wp2
    all_goals go_ret
    all_goals (rw [H.out]; exact ⟨by first | rfl | go_num, rfl⟩)

theorem ticks_any (x : Int) (w : World) : Calls Tryz.prog 55 #[.int .i64 x] w fun e w' => e = .returned (.int .i64 (tk x)) ∧ w' = w := by
  go_enter Tryz.func55, Tryz.ntmps55
  go_wp2_with fail
  refine (holdt_any x _).mono ?_
  rintro e w' ⟨rfl, rfl⟩
  go_wp2_with fail
  go_ret
  exact ⟨by first | rfl | (simp only [*]; rfl), rfl⟩

/-- A band, as a value. -/
abbrev bd (p q u : Int) : Value := .agg #[.int .i64 p, .int .i64 q, .int .i64 u]
theorem Blk.three {w : World} {g : Nat} {t : TypeId} {a b c : Value} (h : Blk w g t #[a, b, c]) : w.cell? ⟨g, 0, none⟩ = some a ∧ w.cell? ⟨g, 1, none⟩ = some b ∧ w.cell? ⟨g, 2, none⟩ = some c ∧ g < w.heap.size := ⟨h.cell 0, h.cell 1, h.cell 2, h.lt⟩
section
variable {a w w' : World} {g : Nat} {t : TypeId} {x y z : Value}
theorem At.all3 (h : At a g t #[x, y, z] w) : w.cell? ⟨g, 0, none⟩ = some x ∧ w.cell? ⟨g, 1, none⟩ = some y ∧ w.cell? ⟨g, 2, none⟩ = some z ∧ At a g t #[x, y, z] w := ⟨h.2.cell 0, h.2.cell 1, h.2.cell 2, h⟩
theorem At.step3 (k : Kp No w w') (h : w.cell? ⟨g, 0, none⟩ = some x ∧ w.cell? ⟨g, 1, none⟩ = some y ∧ w.cell? ⟨g, 2, none⟩ = some z ∧ At a g t #[x, y, z] w) : w'.cell? ⟨g, 0, none⟩ = some x ∧ w'.cell? ⟨g, 1, none⟩ = some y ∧ w'.cell? ⟨g, 2, none⟩ = some z ∧ At a g t #[x, y, z] w' := (h.2.2.2.kp k).all3
end

theorem limited_any (p q u : Int) (w : World) : Calls Tryz.prog 54 #[.agg #[.int .i64 p, .int .i64 q, .int .i64 u]] w fun e w' => e = .returned (.bool (!(q == 0))) ∧ Kp No w w' := by
  go_enter Tryz.func54, Tryz.ntmps54
  go_wp2
  go_ret
  exact ⟨by first | rfl | simp, (Kp.refl No w).alloc _⟩
end Go.Proofs.YtggmdgdgljlddaaGreat

/-
  Contracts: fit, Right (both).
-/
namespace Go.Proofs.YtggmdgdgljlddaaGreat
open Go.RowKit

/-- Two structs of three cells in the call's own first two blocks: the one that came in, the one that goes out. -/
structure B2 (a : World) (x y z x' y' z' : Value) (w : World) : Prop where
  kept : Kp No a w
  one : Blk w a.heap.size 35 #[x, y, z]
  two : Blk w (a.heap.size + 1) 35 #[x', y', z']
section
variable {a w w' : World} {x y z x' y' z' : Value}
theorem B2.start (w : World) (x y z x' y' z' : Value) : B2 w x y z x' y' z' ((w.alloc (.cells #[x, y, z] 35)).alloc (.cells #[x', y', z'] 35)) :=
  ⟨((Kp.refl No w).alloc _).alloc _, (Blk.new w _ #[x, y, z]).kp0 ((Kp.refl No _).alloc _), (Blk.new (w.alloc (.cells #[x, y, z] _)) _ #[x', y', z']).next (by simp)⟩
theorem B2.kp (h : B2 a x y z x' y' z' w) (k : Kp No w w') : B2 a x y z x' y' z' w' := ⟨h.kept.trans k, h.one.kp0 k, h.two.kp0 k⟩
theorem B2.put0 (h : B2 a x y z x' y' z' w) (u : Value) : B2 a u y z x' y' z' (w.setCell ⟨a.heap.size, 0, none⟩ u) :=
  ⟨h.kept.setCell (p := ⟨a.heap.size, 0, none⟩) (.inr (Nat.le_refl _)) u, h.one.put 0 u, h.two.kp (Kp.set1 _ _ _ _) (fun e => by have : a.heap.size + 1 = a.heap.size := e; omega)⟩
theorem B2.put1 (h : B2 a x y z x' y' z' w) (u : Value) : B2 a x u z x' y' z' (w.setCell ⟨a.heap.size, 1, none⟩ u) :=
  ⟨h.kept.setCell (p := ⟨a.heap.size, 1, none⟩) (.inr (Nat.le_refl _)) u, h.one.put 1 u, h.two.kp (Kp.set1 _ _ _ _) (fun e => by have : a.heap.size + 1 = a.heap.size := e; omega)⟩
theorem B2.put2 (h : B2 a x y z x' y' z' w) (u : Value) : B2 a x y u x' y' z' (w.setCell ⟨a.heap.size, 2, none⟩ u) :=
  ⟨h.kept.setCell (p := ⟨a.heap.size, 2, none⟩) (.inr (Nat.le_refl _)) u, h.one.put 2 u, h.two.kp (Kp.set1 _ _ _ _) (fun e => by have : a.heap.size + 1 = a.heap.size := e; omega)⟩
theorem B2.cells (h : B2 a x y z x' y' z' w) : w.cell? ⟨a.heap.size, 0, none⟩ = some x ∧ w.cell? ⟨a.heap.size, 1, none⟩ = some y ∧ w.cell? ⟨a.heap.size, 2, none⟩ = some z ∧ w.frozen? ⟨a.heap.size, 0, none⟩ = false ∧ w.frozen? ⟨a.heap.size, 1, none⟩ = false ∧ w.frozen? ⟨a.heap.size, 2, none⟩ = false :=
  ⟨h.one.cell 0, h.one.cell 1, h.one.cell 2, h.one.frozen 0, h.one.frozen 1, h.one.frozen 2⟩
theorem B2.outs (h : B2 a x y z x' y' z' w) : w.cell? ⟨a.heap.size + 1, 0, none⟩ = some x' ∧ w.cell? ⟨a.heap.size + 1, 1, none⟩ = some y' ∧ w.cell? ⟨a.heap.size + 1, 2, none⟩ = some z' ∧ w.frozen? ⟨a.heap.size + 1, 0, none⟩ = false ∧ w.frozen? ⟨a.heap.size + 1, 1, none⟩ = false ∧ w.frozen? ⟨a.heap.size + 1, 2, none⟩ = false ∧ a.heap.size < w.heap.size ∧ a.heap.size + 1 < w.heap.size :=
  ⟨h.two.cell 0, h.two.cell 1, h.two.cell 2, h.two.frozen 0, h.two.frozen 1, h.two.frozen 2, h.one.lt, h.two.lt⟩
theorem B2.out (h : B2 a x y z x' y' z' w) (u v t : Value) : Kp No a (((w.setCell ⟨a.heap.size + 1, 0, none⟩ u).setCell ⟨a.heap.size + 1, 1, none⟩ v).setCell ⟨a.heap.size + 1, 2, none⟩ t) :=
  ((h.kept.setCell (p := ⟨a.heap.size + 1, 0, none⟩) (.inr (Nat.le_succ _)) u).setCell (p := ⟨a.heap.size + 1, 1, none⟩) (.inr (Nat.le_succ _)) v).setCell (p := ⟨a.heap.size + 1, 2, none⟩) (.inr (Nat.le_succ _)) t
theorem B2.upd (h : B2 a x y z x' y' z' w) (u v t : Value) : B2 a x y z u v t (((w.setCell ⟨a.heap.size + 1, 0, none⟩ u).setCell ⟨a.heap.size + 1, 1, none⟩ v).setCell ⟨a.heap.size + 1, 2, none⟩ t) :=
  ⟨h.out u v t, ((h.one.kp (Kp.set1 _ _ _ _) (fun e => by have : a.heap.size = a.heap.size + 1 := e; omega)).kp (Kp.set1 _ _ _ _) (fun e => by have : a.heap.size = a.heap.size + 1 := e; omega)).kp (Kp.set1 _ _ _ _) (fun e => by have : a.heap.size = a.heap.size + 1 := e; omega), ((h.two.put 0 u).put 1 v).put 2 t⟩
end

theorem fit_zero {p q u : Int} (h : cl q 0 1048576 = 0) (w : World) : Calls Tryz.prog 42 #[.agg #[.int .i64 p, .int .i64 q, .int .i64 u]] w fun e w' => e = .returned (.agg #[.int .i64 (cl p 0 1048576), .int .i64 0, .int .i64 0]) ∧ Kp No w w' := by
  have HH := hid h
  clear h
  go_enter Tryz.func42, Tryz.ntmps42
  go_wp2_with fail
  refine (hold0_any q _).mono ?_
  rintro e w1 ⟨rfl, rfl⟩
  rw [HH.out]
  have B := hid (B2.start w (.int .i64 p) (.int .i64 0) (.int .i64 u) (.int .i64 0) (.int .i64 0) (.int .i64 0))
  go_wp2_with fail
  refine (limited_any _ _ _ _).mono ?_
  rintro e w2 ⟨rfl, k2⟩
  have C := hid (B.out.kp k2)
  clear B k2
  obtain ⟨c0, c1, c2, _, _, _⟩ := C.out.cells
  obtain ⟨d0, d1, d2, f0, f1, f2, lt, lt'⟩ := C.out.outs
  rw [show (!((0 : Int) == 0)) = false from rfl]
  go_wp2_with fail
  refine (hold0_any p _).mono ?_
  rintro e w3 ⟨rfl, rfl⟩
  go_wp2_with fail
  refine bodyPost_ret (v := .agg #[.int .i64 (cl p 0 1048576), .int .i64 0, .int .i64 0]) ?_ rfl ⟨rfl, C.out.out _ _ _⟩
  rw [results_cell rfl]
  go_simp
theorem fit_some {p q u x : Int} (h : cl q 0 1048576 = x) (hx : x ≠ 0) (w : World) : Calls Tryz.prog 42 #[.agg #[.int .i64 p, .int .i64 q, .int .i64 u]] w fun e w' => e = .returned (.agg #[.int .i64 (cl p 1 1048576), .int .i64 x, .int .i64 (tk u)]) ∧ Kp No w w' := by
  have HH := hid h
  have hx' : (!(x == 0)) = true := by simp [hx]
  clear h
  go_enter Tryz.func42, Tryz.ntmps42
  go_wp2_with fail
  refine (hold0_any q _).mono ?_
  rintro e w1 ⟨rfl, rfl⟩
  rw [HH.out]
  have B := hid (B2.start w (.int .i64 p) (.int .i64 x) (.int .i64 u) (.int .i64 0) (.int .i64 0) (.int .i64 0))
  go_wp2_with fail
  refine (limited_any _ _ _ _).mono ?_
  rintro e w2 ⟨rfl, k2⟩
  have C := hid (B.out.kp k2)
  clear B k2
  obtain ⟨c0, c1, c2, e0, e1, e2⟩ := C.out.cells
  obtain ⟨d0, d1, d2, f0, f1, f2, lt, lt'⟩ := C.out.outs
  rw [hx']
  go_wp2_with fail
  refine (hold1_any p _).mono ?_
  rintro e w3 ⟨rfl, rfl⟩
  go_wp2_with fail
  refine (ticks_any u _).mono ?_
  rintro e w3 ⟨rfl, rfl⟩
  go_wp2_with fail
  refine bodyPost_ret (v := .agg #[.int .i64 (cl p 1 1048576), .int .i64 x, .int .i64 (tk u)]) ?_ rfl ⟨rfl, ((C.out.put0 _).put2 _).out _ _ _⟩
  rw [results_cell rfl]
  go_simp
end Go.Proofs.YtggmdgdgljlddaaGreat

/-
  Contracts: Right (both), Left (both), Shut.
-/
namespace Go.Proofs.YtggmdgdgljlddaaGreat
open Go.RowKit

def fitp (p q u : Int) : Int × Int × Int := if cl q 0 1048576 = 0 then (cl p 0 1048576, 0, 0) else (cl p 1 1048576, cl q 0 1048576, tk u)
/-- A band that can be. -/
def Rb (p q u : Int) : Prop := 0 ≤ p ∧ p ≤ 1048576 ∧ 0 ≤ q ∧ q ≤ 1048576 ∧ 0 ≤ u ∧ u ≤ 1099511627776 ∧ (0 < p ∨ q = 0) ∧ (0 < q ∨ u = 0)
instance (p q u : Int) : Decidable (Rb p q u) := by unfold Rb; infer_instance
theorem fitp_iff (p q u : Int) : fitp p q u = (p, q, u) ↔ Rb p q u := by
  unfold fitp Rb cl tk
  by_cases h1 : q < 0
  · simp [h1]; omega
  · by_cases h2 : 1048576 < q
    · simp [h1, h2]; omega
    · by_cases h3 : q = 0
      · subst h3
        by_cases h4 : p < 0 <;> by_cases h5 : 1048576 < p <;> simp [h4, h5] <;> omega
      · by_cases h4 : p < 1 <;> by_cases h5 : 1048576 < p <;> by_cases h6 : u < 0 <;> by_cases h7 : 1099511627776 < u <;> simp [h1, h2, h3, h4, h5, h6, h7] <;> omega
theorem fit_is {p q u P Q U : Int} (h : fitp p q u = (P, Q, U)) (w : World) : Calls Tryz.prog 42 #[.agg #[.int .i64 p, .int .i64 q, .int .i64 u]] w fun e w' => e = .returned (.agg #[.int .i64 P, .int .i64 Q, .int .i64 U]) ∧ Kp No w w' := by
  unfold fitp at h
  split at h
  · next hz =>
    injection h with e1 e2
    injection e2 with e2 e3
    subst e1 e2 e3
    exact fit_zero hz w
  · next hz =>
    injection h with e1 e2
    injection e2 with e2 e3
    subst e1 e2 e3
    exact fit_some rfl hz w

theorem right_any (p q u : Int) (w : World) : Calls Tryz.prog 26 #[.agg #[.int .i64 p, .int .i64 q, .int .i64 u]] w fun e w' => e = .returned (.bool (decide (Rb p q u))) ∧ Kp No w w' := by
  obtain ⟨P, Q, U, hf⟩ : ∃ P Q U, fitp p q u = (P, Q, U) := ⟨_, _, _, rfl⟩
  have hr : decide (Rb p q u) = (decide (p = P) && (decide (q = Q) && decide (u = U))) := by
    rw [Bool.eq_iff_iff]
    simp only [decide_eq_true_eq, Bool.and_eq_true]
    rw [← fitp_iff, hf]
    simp only [Prod.mk.injEq]
    constructor <;> rintro ⟨a, b, c⟩ <;> exact ⟨a.symm, b.symm, c.symm⟩
  rw [hr]
  have HF := hid hf
  clear hf hr
  have A1 : At w w.heap.size 35 #[.int .i64 p, .int .i64 q, .int .i64 u] ((w.alloc (.cells #[.int .i64 p, .int .i64 q, .int .i64 u] 35))) := ⟨(Kp.refl No w).alloc _, Blk.new _ _ _⟩
  obtain ⟨a, ha⟩ : ∃ a, (p == P) = a := ⟨_, rfl⟩
  obtain ⟨b, hb⟩ : ∃ a, (q == Q) = a := ⟨_, rfl⟩
  obtain ⟨c, hc⟩ : ∃ a, (u == U) = a := ⟨_, rfl⟩
  have H1 := hid (show decide (p = P) = a by rw [← ha]; rfl)
  have H2 := hid (show decide (q = Q) = b by rw [← hb]; rfl)
  have H3 := hid (show decide (u = U) = c by rw [← hc]; rfl)
  cases a <;> cases b <;> cases c
  all_goals (
    go_enter Tryz.func26, Tryz.ntmps26
    go_wp2_with fail
    go_region_held3 (fun w' => w'.cell? ⟨w.heap.size, 0, none⟩ = some (.int .i64 p) ∧ w'.cell? ⟨w.heap.size, 1, none⟩ = some (.int .i64 q) ∧ w'.cell? ⟨w.heap.size, 2, none⟩ = some (.int .i64 u) ∧ At w w.heap.size 35 #[.int .i64 p, .int .i64 q, .int .i64 u] w')
      (first | exact A1.drew.all3 | exact At.step3 (by assumption) (by assumption))
      (first | (go_at_call 42; refine (fit_is HF.out _).mono ?_; rintro e w4 ⟨rfl, k4⟩))
    go_wp2_with fail
    go_ret
    rename_i hh
    rw [H1.out, H2.out, H3.out]
    exact ⟨by first | rfl | simp, hh.2.2.2.kept⟩)
end Go.Proofs.YtggmdgdgljlddaaGreat

/-
  Contracts: the document's Right; Left (both), Shut.
-/
namespace Go.Proofs.YtggmdgdgljlddaaGreat
open Go.RowKit

/-- What is left. -/
def lf (q u : Int) : Int := if q = 0 then -1 else if q < u then 0 else q - u

end Go.Proofs.YtggmdgdgljlddaaGreat
