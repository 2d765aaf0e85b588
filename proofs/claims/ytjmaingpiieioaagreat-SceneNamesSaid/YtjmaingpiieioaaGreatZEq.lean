/-
  Groups and tasks of a scene compared with '=='.
-/
import Derived.Test.YtjmaingpiieioaaGreatZNum
import Derived.Laws.StructEq
import Derived.Shelf.SlicesQ.Equal
namespace Go.Proofs.YtjmaingpiieioaaGreat
open Go.RowKit Go.Shelf

theorem ge_len (g : GS) : (ge g).length = 6 := rfl
theorem te_len (t : TS) : (te t).length = 8 := rfl
theorem ge_one (g : GS) : ∀ v ∈ ge g, v.oneCell' = true := by
  intro v hv
  simp only [ge, List.mem_cons, List.not_mem_nil, or_false] at hv
  rcases hv with rfl | rfl | rfl | rfl | rfl | rfl <;> rfl
theorem te_one (t : TS) : ∀ v ∈ te t, v.oneCell' = true := by
  intro v hv
  simp only [te, List.mem_cons, List.not_mem_nil, or_false] at hv
  rcases hv with rfl | rfl | rfl | rfl | rfl | rfl | rfl | rfl <;> rfl
def eqG (x y : GS) : Bool := decide (x = y)
def eqT (x y : TS) : Bool := decide (x = y)
theorem eqG_and (x y : GS) : eqG x y = (x.id == y.id && (x.par == y.par && (x.wt == y.wt && (x.pd == y.pd && (x.qt == y.qt && x.us == y.us))))) := by
  rw [Bool.eq_iff_iff]
  simp only [eqG, decide_eq_true_eq, Bool.and_eq_true, beq_iff_eq]
  constructor
  · rintro rfl
    exact ⟨rfl, rfl, rfl, rfl, rfl, rfl⟩
  · exact GS.ext'
theorem eqT_and (x y : TS) : eqT x y = (x.id == y.id && (x.gr == y.gr && (x.wt == y.wt && (x.co == y.co && (x.sl == y.sl && (x.ra == y.ra && (x.lv == y.lv && x.lr == y.lr))))))) := by
  rw [Bool.eq_iff_iff]
  simp only [eqT, decide_eq_true_eq, Bool.and_eq_true, beq_iff_eq]
  constructor
  · rintro rfl
    exact ⟨rfl, rfl, rfl, rfl, rfl, rfl, rfl, rfl⟩
  · exact TS.ext'
set_option maxRecDepth 100000 in
set_option maxHeartbeats 1000000 in
theorem eqB_run (a b c a' b' c' : Int) (d : Nat) (w : World) : (Op.equalIn (d + 1 + 1) 49 (.agg #[.int .i64 a, .int .i64 b, .int .i64 c]) (.agg #[.int .i64 a', .int .i64 b', .int .i64 c'])).run Tryz.prog w = .ok (a == a' && (b == b' && c == c')) w := by
  have u3 := Tryz.underlying3
  have a3 := Tryz.isAgg3
  have z3 := Tryz.sizeOf3
  have hS : Tryz.prog.underlying 49 = some (.struct (Tryz.prog.fieldsOf 49)) := by kernel_rfl
  have hp : Tryz.prog.stoodInHeld 49 = false := by kernel_rfl
  rw [run_equalIn_agg w (d + 1) 49 _ _ hS hp]
  simp only [Program.fieldsOf, Tryz.underlying49]
  go_simp
  by_cases h1 : a = a' <;> by_cases h2 : b = b' <;> by_cases h3 : c = c' <;> simp [h1, h2, h3]
set_option maxRecDepth 100000 in
set_option maxHeartbeats 1000000 in
theorem eqP_run (a b a' b' : Int) (d : Nat) (w : World) : (Op.equalIn (d + 1 + 1) 44 (.agg #[.int .i64 a, .int .i64 b]) (.agg #[.int .i64 a', .int .i64 b'])).run Tryz.prog w = .ok (a == a' && b == b') w := by
  have u3 := Tryz.underlying3
  have a3 := Tryz.isAgg3
  have z3 := Tryz.sizeOf3
  have hS : Tryz.prog.underlying 44 = some (.struct (Tryz.prog.fieldsOf 44)) := by kernel_rfl
  have hp : Tryz.prog.stoodInHeld 44 = false := by kernel_rfl
  rw [run_equalIn_agg w (d + 1) 44 _ _ hS hp]
  simp only [Program.fieldsOf, Tryz.underlying44]
  go_simp
  by_cases h1 : a = a' <;> by_cases h2 : b = b' <;> simp [h1, h2]
set_option maxRecDepth 100000 in
set_option maxHeartbeats 1000000 in
theorem eqG_run (x y : GS) (d : Nat) (w : World) : (Op.equalIn (d + 1 + 1 + 1) 51 (.agg (ge x).toArray) (.agg (ge y).toArray)).run Tryz.prog w = .ok (eqG x y) w := by
  have u3 := Tryz.underlying3
  have a3 := Tryz.isAgg3
  have z3 := Tryz.sizeOf3
  have a4 := Tryz.isAgg49
  have z4 := Tryz.sizeOf49
  have hb := eqB_run x.pd x.qt x.us y.pd y.qt y.us d
  have hS : Tryz.prog.underlying 51 = some (.struct (Tryz.prog.fieldsOf 51)) := by kernel_rfl
  have hp : Tryz.prog.stoodInHeld 51 = false := by kernel_rfl
  rw [eqG_and]
  simp only [ge]
  rw [run_equalIn_agg w (d + 1 + 1) 51 _ _ hS hp]
  simp only [Program.fieldsOf, Tryz.underlying51]
  go_simp
  by_cases h1 : x.id = y.id <;> by_cases h2 : x.par = y.par <;> by_cases h3 : x.wt = y.wt <;> simp [h1, h2, h3]
  by_cases h4 : x.pd = y.pd <;> by_cases h5 : x.qt = y.qt <;> by_cases h6 : x.us = y.us <;> simp [h4, h5, h6]
set_option maxRecDepth 100000 in
set_option maxHeartbeats 1000000 in
theorem eqT_run (x y : TS) (d : Nat) (w : World) : (Op.equalIn (d + 1 + 1 + 1) 46 (.agg (te x).toArray) (.agg (te y).toArray)).run Tryz.prog w = .ok (eqT x y) w := by
  have u3 := Tryz.underlying3
  have a3 := Tryz.isAgg3
  have z3 := Tryz.sizeOf3
  have u4 := Tryz.underlying4
  have a4 := Tryz.isAgg4
  have z4 := Tryz.sizeOf4
  have u5 := Tryz.underlying42
  have a5 := Tryz.isAgg42
  have z5 := Tryz.sizeOf42
  have a6 := Tryz.isAgg44
  have z6 := Tryz.sizeOf44
  have hb := eqP_run x.lv x.lr y.lv y.lr d
  have hS : Tryz.prog.underlying 46 = some (.struct (Tryz.prog.fieldsOf 46)) := by kernel_rfl
  have hp : Tryz.prog.stoodInHeld 46 = false := by kernel_rfl
  rw [eqT_and]
  simp only [te]
  rw [run_equalIn_agg w (d + 1 + 1) 46 _ _ hS hp]
  simp only [Program.fieldsOf, Tryz.underlying46]
  go_simp
  by_cases h1 : x.id = y.id <;> by_cases h2 : x.gr = y.gr <;> by_cases h3 : x.wt = y.wt <;> by_cases h4 : x.co = y.co <;> by_cases h5 : x.sl = y.sl <;> by_cases h6 : x.ra = y.ra <;> simp [h1, h2, h3, h4, h5, h6]
  by_cases h7 : x.lv = y.lv <;> by_cases h8 : x.lr = y.lr <;> simp [h7, h8]
theorem neqG_run (x y : GS) (w : World) : (binOp .neq 51 (.agg (ge x).toArray) (.agg (ge y).toArray)).run Tryz.prog w = .ok (.bool (!eqG x y)) w := by
  rw [run_neq_struct]
  have h := eqG_run x y 9997 w
  rw [show 9997 + 1 + 1 + 1 = 10000 from rfl] at h
  rw [h]
  rfl
theorem neqT_run (x y : TS) (w : World) : (binOp .neq 46 (.agg (te x).toArray) (.agg (te y).toArray)).run Tryz.prog w = .ok (.bool (!eqT x y)) w := by
  rw [run_neq_struct]
  have h := eqT_run x y 9997 w
  rw [show 9997 + 1 + 1 + 1 = 10000 from rfl] at h
  rw [h]
  rfl
theorem neqG : NeqAt Tryz.prog 51 (fun x => .agg (ge x).toArray) eqG := ⟨neqG_run, GuardAt.agg _ (by kernel_rfl)⟩
theorem neqT : NeqAt Tryz.prog 46 (fun x => .agg (te x).toArray) eqT := ⟨neqT_run, GuardAt.agg _ (by kernel_rfl)⟩
end Go.Proofs.YtjmaingpiieioaaGreat
