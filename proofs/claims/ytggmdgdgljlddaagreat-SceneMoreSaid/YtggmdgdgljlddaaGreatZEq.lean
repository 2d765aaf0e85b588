/-
  ZNum ZEq: texts laid into one.
-/
import Derived.Test.YtggmdgdgljlddaaGreatZMod
import Derived.Test.YtggmdgdgljlddaaGreatZPace
import Derived.Test.YtggmdgdgljlddaaGreatBandD
import Derived.Laws.StructEq
import Derived.Shelf.SlicesQ.Equal

/-
  Contracts of numbered, wrongGroup, wrongTask.
-/
namespace Go.Proofs.YtggmdgdgljlddaaGreat
open Go.RowKit

def numB (id wt : Int) : Bool := decide (1 ≤ id) && decide (id ≤ 1048576) && decide (1 ≤ wt) && decide (wt ≤ 1048576)
def wrongG (g : GS) : Bool := !(numB g.id g.wt) || !(decide (Rb g.pd g.qt g.us))
def wrongT (t : TS) : Bool := !(numB t.id t.wt) || t.co == 0 || decide (t.ra < 0) || decide (1099511627776 < t.ra) || !(pcan t.lv t.lr t.wt)
/-- The cells of a group, of a task. -/
def ge (g : GS) : List Value := [.int .i64 g.id, .int .i64 g.par, .int .i64 g.wt, .int .i64 g.pd, .int .i64 g.qt, .int .i64 g.us]
def te (t : TS) : List Value := [.int .i64 t.id, .int .i64 t.gr, .int .i64 t.wt, .int .u64 t.co, .bool t.sl, .int .i64 t.ra, .int .i64 t.lv, .int .i64 t.lr]
def gc (g : GS) (i : Nat) : Value := (ge g).getD i (.int .i64 0)
def tc (t : TS) (i : Nat) : Value := (te t).getD i (.int .i64 0)
theorem num_any (id wt : Int) (w : World) : Calls Tryz.prog 25 #[.int .i64 id, .int .i64 wt] w fun e w' => e = .returned (.bool (numB id wt)) ∧ w' = w := by
  have hc : numB id wt = (decide (1 ≤ id) && decide (id ≤ 1048576) && decide (1 ≤ wt) && decide (wt ≤ 1048576)) := rfl
  by_cases h1 : 1 ≤ id
  · by_cases h2 : id ≤ 1048576
    · by_cases h3 : 1 ≤ wt
      · by_cases h4 : wt ≤ 1048576
        · have H := hid (show numB id wt = true by rw [hc]; simp [h1, h2, h3, h4])
          clear hc
          go_enter Tryz.func25, Tryz.ntmps25
          go_wp2_with fail
          go_ret
          rw [H.out]
          exact ⟨by first | rfl | (simp only [*]; rfl), rfl⟩
        · have H := hid (show numB id wt = false by rw [hc]; simp [h1, h2, h3, h4])
          have hd := decide_eq_false h4
          clear hc
          go_enter Tryz.func25, Tryz.ntmps25
          go_wp2_with fail
          go_ret
          rw [H.out]
          exact ⟨by first | rfl | (simp only [*]; rfl), rfl⟩
      · have H := hid (show numB id wt = false by rw [hc]; simp [h1, h2, h3])
        have hd := decide_eq_false h3
        clear hc
        go_enter Tryz.func25, Tryz.ntmps25
        go_wp2_with fail
        go_ret
        rw [H.out]
        exact ⟨by first | rfl | (simp only [*]; rfl), rfl⟩
    · have H := hid (show numB id wt = false by rw [hc]; simp [h1, h2])
      have hd := decide_eq_false h2
      clear hc
      go_enter Tryz.func25, Tryz.ntmps25
      go_wp2_with fail
      go_ret
      rw [H.out]
      exact ⟨by first | rfl | (simp only [*]; rfl), rfl⟩
  · have H := hid (show numB id wt = false by rw [hc]; simp [h1])
    have hd := decide_eq_false h1
    clear hc
    go_enter Tryz.func25, Tryz.ntmps25
    go_wp2_with fail
    go_ret
    rw [H.out]
    exact ⟨by first | rfl | (simp only [*]; rfl), rfl⟩
theorem num_is {id wt : Int} {b : Bool} (h : numB id wt = b) (w : World) : Calls Tryz.prog 25 #[.int .i64 id, .int .i64 wt] w fun e w' => e = .returned (.bool b) ∧ w' = w := by
  rw [← h]
  exact num_any id wt w
theorem bright_is {x y z : Int} {b : Bool} (h : decide (Rb x y z) = b) (w : World) : Calls Tryz.prog 26 #[.agg #[.int .i64 x, .int .i64 y, .int .i64 z]] w fun e w' => e = .returned (.bool b) ∧ Kp No w w' := by
  rw [← h]
  exact right_any x y z w
theorem pright_is {v r x : Int} {b : Bool} (h : pcan v r x = b) (w : World) : Calls Tryz.prog 28 #[.agg #[.int .i64 v, .int .i64 r], .int .i64 x] w fun e w' => e = .returned (.bool b) ∧ Kp No w w' := by
  rw [← h]
  exact pright_any v r x w
set_option maxRecDepth 100000 in
theorem wrongG_any (g : GS) (w : World) : Calls Tryz.prog 11 #[.agg (ge g).toArray] w fun e w' => e = .returned (.bool (wrongG g)) ∧ Kp No w w' := by
  obtain ⟨id, par, wt, pd, qt, us⟩ := g
  unfold ge wrongG
  simp only
  obtain ⟨a, ha⟩ : ∃ a, numB id wt = a := ⟨_, rfl⟩
  obtain ⟨b, hb⟩ : ∃ b, decide (Rb pd qt us) = b := ⟨_, rfl⟩
  rw [ha, hb]
  have HA := hid ha
  have HB := hid hb
  clear ha hb
  have K0 := hid ((Kp.refl No w).alloc (.cells #[.int .i64 id, .int .i64 par, .int .i64 wt, .int .i64 pd, .int .i64 qt, .int .i64 us] 37))
  cases a <;> cases b
  all_goals (
    go_enter Tryz.func11, Tryz.ntmps11
    go_wp2_with (first
      | (go_at_call 25
         refine (num_is HA.out _).mono ?_
         rintro e w1 ⟨rfl, rfl⟩)
      | (go_at_call 26
         refine (bright_is HB.out _).mono ?_
         rintro e w2 ⟨rfl, k2⟩
         have K2 := hid (K0.out.trans k2)
         clear k2))
    go_ret
    first
    | exact ⟨rfl, K2.out⟩
    | exact ⟨rfl, K0.out⟩)
set_option maxRecDepth 100000 in
theorem wrongT_any (t : TS) (w : World) : Calls Tryz.prog 13 #[.agg (te t).toArray] w fun e w' => e = .returned (.bool (wrongT t)) ∧ Kp No w w' := by
  obtain ⟨id, gr, wt, co, sl, ra, lv, lr⟩ := t
  unfold te wrongT
  simp only
  obtain ⟨a, ha⟩ : ∃ a, numB id wt = a := ⟨_, rfl⟩
  obtain ⟨b, hb⟩ : ∃ b, pcan lv lr wt = b := ⟨_, rfl⟩
  obtain ⟨c, hc⟩ : ∃ c, (co == 0) = c := ⟨_, rfl⟩
  rw [ha, hb, hc]
  have HA := hid ha
  have HB := hid hb
  clear ha hb
  have K0 := hid ((Kp.refl No w).alloc (.cells #[.int .i64 id, .int .i64 gr, .int .i64 wt, .int .u64 co, .bool sl, .int .i64 ra, .int .i64 lv, .int .i64 lr] 41))
  cases a <;> cases c
  all_goals (
    by_cases h1 : ra < 0
    · have d1 := decide_eq_true h1
      go_enter Tryz.func13, Tryz.ntmps13
      go_wp2_with (first
        | (go_at_call 25
           refine (num_is HA.out _).mono ?_
           rintro e w1 ⟨rfl, rfl⟩))
      go_ret
      exact ⟨by simp_all, K0.out⟩
    · by_cases h2 : 1099511627776 < ra
      · have d1 := decide_eq_false h1
        have d2 := decide_eq_true h2
        go_enter Tryz.func13, Tryz.ntmps13
        go_wp2_with (first
          | (go_at_call 25
             refine (num_is HA.out _).mono ?_
             rintro e w1 ⟨rfl, rfl⟩))
        go_ret
        exact ⟨by simp_all, K0.out⟩
      · have d1 := decide_eq_false h1
        have d2 := decide_eq_false h2
        cases b
        all_goals (
          go_enter Tryz.func13, Tryz.ntmps13
          go_wp2_with (first
            | (go_at_call 25
               refine (num_is HA.out _).mono ?_
               rintro e w1 ⟨rfl, rfl⟩)
            | (go_at_call 28
               refine (pright_is HB.out _).mono ?_
               rintro e w2 ⟨rfl, k2⟩
               have K2 := hid (K0.out.trans k2)
               clear k2))
          go_ret
          first
          | exact ⟨by simp_all, K2.out⟩
          | exact ⟨by simp_all, K0.out⟩))
end Go.Proofs.YtggmdgdgljlddaaGreat

/-
  Groups and tasks of a scene compared with '=='.
-/
namespace Go.Proofs.YtggmdgdgljlddaaGreat
open Go.RowKit Go.Shelf

theorem ge_len (g : GS) : (ge g).length = 6 := rfl
theorem te_len (t : TS) : (te t).length = 8 := rfl
theorem ge_one (g : GS) : ∀ v ∈ ge g, v.oneCell' = true := by
  intro v hv
  simp only [ge, List.mem_cons, List.not_mem_nil, or_false] at hv
  rcases hv with rfl | rfl | rfl | rfl | rfl | rfl <;> rfl
theorem te_one (t : TS) : ∀ v ∈ te t, v.oneCell' = true := by
  intro v hv
  simp only [te, List.mem_cons, List.not_mem_nil, or_false] at hv
  rcases hv with rfl | rfl | rfl | rfl | rfl | rfl | rfl | rfl <;> rfl
def eqG (x y : GS) : Bool := decide (x = y)
def eqT (x y : TS) : Bool := decide (x = y)
theorem eqG_and (x y : GS) : eqG x y = (x.id == y.id && (x.par == y.par && (x.wt == y.wt && (x.pd == y.pd && (x.qt == y.qt && x.us == y.us))))) := by
  rw [Bool.eq_iff_iff]
  simp only [eqG, decide_eq_true_eq, Bool.and_eq_true, beq_iff_eq]
  constructor
  · rintro rfl
    exact ⟨rfl, rfl, rfl, rfl, rfl, rfl⟩
  · exact GS.ext'
theorem eqT_and (x y : TS) : eqT x y = (x.id == y.id && (x.gr == y.gr && (x.wt == y.wt && (x.co == y.co && (x.sl == y.sl && (x.ra == y.ra && (x.lv == y.lv && x.lr == y.lr))))))) := by
  rw [Bool.eq_iff_iff]
  simp only [eqT, decide_eq_true_eq, Bool.and_eq_true, beq_iff_eq]
  constructor
  · rintro rfl
    exact ⟨rfl, rfl, rfl, rfl, rfl, rfl, rfl, rfl⟩
  · exact TS.ext'
set_option maxRecDepth 100000 in
set_option maxHeartbeats 1000000 in
theorem eqB_run (a b c a' b' c' : Int) (d : Nat) (w : World) : (Op.equalIn (d + 1 + 1) 35 (.agg #[.int .i64 a, .int .i64 b, .int .i64 c]) (.agg #[.int .i64 a', .int .i64 b', .int .i64 c'])).run Tryz.prog w = .ok (a == a' && (b == b' && c == c')) w := by
  have u3 := Tryz.underlying3
  have a3 := Tryz.isAgg3
  have z3 := Tryz.sizeOf3
  have hS : Tryz.prog.underlying 35 = some (.struct (Tryz.prog.fieldsOf 35)) := by kernel_rfl
  have hp : Tryz.prog.stoodInHeld 35 = false := by kernel_rfl
  rw [run_equalIn_agg w (d + 1) 35 _ _ hS hp]
  simp only [Program.fieldsOf, Tryz.underlying35]
  go_simp
  by_cases h1 : a = a' <;> by_cases h2 : b = b' <;> by_cases h3 : c = c' <;> simp [h1, h2, h3]
set_option maxRecDepth 100000 in
set_option maxHeartbeats 1000000 in
theorem eqP_run (a b a' b' : Int) (d : Nat) (w : World) : (Op.equalIn (d + 1 + 1) 39 (.agg #[.int .i64 a, .int .i64 b]) (.agg #[.int .i64 a', .int .i64 b'])).run Tryz.prog w = .ok (a == a' && b == b') w := by
  have u3 := Tryz.underlying3
  have a3 := Tryz.isAgg3
  have z3 := Tryz.sizeOf3
  have hS : Tryz.prog.underlying 39 = some (.struct (Tryz.prog.fieldsOf 39)) := by kernel_rfl
  have hp : Tryz.prog.stoodInHeld 39 = false := by kernel_rfl
  rw [run_equalIn_agg w (d + 1) 39 _ _ hS hp]
  simp only [Program.fieldsOf, Tryz.underlying39]
  go_simp
  by_cases h1 : a = a' <;> by_cases h2 : b = b' <;> simp [h1, h2]
set_option maxRecDepth 100000 in
set_option maxHeartbeats 1000000 in
theorem eqG_run (x y : GS) (d : Nat) (w : World) : (Op.equalIn (d + 1 + 1 + 1) 37 (.agg (ge x).toArray) (.agg (ge y).toArray)).run Tryz.prog w = .ok (eqG x y) w := by
  have u3 := Tryz.underlying3
  have a3 := Tryz.isAgg3
  have z3 := Tryz.sizeOf3
  have a4 := Tryz.isAgg35
  have z4 := Tryz.sizeOf35
  have hb := eqB_run x.pd x.qt x.us y.pd y.qt y.us d
  have hS : Tryz.prog.underlying 37 = some (.struct (Tryz.prog.fieldsOf 37)) := by kernel_rfl
  have hp : Tryz.prog.stoodInHeld 37 = false := by kernel_rfl
  rw [eqG_and]
  simp only [ge]
  rw [run_equalIn_agg w (d + 1 + 1) 37 _ _ hS hp]
  simp only [Program.fieldsOf, Tryz.underlying37]
  go_simp
  by_cases h1 : x.id = y.id <;> by_cases h2 : x.par = y.par <;> by_cases h3 : x.wt = y.wt <;> simp [h1, h2, h3]
  by_cases h4 : x.pd = y.pd <;> by_cases h5 : x.qt = y.qt <;> by_cases h6 : x.us = y.us <;> simp [h4, h5, h6]
set_option maxRecDepth 100000 in
set_option maxHeartbeats 1000000 in
theorem eqT_run (x y : TS) (d : Nat) (w : World) : (Op.equalIn (d + 1 + 1 + 1) 41 (.agg (te x).toArray) (.agg (te y).toArray)).run Tryz.prog w = .ok (eqT x y) w := by
  have u3 := Tryz.underlying3
  have a3 := Tryz.isAgg3
  have z3 := Tryz.sizeOf3
  have u4 := Tryz.underlying4
  have a4 := Tryz.isAgg4
  have z4 := Tryz.sizeOf4
  have u5 := Tryz.underlying27
  have a5 := Tryz.isAgg27
  have z5 := Tryz.sizeOf27
  have a6 := Tryz.isAgg39
  have z6 := Tryz.sizeOf39
  have hb := eqP_run x.lv x.lr y.lv y.lr d
  have hS : Tryz.prog.underlying 41 = some (.struct (Tryz.prog.fieldsOf 41)) := by kernel_rfl
  have hp : Tryz.prog.stoodInHeld 41 = false := by kernel_rfl
  rw [eqT_and]
  simp only [te]
  rw [run_equalIn_agg w (d + 1 + 1) 41 _ _ hS hp]
  simp only [Program.fieldsOf, Tryz.underlying41]
  go_simp
  by_cases h1 : x.id = y.id <;> by_cases h2 : x.gr = y.gr <;> by_cases h3 : x.wt = y.wt <;> by_cases h4 : x.co = y.co <;> by_cases h5 : x.sl = y.sl <;> by_cases h6 : x.ra = y.ra <;> simp [h1, h2, h3, h4, h5, h6]
  by_cases h7 : x.lv = y.lv <;> by_cases h8 : x.lr = y.lr <;> simp [h7, h8]
theorem neqG_run (x y : GS) (w : World) : (binOp .neq 37 (.agg (ge x).toArray) (.agg (ge y).toArray)).run Tryz.prog w = .ok (.bool (!eqG x y)) w := by
  rw [run_neq_struct]
  have h := eqG_run x y 9997 w
  rw [show 9997 + 1 + 1 + 1 = 10000 from rfl] at h
  rw [h]
  rfl
theorem neqT_run (x y : TS) (w : World) : (binOp .neq 41 (.agg (te x).toArray) (.agg (te y).toArray)).run Tryz.prog w = .ok (.bool (!eqT x y)) w := by
  rw [run_neq_struct]
  have h := eqT_run x y 9997 w
  rw [show 9997 + 1 + 1 + 1 = 10000 from rfl] at h
  rw [h]
  rfl
theorem neqG : NeqAt Tryz.prog 37 (fun x => .agg (ge x).toArray) eqG := ⟨neqG_run, GuardAt.agg _ (by kernel_rfl)⟩
theorem neqT : NeqAt Tryz.prog 41 (fun x => .agg (te x).toArray) eqT := ⟨neqT_run, GuardAt.agg _ (by kernel_rfl)⟩
end Go.Proofs.YtggmdgdgljlddaaGreat
