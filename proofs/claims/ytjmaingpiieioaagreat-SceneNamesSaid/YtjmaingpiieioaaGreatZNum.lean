/-
  Contracts of numbered, wrongGroup, wrongTask.
-/
import Derived.Test.YtjmaingpiieioaaGreatZMod
import Derived.Test.YtjmaingpiieioaaGreatZPace
import Derived.Test.YtjmaingpiieioaaGreatBandD
namespace Go.Proofs.YtjmaingpiieioaaGreat
open Go.RowKit

def numB (id wt : Int) : Bool := decide (1 ≤ id) && decide (id ≤ 1048576) && decide (1 ≤ wt) && decide (wt ≤ 1048576)
def wrongG (g : GS) : Bool := !(numB g.id g.wt) || !(decide (Rb g.pd g.qt g.us))
def wrongT (t : TS) : Bool := !(numB t.id t.wt) || t.co == 0 || decide (t.ra < 0) || decide (1099511627776 < t.ra) || !(pcan t.lv t.lr t.wt)
/-- The cells of a group, of a task. -/
def ge (g : GS) : List Value := [.int .i64 g.id, .int .i64 g.par, .int .i64 g.wt, .int .i64 g.pd, .int .i64 g.qt, .int .i64 g.us]
def te (t : TS) : List Value := [.int .i64 t.id, .int .i64 t.gr, .int .i64 t.wt, .int .u64 t.co, .bool t.sl, .int .i64 t.ra, .int .i64 t.lv, .int .i64 t.lr]
def gc (g : GS) (i : Nat) : Value := (ge g).getD i (.int .i64 0)
def tc (t : TS) (i : Nat) : Value := (te t).getD i (.int .i64 0)
theorem num_any (id wt : Int) (w : World) : Calls Tryz.prog 49 #[.int .i64 id, .int .i64 wt] w fun e w' => e = .returned (.bool (numB id wt)) ∧ w' = w := by
  have hc : numB id wt = (decide (1 ≤ id) && decide (id ≤ 1048576) && decide (1 ≤ wt) && decide (wt ≤ 1048576)) := rfl
  by_cases h1 : 1 ≤ id
  · by_cases h2 : id ≤ 1048576
    · by_cases h3 : 1 ≤ wt
      · by_cases h4 : wt ≤ 1048576
        · have H := hid (show numB id wt = true by rw [hc]; simp [h1, h2, h3, h4])
          clear hc
          go_enter Tryz.func49, Tryz.ntmps49
          go_wp2_with fail
          go_ret
          rw [H.out]
          exact ⟨by first | rfl | (simp only [*]; rfl), rfl⟩
        · have H := hid (show numB id wt = false by rw [hc]; simp [h1, h2, h3, h4])
          have hd := decide_eq_false h4
          clear hc
          go_enter Tryz.func49, Tryz.ntmps49
          go_wp2_with fail
          go_ret
          rw [H.out]
          exact ⟨by first | rfl | (simp only [*]; rfl), rfl⟩
      · have H := hid (show numB id wt = false by rw [hc]; simp [h1, h2, h3])
        have hd := decide_eq_false h3
        clear hc
        go_enter Tryz.func49, Tryz.ntmps49
        go_wp2_with fail
        go_ret
        rw [H.out]
        exact ⟨by first | rfl | (simp only [*]; rfl), rfl⟩
    · have H := hid (show numB id wt = false by rw [hc]; simp [h1, h2])
      have hd := decide_eq_false h2
      clear hc
      go_enter Tryz.func49, Tryz.ntmps49
      go_wp2_with fail
      go_ret
      rw [H.out]
      exact ⟨by first | rfl | (simp only [*]; rfl), rfl⟩
  · have H := hid (show numB id wt = false by rw [hc]; simp [h1])
    have hd := decide_eq_false h1
    clear hc
    go_enter Tryz.func49, Tryz.ntmps49
    go_wp2_with fail
    go_ret
    rw [H.out]
    exact ⟨by first | rfl | (simp only [*]; rfl), rfl⟩
theorem num_is {id wt : Int} {b : Bool} (h : numB id wt = b) (w : World) : Calls Tryz.prog 49 #[.int .i64 id, .int .i64 wt] w fun e w' => e = .returned (.bool b) ∧ w' = w := by
  rw [← h]
  exact num_any id wt w
theorem bright_is {x y z : Int} {b : Bool} (h : decide (Rb x y z) = b) (w : World) : Calls Tryz.prog 50 #[.agg #[.int .i64 x, .int .i64 y, .int .i64 z]] w fun e w' => e = .returned (.bool b) ∧ Kp No w w' := by
  rw [← h]
  exact right_any x y z w
theorem pright_is {v r x : Int} {b : Bool} (h : pcan v r x = b) (w : World) : Calls Tryz.prog 52 #[.agg #[.int .i64 v, .int .i64 r], .int .i64 x] w fun e w' => e = .returned (.bool b) ∧ Kp No w w' := by
  rw [← h]
  exact pright_any v r x w
set_option maxRecDepth 100000 in
theorem wrongG_any (g : GS) (w : World) : Calls Tryz.prog 28 #[.agg (ge g).toArray] w fun e w' => e = .returned (.bool (wrongG g)) ∧ Kp No w w' := by
  obtain ⟨id, par, wt, pd, qt, us⟩ := g
  unfold ge wrongG
  simp only
  obtain ⟨a, ha⟩ : ∃ a, numB id wt = a := ⟨_, rfl⟩
  obtain ⟨b, hb⟩ : ∃ b, decide (Rb pd qt us) = b := ⟨_, rfl⟩
  rw [ha, hb]
  have HA := hid ha
  have HB := hid hb
  clear ha hb
  have K0 := hid ((Kp.refl No w).alloc (.cells #[.int .i64 id, .int .i64 par, .int .i64 wt, .int .i64 pd, .int .i64 qt, .int .i64 us] 51))
  cases a <;> cases b
  all_goals (
    go_enter Tryz.func28, Tryz.ntmps28
    go_wp2_with (first
      | (go_at_call 49
         refine (num_is HA.out _).mono ?_
         rintro e w1 ⟨rfl, rfl⟩)
      | (go_at_call 50
         refine (bright_is HB.out _).mono ?_
         rintro e w2 ⟨rfl, k2⟩
         have K2 := hid (K0.out.trans k2)
         clear k2))
    go_ret
    first
    | exact ⟨rfl, K2.out⟩
    | exact ⟨rfl, K0.out⟩)
set_option maxRecDepth 100000 in
theorem wrongT_any (t : TS) (w : World) : Calls Tryz.prog 30 #[.agg (te t).toArray] w fun e w' => e = .returned (.bool (wrongT t)) ∧ Kp No w w' := by
  obtain ⟨id, gr, wt, co, sl, ra, lv, lr⟩ := t
  unfold te wrongT
  simp only
  obtain ⟨a, ha⟩ : ∃ a, numB id wt = a := ⟨_, rfl⟩
  obtain ⟨b, hb⟩ : ∃ b, pcan lv lr wt = b := ⟨_, rfl⟩
  obtain ⟨c, hc⟩ : ∃ c, (co == 0) = c := ⟨_, rfl⟩
  rw [ha, hb, hc]
  have HA := hid ha
  have HB := hid hb
  clear ha hb
  have K0 := hid ((Kp.refl No w).alloc (.cells #[.int .i64 id, .int .i64 gr, .int .i64 wt, .int .u64 co, .bool sl, .int .i64 ra, .int .i64 lv, .int .i64 lr] 46))
  cases a <;> cases c
  all_goals (
    by_cases h1 : ra < 0
    · have d1 := decide_eq_true h1
      go_enter Tryz.func30, Tryz.ntmps30
      go_wp2_with (first
        | (go_at_call 49
           refine (num_is HA.out _).mono ?_
           rintro e w1 ⟨rfl, rfl⟩))
      go_ret
      exact ⟨by simp_all, K0.out⟩
    · by_cases h2 : 1099511627776 < ra
      · have d1 := decide_eq_false h1
        have d2 := decide_eq_true h2
        go_enter Tryz.func30, Tryz.ntmps30
        go_wp2_with (first
          | (go_at_call 49
             refine (num_is HA.out _).mono ?_
             rintro e w1 ⟨rfl, rfl⟩))
        go_ret
        exact ⟨by simp_all, K0.out⟩
      · have d1 := decide_eq_false h1
        have d2 := decide_eq_false h2
        cases b
        all_goals (
          go_enter Tryz.func30, Tryz.ntmps30
          go_wp2_with (first
            | (go_at_call 49
               refine (num_is HA.out _).mono ?_
               rintro e w1 ⟨rfl, rfl⟩)
            | (go_at_call 52
               refine (pright_is HB.out _).mono ?_
               rintro e w2 ⟨rfl, k2⟩
               have K2 := hid (K0.out.trans k2)
               clear k2))
          go_ret
          first
          | exact ⟨by simp_all, K2.out⟩
          | exact ⟨by simp_all, K0.out⟩))
end Go.Proofs.YtjmaingpiieioaaGreat
