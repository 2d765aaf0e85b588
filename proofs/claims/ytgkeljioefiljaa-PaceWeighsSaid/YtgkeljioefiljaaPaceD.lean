/-
  A struct of two cells that lies in a block of the call's own, kept through calls that make memory; contracts by named answers.
-/
import Derived.Test.YtgkeljioefiljaaPaceAwake
import Derived.Deep.RegionHeld3
namespace Go.Proofs.Ytgkeljioefiljaa
open Go.RowKit

theorem Blk.two {w : World} {g : Nat} {t : TypeId} {a b : Value} (h : Blk w g t #[a, b]) : w.cell? ⟨g, 0, none⟩ = some a ∧ w.cell? ⟨g, 1, none⟩ = some b ∧ g < w.heap.size := ⟨h.cell 0, h.cell 1, h.lt⟩
theorem Blk.kp0 {a w : World} {g : Nat} {t : TypeId} {cs : Array Value} (h : Blk a g t cs) (k : Kp No a w) : Blk w g t cs := h.kp k fun h => h

/-- From a on nothing old has turned, and block g reads as it is said. -/
structure At (a : World) (g : Nat) (t : TypeId) (cs : Array Value) (w : World) : Prop where
  kept : Kp No a w
  blk : Blk w g t cs
section
variable {a w w' : World} {g : Nat} {t : TypeId} {cs : Array Value} {x y : Value}
theorem At.kp (h : At a g t cs w) (k : Kp No w w') : At a g t cs w' := ⟨h.1.trans k, h.2.kp0 k⟩
theorem At.drew (h : At a g t cs w) : At a g t cs w.drew := h.kp (Kp.refl No w).drew
theorem At.all (h : At a g t #[x, y] w) : w.cell? ⟨g, 0, none⟩ = some x ∧ w.cell? ⟨g, 1, none⟩ = some y ∧ At a g t #[x, y] w := ⟨h.2.cell 0, h.2.cell 1, h⟩
theorem At.step (k : Kp No w w') (h : At a g t #[x, y] w) : w'.cell? ⟨g, 0, none⟩ = some x ∧ w'.cell? ⟨g, 1, none⟩ = some y ∧ At a g t #[x, y] w' := (h.kp k).all
theorem At.stepc (k : Kp No w w') (h : w.cell? ⟨g, 0, none⟩ = some x ∧ w.cell? ⟨g, 1, none⟩ = some y ∧ At a g t #[x, y] w) : w'.cell? ⟨g, 0, none⟩ = some x ∧ w'.cell? ⟨g, 1, none⟩ = some y ∧ At a g t #[x, y] w' := (h.2.2.kp k).all
end

theorem run_is {v r x t a b : Int} {w : World} (h : can v r x = true) (ha : v + (1048576 * tk t + r) / wt x = a) (hb : (1048576 * tk t + r) % wt x = b) :
    Calls Try.prog 13 #[.agg #[.int .i64 v, .int .i64 r], .int .i64 x, .int .i64 t] w fun e w' => e = .returned (.agg #[.int .i64 a, .int .i64 b]) ∧ Kp No w w' := by
  subst ha hb
  exact run_any v r x t w h
theorem refrun_is {v r x t a b : Int} {w : World} (h : can v r x = true) (ha : v + (1048576 * tk t + r) / wt x = a) (hb : (1048576 * tk t + r) % wt x = b) :
    Calls Try.prog 14 #[.agg #[.int .i64 v, .int .i64 r], .int .i64 x, .int .i64 t] w fun e w' => e = .returned (.agg #[.int .i64 a, .int .i64 b]) ∧ Kp No w w' := by
  subst ha hb
  exact refrun_any v r x t w h
theorem reweigh_is {v r a b d : Int} {w : World} (h0 : 0 ≤ r) (h1 : r < wt a) (hd : r * wt b / wt a = d) :
    Calls Try.prog 15 #[.agg #[.int .i64 v, .int .i64 r], .int .i64 a, .int .i64 b] w fun e w' => e = .returned (.agg #[.int .i64 v, .int .i64 d]) ∧ Kp No w w' := by
  subst hd
  exact reweigh_any v r a b w h0 h1
theorem refreweigh_is {v r a b d : Int} {w : World} (h0 : 0 ≤ r) (h1 : r < wt a) (hd : r * wt b / wt a = d) :
    Calls Try.prog 16 #[.agg #[.int .i64 v, .int .i64 r], .int .i64 a, .int .i64 b] w fun e w' => e = .returned (.agg #[.int .i64 v, .int .i64 d]) ∧ Kp No w w' := by
  subst hd
  exact refreweigh_any v r a b w h0 h1
theorem right_is {v r x : Int} {q : Bool} {w : World} (h : can v r x = q) : Calls Try.prog 12 #[.agg #[.int .i64 v, .int .i64 r], .int .i64 x] w fun e w' => e = .returned (.bool q) ∧ Kp No w w' := by
  subst h
  exact right_any v r x w
theorem done_is {v r x n : Int} {w : World} (h0 : 0 ≤ n) (h1 : n ≤ 1099511627776) (h2 : 0 ≤ r) (h3 : r ≤ 1048576) (h : wt x * v + r = 1048576 * n) (hv : 0 ≤ v) :
    Calls Try.prog 19 #[.agg #[.int .i64 v, .int .i64 r], .int .i64 x] w fun e w' => e = .returned (.int .i64 n) ∧ Kp No w w' := by
  have hp : 0 ≤ wt x * v := Int.mul_nonneg (by have := wt_bd x; omega) hv
  have := done_any v r x (wt x * v) w rfl hp (by omega) h2 h3
  rwa [h, Int.mul_ediv_cancel_left _ (by decide)] at this
end Go.Proofs.Ytgkeljioefiljaa
