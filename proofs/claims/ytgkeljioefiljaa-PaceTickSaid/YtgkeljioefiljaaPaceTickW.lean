/-
  The walk of PaceTick.
-/
import Derived.Test.YtgkeljioefiljaaPaceOne
namespace Go.Proofs.Ytgkeljioefiljaa
open Go.RowKit

theorem one_is {v r x a b : Int} {w : World} (h : can v r x = true) (ha : v + (1048576 + r) / wt x = a) (hb : (1048576 + r) % wt x = b) :
    Calls Try.prog 17 #[.agg #[.int .i64 v, .int .i64 r], .int .i64 x] w fun e w' => e = .returned (.agg #[.int .i64 a, .int .i64 b]) ∧ Kp No w w' := by
  subst ha hb
  exact one_any v r x w h
theorem weight_is {x y : Int} {w : World} (h : wt x = y) : Calls Try.prog 18 #[.int .i64 x] w fun e w' => e = .returned (.int .i64 y) ∧ w' = w := by
  subst h
  exact weight_any x w

theorem weight_is0 {x y : Int} {w : World} (h : wt x = y) : Calls Try.prog 18 #[.int .i64 x] w fun e w' => e = .returned (.int .i64 y) ∧ Kp No w w' := by
  subst h
  exact (weight_any x w).mono fun e w' ⟨he, hw⟩ => ⟨he, hw ▸ Kp.refl No w⟩

/-- Two structs of two cells, kept. -/
structure At2 (a : World) (t : TypeId) (g p : Nat) (x y x' y' : Value) (w : World) : Prop where
  kept : Kp No a w
  one : Blk w g t #[x, y]
  two : Blk w p t #[x', y']
section
variable {a w w' : World} {t : TypeId} {g p : Nat} {x y x' y' : Value}
theorem At2.kp (h : At2 a t g p x y x' y' w) (k : Kp No w w') : At2 a t g p x y x' y' w' := ⟨h.kept.trans k, h.one.kp0 k, h.two.kp0 k⟩
theorem At2.all (h : At2 a t g p x y x' y' w) : w.cell? ⟨g, 0, none⟩ = some x ∧ w.cell? ⟨g, 1, none⟩ = some y ∧ w.cell? ⟨p, 0, none⟩ = some x' ∧ w.cell? ⟨p, 1, none⟩ = some y' ∧ At2 a t g p x y x' y' w := ⟨h.one.cell 0, h.one.cell 1, h.two.cell 0, h.two.cell 1, h⟩
theorem At2.stepc (k : Kp No w w') (h : w.cell? ⟨g, 0, none⟩ = some x ∧ w.cell? ⟨g, 1, none⟩ = some y ∧ w.cell? ⟨p, 0, none⟩ = some x' ∧ w.cell? ⟨p, 1, none⟩ = some y' ∧ At2 a t g p x y x' y' w) :
    w'.cell? ⟨g, 0, none⟩ = some x ∧ w'.cell? ⟨g, 1, none⟩ = some y ∧ w'.cell? ⟨p, 0, none⟩ = some x' ∧ w'.cell? ⟨p, 1, none⟩ = some y' ∧ At2 a t g p x y x' y' w' := (h.2.2.2.2.kp k).all
end

theorem paceTick_walk (w : World) (v r x : Int) (_ : I64 v) (_ : I64 r) (_ : I64 x) :
    Calls Try.prog 4 #[.agg #[.int .i64 v, .int .i64 r], .int .i64 x] w fun e w' => e = .returned (.bool true) ∧ Kp No w w' := by
  go_enter Try.func4, Try.ntmps4
  go_wp2_with fail
  refine (awake_any _).mono ?_
  rintro e w1 ⟨rfl, k1⟩
  have B1 := hid ((Blk.new w _ _).kp0 k1)
  have K1 := hid (((Kp.refl No w).alloc _).trans k1)
  obtain ⟨c0, c1, lt⟩ := B1.out.two
  clear k1
  go_wp2_with fail
  refine (refright_any v r x _).mono ?_
  rintro e w2 ⟨rfl, k2⟩
  have B2 := hid (B1.out.kp0 k2)
  have K2 := hid (K1.out.trans k2)
  clear c0 c1 lt B1 K1 k2
  obtain ⟨c0, c1, lt⟩ := B2.out.two
  cases hc : can v r x
  · go_wp2_with fail
    go_ret
    exact ⟨rfl, K2.out⟩
  · by_cases hx : x < 1024
    · go_wp2_with fail
      go_ret
      exact ⟨rfl, K2.out⟩
    · have hx' := decide_eq_false hx
      obtain ⟨hb1, hb2⟩ := wt_bd x
      obtain ⟨W, hW⟩ : ∃ W, wt x = W := ⟨_, rfl⟩
      obtain ⟨a, ha⟩ : ∃ a, v + (1048576 + r) / wt x = a := ⟨_, rfl⟩
      obtain ⟨b, hb⟩ : ∃ b, (1048576 + r) % wt x = b := ⟨_, rfl⟩
      have b0 : 0 ≤ b := by rw [← hb]; exact Int.emod_nonneg _ (by omega)
      have b1 : b < W := by rw [← hb, ← hW]; exact Int.emod_lt_of_pos _ (by omega)
      have C := hid hc
      have HW := hid hW
      have HA := hid ha
      have HB := hid hb
      have HT := hid (show 1048576 * tk 1 + r = 1048576 + r by rw [show tk 1 = 1 by decide]; omega)
      clear hc hx hb1 hb2 hW ha hb
      go_wp2_with fail
      refine (run_is (a := a) (b := b) C.out (by rw [HT.out]; exact HA.out) (by rw [HT.out]; exact HB.out)).mono ?_
      rintro e w3 ⟨rfl, k3⟩
      have A3 : At2 w 23 w.heap.size w3.heap.size (.int .i64 v) (.int .i64 r) (.int .i64 a) (.int .i64 b) (w3.alloc (.cells #[.int .i64 a, .int .i64 b] 23)) :=
        ⟨(K2.out.trans k3).alloc _, (B2.out.kp0 k3).kp0 ((Kp.refl No w3).alloc _), Blk.new _ _ _⟩
      have A5 := A3.kp ((Kp.refl No _).drew)
      clear c0 c1 lt B2 K2 k3 A3
      have s0 : (a == a) = true := by simp
      have s1 : (b == b) = true := by simp
      go_wp2_with fail
      go_region_held3 (fun w' => w'.cell? ⟨w.heap.size, 0, none⟩ = some (.int .i64 v) ∧ w'.cell? ⟨w.heap.size, 1, none⟩ = some (.int .i64 r) ∧ w'.cell? ⟨w3.heap.size, 0, none⟩ = some (.int .i64 a) ∧ w'.cell? ⟨w3.heap.size, 1, none⟩ = some (.int .i64 b) ∧
          At2 w 23 w.heap.size w3.heap.size (.int .i64 v) (.int .i64 r) (.int .i64 a) (.int .i64 b) w')
        (first | exact A5.all | exact At2.stepc (by assumption) (by assumption))
        (first
          | (go_at_call 17; refine (one_is C.out HA.out HB.out).mono ?_; rintro e w5 ⟨rfl, k5⟩)
          | (go_at_call 18; refine (weight_is0 HW.out).mono ?_; rintro e w5 ⟨rfl, k5⟩))
      go_wp2_with fail
      go_ret
      rename_i hh
      exact ⟨rfl, hh.2.2.2.2.kept⟩
end Go.Proofs.Ytgkeljioefiljaa
