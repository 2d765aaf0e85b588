/-
  The walk of PaceWeighs.
-/
import Derived.Test.YtgkeljioefiljaaPaceD
namespace Go.Proofs.Ytgkeljioefiljaa
open Go.RowKit

theorem rew_lt {r a b : Int} (h0 : 0 ≤ r) (h1 : r < wt a) : 0 ≤ r * wt b / wt a ∧ r * wt b / wt a < wt b := by
  obtain ⟨ha1, ha2⟩ := wt_bd a
  obtain ⟨hb1, hb2⟩ := wt_bd b
  refine ⟨Int.ediv_nonneg (Int.mul_nonneg h0 (by omega)) (by omega), Int.ediv_lt_of_lt_mul (by omega) ?_⟩
  rw [Int.mul_comm (wt b)]
  exact Int.mul_lt_mul_of_pos_right h1 (by omega)
theorem rew_same {r a : Int} : r * wt a / wt a = r := by
  have ha := wt_bd a
  exact Int.mul_ediv_cancel _ (by omega)
theorem rew_back {r a b : Int} : r * wt b / wt a * wt a / wt b ≤ r := by
  obtain ⟨ha1, ha2⟩ := wt_bd a
  obtain ⟨hb1, hb2⟩ := wt_bd b
  have h := Int.ediv_mul_le (r * wt b) (b := wt a) (by omega)
  have h2 := Int.ediv_le_ediv (c := wt b) (by omega) h
  rwa [Int.mul_ediv_cancel _ (by omega)] at h2

/-- Three structs of two cells, kept. -/
structure At3 (a : World) (t : TypeId) (g p q : Nat) (x y x' y' x'' y'' : Value) (w : World) : Prop where
  kept : Kp No a w
  one : Blk w g t #[x, y]
  two : Blk w p t #[x', y']
  three : Blk w q t #[x'', y'']
section
variable {a w w' : World} {t : TypeId} {g p q : Nat} {x y x' y' x'' y'' : Value}
theorem At3.kp (h : At3 a t g p q x y x' y' x'' y'' w) (k : Kp No w w') : At3 a t g p q x y x' y' x'' y'' w' := ⟨h.kept.trans k, h.one.kp0 k, h.two.kp0 k, h.three.kp0 k⟩
theorem At3.all (h : At3 a t g p q x y x' y' x'' y'' w) : w.cell? ⟨g, 0, none⟩ = some x ∧ w.cell? ⟨g, 1, none⟩ = some y ∧ w.cell? ⟨p, 0, none⟩ = some x' ∧ w.cell? ⟨p, 1, none⟩ = some y' ∧ w.cell? ⟨q, 0, none⟩ = some x'' ∧ w.cell? ⟨q, 1, none⟩ = some y'' ∧
    At3 a t g p q x y x' y' x'' y'' w := ⟨h.one.cell 0, h.one.cell 1, h.two.cell 0, h.two.cell 1, h.three.cell 0, h.three.cell 1, h⟩
theorem At3.stepc (k : Kp No w w') (h : w.cell? ⟨g, 0, none⟩ = some x ∧ w.cell? ⟨g, 1, none⟩ = some y ∧ w.cell? ⟨p, 0, none⟩ = some x' ∧ w.cell? ⟨p, 1, none⟩ = some y' ∧ w.cell? ⟨q, 0, none⟩ = some x'' ∧ w.cell? ⟨q, 1, none⟩ = some y'' ∧
    At3 a t g p q x y x' y' x'' y'' w) : w'.cell? ⟨g, 0, none⟩ = some x ∧ w'.cell? ⟨g, 1, none⟩ = some y ∧ w'.cell? ⟨p, 0, none⟩ = some x' ∧ w'.cell? ⟨p, 1, none⟩ = some y' ∧ w'.cell? ⟨q, 0, none⟩ = some x'' ∧ w'.cell? ⟨q, 1, none⟩ = some y'' ∧
    At3 a t g p q x y x' y' x'' y'' w' := (h.2.2.2.2.2.2.kp k).all
end

theorem paceWeighs_walk (w : World) (v r x y : Int) (_ : I64 v) (_ : I64 r) (_ : I64 x) (_ : I64 y) :
    Calls Try.prog 9 #[.agg #[.int .i64 v, .int .i64 r], .int .i64 x, .int .i64 y] w fun e w' => e = .returned (.bool true) ∧ Kp No w w' := by
  go_enter Try.func9, Try.ntmps9
  go_wp2_with fail
  refine (awake_any _).mono ?_
  rintro e w1 ⟨rfl, k1⟩
  have B1 := hid ((Blk.new w _ _).kp0 k1)
  have K1 := hid (((Kp.refl No w).alloc _).trans k1)
  obtain ⟨c0, c1, lt⟩ := B1.out.two
  clear k1
  go_wp2_with fail
  refine (refright_any v r x _).mono ?_
  rintro e w2 ⟨rfl, k2⟩
  have B2 := hid (B1.out.kp0 k2)
  have K2 := hid (K1.out.trans k2)
  clear c0 c1 lt B1 K1 k2
  obtain ⟨c0, c1, lt⟩ := B2.out.two
  cases hc : can v r x
  · go_wp2_with fail
    go_ret
    exact ⟨rfl, K2.out⟩
  · obtain ⟨h1, h2, h3, h4⟩ := can_iff.1 hc
    obtain ⟨d, hd⟩ : ∃ d, r * wt y / wt x = d := ⟨_, rfl⟩
    obtain ⟨f, hf⟩ : ∃ f, d * wt x / wt y = f := ⟨_, rfl⟩
    have hd2 := rew_lt (b := y) h3 h4
    rw [hd] at hd2
    have hf2 : f ≤ r := by rw [← hf, ← hd]; exact rew_back
    have HC : Hid (can v d y = true) := hid (can_iff.2 ⟨h1, h2, hd2.1, hd2.2⟩)
    have HS : Hid (r * wt x / wt x = r) := hid rew_same
    have HR := hid (And.intro h3 h4)
    have HD := hid hd
    have HD2 := hid hd2
    have HF := hid hf
    clear hc h1 h2 h3 h4 hd hd2 hf
    go_wp2_with fail
    refine (reweigh_is HR.out.1 HR.out.2 HD.out).mono ?_
    rintro e w3 ⟨rfl, k3⟩
    have B3 := hid (B2.out.kp0 k3)
    have K3 := hid (K2.out.trans k3)
    clear c0 c1 lt B2 K2 k3
    obtain ⟨c0, c1, lt⟩ := B3.out.two
    go_wp2_with fail
    refine (reweigh_is HD2.out.1 HD2.out.2 HF.out).mono ?_
    rintro e w4 ⟨rfl, k4⟩
    have B4 := hid ((B3.out.kp0 ((Kp.refl No w3).alloc _)).kp0 k4)
    have C4 := hid ((Blk.new w3 _ _).kp0 k4)
    have K4 := hid ((K3.out.alloc _).trans k4)
    clear c0 c1 lt B3 K3 k4
    have A4 : At3 w 23 w.heap.size w3.heap.size w4.heap.size (.int .i64 v) (.int .i64 r) (.int .i64 v) (.int .i64 d) (.int .i64 v) (.int .i64 f) (w4.alloc (.cells #[.int .i64 v, .int .i64 f] 23)) :=
      ⟨K4.out.alloc _, B4.out.kp0 ((Kp.refl No w4).alloc _), C4.out.kp0 ((Kp.refl No w4).alloc _), Blk.new _ _ _⟩
    have A5 := A4.kp ((Kp.refl No _).drew)
    clear B4 C4 K4 A4
    have s0 : (v == v) = true := by simp
    have s1 : (r == r) = true := by simp
    go_wp2_with fail
    go_region_held3 (fun w' => w'.cell? ⟨w.heap.size, 0, none⟩ = some (.int .i64 v) ∧ w'.cell? ⟨w.heap.size, 1, none⟩ = some (.int .i64 r) ∧ w'.cell? ⟨w3.heap.size, 0, none⟩ = some (.int .i64 v) ∧ w'.cell? ⟨w3.heap.size, 1, none⟩ = some (.int .i64 d) ∧ w'.cell? ⟨w4.heap.size, 0, none⟩ = some (.int .i64 v) ∧ w'.cell? ⟨w4.heap.size, 1, none⟩ = some (.int .i64 f) ∧
        At3 w 23 w.heap.size w3.heap.size w4.heap.size (.int .i64 v) (.int .i64 r) (.int .i64 v) (.int .i64 d) (.int .i64 v) (.int .i64 f) w')
      (first | exact A5.all | exact At3.stepc (by assumption) (by assumption))
      (first
        | (go_at_call 12; refine (right_is HC.out).mono ?_; rintro e w5 ⟨rfl, k5⟩)
        | (go_at_call 15; refine (reweigh_is HR.out.1 HR.out.2 HS.out).mono ?_; rintro e w5 ⟨rfl, k5⟩))
    go_wp2_with fail
    go_ret
    rename_i hh
    exact ⟨rfl, hh.2.2.2.2.2.2.kept⟩
end Go.Proofs.Ytgkeljioefiljaa
