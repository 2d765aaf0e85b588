/-
  Contracts: Ends (both), Pass (both).
-/
import Derived.Test.YtnlehhmogdencaaBandE
namespace Go.Proofs.Ytnlehhmogdencaa
open Go.RowKit

/-- How many periods end. -/
def en (p n m : Int) : Int := if p < 1 then 0 else (tk n + tk m) / p - tk n / p
theorem en_bd (p n m : Int) : 0 ≤ en p n m ∧ en p n m ≤ 2199023255552 := by
  have h1 := tk_bd n
  have h2 := tk_bd m
  unfold en
  split
  · omega
  · have a := Int.ediv_nonneg h1.1 (show 0 ≤ p by omega)
    have b : tk n / p ≤ (tk n + tk m) / p := Int.ediv_le_ediv (by omega) (by omega)
    have c : (tk n + tk m) / p ≤ tk n + tk m := Int.ediv_le_self _ (by omega)
    omega

theorem ends_any {p n m z : Int} (hz : en p n m = z) (w : World) : Calls Try.prog 20 #[.int .i64 p, .int .i64 n, .int .i64 m] w fun e w' => e = .returned (.int .i64 z) ∧ Kp No w w' := by
  by_cases hp : p < 1
  · have H := hid (show 0 = z by rw [← hz]; unfold en; rw [if_pos hp])
    clear hz
    go_enter Try.func20, Try.ntmps20
    go_wp2
    go_ret
    rw [← H.out]
    exact ⟨by first | rfl | go_num, Kp.refl No w⟩
  · have hd := decide_eq_false hp
    obtain ⟨x, hx⟩ : ∃ x, tk n = x := ⟨_, rfl⟩
    obtain ⟨y, hy⟩ : ∃ y, tk m = y := ⟨_, rfl⟩
    have b1 := tk_bd n
    have b2 := tk_bd m
    unfold en at hz
    rw [if_neg hp, hx, hy] at hz
    rw [hx] at b1
    rw [hy] at b2
    have q0 : 0 ≤ x / p := Int.ediv_nonneg b1.1 (by omega)
    have q1 : x / p ≤ (x + y) / p := Int.ediv_le_ediv (by omega) (by omega)
    have q2 : (x + y) / p ≤ x + y := Int.ediv_le_self _ (by omega)
    have e1 : IntKind.i64.wrap (x + y) = x + y := wrapI ⟨by omega, by omega⟩
    have e2 : IntKind.i64.wrap ((x + y).tdiv p) = (x + y) / p := Go.IntWalk.i64_quo (x + y) p ⟨by omega, by omega, by omega⟩
    have e3 : IntKind.i64.wrap (x.tdiv p) = x / p := Go.IntWalk.i64_quo x p ⟨by omega, by omega, by omega⟩
    have e4 : IntKind.i64.wrap ((x + y) / p - x / p) = z := by rw [hz]; exact wrapI ⟨by omega, by omega⟩
    have hz' : p ≠ 0 := by omega
    have HX := hid hx
    have HY := hid hy
    clear hx hy hz
    go_enter Try.func20, Try.ntmps20
    go_wp2_with fail
    refine (ticks_is HX.out _).mono ?_
    rintro e w1 ⟨rfl, rfl⟩
    go_wp2_with fail
    refine (ticks_is HY.out _).mono ?_
    rintro e w1 ⟨rfl, rfl⟩
    go_wp2_with fail
    go_region
    go_wp2_with fail
    go_ret
    exact ⟨by first | rfl | go_num, (Kp.refl No _).drewN _⟩

theorem refends_any {p n m z : Int} (hp' : p ≤ 9223372036854775807) (hz : en p n m = z) (w : World) : Calls Try.prog 21 #[.int .i64 p, .int .i64 n, .int .i64 m] w fun e w' => e = .returned (.int .i64 z) ∧ Kp No w w' := by
  by_cases hp : p < 1
  · have H := hid (show 0 = z by rw [← hz]; unfold en; rw [if_pos hp])
    clear hz
    go_enter Try.func21, Try.ntmps21
    go_wp2
    go_ret
    rw [← H.out]
    exact ⟨by first | rfl | go_num, Kp.refl No w⟩
  · have hd := decide_eq_false hp
    obtain ⟨x, hx⟩ : ∃ x, tk n = x := ⟨_, rfl⟩
    obtain ⟨y, hy⟩ : ∃ y, tk m = y := ⟨_, rfl⟩
    have b1 := tk_bd n
    have b2 := tk_bd m
    unfold en at hz
    rw [if_neg hp, hx, hy] at hz
    rw [hx] at b1
    rw [hy] at b2
    obtain ⟨F, hF⟩ : ∃ F, x / p = F := ⟨_, rfl⟩
    obtain ⟨T, hT⟩ : ∃ T, (x + y) / p = T := ⟨_, rfl⟩
    have q0 : 0 ≤ F := by rw [← hF]; exact Int.ediv_nonneg b1.1 (by omega)
    have q1 : F ≤ T := by rw [← hF, ← hT]; exact Int.ediv_le_ediv (by omega) (by omega)
    have q2 : T ≤ x + y := by rw [← hT]; exact Int.ediv_le_self _ (by omega)
    have m1 : p * F + x % p = x := by rw [← hF]; exact Int.mul_ediv_add_emod x p
    have m2 : p * T + (x + y) % p = x + y := by rw [← hT]; exact Int.mul_ediv_add_emod (x + y) p
    have r1 : 0 ≤ x % p := Int.emod_nonneg _ (by omega)
    have r2 : x % p < p := Int.emod_lt_of_pos _ (by omega)
    have r3 : 0 ≤ (x + y) % p := Int.emod_nonneg _ (by omega)
    have r4 : (x + y) % p < p := Int.emod_lt_of_pos _ (by omega)
    rw [hF, hT] at hz
    obtain ⟨N, hN⟩ : ∃ N, x - x % p + p = N := ⟨_, rfl⟩
    have e1 : IntKind.i64.wrap (x + y) = x + y := wrapI ⟨by omega, by omega⟩
    have e2 : x.tmod p = x % p := Int.tmod_eq_emod_of_nonneg b1.1
    have e5 : IntKind.i64.wrap (x % p) = x % p := wrapI ⟨by omega, by omega⟩
    have e3 : IntKind.i64.wrap (x - x % p) = x - x % p := wrapI ⟨by omega, by omega⟩
    have nb : N ≤ 9223372036854775807 := by
      by_cases hx' : p ≤ x
      · omega
      · have := Int.emod_eq_of_lt b1.1 (show x < p by omega)
        omega
    have e4 : IntKind.i64.wrap (x - x % p + p) = N := by rw [hN]; exact wrapI ⟨by omega, by omega⟩
    have hz' : p ≠ 0 := by omega
    have HX := hid hx
    have HY := hid hy
    have nF : N = p * (F + 1) := by rw [Int.mul_add]; omega
    by_cases hn : x + y < N
    · have ez : z = 0 := by
        have : T < F + 1 := Int.lt_of_mul_lt_mul_left (a := p) (by omega) (by omega)
        omega
      subst ez
      have hn' : N > x + y := hn
      clear hx hy hz m1 m2 nF
      go_enter Try.func21, Try.ntmps21
      go_wp2_with fail
      refine (held_is HX.out _).mono ?_
      rintro e w1 ⟨rfl, rfl⟩
      go_wp2_with fail
      refine (held_is HY.out _).mono ?_
      rintro e w1 ⟨rfl, rfl⟩
      go_wp2_with fail
      go_ret
      exact ⟨by first | rfl | go_num, Kp.refl No _⟩
    · have hn' := decide_eq_false hn
      have e6 : IntKind.i64.wrap (x + y - N) = x + y - N := wrapI ⟨by omega, by omega⟩
      have e7 : IntKind.i64.wrap ((x + y - N).tdiv p) = (x + y - N) / p := Go.IntWalk.i64_quo (x + y - N) p ⟨by omega, by omega, by omega⟩
      have e8 : (x + y - N) / p = T - F - 1 := by
        rw [nF, Int.sub_mul_ediv_left _ _ hz', hT]
        omega
      have e9 : IntKind.i64.wrap (T - F - 1 + 1) = z := by rw [show T - F - 1 + 1 = z by omega]; exact wrapI ⟨by omega, by omega⟩
      have ea : IntKind.i64.wrap (T - F) = z := by rw [show T - F = z by omega]; exact wrapI ⟨by omega, by omega⟩
      rw [e8] at e7
      clear hx hy hz m1 m2 nF e8
      go_enter Try.func21, Try.ntmps21
      go_wp2_with fail
      refine (held_is HX.out _).mono ?_
      rintro e w1 ⟨rfl, rfl⟩
      go_wp2_with fail
      refine (held_is HY.out _).mono ?_
      rintro e w1 ⟨rfl, rfl⟩
      go_wp2_with fail
      go_ret
      exact ⟨by first | rfl | (simp [*]; done) | go_num, Kp.refl No _⟩

theorem pass_stay {p q u n m : Int} (hz : en p n m = 0) (w : World) : Calls Try.prog 18 #[.agg #[.int .i64 p, .int .i64 q, .int .i64 u], .int .i64 n, .int .i64 m] w fun e w' => e = .returned (.agg #[.int .i64 p, .int .i64 q, .int .i64 u]) ∧ Kp No w w' := by
  have B := hid (B2.start w (.int .i64 p) (.int .i64 q) (.int .i64 u) (.int .i64 0) (.int .i64 0) (.int .i64 0))
  have HZ := hid hz
  clear hz
  go_enter Try.func18, Try.ntmps18
  go_wp2_with fail
  refine (ends_any HZ.out _).mono ?_
  rintro e w2 ⟨rfl, k2⟩
  have C := hid (B.out.kp k2)
  clear B k2
  obtain ⟨c0, c1, c2, e0, e1, e2⟩ := C.out.cells
  obtain ⟨d0, d1, d2, f0, f1, f2, lt, lt'⟩ := C.out.outs
  go_wp2_with fail
  refine bodyPost_ret (v := .agg #[.int .i64 p, .int .i64 q, .int .i64 u]) ?_ rfl ⟨rfl, C.out.out _ _ _⟩
  rw [results_cell rfl]
  go_simp
theorem pass_end {p q u n m z : Int} (hz : en p n m = z) (hpos : 0 < z) (w : World) : Calls Try.prog 18 #[.agg #[.int .i64 p, .int .i64 q, .int .i64 u], .int .i64 n, .int .i64 m] w fun e w' => e = .returned (.agg #[.int .i64 p, .int .i64 q, .int .i64 0]) ∧ Kp No w w' := by
  have B := hid (B2.start w (.int .i64 p) (.int .i64 q) (.int .i64 u) (.int .i64 0) (.int .i64 0) (.int .i64 0))
  have HZ := hid hz
  clear hz
  go_enter Try.func18, Try.ntmps18
  go_wp2_with fail
  refine (ends_any HZ.out _).mono ?_
  rintro e w2 ⟨rfl, k2⟩
  have C := hid (B.out.kp k2)
  clear B k2
  obtain ⟨c0, c1, c2, e0, e1, e2⟩ := C.out.cells
  obtain ⟨d0, d1, d2, f0, f1, f2, lt, lt'⟩ := C.out.outs
  go_wp2_with fail
  refine bodyPost_ret (v := .agg #[.int .i64 p, .int .i64 q, .int .i64 0]) ?_ rfl ⟨rfl, (C.out.put2 _).out _ _ _⟩
  rw [results_cell rfl]
  go_simp
theorem refpass_stay {p q u n m : Int} (hp' : p ≤ 9223372036854775807) (hz : en p n m = 0) (w : World) : Calls Try.prog 19 #[.agg #[.int .i64 p, .int .i64 q, .int .i64 u], .int .i64 n, .int .i64 m] w fun e w' => e = .returned (.agg #[.int .i64 p, .int .i64 q, .int .i64 u]) ∧ Kp No w w' := by
  have B := hid (B2.start w (.int .i64 p) (.int .i64 q) (.int .i64 u) (.int .i64 0) (.int .i64 0) (.int .i64 0))
  have HZ := hid hz
  have HP := hid hp'
  clear hz hp'
  go_enter Try.func19, Try.ntmps19
  go_wp2_with fail
  refine (refends_any HP.out HZ.out _).mono ?_
  rintro e w2 ⟨rfl, k2⟩
  have C := hid (B.out.kp k2)
  clear B k2
  obtain ⟨c0, c1, c2, e0, e1, e2⟩ := C.out.cells
  obtain ⟨d0, d1, d2, f0, f1, f2, lt, lt'⟩ := C.out.outs
  go_wp2_with fail
  refine bodyPost_ret (v := .agg #[.int .i64 p, .int .i64 q, .int .i64 u]) ?_ rfl ⟨rfl, C.out.out _ _ _⟩
  rw [results_cell rfl]
  go_simp
theorem refpass_end {p q u n m z : Int} (hp' : p ≤ 9223372036854775807) (hz : en p n m = z) (hpos : 0 < z) (w : World) : Calls Try.prog 19 #[.agg #[.int .i64 p, .int .i64 q, .int .i64 u], .int .i64 n, .int .i64 m] w fun e w' => e = .returned (.agg #[.int .i64 p, .int .i64 q, .int .i64 0]) ∧ Kp No w w' := by
  have B := hid (B2.start w (.int .i64 p) (.int .i64 q) (.int .i64 u) (.int .i64 0) (.int .i64 0) (.int .i64 0))
  have HZ := hid hz
  have HP := hid hp'
  have hne : (z == 0) = false := by simp; omega
  clear hz hp'
  go_enter Try.func19, Try.ntmps19
  go_wp2_with fail
  refine (refends_any HP.out HZ.out _).mono ?_
  rintro e w2 ⟨rfl, k2⟩
  have C := hid (B.out.kp k2)
  clear B k2
  obtain ⟨c0, c1, c2, e0, e1, e2⟩ := C.out.cells
  obtain ⟨d0, d1, d2, f0, f1, f2, lt, lt'⟩ := C.out.outs
  go_wp2_with fail
  refine bodyPost_ret (v := .agg #[.int .i64 p, .int .i64 q, .int .i64 0]) ?_ rfl ⟨rfl, C.out.out _ _ _⟩
  rw [results_cell rfl]
  go_simp
end Go.Proofs.Ytnlehhmogdencaa
