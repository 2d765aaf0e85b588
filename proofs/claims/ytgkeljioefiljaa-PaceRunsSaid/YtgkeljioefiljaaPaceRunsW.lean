/-
  The walk of PaceRuns.
-/
import Derived.Test.YtgkeljioefiljaaPaceD
namespace Go.Proofs.Ytgkeljioefiljaa
open Go.RowKit

theorem paceRuns_walk (w : World) (v r x t y : Int) (_ : I64 v) (_ : I64 r) (_ : I64 x) (_ : I64 t) (_ : I64 y) :
    Calls Try.prog 3 #[.agg #[.int .i64 v, .int .i64 r], .int .i64 x, .int .i64 t, .int .i64 y] w fun e w' => e = .returned (.bool true) ∧ Kp No w w' := by
  go_enter Try.func3, Try.ntmps3
  go_wp2_with fail
  refine (awake_any _).mono ?_
  rintro e w1 ⟨rfl, k1⟩
  have B1 := hid ((Blk.new w _ _).kp0 k1)
  have K1 := hid (((Kp.refl No w).alloc _).trans k1)
  obtain ⟨c0, c1, lt⟩ := B1.out.two
  clear k1
  go_wp2_with fail
  refine (refright_any v r x _).mono ?_
  rintro e w2 ⟨rfl, k2⟩
  have B2 := hid (B1.out.kp0 k2)
  have K2 := hid (K1.out.trans k2)
  clear c0 c1 lt B1 K1 k2
  obtain ⟨c0, c1, lt⟩ := B2.out.two
  go_wp2_with fail
  refine (right_any v r x _).mono ?_
  rintro e w3 ⟨rfl, k3⟩
  have B3 := hid (B2.out.kp0 k3)
  have K3 := hid (K2.out.trans k3)
  clear c0 c1 lt B2 K2 k3
  obtain ⟨c0, c1, lt⟩ := B3.out.two
  cases hc : can v r x
  · go_wp2_with fail
    go_ret
    exact ⟨rfl, K3.out⟩
  · obtain ⟨h1, h2, h3, h4⟩ := can_iff.1 hc
    have C := hid hc
    have A3 : At w w.heap.size 23 #[.int .i64 v, .int .i64 r] w3 := ⟨K3.out, B3.out⟩
    obtain ⟨a, ha⟩ : ∃ a, v + (1048576 * tk t + r) / wt x = a := ⟨_, rfl⟩
    obtain ⟨b, hb⟩ : ∃ b, (1048576 * tk t + r) % wt x = b := ⟨_, rfl⟩
    obtain ⟨d, hd⟩ : ∃ d, r * wt y / wt x = d := ⟨_, rfl⟩
    have HA := hid ha
    have HB := hid hb
    have HD := hid hd
    have HR := hid (And.intro h3 h4)
    clear hc h1 h2 h3 h4 B3 K3 ha hb hd
    go_wp2_with fail
    go_region_held3 (fun w' => w'.cell? ⟨w.heap.size, 0, none⟩ = some (.int .i64 v) ∧ w'.cell? ⟨w.heap.size, 1, none⟩ = some (.int .i64 r) ∧ At w w.heap.size 23 #[.int .i64 v, .int .i64 r] w')
      (first | exact A3.drew.all | exact At.stepc (by assumption) (by assumption))
      (first
        | (go_at_call 13; refine (run_is C.out HA.out HB.out).mono ?_; rintro e w4 ⟨rfl, k4⟩)
        | (go_at_call 14; refine (refrun_is C.out HA.out HB.out).mono ?_; rintro e w4 ⟨rfl, k4⟩)
        | (go_at_call 15; refine (reweigh_is HR.out.1 HR.out.2 HD.out).mono ?_; rintro e w4 ⟨rfl, k4⟩)
        | (go_at_call 16; refine (refreweigh_is HR.out.1 HR.out.2 HD.out).mono ?_; rintro e w4 ⟨rfl, k4⟩))
    go_wp2_with fail
    go_ret
    rename_i hh
    exact ⟨rfl, hh.2.2.kept⟩
end Go.Proofs.Ytgkeljioefiljaa
