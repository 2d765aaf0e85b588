/-
  The walk of MaskUps.
-/
import Derived.Test.YtjmnclneopofhaaDoorMaskF
import Derived.Test.YtjmnclneopofhaaDoorMaskLen
namespace Go.Proofs.YtjmnclneopofhaaDoor
open Go.RowKit

theorem maskUps_walk (w : World) (a b : Int) (E : Env w) (_ : I64 a) (_ : I64 b) :
    Calls Tryd.prog 9 #[.int .i64 a, .int .i64 b] w fun e w' => e = .returned (.bool true) ∧ Kp No w w' := by
  have HE := hid E
  have ea := and_bits (up_U64 a) (up_U64 b)
  have eo := or_bits (up_U64 a) (up_U64 b)
  rw [up_and] at ea
  rw [up_or] at eo
  clear E
  go_enter Tryd.func9, Tryd.ntmps9
  go_wp2_with fail
  refine (awake_any _ HE.out).mono ?_
  rintro e w1 ⟨rfl, k1⟩
  have K1 := hid k1
  clear k1 HE
  go_wp2_with fail
  refine (up_any a _).mono ?_
  rintro e w' ⟨rfl, rfl⟩
  go_wp2_with fail
  refine (up_any b _).mono ?_
  rintro e w' ⟨rfl, rfl⟩
  go_wp2_with fail
  refine (up_any (min a b) _).mono ?_
  rintro e w' ⟨rfl, rfl⟩
  go_wp2_with fail
  refine (up_any (max a b) _).mono ?_
  rintro e w' ⟨rfl, rfl⟩
  go_wp2_with fail
  refine (len_any (up a) _ (up_U64 a)).mono ?_
  rw [show (((al (up a)).length : Nat) : Int) = max 0 (min a 64) by rw [al_up]; unfold hu; omega]
  rintro e w2 ⟨rfl, k2⟩
  have K2 := hid (K1.out.trans k2)
  clear k2 K1
  go_wp2_with fail
  go_ret
  exact ⟨rfl, K2.out⟩
end Go.Proofs.YtjmnclneopofhaaDoor
