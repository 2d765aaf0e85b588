/-
  The walk of ParcelReads.
-/
import Derived.Test.YthhikjgaljkfpaaDoorPLaw
namespace Go.Proofs.YthhikjgaljkfpaaDoor
open Go.RowKit

theorem parcelReads_walk (w : World) (v : Value) {xs : List Int} (ht : Tab w) (hv : Byt w Anyb v xs) :
    Calls Tryd.prog 4 #[v] w fun e w' => e = .returned (.bool true) ∧ Kp No w w' := by
  have HT := hid ht
  have HO := hid hv
  obtain ⟨n, hn⟩ : ∃ n, xs.length = n := ⟨_, rfl⟩
  have HN := hid hn
  obtain ⟨A, c, rfl, hrest⟩ := hv
  rw [hn] at HO ⊢
  clear ht hrest hn
  by_cases h6 : 600 < n
  · have g6 : (600 : Int) < (n : Int) := by omega
    go_enter Tryd.func4, Tryd.ntmps4
    go_wp2_with (first
      | (go_at_call 9
         refine (pawake_any HT.out).mono ?_
         rintro e w1 ⟨rfl, k1⟩
         have K1 := hid k1
         clear k1))
    go_ret
    exact ⟨rfl, K1.out⟩
  have g6 : ¬ (600 : Int) < (n : Int) := by omega
  have H6 := hid (show xs.length ≤ 600 by rw [HN.out]; omega)
  obtain ⟨x, hx⟩ : ∃ x, (unp xs).1 = x := ⟨_, rfl⟩
  have HX := hid hx
  have hxx : (x == x) = true := by simp
  clear hx
  go_enter Tryd.func4, Tryd.ntmps4
  go_wp2_with (first
    | (go_at_call 9
       refine (pawake_any HT.out).mono ?_
       rintro e w1 ⟨rfl, k1⟩
       have K1 := hid k1
       clear k1)
    | (go_at_call 16
       refine (unpack_any (HT.out.kp0 K1.out) (HO.out.kp0 K1.out) (by have := H6.out; omega)).mono ?_
       rintro e w2 ⟨u2, ss, rfl, hs, hp, k2⟩
       rw [HX.out]
       have HS := hid hs
       have HP := hid hp
       have K2 := hid (K1.out.trans k2)
       clear hs hp k2)
    | (go_at_call 17
       refine (runpack_any (HO.out.kp0 K2.out) (by have := H6.out; omega)).mono ?_
       rintro e w3 ⟨u3, tt, rfl, hs, how, hok, k3⟩
       rw [HX.out]
       have HS3 := hid hs
       have HP3 := hid (UnpPost.ps how hok)
       have HP2 := hid (HP.out.kp0 k3)
       have K3 := hid (K2.out.trans k3)
       clear hs how hok k3)
    | (go_at_call 18
       refine (ssame_any HP2.out HP3.out).mono ?_
       rintro e w4 ⟨rfl, n4, rfl⟩
       rw [decide_eq_true (HS.out.trans HS3.out.symm)]
       have K4 := hid (K3.out.drewN n4)))
  go_ret
  exact ⟨rfl, K4.out⟩
end Go.Proofs.YthhikjgaljkfpaaDoor
