/-
  The walk of CrcParts.
-/
import Derived.Test.YtjcjepeailemcaaDoorCrcC
import Derived.Test.YtjcjepeailemcaaDoorArgs
namespace Go.Proofs.YtjcjepeailemcaaDoor
open Go.RowKit

theorem crcParts_walk (w : World) (v u : Value) {xs ys : List Int} (ht : Tab w) (hv : Byt w Anyb v xs) (hu : Byt w Anyb u ys) :
    Calls Tryd.prog 5 #[v, u] w fun e w' => e = .returned (.bool true) ∧ Kp No w w' := by
  have HV := hid hv
  have HU := hid hu
  have HT := hid ht
  obtain ⟨A, cp, rfl, hcp, hm, _, _⟩ := hv
  obtain ⟨A', cp', rfl, hcp', hm', _, _⟩ := hu
  unfold maxLen at hm hm'
  clear ht
  go_enter Tryd.func5, Tryd.ntmps5
  go_wp2_with fail
  refine (awake_any _ HT.out).mono ?_
  rintro e w1 ⟨rfl, k1⟩
  have V1 := hid (HV.out.kp0 k1)
  have U1 := hid (HU.out.kp0 k1)
  have T1 := hid (HT.out.kp0 k1)
  have K1 := hid k1
  clear HV HU HT k1
  by_cases hbig : 200 < xs.length
  · go_wp2
    go_ret
    exact ⟨rfl, K1.out⟩
  by_cases hbig2 : 200 < ys.length
  · go_wp2
    go_ret
    exact ⟨rfl, K1.out⟩
  go_wp2_with (first
      | (at_builtin
         refine wp_app isU8 rfl (.tmp 17) (.tmp 18) rfl (base := w1.heap.size) (xs := []) (ys := xs) (by exact Own.mt _ _) (by exact V1.out.kp0 ((Kp.refl _ _).alloc _)) (by simp; omega) (by simp) ?_
         intro v2 w2 o2 k2
         rw [List.nil_append] at o2
         have K2 := hid ((Kp.refl No w1).alloc (.cells #[] 5) |>.step k2 fun i hi h => by omega)
         have O2 := hid o2
         clear o2 k2)
      | (at_builtin
         refine wp_app isU8 rfl (.tmp 19) (.tmp 20) rfl (base := w1.heap.size) (xs := xs) (ys := ys) (by exact O2.out) (by exact U1.out.kp0 K2.out) (by omega) (by exact K2.out.size) ?_
         intro v3 w3 o3 k3
         have K3 := hid (K2.out.step k3 fun i hi h => by omega)
         have O3 := hid (o3.byt (P := Anyb) fun _ _ => trivial)
         clear o3 k3 O2 K2)
      | fail)
  have V3 := hid (V1.out.kp0 K3.out)
  have U3 := hid (U1.out.kp0 K3.out)
  have T3 := hid (T1.out.kp0 K3.out)
  have KE := hid (K1.out.trans K3.out)
  have E1 := hid (more_app 0 xs ys V1.out.bytes)
  have E2 := hid (more_nil (ck xs) (ck_lt xs))
  have E3 := hid (show more 0 xs = ck xs from rfl)
  have E4 := hid (show more 0 (xs ++ ys) = ck (xs ++ ys) from rfl)
  have h1 : ((ck (xs ++ ys) : Int) == (ck (xs ++ ys) : Int)) = true := by simp
  have h2 : ((ck xs : Int) == (ck xs : Int)) = true := by simp
  clear V1 U1 T1 K1 K3
  refine (of_any _ xs _ V3.out T3.out).mono ?_
  rintro e w' ⟨rfl, rfl⟩
  go_wp2_with fail
  refine (more_any (ck xs) _ ys _ (ck_lt xs) U3.out T3.out).mono ?_
  rintro e w' ⟨rfl, rfl⟩
  rw [E3.out, E4.out] at E1
  rw [E1.out]
  go_wp2_with fail
  refine (of_any _ (xs ++ ys) _ O3.out T3.out).mono ?_
  rintro e w' ⟨rfl, rfl⟩
  go_wp2_with fail
  refine (of_any _ xs _ V3.out T3.out).mono ?_
  rintro e w' ⟨rfl, rfl⟩
  go_wp2_with fail
  refine (more_any (ck xs) _ [] _ (ck_lt xs) (Byt.nil _ Anyb) T3.out).mono ?_
  rintro e w' ⟨rfl, rfl⟩
  rw [E2.out]
  go_wp2_with fail
  refine (of_any _ xs _ V3.out T3.out).mono ?_
  rintro e w' ⟨rfl, rfl⟩
  go_wp2_with fail
  refine (more_any 0 _ xs _ (by decide) V3.out T3.out).mono ?_
  rintro e w' ⟨rfl, rfl⟩
  rw [E3.out]
  go_wp2_with fail
  refine (of_any _ xs _ V3.out T3.out).mono ?_
  rintro e w' ⟨rfl, rfl⟩
  go_wp2_with fail
  go_ret
  exact ⟨rfl, KE.out⟩
end Go.Proofs.YtjcjepeailemcaaDoor
