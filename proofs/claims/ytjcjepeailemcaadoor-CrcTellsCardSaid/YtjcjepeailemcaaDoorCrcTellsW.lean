/-
  The walk of CrcTells.
-/
import Derived.Test.YtjcjepeailemcaaDoorCrcC
import Derived.Test.YtjcjepeailemcaaDoorArgs
namespace Go.Proofs.YtjcjepeailemcaaDoor
open Go.RowKit

theorem crcTells_walk (w : World) (v : Value) (n : Int) {xs : List Int} (ht : Tab w) (hv : Byt w Anyb v xs) (hn : 0 ≤ n ∧ n ≤ 4294967295) :
    Calls Tryd.prog 3 #[v, .int .u32 n] w fun e w' => e = .returned (.bool true) ∧ Kp No w w' := by
  obtain ⟨c, rfl⟩ : ∃ c : Nat, n = (c : Int) := ⟨n.toNat, by omega⟩
  have hc : c < 4294967296 := by omega
  have HV := hid hv
  have HT := hid ht
  obtain ⟨A, cp, rfl, hcp, hm, _, _⟩ := hv
  unfold maxLen at hm
  clear ht hn
  go_enter Tryd.func3, Tryd.ntmps3
  go_wp2_with fail
  refine (awake_any _ HT.out).mono ?_
  rintro e w1 ⟨rfl, k1⟩
  have V1 := hid (HV.out.kp0 k1)
  have T1 := hid (HT.out.kp0 k1)
  have K1 := hid k1
  clear HV HT k1
  by_cases hbig : 300 < xs.length
  · go_wp2
    go_ret
    exact ⟨rfl, K1.out⟩
  · have h1 : ((ck xs : Int) == (ck xs : Int)) = true := by simp
    have h2 : ((more c xs : Int) == (more c xs : Int)) = true := by simp
    go_wp2_with fail
    refine (of_any _ xs _ V1.out T1.out).mono ?_
    rintro e w' ⟨rfl, rfl⟩
    go_wp2_with fail
    refine (refof_any _ xs _ V1.out).mono ?_
    rintro e w' ⟨rfl, rfl⟩
    go_wp2_with fail
    refine (more_any c _ xs _ hc V1.out T1.out).mono ?_
    rintro e w' ⟨rfl, rfl⟩
    go_wp2_with fail
    refine (refmore_any c _ xs _ hc V1.out).mono ?_
    rintro e w' ⟨rfl, rfl⟩
    go_wp2_with fail
    go_ret
    exact ⟨rfl, K1.out⟩
end Go.Proofs.YtjcjepeailemcaaDoor
