/-
  The walk of CrcZeros.
-/
import Derived.Test.YtjcjepeailemcaaDoorCrcC
import Derived.Test.YtjcjepeailemcaaDoorArgs
namespace Go.Proofs.YtjcjepeailemcaaDoor
open Go.RowKit

theorem crcZeros_walk (w : World) (n d m : Int) (ht : Tab w) (hn : 0 ≤ n ∧ n ≤ 4294967295) (hd : 0 ≤ d ∧ d ≤ 255) (hm : -9223372036854775808 ≤ m ∧ m ≤ 9223372036854775807) :
    Calls Tryd.prog 4 #[.int .u32 n, .int .u8 d, .int .i64 m] w fun e w' => e = .returned (.bool true) ∧ Kp No w w' := by
  obtain ⟨c, rfl⟩ : ∃ c : Nat, n = (c : Int) := ⟨n.toNat, by omega⟩
  obtain ⟨b, rfl⟩ : ∃ b : Nat, d = (b : Int) := ⟨d.toNat, by omega⟩
  have hc : c < 4294967296 := by omega
  have hb : b < 256 := by omega
  have HT := hid ht
  clear ht hn hd
  go_enter Tryd.func4, Tryd.ntmps4
  go_wp2_with fail
  refine (awake_any _ HT.out).mono ?_
  rintro e w1 ⟨rfl, k1⟩
  have T1 := hid (HT.out.kp0 k1)
  have K1 := hid k1
  clear HT k1
  by_cases hbig : 1000 < m
  · go_wp2
    go_ret
    exact ⟨rfl, K1.out⟩
  · have h1 : ((zr (hz m) c : Int) == (zr (hz m) c : Int)) = true := by simp
    have h2 : (((c ^^^ zr (hz m) (en 0 b) : Nat) : Int) == ((c ^^^ zr (hz m) (en 0 b) : Nat) : Int)) = true := by simp
    go_wp2_with fail
    refine (zeros_any c m _ hc T1.out).mono ?_
    rintro e w' ⟨rfl, rfl⟩
    go_wp2_with fail
    refine (refzeros_any c m _ hc hm).mono ?_
    rintro e w' ⟨rfl, rfl⟩
    go_wp2_with fail
    refine (mend_any c b m _ hc hb T1.out).mono ?_
    rintro e w' ⟨rfl, rfl⟩
    go_wp2_with fail
    refine (refmend_any c b m _ hc hb hm).mono ?_
    rintro e w' ⟨rfl, rfl⟩
    go_wp2_with fail
    go_ret
    exact ⟨rfl, K1.out⟩
end Go.Proofs.YtjcjepeailemcaaDoor
