/-
  The walk of MaskReads.
-/
import Derived.Test.YtjmnclneopofhaaDoorMaskF
import Derived.Test.YtjmnclneopofhaaDoorMaskK
namespace Go.Proofs.YtjmnclneopofhaaDoor
open Go.RowKit

theorem Parsed.same {t : List UInt8} {r q : Nat} {i j : Int} (h : Parsed t r i) (g : Parsed t q j) : r = q ∧ i = j := by
  rcases h with ⟨h1, h2, h3, rfl⟩ | ⟨h1, rfl, rfl⟩
  · rcases g with ⟨g1, g2, g3, rfl⟩ | ⟨g1, _, _⟩
    · exact ⟨g3 r h1 h2, rfl⟩
    · exact absurd h2 (g1 r h1)
  · rcases g with ⟨g1, g2, _, _⟩ | ⟨_, rfl, rfl⟩
    · exact absurd g2 (h1 q g1)
    · exact ⟨rfl, rfl⟩

set_option maxHeartbeats 2000000 in
theorem maskReads_walk (w : World) (n : Int) (b : ByteArray) (m : Int) (op : Bool) (E : Env w) (hn : 0 ≤ n ∧ n ≤ 18446744073709551615) (_ : b.size ≤ maxLen) (hm : 0 ≤ m ∧ m ≤ 18446744073709551615) :
    Calls Tryd.prog 4 #[.int .u64 n, .string b, .int .u64 m, .bool op] w fun e w' => e = .returned (.bool true) ∧ Kp No w w' := by
  obtain ⟨s, rfl⟩ : ∃ s : Nat, n = (s : Int) := ⟨n.toNat, by omega⟩
  obtain ⟨o, rfl⟩ : ∃ o : Nat, m = (o : Int) := ⟨m.toNat, by omega⟩
  obtain ⟨t, rfl⟩ : ∃ t, b = str t := ⟨b.data.toList, rfl⟩
  have hs : U64 s := by unfold U64; omega
  have ho : U64 o := by unfold U64; omega
  have HE := hid E
  clear E hn hm
  have HZ := hid (str_size t)
  go_enter Tryd.func4, Tryd.ntmps4
  go_wp2_with fail
  refine (awake_any _ HE.out).mono ?_
  rintro e w1 ⟨rfl, k1⟩
  have K1 := hid k1
  have E1 := hid (HE.out.kp0 k1)
  clear k1 HE
  by_cases hbig : 200 < (str t).size
  · go_wp2_with fail
    go_ret
    exact ⟨rfl, K1.out⟩
  have hsm : t.length ≤ 200 := by have := HZ.out; omega
  go_wp2_with fail
  refine (parse_any t _ (by omega) E1.out).mono ?_
  rintro e w2 ⟨r, k, rfl, hp, k2⟩
  have HP := hid hp
  have K2 := hid (K1.out.trans k2)
  clear k2 K1 E1 hp
  go_wp2_with fail
  refine (refParse_any t _ hsm).mono ?_
  rintro e w3 ⟨q, j, rfl, hp, k3⟩
  obtain ⟨rfl, rfl⟩ := HP.out.same hp
  have K3 := hid (K2.out.trans k3)
  clear k3 K2 hp HP
  go_wp2_with fail
  refine (remap_any s o op _ hs ho).mono ?_
  rintro e w' ⟨rfl, rfl⟩
  go_wp2_with fail
  refine (refRemap_any s o op _ hs ho).mono ?_
  rintro e w4 ⟨rfl, k4⟩
  have K4 := hid (K3.out.trans k4)
  clear k4 K3
  go_wp2_with fail
  refine (text_any s _ hs).mono ?_
  rintro e w5 ⟨rfl, k5⟩
  have K5 := hid (K4.out.trans k5)
  clear k5 K4
  go_wp2_with fail
  refine (refText_any s _ hs).mono ?_
  rintro e w6 ⟨rfl, k6⟩
  have K6 := hid (K5.out.trans k6)
  clear k6 K5
  go_wp2_with fail
  go_ret
  exact ⟨rfl, K6.out⟩
end Go.Proofs.YtjmnclneopofhaaDoor
