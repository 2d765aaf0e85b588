/-
  The walk of MaskBack.
-/
import Derived.Test.YtjmnclneopofhaaDoorMaskF
namespace Go.Proofs.YtjmnclneopofhaaDoor
open Go.RowKit

set_option maxHeartbeats 2000000 in
theorem maskBack_walk (w : World) (n : Int) (b : ByteArray) (E : Env w) (hn : 0 ≤ n ∧ n ≤ 18446744073709551615) (_ : b.size ≤ maxLen) :
    Calls Tryd.prog 5 #[.int .u64 n, .string b] w fun e w' => e = .returned (.bool true) ∧ Kp No w w' := by
  obtain ⟨s, rfl⟩ : ∃ s : Nat, n = (s : Int) := ⟨n.toNat, by omega⟩
  obtain ⟨t, rfl⟩ : ∃ t, b = str t := ⟨b.data.toList, rfl⟩
  have hs : U64 s := by unfold U64; omega
  have HE := hid E
  clear E hn
  have HZ := hid (str_size t)
  have htl := txt_len hs
  go_enter Tryd.func5, Tryd.ntmps5
  go_wp2_with fail
  refine (awake_any _ HE.out).mono ?_
  rintro e w1 ⟨rfl, k1⟩
  have K1 := hid k1
  have E1 := hid (HE.out.kp0 k1)
  clear k1 HE
  by_cases hbig : 200 < (str t).size
  · go_wp2_with fail
    go_ret
    exact ⟨rfl, K1.out⟩
  have hsm : t.length ≤ 200 := by have := HZ.out; omega
  go_wp2_with fail
  refine (text_any s _ hs).mono ?_
  rintro e w2 ⟨rfl, k2⟩
  have K2 := hid (K1.out.trans k2)
  have E2 := hid (E1.out.kp0 k2)
  clear k2 K1 E1
  go_wp2_with fail
  refine (parse_any (txt s) _ (by omega) E2.out).mono ?_
  rintro e w3 ⟨r, k, rfl, hp, k3⟩
  have hrk : r = s ∧ k = 0 := by
    rcases hp with ⟨_, _, h, h2⟩ | ⟨h, _⟩
    · exact ⟨(h s hs rfl).symm, h2⟩
    · exact absurd rfl (h s hs)
  obtain ⟨rfl, rfl⟩ := hrk
  have K3 := hid (K2.out.trans k3)
  have E3 := hid (E2.out.kp0 k3)
  clear k3 K2 E2 hp
  go_wp2_with fail
  refine (parse_any t _ (by omega) E3.out).mono ?_
  rintro e w4 ⟨q, k, rfl, hp, k4⟩
  have K4 := hid (K3.out.trans k4)
  clear k4 K3 E3
  rcases hp with ⟨hq, ht, _, rfl⟩ | ⟨_, rfl, rfl⟩
  · have HT := hid ht
    clear ht
    go_wp2_with fail
    refine (text_any q _ hq).mono ?_
    rw [HT.out]
    rintro e w5 ⟨rfl, k5⟩
    have K5 := hid (K4.out.trans k5)
    clear k5 K4
    go_wp2_with fail
    go_ret
    exact ⟨rfl, K5.out⟩
  · go_wp2_with fail
    go_ret
    exact ⟨rfl, K4.out⟩
end Go.Proofs.YtjmnclneopofhaaDoor
