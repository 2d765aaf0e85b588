/-
  The walk of CrcMends.
-/
import Derived.Test.YtjcjepeailemcaaDoorCrcC
import Derived.Test.YtjcjepeailemcaaDoorArgs
import Derived.Test.YtjcjepeailemcaaDoorStore
namespace Go.Proofs.YtjcjepeailemcaaDoor
open Go.RowKit

theorem mend_eq (xs : List Int) (k b : Nat) (hk : k < xs.length) (hb : b < 256) (hl : xs.length ≤ 300) (hx : ∀ x ∈ xs, 0 ≤ x ∧ x ≤ 255) :
    ck xs ^^^ zr (hz ((xs.length : Int) - 1 - k)) (en 0 b) = ck (xs.set k (((xs.getD k 0).toNat ^^^ b : Nat) : Int)) := by
  rw [ck_burst xs _ (8 * k) b (by simp) hx (by omega) (by omega) (Nt_set xs b k hk), zr_stn, en, Nat.zero_xor, ← stn_add]
  have e : hz ((xs.length : Int) - 1 - k) = xs.length - 1 - k := by unfold hz; split <;> (try split) <;> omega
  rw [e, show 8 + 8 * (xs.length - 1 - k) = 8 * xs.length - 8 * k from by omega]
theorem mend_iff (xs : List Int) (k b : Nat) (hk : k < xs.length) (hb : b < 256) (hx : ∀ x ∈ xs, 0 ≤ x ∧ x ≤ 255) :
    ck (xs.set k (((xs.getD k 0).toNat ^^^ b : Nat) : Int)) = ck xs ↔ b = 0 :=
  ck_burst_iff xs _ (8 * k) b (by simp) hx (by omega) (by omega) (Nt_set xs b k hk)

theorem crcMends_walk (w : World) (v : Value) (n d : Int) {xs : List Int} (ht : Tab w) (hv : Byt w Anyb v xs) (hn : 0 ≤ n ∧ n ≤ 65535) (hd : 0 ≤ d ∧ d ≤ 255) :
    Calls Tryd.prog 6 #[v, .int .u16 n, .int .u8 d] w fun e w' => e = .returned (.bool true) ∧ Kp No w w' := by
  obtain ⟨a, rfl⟩ : ∃ a : Nat, n = (a : Int) := ⟨n.toNat, by omega⟩
  obtain ⟨b, rfl⟩ : ∃ b : Nat, d = (b : Int) := ⟨d.toNat, by omega⟩
  have hb : b < 256 := by omega
  have ha : a < 65536 := by omega
  have HV := hid hv
  have HT := hid ht
  have HX := hid hv.bytes
  obtain ⟨A, cp, rfl, hcp, hm, _, _⟩ := hv
  unfold maxLen at hm
  clear ht hn hd
  go_enter Tryd.func6, Tryd.ntmps6
  go_wp2_with fail
  refine (awake_any _ HT.out).mono ?_
  rintro e w1 ⟨rfl, k1⟩
  have V1 := hid (HV.out.kp0 k1)
  have T1 := hid (HT.out.kp0 k1)
  have K1 := hid k1
  clear HV HT k1
  by_cases h0 : xs.length = 0
  · have hb0 : ((xs.length : Int) == 0) = true := by simp [h0]
    clear h0
    go_wp2
    go_ret
    exact ⟨rfl, K1.out⟩
  have hb0 : ((xs.length : Int) == 0) = false := by rw [beq_eq_false_iff_ne]; omega
  by_cases hbig : 300 < xs.length
  · go_wp2
    go_ret
    exact ⟨rfl, K1.out⟩
  have hmod : (a : Int) % (xs.length : Int) = ((a % xs.length : Nat) : Int) := (Int.natCast_emod a xs.length).symm
  have hlt := Nat.mod_lt a (show 0 < xs.length by omega)
  obtain ⟨k, hk⟩ : ∃ k, a % xs.length = k := ⟨_, rfl⟩
  rw [hk] at hmod hlt
  clear hk
  have hpos : 0 < xs.length := by omega
  go_wp2_with (first
      | (at_builtin
         refine wp_app isU8 rfl (.tmp 25) (.tmp 26) rfl (base := w1.heap.size) (xs := []) (ys := xs) (by exact Own.mt _ _) (by exact V1.out.kp0 ((Kp.refl _ _).alloc _)) (by simp; omega) (by simp) ?_
         intro v2 w2 o2 k2
         rw [List.nil_append] at o2
         have K2 := hid ((Kp.refl No w1).alloc (.cells #[] 5) |>.step k2 fun i hi h => by omega)
         obtain ⟨g, c, rfl, hg, hcm, hlc, hcell, hfr⟩ := o2.spot hpos
         have O2 := hid o2
         have hc1 := hcell k hlt
         have hf1 := hfr k
         have hbd := HX.out (xs.getD k 0) (by simp [List.getD, List.getElem?_eq_getElem hlt])
         obtain ⟨x, hx⟩ : ∃ x, (xs.getD k 0).toNat = x := ⟨_, rfl⟩
         have hx2 : xs.getD k 0 = (x : Int) := by omega
         have hx3 : x < 256 := by omega
         have hxor := u8_xor_nat x b hx3 hb
         have hx4 : x ^^^ b < 256 := Nat.xor_lt_two_pow (n := 8) hx3 hb
         have E1 := hid (mend_eq xs k b hlt hb (by omega) HX.out)
         have E2 := hid (mend_iff xs k b hlt hb HX.out)
         rw [hx] at E1 E2
         rw [hx2] at hc1
         obtain ⟨y, hy⟩ : ∃ y, x ^^^ b = y := ⟨_, rfl⟩
         rw [hy] at hxor hx4 E1 E2
         unfold maxLen at hcm
         clear o2 k2 hcell hfr hbd hx hx2 hy)
      | fail)
  have K3 := hid (K2.out.setCell (p := ⟨g, k, none⟩) (.inr hg) (.int .u8 (y : Int)))
  have O3 := hid ((O2.out.put k (y : Int) (by omega)).byt (P := Anyb) fun _ _ => trivial)
  have V3 := hid (V1.out.kp0 K3.out)
  have T3 := hid (T1.out.kp0 K3.out)
  have KE := hid (K1.out.trans K3.out)
  clear K2 O2 V1 T1 K1 K3 hc1 hf1 hxor hmod
  have hki : (0 : Int) ≤ (xs.length : Int) - 1 - (k : Int) := by omega
  obtain ⟨w3, hw3⟩ : ∃ w3, w2.setCell ⟨g, k, none⟩ (.int .u8 (y : Int)) = w3 := ⟨_, rfl⟩
  rw [hw3] at O3 V3 T3 KE ⊢
  clear hw3
  refine (of_any _ xs _ V3.out T3.out).mono ?_
  rintro e w' ⟨rfl, rfl⟩
  go_wp2_with fail
  refine (mend_any (ck xs) b _ _ (ck_lt xs) hb T3.out).mono ?_
  rintro e w' ⟨rfl, rfl⟩
  rw [E1.out]
  obtain ⟨p, hp⟩ : ∃ p, ck xs = p := ⟨_, rfl⟩
  obtain ⟨q, hq⟩ : ∃ q, ck (xs.set k (y : Int)) = q := ⟨_, rfl⟩
  rw [hp, hq] at E2
  have HP := hid hp
  have HQ := hid hq
  rw [hp, hq]
  have hqq : ((q : Int) == (q : Int)) = true := by simp
  clear hp hq
  go_wp2_with fail
  refine (of_any _ (xs.set k (y : Int)) _ O3.out T3.out).mono ?_
  rintro e w' ⟨rfl, rfl⟩
  rw [HQ.out]
  by_cases hz0 : b = 0
  · have h1 : ((b : Int) == 0) = true := by rw [beq_iff_eq]; omega
    have h2 : ((q : Int) == (p : Int)) = true := by rw [beq_iff_eq, E2.out.2 hz0]
    clear hz0
    go_wp2_with fail
    refine (of_any _ (xs.set k (y : Int)) _ O3.out T3.out).mono ?_
    rintro e w' ⟨rfl, rfl⟩
    rw [HQ.out]
    go_wp2_with fail
    refine (of_any _ xs _ V3.out T3.out).mono ?_
    rintro e w' ⟨rfl, rfl⟩
    rw [HP.out]
    go_wp2_with fail
    go_ret
    exact ⟨rfl, KE.out⟩
  · have h1 : ((b : Int) == 0) = false := by rw [beq_eq_false_iff_ne]; omega
    have h2 : ((q : Int) == (p : Int)) = false := by
      rw [beq_eq_false_iff_ne]
      intro h
      exact hz0 (E2.out.1 (by omega))
    clear hz0
    go_wp2_with fail
    refine (of_any _ (xs.set k (y : Int)) _ O3.out T3.out).mono ?_
    rintro e w' ⟨rfl, rfl⟩
    rw [HQ.out]
    go_wp2_with fail
    refine (of_any _ xs _ V3.out T3.out).mono ?_
    rintro e w' ⟨rfl, rfl⟩
    rw [HP.out]
    go_wp2_with fail
    go_ret
    exact ⟨rfl, KE.out⟩
end Go.Proofs.YtjcjepeailemcaaDoor
