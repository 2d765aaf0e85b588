/-
  Contracts: the document's All, Over, Of, More, Zeros, Mend; awake, the chapter's examples.
-/
import Derived.Test.YtjcjepeailemcaaDoorCrcB
import Derived.Lib.SlBytesConst
namespace Go.Proofs.YtjcjepeailemcaaDoor
open Go.RowKit

theorem over_any (c : Nat) (w : World) (hc : c < 4294967296) : Calls Tryd.prog 19 #[.int .u32 (c : Int)] w fun e w' => e = .returned (.int .u32 (ov c : Nat)) ∧ w = w' := by
  have HO := hid (show ((ov c : Nat) : Int) = 4294967295 - (c : Int) by unfold ov; omega)
  go_enter Tryd.func19, Tryd.ntmps19
  go_wp2
  go_ret
  rw [HO.out]
  exact ⟨rfl, rfl⟩

theorem all_any {S : Nat → Prop} (c : Nat) (v : Value) (xs : List Int) (w : World) (hc : c < 4294967296) (hv : Byt w S v xs) :
    Calls Tryd.prog 20 #[.int .u32 (c : Int), v] w fun e w' => e = .returned (.int .u32 (reg c xs : Nat)) ∧ w = w' := by
  have HV := hid hv
  obtain ⟨A, cp, rfl, hcp, hmx, hx, hr⟩ := hv
  clear hr hx
  unfold maxLen at hmx
  go_enter Tryd.func20, Tryd.ntmps20
  go_wp2
  go_loop [0, 5] (fun n i => ∃ k x : Nat, k ≤ xs.length ∧ i = .int .i64 k ∧ n = .int .u32 x ∧ x < 4294967296 ∧ Hid (reg c (xs.take k) = x)) (fun _ i => xs.length - (intOf i).toNat)
  case atStart => exact ⟨0, c, Nat.zero_le _, rfl, rfl, hc, hid rfl⟩
  case round =>
    obtain ⟨k, x, hk, rfl, rfl, hx, HX⟩ := hrel
    by_cases hkm : k < xs.length
    · have hki : (k : Int) < (xs.length : Int) := by omega
      obtain ⟨A', c', he, _, _, hb, hr⟩ := HV.out
      injection he with e1 _ e3
      subst e1 e3
      obtain ⟨b, o, rfl, _, _, hcell⟩ := hr (by omega)
      have hc1 := hcell k hkm
      have hbd := hb (xs.getD k 0) (by simp [List.getD, List.getElem?_eq_getElem hkm])
      have hrt := reg_take c xs k hkm
      obtain ⟨y, hy⟩ : ∃ y, (xs.getD k 0).toNat = y := ⟨_, rfl⟩
      have hy2 : xs.getD k 0 = (y : Int) := by omega
      have hy3 : y < 256 := by omega
      rw [hy2] at hc1
      rw [hy, HX.out] at hrt
      have HR := hid hrt
      clear hcell hr hb hy hy2 hbd hrt
      go_wp2_with fail
      refine (refin_any x y _ hx hy3).mono ?_
      rintro e w' ⟨rfl, rfl⟩
      have hz := en_lt hx hy3
      obtain ⟨z, hzz⟩ : ∃ z, en x y = z := ⟨_, rfl⟩
      rw [hzz] at hz ⊢
      have HZ := hid hzz
      clear hzz
      go_wp2
      go_round
      case rel => exact ⟨k + 1, z, by omega, by go_num, rfl, hz, hid (by rw [HR.out, HZ.out])⟩
      case measure => simp [intOf]; omega
    · have HL := hid (show xs.take k = xs from List.take_of_length_le (by omega))
      go_wp2
      go_ret
      rw [← HX.out, HL.out]
      exact ⟨rfl, rfl⟩

theorem refmore_any {S : Nat → Prop} (c : Nat) (v : Value) (xs : List Int) (w : World) (hc : c < 4294967296) (hv : Byt w S v xs) :
    Calls Tryd.prog 14 #[.int .u32 (c : Int), v] w fun e w' => e = .returned (.int .u32 (more c xs : Nat)) ∧ w = w' := by
  have HM := hid (show more c xs = ov (reg (ov c) xs) from rfl)
  have hl := reg_lt xs (ov_lt c) hv.bytes
  have HV := hid hv
  clear hv
  go_enter Tryd.func14, Tryd.ntmps14
  go_wp2_with fail
  refine (over_any c _ hc).mono ?_
  rintro e w' ⟨rfl, rfl⟩
  go_wp2_with fail
  refine (all_any (ov c) v xs _ (ov_lt c) HV.out).mono ?_
  rintro e w' ⟨rfl, rfl⟩
  go_wp2_with fail
  refine (over_any _ _ hl).mono ?_
  rintro e w' ⟨rfl, rfl⟩
  go_wp2_with fail
  go_ret
  rw [HM.out]
  exact ⟨rfl, rfl⟩

theorem refof_any {S : Nat → Prop} (v : Value) (xs : List Int) (w : World) (hv : Byt w S v xs) :
    Calls Tryd.prog 12 #[v] w fun e w' => e = .returned (.int .u32 (ck xs : Nat)) ∧ w = w' := by
  have HM := hid (show ck xs = ov (reg 4294967295 xs) from rfl)
  have hl := reg_lt xs (show 4294967295 < 4294967296 by decide) hv.bytes
  have HV := hid hv
  clear hv
  go_enter Tryd.func12, Tryd.ntmps12
  go_wp2_with fail
  refine (all_any 4294967295 v xs _ (by decide) HV.out).mono ?_
  rintro e w' ⟨rfl, rfl⟩
  go_wp2_with fail
  refine (over_any _ _ hl).mono ?_
  rintro e w' ⟨rfl, rfl⟩
  go_wp2_with fail
  go_ret
  rw [HM.out]
  exact ⟨rfl, rfl⟩

theorem refzeros_any (c : Nat) (m : Int) (w : World) (hc : c < 4294967296) (hm : -9223372036854775808 ≤ m ∧ m ≤ 9223372036854775807) :
    Calls Tryd.prog 16 #[.int .u32 (c : Int), .int .i64 m] w fun e w' => e = .returned (.int .u32 (zr (hz m) c : Nat)) ∧ w = w' := by
  have hn : ∀ k : Nat, k < hz m ↔ ((k : Int) < m ∧ (k : Int) < 65536) := by intro k; unfold hz; split <;> (try split) <;> omega
  have hb : hz m ≤ 65536 := by unfold hz; split <;> (try split) <;> omega
  obtain ⟨n, hnn⟩ : ∃ n, hz m = n := ⟨_, rfl⟩
  rw [hnn] at hb hn ⊢
  have HN := hid hn
  clear hnn hn
  go_enter Tryd.func16, Tryd.ntmps16
  go_wp2
  go_loop [0, 5] (fun x i => ∃ k z : Nat, k ≤ n ∧ i = .int .i64 k ∧ x = .int .u32 z ∧ z < 4294967296 ∧ Hid (zr k c = z)) (fun _ i => n - (intOf i).toNat)
  case atStart => exact ⟨0, c, Nat.zero_le _, rfl, rfl, hc, hid rfl⟩
  case round =>
    obtain ⟨k, x, hk, rfl, rfl, hx, HX⟩ := hrel
    have hkn := HN.out k
    by_cases h1 : k < n
    · obtain ⟨h2, h3⟩ := hkn.1 h1
      clear hkn
      go_wp2_with fail
      refine (refin_any x 0 _ hx (by decide)).mono ?_
      rintro e w' ⟨rfl, rfl⟩
      have hz' := en_lt hx (show 0 < 256 by decide)
      have HS := hid (show zr (k + 1) c = en (zr k c) 0 from rfl)
      obtain ⟨z, hzz⟩ : ∃ z, en x 0 = z := ⟨_, rfl⟩
      rw [hzz] at hz' ⊢
      have HZ := hid hzz
      clear hzz
      go_wp2
      go_round
      case rel => exact ⟨k + 1, z, by omega, by go_num, rfl, hz', hid (by rw [HS.out, HX.out, HZ.out])⟩
      case measure => simp [intOf]; omega
    · have hkk : k = n := by omega
      have HK := hid hkk
      clear hkk
      by_cases h2 : (k : Int) < m
      · have h3 : ¬ (k : Int) < 65536 := fun h => h1 (hkn.2 ⟨h2, h⟩)
        clear hkn
        go_wp2
        go_ret
        rw [← HX.out, HK.out]
        exact ⟨rfl, rfl⟩
      · clear hkn
        go_wp2
        go_ret
        rw [← HX.out, HK.out]
        exact ⟨rfl, rfl⟩

theorem refmend_any (c b : Nat) (m : Int) (w : World) (hc : c < 4294967296) (hb : b < 256) (hm : -9223372036854775808 ≤ m ∧ m ≤ 9223372036854775807) :
    Calls Tryd.prog 18 #[.int .u32 (c : Int), .int .u8 (b : Int), .int .i64 m] w fun e w' => e = .returned (.int .u32 ((c ^^^ zr (hz m) (en 0 b) : Nat) : Int)) ∧ w = w' := by
  have h1 := en_lt (show 0 < 4294967296 by decide) hb
  go_enter Tryd.func18, Tryd.ntmps18
  go_wp2_with fail
  refine (refin_any 0 b _ (by decide) hb).mono ?_
  rintro e w' ⟨rfl, rfl⟩
  go_wp2_with fail
  refine (refzeros_any (en 0 b) m _ h1 hm).mono ?_
  rintro e w' ⟨rfl, rfl⟩
  have ex := u32_xor_nat c (zr (hz m) (en 0 b)) hc (zr_lt _ h1)
  go_wp2_with fail
  go_ret
  exact ⟨rfl, rfl⟩

theorem lit_byt (w : World) (e : TypeId) (fr : Nat × Nat) {P : Nat → Prop} (hP : P w.heap.size) (xs : List Int) (hx : ∀ x ∈ xs, 0 ≤ x ∧ x ≤ 255) (hl : xs.length ≤ 1000) :
    Byt (w.alloc (.cells (xs.map (Value.int .u8)).toArray e fr)) P (.slice (some ⟨w.heap.size, 0, none⟩) xs.length xs.length) xs :=
  ⟨some ⟨w.heap.size, 0, none⟩, xs.length, rfl, Nat.le_refl _, by unfold maxLen; omega, hx, fun _ => ⟨w.heap.size, 0, rfl, by simp, hP, fun j hj => by
    rw [Nat.zero_add, World.cell?_alloc_mark]
    simp [List.getElem?_eq_getElem hj]⟩⟩

theorem awake_any (w : World) (ht : Tab w) : Calls Tryd.prog 10 #[] w fun e w' => e = .returned (.bool true) ∧ Kp No w w' := by
  have HT := hid (ht.kp0 ((Kp.refl No w).alloc (.cells #[.int .u8 49, .int .u8 50, .int .u8 51, .int .u8 52, .int .u8 53, .int .u8 54, .int .u8 55, .int .u8 56, .int .u8 57] 5 (9, 10))))
  have kc := fun (C : Array Value) (n c : Nat) => Lib.run_convert_bytes_const (P := Tryd.prog) w 22 5 C n c Tryd.underlying22 Tryd.underlying5
  clear ht
  go_enter Tryd.func10, Tryd.ntmps10
  go_wp2_with fail
  refine (of_any _ [49, 50, 51, 52, 53, 54, 55, 56, 57] _ (lit_byt (P := Anyb) _ _ (9, 10) trivial [49, 50, 51, 52, 53, 54, 55, 56, 57] (by decide) (by simp)) HT.out).mono ?_
  rintro e w1 ⟨rfl, rfl⟩
  clear kc
  have e1 : ck [49, 50, 51, 52, 53, 54, 55, 56, 57] = 3421780262 := by decide +kernel
  rw [e1]
  clear e1
  go_wp2_with fail
  refine (of_any _ [] _ (Byt.nil _ Anyb) HT.out).mono ?_
  rintro e w1 ⟨rfl, rfl⟩
  have e1 : ck [] = 0 := by decide +kernel
  rw [e1]
  clear e1
  go_wp2_with fail
  go_ret
  exact ⟨rfl, (Kp.refl No w).alloc _⟩
end Go.Proofs.YtjcjepeailemcaaDoor
