/-
  Contracts: the document's All, Over, Of, More, Zeros, Mend; awake, the chapter's examples.
-/
import Derived.Test.YtgfkbkonelphaaaGreatDoorPCrcB
import Derived.Lib.SlBytesConst
namespace Go.Proofs.YtgfkbkonelphaaaGreatDoor
open Go.RowKit

theorem over_any (c : Nat) (w : World) (hc : c < 4294967296) : Calls Tryz.prog 69 #[.int .u32 (c : Int)] w fun e w' => e = .returned (.int .u32 (ov c : Nat)) ∧ w = w' := by
  have HO := hid (show ((ov c : Nat) : Int) = 4294967295 - (c : Int) by unfold ov; omega)
  go_enter Tryz.func69, Tryz.ntmps69
  go_wp2
  go_ret
  rw [HO.out]
  exact ⟨rfl, rfl⟩

theorem all_any {S : Nat → Prop} (c : Nat) (v : Value) (xs : List Int) (w : World) (hc : c < 4294967296) (hv : Byt w S v xs) :
    Calls Tryz.prog 70 #[.int .u32 (c : Int), v] w fun e w' => e = .returned (.int .u32 (reg c xs : Nat)) ∧ w = w' := by
  have HV := hid hv
  obtain ⟨A, cp, rfl, hcp, hmx, hx, hr⟩ := hv
  clear hr hx
  unfold maxLen at hmx
  go_enter Tryz.func70, Tryz.ntmps70
  go_wp2
  go_loop [0, 5] (fun n i => ∃ k x : Nat, k ≤ xs.length ∧ i = .int .i64 k ∧ n = .int .u32 x ∧ x < 4294967296 ∧ Hid (reg c (xs.take k) = x)) (fun _ i => xs.length - (intOf i).toNat)
  case atStart => exact ⟨0, c, Nat.zero_le _, rfl, rfl, hc, hid rfl⟩
  case round =>
    obtain ⟨k, x, hk, rfl, rfl, hx, HX⟩ := hrel
    by_cases hkm : k < xs.length
    · have hki : (k : Int) < (xs.length : Int) := by omega
      obtain ⟨A', c', he, _, _, hb, hr⟩ := HV.out
      injection he with e1 _ e3
      subst e1 e3
      obtain ⟨b, o, rfl, _, _, hcell⟩ := hr (by omega)
      have hc1 := hcell k hkm
      have hbd := hb (xs.getD k 0) (by simp [List.getD, List.getElem?_eq_getElem hkm])
      have hrt := reg_take c xs k hkm
      obtain ⟨y, hy⟩ : ∃ y, (xs.getD k 0).toNat = y := ⟨_, rfl⟩
      have hy2 : xs.getD k 0 = (y : Int) := by omega
      have hy3 : y < 256 := by omega
      rw [hy2] at hc1
      rw [hy, HX.out] at hrt
      have HR := hid hrt
      clear hcell hr hb hy hy2 hbd hrt
      go_wp2_with fail
      refine (refin_any x y _ hx hy3).mono ?_
      rintro e w' ⟨rfl, rfl⟩
      have hz := en_lt hx hy3
      obtain ⟨z, hzz⟩ : ∃ z, en x y = z := ⟨_, rfl⟩
      rw [hzz] at hz ⊢
      have HZ := hid hzz
      clear hzz
      go_wp2
      go_round
      case rel => exact ⟨k + 1, z, by omega, by go_num, rfl, hz, hid (by rw [HR.out, HZ.out])⟩
      case measure => simp [intOf]; omega
    · have HL := hid (show xs.take k = xs from List.take_of_length_le (by omega))
      go_wp2
      go_ret
      rw [← HX.out, HL.out]
      exact ⟨rfl, rfl⟩

theorem refof_any {S : Nat → Prop} (v : Value) (xs : List Int) (w : World) (hv : Byt w S v xs) :
    Calls Tryz.prog 54 #[v] w fun e w' => e = .returned (.int .u32 (ck xs : Nat)) ∧ w = w' := by
  have HM := hid (show ck xs = ov (reg 4294967295 xs) from rfl)
  have hl := reg_lt xs (show 4294967295 < 4294967296 by decide) hv.bytes
  have HV := hid hv
  clear hv
  go_enter Tryz.func54, Tryz.ntmps54
  go_wp2_with fail
  refine (all_any 4294967295 v xs _ (by decide) HV.out).mono ?_
  rintro e w' ⟨rfl, rfl⟩
  go_wp2_with fail
  refine (over_any _ _ hl).mono ?_
  rintro e w' ⟨rfl, rfl⟩
  go_wp2_with fail
  go_ret
  rw [HM.out]
  exact ⟨rfl, rfl⟩

theorem lit_byt (w : World) (e : TypeId) (fr : Nat × Nat) {P : Nat → Prop} (hP : P w.heap.size) (xs : List Int) (hx : ∀ x ∈ xs, 0 ≤ x ∧ x ≤ 255) (hl : xs.length ≤ 1000) :
    Byt (w.alloc (.cells (xs.map (Value.int .u8)).toArray e fr)) P (.slice (some ⟨w.heap.size, 0, none⟩) xs.length xs.length) xs :=
  ⟨some ⟨w.heap.size, 0, none⟩, xs.length, rfl, Nat.le_refl _, by unfold maxLen; omega, hx, fun _ => ⟨w.heap.size, 0, rfl, by simp, hP, fun j hj => by
    rw [Nat.zero_add, World.cell?_alloc_mark]
    simp [List.getElem?_eq_getElem hj]⟩⟩

end Go.Proofs.YtgfkbkonelphaaaGreatDoor
