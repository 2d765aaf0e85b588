/-
  PCrcB PCrcC: texts laid into one.
-/
import Derived.Test.YtggmdgdgljlddaaGreatDoorCrcA
import Derived.Test.YtggmdgdgljlddaaGreatDoorLeB
import Derived.WalkMore
import Derived.Lib.SlBytesConst

/-
  Contracts: More, Of, Zeros, Mend of the code.
-/
namespace Go.Proofs.YtggmdgdgljlddaaGreatDoor
open Go.RowKit

theorem Tab.kp {S : Nat → Prop} {a w : World} (h : Tab a) (k : Kp S a w) (hn : ¬ S 0) : Tab w := fun j hj => by
  have := h j hj
  exact (k.cell (p := ⟨0, j, none⟩) (World.block_lt_of_cell? a _ this) hn).trans this
theorem Tab.kp0 {a w : World} (h : Tab a) (k : Kp No a w) : Tab w := h.kp k fun h => h

theorem reg_take (c : Nat) (xs : List Int) (k : Nat) (h : k < xs.length) : reg c (xs.take (k + 1)) = en (reg c (xs.take k)) (xs.getD k 0).toNat := by rw [take_snoc xs k h, reg_snoc]
theorem over_bits (c : Nat) (hc : c < 4294967296) : bits .xor .u32 IntKind.u32.max (c : Int) = ((ov c : Nat) : Int) := by
  rw [ov_xor hc]
  exact u32_xor_nat 4294967295 c (by decide) hc
theorem bytNat {x : Int} (h : 0 ≤ x ∧ x ≤ 255) : x = ((x.toNat : Nat) : Int) ∧ x.toNat < 256 := by omega

theorem more_any {S : Nat → Prop} (c : Nat) (v : Value) (xs : List Int) (w : World) (hc : c < 4294967296) (hv : Byt w S v xs) (ht : Tab w) :
    Calls Tryz.prog 67 #[.int .u32 (c : Int), v] w fun e w' => e = .returned (.int .u32 (more c xs : Nat)) ∧ w = w' := by
  have HV := hid hv
  have HT := hid ht
  obtain ⟨A, cp, rfl, hcp, hmx, hx, hr⟩ := hv
  have HM := hid (show more c xs = ov (reg (ov c) xs) from rfl)
  clear hr hx ht
  unfold maxLen at hmx
  go_enter Tryz.func67, Tryz.ntmps67
  go_wp2_with fail
  refine wp_scope_pass 0 (fun a' w' => ∃ (k x : Nat) (u7 u8 u9 u10 u11 u12 u13 u14 u15 u16 u17 u18 u19 u20 u21 u22 : Value), a' = { tmps := #[.int .u32 (c : Int), .slice A xs.length cp, undef, undef, .int .u32 0, .int .u32 (x : Int), .int .i64 (k : Int), u7, u8, u9, u10, u11, u12, u13, u14, u15, u16, u17, u18, u19, u20, u21, u22], defers := [] } ∧ k ≤ xs.length ∧ x < 4294967296 ∧ Hid (reg (ov c) (xs.take k) = x) ∧ Hid (w = w')) (fun a' _ => xs.length - (intOf (a'.tmps.getD 6 undef)).toNat) rfl ?_ ?_
  · rintro a' w' ⟨k, x, u7, u8, u9, u10, u11, u12, u13, u14, u15, u16, u17, u18, u19, u20, u21, u22, rfl, hk, hx, HX, HW⟩
    obtain rfl := HW.out
    by_cases hkm : k < xs.length
    · have hki : (k : Int) < (xs.length : Int) := by omega
      obtain ⟨A', c', he, _, _, hb, hr⟩ := HV.out
      injection he with e1 _ e3
      subst e1 e3
      obtain ⟨b, o, rfl, _, _, hcell⟩ := hr (by omega)
      have hc1 := hcell k hkm
      have hbd := hb (xs.getD k 0) (by simp [List.getD, List.getElem?_eq_getElem hkm])
      have hrt := reg_take (ov c) xs k hkm
      obtain ⟨y, hy⟩ : ∃ y, (xs.getD k 0).toNat = y := ⟨_, rfl⟩
      have hy2 : xs.getD k 0 = (y : Int) := by omega
      have hy3 : y < 256 := by omega
      rw [hy2] at hc1
      rw [hy, HX.out] at hrt
      have HR := hid hrt
      clear hcell hr hb hy hy2 hbd hrt
      go_wp2_with fail
      refine (enter_any x y _ hx hy3 HT.out).mono ?_
      rintro e w' ⟨rfl, rfl⟩
      have hz := en_lt hx hy3
      obtain ⟨z, hzz⟩ : ∃ z, en x y = z := ⟨_, rfl⟩
      rw [hzz] at hz ⊢
      have HZ := hid hzz
      clear hzz
      go_wp2_with fail
      go_step3
      refine ⟨rfl, ⟨k + 1, z, _, _, _, _, _, _, _, _, _, _, _, _, _, _, _, _, rfl, by omega, hz, hid (by rw [HR.out, HZ.out]), hid rfl⟩, ?_⟩
      simp [intOf]; omega
    · have ex := over_bits x hx
      have HL := hid (show xs.take k = xs from List.take_of_length_le (by omega))
      go_wp2
      simp only [Exit.jump]
      go_ret
      rw [HM.out, ← HX.out, HL.out]
      exact ⟨rfl, rfl⟩
  · intro pass
    have ex := over_bits c hc
    go_wp2_with fail
    go_step3
    have go_on := ‹∀ (a : Act) (w : World), Code.wp _ _ _ a w → _›
    refine go_on _ _ (pass _ _ ⟨0, ov c, _, _, _, _, _, _, _, _, _, _, _, _, _, _, _, _, rfl, Nat.zero_le _, ov_lt c, hid rfl, hid rfl⟩)

theorem of_any {S : Nat → Prop} (v : Value) (xs : List Int) (w : World) (hv : Byt w S v xs) (ht : Tab w) :
    Calls Tryz.prog 33 #[v] w fun e w' => e = .returned (.int .u32 (ck xs : Nat)) ∧ w = w' := by
  have HC := hid (show ck xs = more 0 xs from rfl)
  have HV := hid hv
  have HT := hid ht
  clear hv ht
  go_enter Tryz.func33, Tryz.ntmps33
  go_wp2_with fail
  refine (more_any 0 v xs _ (by decide) HV.out HT.out).mono ?_
  rintro e w' ⟨rfl, rfl⟩
  rw [← HC.out]
  go_wp2_with fail
  go_ret
  exact ⟨rfl, rfl⟩

/-- How many bytes 0 go in. -/
def hz (m : Int) : Nat := if m < 0 then 0 else if 65536 < m then 65536 else m.toNat

end Go.Proofs.YtggmdgdgljlddaaGreatDoor

/-
  Contracts: the document's All, Over, Of, More, Zeros, Mend; awake, the chapter's examples.
-/
namespace Go.Proofs.YtggmdgdgljlddaaGreatDoor
open Go.RowKit

theorem over_any (c : Nat) (w : World) (hc : c < 4294967296) : Calls Tryz.prog 120 #[.int .u32 (c : Int)] w fun e w' => e = .returned (.int .u32 (ov c : Nat)) ∧ w = w' := by
  have HO := hid (show ((ov c : Nat) : Int) = 4294967295 - (c : Int) by unfold ov; omega)
  go_enter Tryz.func120, Tryz.ntmps120
  go_wp2
  go_ret
  rw [HO.out]
  exact ⟨rfl, rfl⟩

theorem all_any {S : Nat → Prop} (c : Nat) (v : Value) (xs : List Int) (w : World) (hc : c < 4294967296) (hv : Byt w S v xs) :
    Calls Tryz.prog 121 #[.int .u32 (c : Int), v] w fun e w' => e = .returned (.int .u32 (reg c xs : Nat)) ∧ w = w' := by
  have HV := hid hv
  obtain ⟨A, cp, rfl, hcp, hmx, hx, hr⟩ := hv
  clear hr hx
  unfold maxLen at hmx
  go_enter Tryz.func121, Tryz.ntmps121
  go_wp2
  go_loop [0, 5] (fun n i => ∃ k x : Nat, k ≤ xs.length ∧ i = .int .i64 k ∧ n = .int .u32 x ∧ x < 4294967296 ∧ Hid (reg c (xs.take k) = x)) (fun _ i => xs.length - (intOf i).toNat)
  case atStart => exact ⟨0, c, Nat.zero_le _, rfl, rfl, hc, hid rfl⟩
  case round =>
    obtain ⟨k, x, hk, rfl, rfl, hx, HX⟩ := hrel
    by_cases hkm : k < xs.length
    · have hki : (k : Int) < (xs.length : Int) := by omega
      obtain ⟨A', c', he, _, _, hb, hr⟩ := HV.out
      injection he with e1 _ e3
      subst e1 e3
      obtain ⟨b, o, rfl, _, _, hcell⟩ := hr (by omega)
      have hc1 := hcell k hkm
      have hbd := hb (xs.getD k 0) (by simp [List.getD, List.getElem?_eq_getElem hkm])
      have hrt := reg_take c xs k hkm
      obtain ⟨y, hy⟩ : ∃ y, (xs.getD k 0).toNat = y := ⟨_, rfl⟩
      have hy2 : xs.getD k 0 = (y : Int) := by omega
      have hy3 : y < 256 := by omega
      rw [hy2] at hc1
      rw [hy, HX.out] at hrt
      have HR := hid hrt
      clear hcell hr hb hy hy2 hbd hrt
      go_wp2_with fail
      refine (refin_any x y _ hx hy3).mono ?_
      rintro e w' ⟨rfl, rfl⟩
      have hz := en_lt hx hy3
      obtain ⟨z, hzz⟩ : ∃ z, en x y = z := ⟨_, rfl⟩
      rw [hzz] at hz ⊢
      have HZ := hid hzz
      clear hzz
      go_wp2
      go_round
      case rel => exact ⟨k + 1, z, by omega, by go_num, rfl, hz, hid (by rw [HR.out, HZ.out])⟩
      case measure => simp [intOf]; omega
    · have HL := hid (show xs.take k = xs from List.take_of_length_le (by omega))
      go_wp2
      go_ret
      rw [← HX.out, HL.out]
      exact ⟨rfl, rfl⟩

theorem refof_any {S : Nat → Prop} (v : Value) (xs : List Int) (w : World) (hv : Byt w S v xs) :
    Calls Tryz.prog 94 #[v] w fun e w' => e = .returned (.int .u32 (ck xs : Nat)) ∧ w = w' := by
  have HM := hid (show ck xs = ov (reg 4294967295 xs) from rfl)
  have hl := reg_lt xs (show 4294967295 < 4294967296 by decide) hv.bytes
  have HV := hid hv
  clear hv
  go_enter Tryz.func94, Tryz.ntmps94
  go_wp2_with fail
  refine (all_any 4294967295 v xs _ (by decide) HV.out).mono ?_
  rintro e w' ⟨rfl, rfl⟩
  go_wp2_with fail
  refine (over_any _ _ hl).mono ?_
  rintro e w' ⟨rfl, rfl⟩
  go_wp2_with fail
  go_ret
  rw [HM.out]
  exact ⟨rfl, rfl⟩

theorem lit_byt (w : World) (e : TypeId) (fr : Nat × Nat) {P : Nat → Prop} (hP : P w.heap.size) (xs : List Int) (hx : ∀ x ∈ xs, 0 ≤ x ∧ x ≤ 255) (hl : xs.length ≤ 1000) :
    Byt (w.alloc (.cells (xs.map (Value.int .u8)).toArray e fr)) P (.slice (some ⟨w.heap.size, 0, none⟩) xs.length xs.length) xs :=
  ⟨some ⟨w.heap.size, 0, none⟩, xs.length, rfl, Nat.le_refl _, by unfold maxLen; omega, hx, fun _ => ⟨w.heap.size, 0, rfl, by simp, hP, fun j hj => by
    rw [Nat.zero_add, World.cell?_alloc_mark]
    simp [List.getElem?_eq_getElem hj]⟩⟩

end Go.Proofs.YtggmdgdgljlddaaGreatDoor
