/-
  Contracts: Put, Digits.
-/
import Derived.Test.YtgfkbkonelphaaaGreatDoorLeA
import Derived.WalkMore
namespace Go.Proofs.YtgfkbkonelphaaaGreatDoor
open Go.RowKit

theorem digits_any (n x : Int) (w : World) (hn : 0 ≤ n ∧ n ≤ 18446744073709551615) :
    Calls Tryz.prog 53 #[.int .u64 n, .int .i64 x] w fun e w' => ∃ u, e = .returned u ∧ Own w' w.heap.size 5 u (dg n (hw x)) ∧ Kp No w w' := by
  have hh := hw_bd x
  obtain ⟨m, hm⟩ : ∃ m, hw x = m := ⟨_, rfl⟩
  have HM := hid hm
  rw [hm] at hh ⊢
  clear hm
  go_enter Tryz.func53, Tryz.ntmps53
  go_wp2
  go_loopw [0, 5, 6] (fun s v i w' => ∃ k : Nat, k ≤ m ∧ i = .int .i64 k ∧ s = .int .u64 (sr n k) ∧ Own w' w.heap.size 5 v (dg n k) ∧ Kp No w w') (fun _ _ i _ => m - (intOf i).toNat)
  case atStart => exact ⟨0, Nat.zero_le _, rfl, rfl, Own.nil _ _ _, Kp.refl _ _⟩
  case round =>
    obtain ⟨k, hk, rfl, rfl, hown, hkp⟩ := hrel
    have hs := sr_bd n 18446744073709551615 hn k
    obtain ⟨s, hsr⟩ : ∃ s, sr n k = s := ⟨_, rfl⟩
    have HS := hid hsr
    rw [hsr] at hs ⊢
    clear hsr
    go_wp2_with (first
      | (go_at_call 68; refine (width_any _ _).mono ?_; rintro e w' ⟨rfl, rfl⟩; rw [HM.out])
      | (at_builtin
         refine wp_app isU8 rfl (.tmp 13) (.tmp 17) rfl (base := w.heap.size) (xs := dg n k) (ys := [s % 256]) (by exact hown.alloc _) (by exact Byt.one (P := Anyb) _ _ _ (by omega) trivial) (by simp [dg_len]; omega) (by have := hkp.size; simp; omega) ?_
         intro v1 w1 hown1 hk1))
    · go_roundw
      case rel =>
        have := HS.out
        exact ⟨k + 1, by omega, by go_num, by simp [sr, this], by rw [dg_snoc, this]; exact hown1, (hkp.alloc _).step hk1 fun i hi h => by omega⟩
      case measure => simp [intOf]; omega
    · go_ret
      have : k = m := by omega
      subst this
      exact ⟨_, rfl, hown, hkp⟩

set_option maxRecDepth 100000 in
theorem put_any {S : Nat → Prop} (v : Value) (xs : List Int) (n x : Int) (w : World) (hv : Byt w S v xs) (hn : 0 ≤ n ∧ n ≤ 18446744073709551615) (hl : xs.length ≤ 100000) :
    Calls Tryz.prog 66 #[v, .int .u64 n, .int .i64 x] w fun e w' => ∃ u, e = .returned u ∧ Own w' w.heap.size 5 u (xs ++ dg n (hw x)) ∧ Kp No w w' := by
  have hh := hw_bd x
  obtain ⟨m, hm⟩ : ∃ m, hw x = m := ⟨_, rfl⟩
  have HM := hid hm
  rw [hm] at hh ⊢
  clear hm
  have HV := hid hv
  obtain ⟨A, c, rfl, hc, hmx, hx, hr⟩ := hv
  clear hr hx
  unfold maxLen at hmx
  go_enter Tryz.func66, Tryz.ntmps66
  go_wp2_with fail
  refine wp_scope_pass 0 (fun a' w' => ∃ (k : Nat) (V u9 u10 u11 u12 u13 u14 u15 u16 u17 u18 u19 u20 u21 u22 u23 u24 u25 u26 u27 u28 u29 u30 u31 u32 u33 : Value), a' = { tmps := #[.slice A xs.length c, .int .u64 (sr n k), .int .i64 m, undef, undef, undef, .slice none 0 0, V, .int .i64 k, u9, u10, u11, u12, u13, u14, u15, u16, u17, u18, u19, u20, u21, u22, u23, u24, u25, u26, u27, u28, u29, u30, u31, u32, u33], defers := [] } ∧ k ≤ m ∧
      Own w' w.heap.size 5 V (xs ++ dg n k) ∧ Kp No w w') (fun a' _ => m - (intOf (a'.tmps.getD 8 undef)).toNat) rfl ?_ ?_
  · rintro a' w' ⟨k, V, u9, u10, u11, u12, u13, u14, u15, u16, u17, u18, u19, u20, u21, u22, u23, u24, u25, u26, u27, u28, u29, u30, u31, u32, u33, rfl, hk, hown, hkp⟩
    have hs := sr_bd n 18446744073709551615 hn k
    obtain ⟨s, hsr⟩ : ∃ s, sr n k = s := ⟨_, rfl⟩
    have HS := hid hsr
    rw [hsr] at hs ⊢
    clear hsr
    by_cases hkm : k < m
    · have hki : (k : Int) < (m : Int) := by omega
      go_wp2_with (first
        | (at_builtin
           refine wp_app isU8 rfl (.tmp 24) (.tmp 27) rfl (base := w.heap.size) (xs := xs ++ dg n k) (ys := [s % 256]) (by exact hown.alloc _) (by exact Byt.one (P := Anyb) _ _ _ (by omega) trivial) (by simp [dg_len]; omega) (by have := hkp.size; simp; omega) ?_
           intro v1 w1 hown1 hk1))
      go_step3
      obtain rfl := HS.out
      refine ⟨rfl, ⟨k + 1, v1, _, _, _, _, _, _, _, _, _, _, _, _, _, _, _, _, _, _, _, _, _, _, _, _, _, rfl, by omega, ?_, (hkp.alloc _).step hk1 fun i hi h => by omega⟩, ?_⟩
      · rw [dg_snoc, ← List.append_assoc]
        exact hown1
      · simp [intOf]; omega
    · go_wp2
      simp only [Exit.jump]
      go_ret
      have : k = m := by omega
      subst this
      exact ⟨_, rfl, hown, hkp⟩
  · intro pass
    go_wp2_with (first
      | (go_at_call 78; refine (hold_any _ _).mono ?_; rintro e w' ⟨rfl, rfl⟩; rw [HM.out])
      | (at_make
         refine wp_made isU8 rfl (.tmp 12) (.tmp 16) rfl (n := xs.length) (m := xs.length + m) rfl rfl (by omega) (by omega) (by omega) (by omega) ?_
         intro w1 hown1 hk1 hz1)
      | (refine wp_copied (o := ⟨some 20, _, _, _, _, _⟩) isU8 rfl (.tmp 18) (.tmp 19) rfl (base := w.heap.size) (g := w.heap.size) (cap := xs.length + m) (xs := List.replicate xs.length 0) (ys := xs) (by simp [go_sem]) (by simpa using hown1) (by exact HV.out.kp hk1 fun _ _ h => h) (by simp) ?_
         intro w2 hown2 hk2))
    go_step3
    have go_on := ‹∀ (a : Act) (w : World), Code.wp _ _ _ a w → _›
    refine go_on _ _ (pass _ _ ⟨0, _, _, _, _, _, _, _, _, _, _, _, _, _, _, _, _, _, _, _, _, _, _, _, _, _, _, rfl, by omega, by simpa [dg] using hown2, hk1.step hk2 fun i hi h => by omega⟩)
end Go.Proofs.YtgfkbkonelphaaaGreatDoor
