/-
  Contract: Take of the code's reader.
-/
import Derived.Test.YteficflfmbecbaaDoorLeD
import Derived.WalkMore
namespace Go.Proofs.YteficflfmbecbaaDoor
open Go.RowKit

theorem take_any (g : Nat) (xs : List Int) (e x : Int) (w : World) (h : Rd w g xs e) :
    Calls Tryd.prog 57 #[.pointer (some ⟨g, 0, none⟩), .int .i64 x] w fun r w' =>
      r = .returned (.int .u64 (num (nxP xs e (hw x)))) ∧ Rd w' g (nxR xs e (hw x)) (nxE xs e (hw x)) ∧ Kp (Only g) w w' := by
  have hh := hw_bd x
  have hlen : (nxP xs e (hw x)).length ≤ 8 := by unfold nxP; split <;> simp; omega
  obtain ⟨m, hm⟩ : ∃ m, hw x = m := ⟨_, rfl⟩
  have HM := hid hm
  rw [hm] at hh hlen ⊢
  clear hm
  obtain ⟨ys, hys⟩ : ∃ ys, nxP xs e m = ys := ⟨_, rfl⟩
  have HY := hid hys
  rw [hys] at hlen ⊢
  clear hys
  have H := hid h
  clear h
  go_enter Tryd.func57, Tryd.ntmps57
  go_wp2_with fail
  refine wp_scope_pass 0 (fun a' w' => ∃ (j : Nat) (n : Int) (A : Option Addr) (c : Nat) (u8 u9 u10 u11 u12 u13 u14 u15 u16 u17 u18 u19 u20 u21 u22 u23 u24 u25 u26 u27 : Value), a' = { tmps := #[.pointer (some ⟨g, 0, none⟩), .int .i64 x, undef, undef, .int .u64 0, .slice A ys.length c, .int .u64 n, .int .i64 ((j : Int) - 1), u8, u9, u10, u11, u12, u13, u14, u15, u16, u17, u18, u19, u20, u21, u22, u23, u24, u25, u26, u27], defers := [] } ∧ j ≤ ys.length ∧ Hid (num (ys.drop j) = n) ∧
      Hid (Byt w' (fun i => i < g) (.slice A ys.length c) ys ∧ Rd w' g (nxR xs e m) (nxE xs e m) ∧ Kp (Only g) w w')) (fun a' _ => (intOf (a'.tmps.getD 7 undef) + 1).toNat) rfl ?_ ?_
  · rintro a' w' ⟨j, n, A, c, u8, u9, u10, u11, u12, u13, u14, u15, u16, u17, u18, u19, u20, u21, u22, u23, u24, u25, u26, u27, rfl, hj, HN, HH⟩
    have hb := HH.out.1
    obtain ⟨A', c', he, hc, hmx, hx, hr⟩ := hb
    injection he with e1 _ e3
    subst e1 e3
    by_cases hj0 : 0 < j
    · obtain ⟨b, o, rfl, hblk, hg, hcell⟩ := hr (by omega)
      obtain ⟨i, rfl⟩ : ∃ i, j = i + 1 := ⟨j - 1, by omega⟩
      have c1 := hcell i (by omega)
      have hbd := hx (ys.getD i 0) (by simp [List.getD, List.getElem?_eq_getElem (show i < ys.length by omega)])
      obtain ⟨y, hy⟩ : ∃ y, ys.getD i 0 = y := ⟨_, rfl⟩
      rw [hy] at c1 hbd
      have HYi := hid hy
      clear hy hcell hr hx
      have ei : (((i + 1 : Nat) : Int) - 1) = (i : Int) := by omega
      rw [ei]
      clear ei
      have hi0 : (0 : Int) ≤ (i : Int) := by omega
      have hil : (i : Int) < (ys.length : Int) := by omega
      go_wp2
      go_step3
      have hst := take_round ys i (by omega) (by omega) HH.out.1.bytes
      rw [HN.out, HYi.out] at hst
      refine ⟨rfl, ⟨i, _, _, c, _, _, _, _, _, _, _, _, _, _, _, _, _, _, _, _, _, _, _, _, rfl, by omega, hid hst.symm, HH⟩, ?_⟩
      simp [intOf]
    · have : j = 0 := by omega
      subst this
      go_wp2
      simp only [Exit.jump]
      go_ret
      have := HN.out
      rw [List.drop_zero] at this
      rw [this]
      exact ⟨rfl, HH.out.2⟩
  · intro pass
    go_wp2_with (first
      | (go_at_call 61; refine (hold_any _ _).mono ?_; rintro e w' ⟨rfl, rfl⟩; rw [HM.out])
      | (go_at_call 64; refine (next_any g xs e m _ H.out).mono ?_; rintro r w1 ⟨u, rfl, hu⟩; rw [HY.out] at hu; have HU := hid hu; obtain ⟨A, c, rfl, _⟩ := hu.1; clear hu))
    go_step3
    have go_on := ‹∀ (a : Act) (w : World), Code.wp _ _ _ a w → _›
    refine go_on _ _ (pass _ _ ⟨ys.length, 0, A, c, _, _, _, _, _, _, _, _, _, _, _, _, _, _, _, _, _, _, _, _, rfl, Nat.le_refl _, hid (by rw [List.drop_length]; rfl), HU⟩)
end Go.Proofs.YteficflfmbecbaaDoor
