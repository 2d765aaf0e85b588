/-
  Contract of the document's Same of sections.
-/
import Derived.Test.YthhikjgaljkfpaaDoorPPack
namespace Go.Proofs.YthhikjgaljkfpaaDoor
open Go.RowKit

section
variable {w w' : World} {P S T : Nat → Prop} {v u : Value} {ss tt : List Sv}
theorem same_bool {xs ys : List Int} {q : Bool} (h : Byt w S v xs) (h' : Byt w T u ys) (hq : decide (xs = ys) = q) : Calls Tryd.prog 15 #[v, u] w fun e w' => e = .returned (.bool q) ∧ ∃ n, w' = w.drewN n :=
  (same_any v u xs ys w h h').mono fun e w' ⟨he, hn⟩ => ⟨by rw [he, hq], hn⟩
theorem sn_eq {k : Nat} (hk : k < ss.length) (hk' : k < tt.length) (h : (ss.map sn) = (tt.map sn)) : (ss.getD k sv0).k = (tt.getD k sv0).k ∧ (ss.getD k sv0).bl = (tt.getD k sv0).bl := by
  have h1 := getD_sn hk
  rw [h, getD_sn hk'] at h1
  have := Option.some.inj h1
  unfold sn at this
  simp only [Sn.mk.injEq] at this
  exact ⟨this.1.symm, this.2.symm⟩
theorem ssame_any (h : Ps w S v ss) (h' : Ps w T u tt) : Calls Tryd.prog 18 #[v, u] w fun e w' => e = .returned (.bool (decide (ss.map sn = tt.map sn))) ∧ ∃ n, w' = w.drewN n := by
  obtain ⟨n, hn⟩ : ∃ n, ss.length = n := ⟨_, rfl⟩
  obtain ⟨m, hm⟩ : ∃ m, tt.length = m := ⟨_, rfl⟩
  obtain ⟨A, c, rfl, hc, hcm⟩ := h.form hn
  obtain ⟨A', c', rfl, hc', hcm'⟩ := h'.form hm
  have HN := hid hn
  have HM := hid hm
  have HO := hid h
  have HO' := hid h'
  clear hn hm h h'
  by_cases hne : n = m
  · subst hne
    have he2 : (((n : Nat) : Int) != ((n : Nat) : Int)) = false := by simp
    go_enter Tryd.func18, Tryd.ntmps18
    go_wp2
    clear he2
    go_loopw [5] (fun i w' => ∃ k q : Nat, k ≤ n ∧ i = .int .i64 k ∧ w' = w.drewN q ∧ Hid ((ss.map sn).take k = (tt.map sn).take k)) (fun i _ => n - (intOf i).toNat)
    case atStart => exact ⟨0, 0, Nat.zero_le _, rfl, rfl, hid (by simp)⟩
    case round =>
      obtain ⟨k, q, hk, rfl, rfl, HT⟩ := hrel
      have HO := hid (HO.out.kp0 ((Kp.refl No w).drewN q))
      have HO' := hid (HO'.out.kp0 ((Kp.refl No w).drewN q))
      obtain ⟨w7, hw7⟩ : ∃ x, w.drewN q = x := ⟨_, rfl⟩
      have HW := hid hw7
      rw [hw7] at HO HO' ⊢
      clear hw7
      by_cases hkn : k < n
      · have HK := hid (show k < ss.length by rw [HN.out]; exact hkn)
        have HK' := hid (show k < tt.length by rw [HM.out]; exact hkn)
        obtain ⟨b, o, rfl, ok, c0, c1⟩ := HO.out.at' (k := k) HK.out
        obtain ⟨b', o', rfl, ok', c0', c1'⟩ := HO'.out.at' (k := k) HK'.out
        have HB := hid ok.b
        have HB' := hid ok'.b
        obtain ⟨x, hx⟩ : ∃ x, (ss.getD k sv0).k = x := ⟨_, rfl⟩
        obtain ⟨y, hy⟩ : ∃ y, (tt.getD k sv0).k = y := ⟨_, rfl⟩
        obtain ⟨bv, hbv⟩ : ∃ bv, (ss.getD k sv0).bv = bv := ⟨_, rfl⟩
        obtain ⟨bv', hbv'⟩ : ∃ bv, (tt.getD k sv0).bv = bv := ⟨_, rfl⟩
        rw [hx] at c0
        rw [hy] at c0'
        rw [hbv] at c1 HB
        rw [hbv'] at c1' HB'
        have HX := hid hx
        have HY := hid hy
        have hki : (k : Int) < (n : Int) := by omega
        have hsum := wrapI (x := (k : Int) + 1) (by unfold I64; omega)
        clear hx hy hbv hbv' ok ok' HO HO'
        by_cases heq : x = y
        · subst heq
          have hb1 : (x != x) = false := by simp
          have hb2 : (x == x) = true := by simp
          by_cases hbe : (ss.getD k sv0).bl = (tt.getD k sv0).bl
          · have HE := hid (decide_eq_true hbe)
            have HBE := hid hbe
            clear hbe
            go_wp2
            go_quiet ((go_at_call 15; exact Calls.quiet_of (same_bool (q := true) (by exact HB.out.kp0 ((Kp.refl No _).drewN _)) (by exact HB'.out.kp0 ((Kp.refl No _).drewN _)) HE.out)))
            go_wp2
            go_roundw
            case rel =>
              refine ⟨k + 1, _, by omega, by go_num, by rw [← HW.out, World.drewN_drewN], hid ?_⟩
              rw [take_sn HK.out, take_sn HK'.out, HT.out]
              unfold sn
              rw [HX.out, HY.out, HBE.out]
            case measure => simp [intOf]; omega
          · have HE := hid (decide_eq_false hbe)
            have HBE := hid hbe
            clear hbe
            go_wp2
            go_quiet ((go_at_call 15; exact Calls.quiet_of (same_bool (q := false) (by exact HB.out.kp0 ((Kp.refl No _).drewN _)) (by exact HB'.out.kp0 ((Kp.refl No _).drewN _)) HE.out)))
            go_wp2
            go_ret
            have hd : ¬ (ss.map sn) = (tt.map sn) := fun e => HBE.out (sn_eq HK.out HK'.out e).2
            exact ⟨by simp [hd], _, by rw [← HW.out, World.drewN_drewN]⟩
        · have hb1 : (x != y) = true := by simp [heq]
          have hb2 : (x == y) = false := by simp [heq]
          have HE := hid heq
          clear heq
          go_wp2
          go_quiet (fail)
          go_wp2
          go_ret
          have hd : ¬ (ss.map sn) = (tt.map sn) := fun e => HE.out (by rw [← HX.out, ← HY.out]; exact (sn_eq HK.out HK'.out e).1)
          exact ⟨by simp [hd], _, by rw [← HW.out, World.drewN_drewN]⟩
      · have hkk : k = n := by omega
        subst hkk
        go_wp2
        go_ret
        have hd : (ss.map sn) = (tt.map sn) := by
          have := HT.out
          rwa [List.take_of_length_le (by rw [List.length_map, HN.out]; exact Nat.le_refl _), List.take_of_length_le (by rw [List.length_map, HM.out]; exact Nat.le_refl _)] at this
        exact ⟨by simp [hd], _, HW.out.symm⟩
  · have he2 : (((n : Nat) : Int) != ((m : Nat) : Int)) = true := by rw [bne_iff_ne]; omega
    have hd : ¬ (ss.map sn) = (tt.map sn) := fun e => hne (by have := congrArg List.length e; rw [List.length_map, List.length_map, HN.out, HM.out] at this; exact this)
    have HD := hid hd
    clear hd hne
    go_enter Tryd.func18, Tryd.ntmps18
    go_wp2
    go_ret
    exact ⟨by simp [HD.out], 0, rfl⟩
end
end Go.Proofs.YthhikjgaljkfpaaDoor
