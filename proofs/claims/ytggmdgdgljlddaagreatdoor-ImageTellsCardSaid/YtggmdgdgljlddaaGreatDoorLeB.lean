/-
  LeA LeB: texts laid into one.
-/
import Derived.Test.YtggmdgdgljlddaaGreatDoorRows
import Derived.Test.YtggmdgdgljlddaaGreatDoorBytes
import Derived.Test.YtggmdgdgljlddaaGreatDoorNum
import Derived.Deep.QuietTactic
import Derived.BigQuiet
import Derived.WalkMore

/-
  Contracts of small functions: hold, Width, own, Same, Number.
-/
namespace Go.Proofs.YtggmdgdgljlddaaGreatDoor
open Go.RowKit

theorem isU8 : U8 Tryz.prog 28 5 := ⟨Tryz.underlying28, by kernel_rfl⟩

theorem hold_any (x : Int) (w : World) : Calls Tryz.prog 66 #[.int .i64 x] w fun e w' => e = .returned (.int .i64 (hw x)) ∧ w = w' := by
  rcases (show x < 1 ∨ 8 < x ∨ (1 ≤ x ∧ x ≤ 8) from by omega) with h | h | h
  · have hh : hw x = 1 := by unfold hw; simp [h]
    have H := hid hh; clear hh
    go_enter Tryz.func66, Tryz.ntmps66
    go_wp2
    all_goals go_ret
    all_goals (rw [H.out]; exact ⟨by first | rfl | go_num, rfl⟩)
  · have hh : hw x = 8 := by unfold hw; simp [h]; omega
    have H := hid hh; clear hh
    go_enter Tryz.func66, Tryz.ntmps66
    go_wp2
    all_goals go_ret
    all_goals (rw [H.out]; exact ⟨by first | rfl | go_num, rfl⟩)
  · have hh : (hw x : Int) = x := by unfold hw; split <;> (try split) <;> omega
    have H := hid hh; clear hh
    go_enter Tryz.func66, Tryz.ntmps66
    go_wp2
    all_goals go_ret
    all_goals (rw [H.out]; exact ⟨by first | rfl | go_num, rfl⟩)

theorem width_any (x : Int) (w : World) : Calls Tryz.prog 54 #[.int .i64 x] w fun e w' => e = .returned (.int .i64 (hw x)) ∧ w = w' := by
  rcases (show x < 1 ∨ 8 < x ∨ (1 ≤ x ∧ x ≤ 8) from by omega) with h | h | h
  · have hh : hw x = 1 := by unfold hw; simp [h]
    have H := hid hh; clear hh
    go_enter Tryz.func54, Tryz.ntmps54
    go_wp2
    all_goals go_ret
    all_goals (rw [H.out]; exact ⟨by first | rfl | go_num, rfl⟩)
  · have hh : hw x = 8 := by unfold hw; simp [h]; omega
    have H := hid hh; clear hh
    go_enter Tryz.func54, Tryz.ntmps54
    go_wp2
    all_goals go_ret
    all_goals (rw [H.out]; exact ⟨by first | rfl | go_num, rfl⟩)
  · have hh : (hw x : Int) = x := by unfold hw; split <;> (try split) <;> omega
    have H := hid hh; clear hh
    go_enter Tryz.func54, Tryz.ntmps54
    go_wp2
    all_goals go_ret
    all_goals (rw [H.out]; exact ⟨by first | rfl | go_num, rfl⟩)

theorem own_any {S : Nat → Prop} (v : Value) (xs : List Int) (w : World) (h : Byt w S v xs) (hl : xs.length ≤ 100000) :
    Calls Tryz.prog 101 #[v] w fun e w' => ∃ u, e = .returned u ∧ Own w' w.heap.size 5 u xs ∧ Kp No w w' := by
  have hv := h
  obtain ⟨A, c, rfl, hc, hm, hx, hr⟩ := h
  clear hr hx
  go_enter Tryz.func101, Tryz.ntmps101
  go_wp2_with (first
    | (at_builtin
       refine wp_app isU8 rfl (.const (.slice none 0 0)) (.tmp 3) rfl (base := w.heap.size) (xs := []) (ys := xs) (Own.nil _ _ _) hv (by simp; omega) (Nat.le_refl _) ?_
       intro v1 w1 hown1 hk1))
  go_ret
  exact ⟨v1, rfl, by simpa using hown1, hk1.mono fun k hk h => by omega⟩

theorem number_any {S : Nat → Prop} (v : Value) (xs : List Int) (w : World) (h : Byt w S v xs) (hl : xs.length ≤ 8) :
    Calls Tryz.prog 27 #[v] w fun e w' => e = .returned (.int .u64 (num xs)) ∧ w = w' := by
  obtain ⟨A, c, rfl, hc, hm, hx, hr⟩ := h
  have HR := hid hr
  have HX := hid hx
  clear hr hx
  go_enter Tryz.func27, Tryz.ntmps27
  go_wp2
  go_loop [3, 4, 5] (fun n s i => ∃ k : Nat, k ≤ xs.length ∧ i = .int .i64 k ∧ n = .int .u64 (num (xs.take k)) ∧ s = .int .u64 (pw k % 18446744073709551616)) (fun _ _ i => xs.length - (intOf i).toNat)
  case atStart => exact ⟨0, Nat.zero_le _, rfl, by simp [num], by simp [pw]⟩
  case round =>
    obtain ⟨k, hk, rfl, rfl, rfl⟩ := hrel
    by_cases hlt : k < xs.length
    · obtain ⟨b, o, rfl, hb, hS, hcell⟩ := HR.out (by omega)
      have hc1 := hcell k hlt
      have hlt' : (k : Int) < (xs.length : Int) := by omega
      clear hcell
      go_wp2
      go_round
      case rel =>
        exact ⟨k + 1, by omega, by go_num, congrArg (Value.int .u64) (num_round xs k hl hlt HX.out), congrArg (Value.int .u64) (pw_round k)⟩
      case measure => simp [intOf]; omega
    · go_wp2
      go_ret
      rw [show xs.take k = xs from List.take_of_length_le (by omega)]
      exact ⟨rfl, rfl⟩

theorem same_any {S T : Nat → Prop} (v u : Value) (xs ys : List Int) (w : World) (h : Byt w S v xs) (h' : Byt w T u ys) :
    Calls Tryz.prog 9 #[v, u] w fun e w' => e = .returned (.bool (decide (xs = ys))) ∧ ∃ n, w' = w.drewN n := by
  obtain ⟨A, c, rfl, hc, hm, hx, hr⟩ := h
  obtain ⟨A', c', rfl, hc', hm', hx', hr'⟩ := h'
  have HR := hid hr
  have HR' := hid hr'
  unfold maxLen at hm hm'
  clear hr hx hr' hx'
  by_cases hne : xs.length = ys.length
  · have he : (((xs.length : Nat) : Int) == ((ys.length : Nat) : Int)) = true := by simp [hne]
    have he2 : (((xs.length : Nat) : Int) != ((ys.length : Nat) : Int)) = false := by simp [hne]
    have HN := hid hne
    clear hne
    go_enter Tryz.func9, Tryz.ntmps9
    go_wp2
    clear he he2
    go_loopw [5] (fun i w' => ∃ k n : Nat, k ≤ xs.length ∧ i = .int .i64 k ∧ w' = w.drewN n ∧ xs.take k = ys.take k) (fun i _ => xs.length - (intOf i).toNat)
    case atStart => exact ⟨0, 0, Nat.zero_le _, rfl, rfl, by simp⟩
    case round =>
      obtain ⟨k, n, hk, rfl, rfl, ht⟩ := hrel
      have HT := hid ht
      clear ht
      by_cases hlt : k < xs.length
      · have hlt2 : k < ys.length := by have := HN.out; omega
        obtain ⟨b, o, rfl, hb, hS, hcell⟩ := HR.out (by omega)
        obtain ⟨b', o', rfl, hb', hS', hcell'⟩ := HR'.out (by omega)
        have hc1 := hcell k hlt
        have hc2 := hcell' k hlt2
        clear hcell hcell'
        obtain ⟨x, hx⟩ : ∃ x, xs.getD k 0 = x := ⟨_, rfl⟩
        obtain ⟨y, hy⟩ : ∃ y, ys.getD k 0 = y := ⟨_, rfl⟩
        rw [hx] at hc1
        rw [hy] at hc2
        have HX := hid hx
        have HY := hid hy
        have hki : (k : Int) < (xs.length : Int) := by omega
        have hki2 : (k : Int) < (ys.length : Int) := by omega
        clear hx hy HR HR'
        by_cases heq : x = y
        · subst heq
          have hb1 : (x != x) = false := by simp
          go_wp2
          go_quiet (fail)
          go_wp2
          go_roundw
          case rel =>
            refine ⟨k + 1, _, by omega, by go_num, rfl, ?_⟩
            rw [take_snoc xs k hlt, take_snoc ys k hlt2, HX.out, HY.out, HT.out]
          case measure => simp [intOf]; omega
        · have hb1 : (x != y) = true := by simp [heq]
          have hb2 : (x == y) = false := by simp [heq]
          go_wp2
          go_quiet (fail)
          go_wp2
          go_ret
          have hd : ¬ xs = ys := fun e => heq (by rw [← HX.out, ← HY.out, e])
          exact ⟨by simp [hd], _, by rw [World.drewN_drewN]⟩
      · go_wp2
        go_ret
        have hd : xs = ys := by
          have := HT.out
          rwa [List.take_of_length_le (by omega), List.take_of_length_le (by have := HN.out; omega)] at this
        exact ⟨by simp [hd], _, rfl⟩
  · have he2 : (((xs.length : Nat) : Int) != ((ys.length : Nat) : Int)) = true := by rw [bne_iff_ne]; omega
    have hd : ¬ xs = ys := fun e => hne (by rw [e])
    have HD := hid hd
    clear hd hne
    go_enter Tryz.func9, Tryz.ntmps9
    go_wp2
    go_ret
    exact ⟨by simp [HD.out], 0, rfl⟩
end Go.Proofs.YtggmdgdgljlddaaGreatDoor

/-
  Contracts: Put, Digits.
-/
namespace Go.Proofs.YtggmdgdgljlddaaGreatDoor
open Go.RowKit

theorem digits_any (n x : Int) (w : World) (hn : 0 ≤ n ∧ n ≤ 18446744073709551615) :
    Calls Tryz.prog 19 #[.int .u64 n, .int .i64 x] w fun e w' => ∃ u, e = .returned u ∧ Own w' w.heap.size 5 u (dg n (hw x)) ∧ Kp No w w' := by
  have hh := hw_bd x
  obtain ⟨m, hm⟩ : ∃ m, hw x = m := ⟨_, rfl⟩
  have HM := hid hm
  rw [hm] at hh ⊢
  clear hm
  go_enter Tryz.func19, Tryz.ntmps19
  go_wp2
  go_loopw [0, 5, 6] (fun s v i w' => ∃ k : Nat, k ≤ m ∧ i = .int .i64 k ∧ s = .int .u64 (sr n k) ∧ Own w' w.heap.size 5 v (dg n k) ∧ Kp No w w') (fun _ _ i _ => m - (intOf i).toNat)
  case atStart => exact ⟨0, Nat.zero_le _, rfl, rfl, Own.nil _ _ _, Kp.refl _ _⟩
  case round =>
    obtain ⟨k, hk, rfl, rfl, hown, hkp⟩ := hrel
    have hs := sr_bd n 18446744073709551615 hn k
    obtain ⟨s, hsr⟩ : ∃ s, sr n k = s := ⟨_, rfl⟩
    have HS := hid hsr
    rw [hsr] at hs ⊢
    clear hsr
    go_wp2_with (first
      | (go_at_call 54; refine (width_any _ _).mono ?_; rintro e w' ⟨rfl, rfl⟩; rw [HM.out])
      | (at_builtin
         refine wp_app isU8 rfl (.tmp 13) (.tmp 17) rfl (base := w.heap.size) (xs := dg n k) (ys := [s % 256]) (by exact hown.alloc _) (by exact Byt.one (P := Anyb) _ _ _ (by omega) trivial) (by simp [dg_len]; omega) (by have := hkp.size; simp; omega) ?_
         intro v1 w1 hown1 hk1))
    · go_roundw
      case rel =>
        have := HS.out
        exact ⟨k + 1, by omega, by go_num, by simp [sr, this], by rw [dg_snoc, this]; exact hown1, (hkp.alloc _).step hk1 fun i hi h => by omega⟩
      case measure => simp [intOf]; omega
    · go_ret
      have : k = m := by omega
      subst this
      exact ⟨_, rfl, hown, hkp⟩

set_option maxRecDepth 100000 in
theorem put_any {S : Nat → Prop} (v : Value) (xs : List Int) (n x : Int) (w : World) (hv : Byt w S v xs) (hn : 0 ≤ n ∧ n ≤ 18446744073709551615) (hl : xs.length ≤ 100000) :
    Calls Tryz.prog 32 #[v, .int .u64 n, .int .i64 x] w fun e w' => ∃ u, e = .returned u ∧ Own w' w.heap.size 5 u (xs ++ dg n (hw x)) ∧ Kp No w w' := by
  have hh := hw_bd x
  obtain ⟨m, hm⟩ : ∃ m, hw x = m := ⟨_, rfl⟩
  have HM := hid hm
  rw [hm] at hh ⊢
  clear hm
  have HV := hid hv
  obtain ⟨A, c, rfl, hc, hmx, hx, hr⟩ := hv
  clear hr hx
  unfold maxLen at hmx
  go_enter Tryz.func32, Tryz.ntmps32
  go_wp2_with fail
  refine wp_scope_pass 0 (fun a' w' => ∃ (k : Nat) (V u9 u10 u11 u12 u13 u14 u15 u16 u17 u18 u19 u20 u21 u22 u23 u24 u25 u26 u27 u28 u29 u30 u31 u32 u33 : Value), a' = { tmps := #[.slice A xs.length c, .int .u64 (sr n k), .int .i64 m, undef, undef, undef, .slice none 0 0, V, .int .i64 k, u9, u10, u11, u12, u13, u14, u15, u16, u17, u18, u19, u20, u21, u22, u23, u24, u25, u26, u27, u28, u29, u30, u31, u32, u33], defers := [] } ∧ k ≤ m ∧
      Own w' w.heap.size 5 V (xs ++ dg n k) ∧ Kp No w w') (fun a' _ => m - (intOf (a'.tmps.getD 8 undef)).toNat) rfl ?_ ?_
  · rintro a' w' ⟨k, V, u9, u10, u11, u12, u13, u14, u15, u16, u17, u18, u19, u20, u21, u22, u23, u24, u25, u26, u27, u28, u29, u30, u31, u32, u33, rfl, hk, hown, hkp⟩
    have hs := sr_bd n 18446744073709551615 hn k
    obtain ⟨s, hsr⟩ : ∃ s, sr n k = s := ⟨_, rfl⟩
    have HS := hid hsr
    rw [hsr] at hs ⊢
    clear hsr
    by_cases hkm : k < m
    · have hki : (k : Int) < (m : Int) := by omega
      go_wp2_with (first
        | (at_builtin
           refine wp_app isU8 rfl (.tmp 24) (.tmp 27) rfl (base := w.heap.size) (xs := xs ++ dg n k) (ys := [s % 256]) (by exact hown.alloc _) (by exact Byt.one (P := Anyb) _ _ _ (by omega) trivial) (by simp [dg_len]; omega) (by have := hkp.size; simp; omega) ?_
           intro v1 w1 hown1 hk1))
      go_step3
      obtain rfl := HS.out
      refine ⟨rfl, ⟨k + 1, v1, _, _, _, _, _, _, _, _, _, _, _, _, _, _, _, _, _, _, _, _, _, _, _, _, _, rfl, by omega, ?_, (hkp.alloc _).step hk1 fun i hi h => by omega⟩, ?_⟩
      · rw [dg_snoc, ← List.append_assoc]
        exact hown1
      · simp [intOf]; omega
    · go_wp2
      simp only [Exit.jump]
      go_ret
      have : k = m := by omega
      subst this
      exact ⟨_, rfl, hown, hkp⟩
  · intro pass
    go_wp2_with (first
      | (go_at_call 66; refine (hold_any _ _).mono ?_; rintro e w' ⟨rfl, rfl⟩; rw [HM.out])
      | (at_make
         refine wp_made isU8 rfl (.tmp 12) (.tmp 16) rfl (n := xs.length) (m := xs.length + m) rfl rfl (by omega) (by omega) (by omega) (by omega) ?_
         intro w1 hown1 hk1 hz1)
      | (refine wp_copied (o := ⟨some 20, _, _, _, _, _⟩) isU8 rfl (.tmp 18) (.tmp 19) rfl (base := w.heap.size) (g := w.heap.size) (cap := xs.length + m) (xs := List.replicate xs.length 0) (ys := xs) (by simp [go_sem]) (by simpa using hown1) (by exact HV.out.kp hk1 fun _ _ h => h) (by simp) ?_
         intro w2 hown2 hk2))
    go_step3
    have go_on := ‹∀ (a : Act) (w : World), Code.wp _ _ _ a w → _›
    refine go_on _ _ (pass _ _ ⟨0, _, _, _, _, _, _, _, _, _, _, _, _, _, _, _, _, _, _, _, _, _, _, _, _, _, _, rfl, by omega, by simpa [dg] using hown2, hk1.step hk2 fun i hi h => by omega⟩)
end Go.Proofs.YtggmdgdgljlddaaGreatDoor
