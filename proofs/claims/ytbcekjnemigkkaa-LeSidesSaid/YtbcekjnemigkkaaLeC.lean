/-
  Contracts: Sign, of the code and of the document.
-/
import Derived.Test.YtbcekjnemigkkaaLeB
namespace Go.Proofs.Ytbcekjnemigkkaa
open Go.RowKit

theorem sign_any (n x : Int) (w : World) (hn : 0 ≤ n ∧ n ≤ 18446744073709551615) :
    Calls Try.prog 14 #[.int .u64 n, .int .i64 x] w fun e w' => e = .returned (.int .i64 (sg n (hw x))) ∧ w = w' := by
  have hh := hw_bd x
  obtain ⟨m, hm⟩ : ∃ m, hw x = m := ⟨_, rfl⟩
  have HM := hid hm
  rw [hm] at hh ⊢
  clear hm
  rcases (show m = 1 ∨ m = 2 ∨ m = 3 ∨ m = 4 ∨ m = 5 ∨ m = 6 ∨ m = 7 ∨ m = 8 from by omega) with rfl | rfl | rfl | rfl | rfl | rfl | rfl | rfl
  all_goals
    clear hh
    go_enter Try.func14, Try.ntmps14
    go_wp2_with (first
      | (go_at_call 27; refine (hold_any _ _).mono ?_; rintro e w' ⟨rfl, rfl⟩; rw [HM.out]))
    go_ret
    first
    | exact ⟨congrArg (fun z => Ending.returned (Value.int .i64 z)) (sg1 n), rfl⟩
    | exact ⟨congrArg (fun z => Ending.returned (Value.int .i64 z)) (sg2 n), rfl⟩
    | exact ⟨congrArg (fun z => Ending.returned (Value.int .i64 z)) (sg3 n), rfl⟩
    | exact ⟨congrArg (fun z => Ending.returned (Value.int .i64 z)) (sg4 n), rfl⟩
    | exact ⟨congrArg (fun z => Ending.returned (Value.int .i64 z)) (sg5 n), rfl⟩
    | exact ⟨congrArg (fun z => Ending.returned (Value.int .i64 z)) (sg6 n), rfl⟩
    | exact ⟨congrArg (fun z => Ending.returned (Value.int .i64 z)) (sg7 n), rfl⟩
    | exact ⟨congrArg (fun z => Ending.returned (Value.int .i64 z)) (sg8 n), rfl⟩

theorem refsign_any (n x : Int) (w : World) (hn : 0 ≤ n ∧ n ≤ 18446744073709551615) :
    Calls Try.prog 15 #[.int .u64 n, .int .i64 x] w fun e w' => e = .returned (.int .i64 (sg n (hw x))) ∧ Kp No w w' := by
  have hh := hw_bd x
  obtain ⟨m, hm⟩ : ∃ m, hw x = m := ⟨_, rfl⟩
  have HM := hid hm
  rw [hm] at hh ⊢
  clear hm
  go_enter Try.func15, Try.ntmps15
  go_wp2_with fail
  refine (digits_any n x _ hn).mono ?_
  rintro e w1 ⟨v1, rfl, hown, hkp⟩
  rw [HM.out] at hown
  obtain ⟨k, rfl⟩ : ∃ k, m = k + 1 := ⟨m - 1, by omega⟩
  have hb := hown.byt (P := Anyb) fun _ _ => trivial
  obtain ⟨A, c, he, hc, hmx, hx, hr⟩ := hb
  rw [dg_len] at he hc hr
  obtain ⟨b, o, rfl, hblk, _, hcell⟩ := hr (by omega)
  subst he
  have hc1 := hcell k (by omega)
  have ho : o = 0 := by
    have := hown.1.2
    rcases this with ⟨h, _⟩ | ⟨g, cap, cur, h, _⟩
    · cases h
    · injection h with h; injection h with h; injection h
  subst ho
  have e1 : (dg n (k + 1)).getD k 0 = sr n k % 256 := by
    rw [dg_snoc]
    simp [List.getD, dg_len]
  rw [e1, Nat.zero_add] at hc1
  have hbit := high_bit n k (by omega)
  have HB := hid hbit
  clear hcell hr hx hmx e1 hbit
  obtain ⟨h, hh'⟩ : ∃ h, sr n k % 256 = h := ⟨_, rfl⟩
  have hh2 : 0 ≤ h ∧ h ≤ 255 := by omega
  rw [hh'] at hc1
  have HH := hid hh'
  clear hh'
  have hki : (0 : Int) ≤ (k : Int) := by omega
  by_cases hbig : 128 ≤ h
  · have hge : (128 : Int) ≤ h := by omega
    go_wp2
    go_loopw [5] (fun v w' => ∃ (j : Nat) (A : Option Addr) (c : Nat), k + 1 + j ≤ 8 ∧ v = .slice A (k + 1 + j) c ∧ Own w' w.heap.size 5 v (dg n (k + 1) ++ List.replicate j 255) ∧ Kp No w w') (fun v _ => 8 - lenOf v)
    case atStart => exact ⟨0, _, c, by omega, rfl, by simpa using hown, hkp⟩
    case round =>
      obtain ⟨j, A, c, hj, rfl, hown2, hkp2⟩ := hrel
      by_cases hlt : k + 1 + j < 8
      · have hlt' : (k : Int) + 1 + (j : Int) < 8 := by omega
        go_wp2_with (first
          | (at_builtin
             refine wp_app isU8 rfl (.tmp 21) (.tmp 22) rfl (base := w.heap.size) (xs := dg n (k + 1) ++ List.replicate j 255) (ys := [255]) (by exact hown2.alloc _) (by exact Byt.one (P := Anyb) _ _ _ (by omega) trivial) (by simp [dg_len]; omega) (by have := hkp2.size; simp; omega) ?_
             intro v3 w3 hown3 hk3
             obtain ⟨A3, c3, rfl⟩ := hown3.formN (n := k + 1 + (j + 1)) (by simp [dg_len])))
        go_roundw
        case rel =>
          refine ⟨j + 1, A3, c3, by omega, rfl, ?_, (hkp2.alloc _).step hk3 fun i hi h => by omega⟩
          rw [List.replicate_succ', ← List.append_assoc]
          exact hown3
        case measure =>
          simp [lenOf]; omega
      · have hlt' : ¬ ((k : Int) + 1 + (j : Int) < 8) := by omega
        go_wp2_with (first
          | (go_at_call 25; refine (number_any _ _ _ (hown2.byt (P := Anyb) fun _ _ => trivial) (by simp [dg_len]; omega)).mono ?_; rintro e w' ⟨rfl, rfl⟩))
        go_ret
        exact ⟨congrArg (fun z => Ending.returned (Value.int .i64 z)) (wide_neg n (k + 1) j (by omega) (by omega) (HB.out.1 (by rw [HH.out]; exact hbig))), hkp2⟩
  · have hge : h < 128 := by omega
    go_wp2
    go_loopw [5] (fun v w' => ∃ (j : Nat) (A : Option Addr) (c : Nat), k + 1 + j ≤ 8 ∧ v = .slice A (k + 1 + j) c ∧ Own w' w.heap.size 5 v (dg n (k + 1) ++ List.replicate j 0) ∧ Kp No w w') (fun v _ => 8 - lenOf v)
    case atStart => exact ⟨0, _, c, by omega, rfl, by simpa using hown, hkp⟩
    case round =>
      obtain ⟨j, A, c, hj, rfl, hown2, hkp2⟩ := hrel
      by_cases hlt : k + 1 + j < 8
      · have hlt' : (k : Int) + 1 + (j : Int) < 8 := by omega
        go_wp2_with (first
          | (at_builtin
             refine wp_app isU8 rfl (.tmp 24) (.tmp 25) rfl (base := w.heap.size) (xs := dg n (k + 1) ++ List.replicate j 0) (ys := [0]) (by exact hown2.alloc _) (by exact Byt.one (P := Anyb) _ _ _ (by omega) trivial) (by simp [dg_len]; omega) (by have := hkp2.size; simp; omega) ?_
             intro v3 w3 hown3 hk3
             obtain ⟨A3, c3, rfl⟩ := hown3.formN (n := k + 1 + (j + 1)) (by simp [dg_len])))
        go_roundw
        case rel =>
          refine ⟨j + 1, A3, c3, by omega, rfl, ?_, (hkp2.alloc _).step hk3 fun i hi h => by omega⟩
          rw [List.replicate_succ', ← List.append_assoc]
          exact hown3
        case measure =>
          simp [lenOf]; omega
      · have hlt' : ¬ ((k : Int) + 1 + (j : Int) < 8) := by omega
        go_wp2_with (first
          | (go_at_call 25; refine (number_any _ _ _ (hown2.byt (P := Anyb) fun _ _ => trivial) (by simp [dg_len]; omega)).mono ?_; rintro e w' ⟨rfl, rfl⟩))
        go_ret
        exact ⟨congrArg (fun z => Ending.returned (Value.int .i64 z)) (wide_pos n (k + 1) j (by omega) (by omega) (fun hx => by have := HB.out.2 hx; rw [HH.out] at this; omega)), hkp2⟩
end Go.Proofs.Ytbcekjnemigkkaa
