/-
  Contracts of small functions: hold, Width, own, Same, Number.
-/
import Derived.Test.YtgfkbkonelphaaaGreatDoorRows
import Derived.Test.YtgfkbkonelphaaaGreatDoorBytes
import Derived.Test.YtgfkbkonelphaaaGreatDoorNum
import Derived.Deep.QuietTactic
import Derived.BigQuiet
namespace Go.Proofs.YtgfkbkonelphaaaGreatDoor
open Go.RowKit

theorem isU8 : U8 Tryz.prog 36 5 := ⟨Tryz.underlying36, by kernel_rfl⟩

theorem hold_any (x : Int) (w : World) : Calls Tryz.prog 78 #[.int .i64 x] w fun e w' => e = .returned (.int .i64 (hw x)) ∧ w = w' := by
  rcases (show x < 1 ∨ 8 < x ∨ (1 ≤ x ∧ x ≤ 8) from by omega) with h | h | h
  · have hh : hw x = 1 := by unfold hw; simp [h]
    have H := hid hh; clear hh
    go_enter Tryz.func78, Tryz.ntmps78
    go_wp2
    all_goals go_ret
    all_goals (rw [H.out]; exact ⟨by first | rfl | go_num, rfl⟩)
  · have hh : hw x = 8 := by unfold hw; simp [h]; omega
    have H := hid hh; clear hh
    go_enter Tryz.func78, Tryz.ntmps78
    go_wp2
    all_goals go_ret
    all_goals (rw [H.out]; exact ⟨by first | rfl | go_num, rfl⟩)
  · have hh : (hw x : Int) = x := by unfold hw; split <;> (try split) <;> omega
    have H := hid hh; clear hh
    go_enter Tryz.func78, Tryz.ntmps78
    go_wp2
    all_goals go_ret
    all_goals (rw [H.out]; exact ⟨by first | rfl | go_num, rfl⟩)

theorem width_any (x : Int) (w : World) : Calls Tryz.prog 68 #[.int .i64 x] w fun e w' => e = .returned (.int .i64 (hw x)) ∧ w = w' := by
  rcases (show x < 1 ∨ 8 < x ∨ (1 ≤ x ∧ x ≤ 8) from by omega) with h | h | h
  · have hh : hw x = 1 := by unfold hw; simp [h]
    have H := hid hh; clear hh
    go_enter Tryz.func68, Tryz.ntmps68
    go_wp2
    all_goals go_ret
    all_goals (rw [H.out]; exact ⟨by first | rfl | go_num, rfl⟩)
  · have hh : hw x = 8 := by unfold hw; simp [h]; omega
    have H := hid hh; clear hh
    go_enter Tryz.func68, Tryz.ntmps68
    go_wp2
    all_goals go_ret
    all_goals (rw [H.out]; exact ⟨by first | rfl | go_num, rfl⟩)
  · have hh : (hw x : Int) = x := by unfold hw; split <;> (try split) <;> omega
    have H := hid hh; clear hh
    go_enter Tryz.func68, Tryz.ntmps68
    go_wp2
    all_goals go_ret
    all_goals (rw [H.out]; exact ⟨by first | rfl | go_num, rfl⟩)

theorem own_any {S : Nat → Prop} (v : Value) (xs : List Int) (w : World) (h : Byt w S v xs) (hl : xs.length ≤ 100000) :
    Calls Tryz.prog 76 #[v] w fun e w' => ∃ u, e = .returned u ∧ Own w' w.heap.size 5 u xs ∧ Kp No w w' := by
  have hv := h
  obtain ⟨A, c, rfl, hc, hm, hx, hr⟩ := h
  clear hr hx
  go_enter Tryz.func76, Tryz.ntmps76
  go_wp2_with (first
    | (at_builtin
       refine wp_app isU8 rfl (.const (.slice none 0 0)) (.tmp 3) rfl (base := w.heap.size) (xs := []) (ys := xs) (Own.nil _ _ _) hv (by simp; omega) (Nat.le_refl _) ?_
       intro v1 w1 hown1 hk1))
  go_ret
  exact ⟨v1, rfl, by simpa using hown1, hk1.mono fun k hk h => by omega⟩

theorem number_any {S : Nat → Prop} (v : Value) (xs : List Int) (w : World) (h : Byt w S v xs) (hl : xs.length ≤ 8) :
    Calls Tryz.prog 31 #[v] w fun e w' => e = .returned (.int .u64 (num xs)) ∧ w = w' := by
  obtain ⟨A, c, rfl, hc, hm, hx, hr⟩ := h
  have HR := hid hr
  have HX := hid hx
  clear hr hx
  go_enter Tryz.func31, Tryz.ntmps31
  go_wp2
  go_loop [3, 4, 5] (fun n s i => ∃ k : Nat, k ≤ xs.length ∧ i = .int .i64 k ∧ n = .int .u64 (num (xs.take k)) ∧ s = .int .u64 (pw k % 18446744073709551616)) (fun _ _ i => xs.length - (intOf i).toNat)
  case atStart => exact ⟨0, Nat.zero_le _, rfl, by simp [num], by simp [pw]⟩
  case round =>
    obtain ⟨k, hk, rfl, rfl, rfl⟩ := hrel
    by_cases hlt : k < xs.length
    · obtain ⟨b, o, rfl, hb, hS, hcell⟩ := HR.out (by omega)
      have hc1 := hcell k hlt
      have hlt' : (k : Int) < (xs.length : Int) := by omega
      clear hcell
      go_wp2
      go_round
      case rel =>
        exact ⟨k + 1, by omega, by go_num, congrArg (Value.int .u64) (num_round xs k hl hlt HX.out), congrArg (Value.int .u64) (pw_round k)⟩
      case measure => simp [intOf]; omega
    · go_wp2
      go_ret
      rw [show xs.take k = xs from List.take_of_length_le (by omega)]
      exact ⟨rfl, rfl⟩

theorem same_any {S T : Nat → Prop} (v u : Value) (xs ys : List Int) (w : World) (h : Byt w S v xs) (h' : Byt w T u ys) :
    Calls Tryz.prog 33 #[v, u] w fun e w' => e = .returned (.bool (decide (xs = ys))) ∧ ∃ n, w' = w.drewN n := by
  obtain ⟨A, c, rfl, hc, hm, hx, hr⟩ := h
  obtain ⟨A', c', rfl, hc', hm', hx', hr'⟩ := h'
  have HR := hid hr
  have HR' := hid hr'
  unfold maxLen at hm hm'
  clear hr hx hr' hx'
  by_cases hne : xs.length = ys.length
  · have he : (((xs.length : Nat) : Int) == ((ys.length : Nat) : Int)) = true := by simp [hne]
    have he2 : (((xs.length : Nat) : Int) != ((ys.length : Nat) : Int)) = false := by simp [hne]
    have HN := hid hne
    clear hne
    go_enter Tryz.func33, Tryz.ntmps33
    go_wp2
    clear he he2
    go_loopw [5] (fun i w' => ∃ k n : Nat, k ≤ xs.length ∧ i = .int .i64 k ∧ w' = w.drewN n ∧ xs.take k = ys.take k) (fun i _ => xs.length - (intOf i).toNat)
    case atStart => exact ⟨0, 0, Nat.zero_le _, rfl, rfl, by simp⟩
    case round =>
      obtain ⟨k, n, hk, rfl, rfl, ht⟩ := hrel
      have HT := hid ht
      clear ht
      by_cases hlt : k < xs.length
      · have hlt2 : k < ys.length := by have := HN.out; omega
        obtain ⟨b, o, rfl, hb, hS, hcell⟩ := HR.out (by omega)
        obtain ⟨b', o', rfl, hb', hS', hcell'⟩ := HR'.out (by omega)
        have hc1 := hcell k hlt
        have hc2 := hcell' k hlt2
        clear hcell hcell'
        obtain ⟨x, hx⟩ : ∃ x, xs.getD k 0 = x := ⟨_, rfl⟩
        obtain ⟨y, hy⟩ : ∃ y, ys.getD k 0 = y := ⟨_, rfl⟩
        rw [hx] at hc1
        rw [hy] at hc2
        have HX := hid hx
        have HY := hid hy
        have hki : (k : Int) < (xs.length : Int) := by omega
        have hki2 : (k : Int) < (ys.length : Int) := by omega
        clear hx hy HR HR'
        by_cases heq : x = y
        · subst heq
          have hb1 : (x != x) = false := by simp
          go_wp2
          go_quiet (fail)
          go_wp2
          go_roundw
          case rel =>
            refine ⟨k + 1, _, by omega, by go_num, rfl, ?_⟩
            rw [take_snoc xs k hlt, take_snoc ys k hlt2, HX.out, HY.out, HT.out]
          case measure => simp [intOf]; omega
        · have hb1 : (x != y) = true := by simp [heq]
          have hb2 : (x == y) = false := by simp [heq]
          go_wp2
          go_quiet (fail)
          go_wp2
          go_ret
          have hd : ¬ xs = ys := fun e => heq (by rw [← HX.out, ← HY.out, e])
          exact ⟨by simp [hd], _, by rw [World.drewN_drewN]⟩
      · go_wp2
        go_ret
        have hd : xs = ys := by
          have := HT.out
          rwa [List.take_of_length_le (by omega), List.take_of_length_le (by have := HN.out; omega)] at this
        exact ⟨by simp [hd], _, rfl⟩
  · have he2 : (((xs.length : Nat) : Int) != ((ys.length : Nat) : Int)) = true := by rw [bne_iff_ne]; omega
    have hd : ¬ xs = ys := fun e => hne (by rw [e])
    have HD := hid hd
    clear hd hne
    go_enter Tryz.func33, Tryz.ntmps33
    go_wp2
    go_ret
    exact ⟨by simp [HD.out], 0, rfl⟩
end Go.Proofs.YtgfkbkonelphaaaGreatDoor
