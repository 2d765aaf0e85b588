/-
  Contracts of the document's answers: Has, Of.
-/
import Derived.Test.YtjmnclneopofhaaDoorMaskOf
import Derived.Test.YtjmnclneopofhaaDoorInts
import Derived.BigQuiet
namespace Go.Proofs.YtjmnclneopofhaaDoor
open Go.RowKit

theorem half_pow (s k : Nat) : s / 2 ^ k / 2 = s / 2 ^ (k + 1) := by rw [Nat.div_div_eq_div_mul, Nat.pow_succ]

theorem refHas_any (s : Nat) (c : Int) (w : World) (hs : U64 s) :
    Calls Tryd.prog 14 #[.int .u64 (s : Int), .int .i64 c] w fun e w' => e = .returned (.bool (isIn s c)) ∧ w = w' := by
  by_cases hc : 0 ≤ c ∧ c < 64
  · obtain ⟨j, rfl⟩ : ∃ j : Nat, c = (j : Int) := ⟨c.toNat, by omega⟩
    have hj : j < 64 := by omega
    have hj2 : ¬ (63 : Int) < (j : Int) := by omega
    have HI := hid (isIn_nat s j hj)
    have HP := hid (half_pow s)
    have HU : Hid (∀ k, s / 2 ^ k < 18446744073709551616) := hid fun k => Nat.lt_of_le_of_lt (Nat.div_le_self _ _) hs
    clear hc hs
    go_enter Tryd.func14, Tryd.ntmps14
    go_wp2_with fail
    go_loop [0, 5] (fun x i => ∃ k y : Nat, k ≤ j ∧ i = .int .i64 (k : Int) ∧ x = .int .u64 (y : Int) ∧ Hid (s / 2 ^ k = y)) (fun _ i => j - (intOf i).toNat)
    case atStart => exact ⟨0, s, by omega, rfl, rfl, hid (by simp)⟩
    case round =>
      obtain ⟨k, y, hk, rfl, rfl, HY⟩ := hrel
      have hy : y < 18446744073709551616 := by rw [← HY.out]; exact HU.out k
      by_cases hlt : k < j
      · have hki : (k : Int) < (j : Int) := by omega
        go_wp2_with fail
        go_round
        case rel => exact ⟨k + 1, y / 2, by omega, by go_num, by go_num, hid (by rw [← HP.out, HY.out])⟩
        case measure => simp [intOf]; omega
      · have : k = j := by omega
        subst this
        have hb : ((y : Int) % 2 == 1) = s.testBit k := by
          rw [Nat.testBit_eq_decide_div_mod_eq, HY.out]
          exact Bool.eq_iff_iff.2 (by rw [beq_iff_eq, decide_eq_true_eq]; omega)
        go_wp2_with fail
        go_ret
        rw [HI.out]
        exact ⟨rfl, rfl⟩
  · have HI := hid (isIn_out s c hc)
    by_cases h0 : c < 0
    · clear hc
      go_enter Tryd.func14, Tryd.ntmps14
      go_wp2_with fail
      go_ret
      rw [HI.out]
      exact ⟨rfl, rfl⟩
    · have h1 : (63 : Int) < c := by omega
      clear hc
      go_enter Tryd.func14, Tryd.ntmps14
      go_wp2_with fail
      go_ret
      rw [HI.out]
      exact ⟨rfl, rfl⟩

theorem take_snoc (xs : List Int) (k : Nat) (h : k < xs.length) : xs.take (k + 1) = xs.take k ++ [xs.getD k 0] := by
  rw [List.take_succ_eq_append_getElem h]
  simp [List.getD, List.getElem?_eq_getElem h]

theorem refOf_any (v : Value) (xs : List Int) (w : World) {S : Nat → Prop} (hv : Sl (Value.int .i64) 0 w S v xs) :
    Calls Tryd.prog 31 #[v] w fun e w' => e = .returned (.int .u64 ((ofl xs : Nat) : Int)) ∧ w = w' := by
  have HV := hid hv
  have HS : Hid (∀ k, so xs (k + 1) = 2 * so xs k + (if (63 - k : Int) ∈ xs then 1 else 0)) := hid fun _ => rfl
  have HB := hid (so_small xs)
  have HO := hid (show ofl xs = so xs 64 from rfl)
  obtain ⟨A, cp, rfl, hcp, hmx, hr⟩ := hv
  clear hr
  unfold maxLen at hmx
  go_enter Tryd.func31, Tryd.ntmps31
  go_wp2_with fail
  go_loop [3, 4] (fun x c => ∃ k y : Nat, k ≤ 64 ∧ c = .int .i64 (63 - (k : Int)) ∧ x = .int .u64 (y : Int) ∧ Hid (so xs k = y)) (fun _ c => (intOf c + 1).toNat)
  case atStart => exact ⟨0, 0, by omega, rfl, rfl, hid rfl⟩
  case round =>
    obtain ⟨k, y, hk, rfl, rfl, HY⟩ := hrel
    by_cases hlt : k < 64
    · have hki : (0 : Int) ≤ 63 - (k : Int) := by omega
      have hy : y < 9223372036854775808 := by rw [← HY.out]; exact HB.out k (by omega)
      have HL := hid hlt
      clear hlt
      go_wp2_with fail
      go_loop [3, 5] (fun x i => ∃ q z : Nat, q ≤ xs.length ∧ i = .int .i64 (q : Int) ∧ x = .int .u64 (z : Int) ∧ z ≤ 2 * y + 1 ∧ Hid (z = 2 * y + (if (63 - k : Int) ∈ xs.take q then 1 else 0))) (fun _ i => xs.length - (intOf i).toNat)
      case atStart => exact ⟨0, 2 * y, by omega, rfl, by go_num, by omega, hid (by simp)⟩
      case round =>
        obtain ⟨q, z, hq, rfl, rfl, hz, HZ⟩ := hrel
        by_cases hlt : q < xs.length
        · have hqi : (q : Int) < (xs.length : Int) := by omega
          obtain ⟨A', c', he, _, _, hr⟩ := HV.out
          injection he with e1 _ e3
          subst e1 e3
          obtain ⟨b, o, rfl, _, _, hcell⟩ := hr (by omega)
          have hc1 := hcell q hlt
          have HT := hid (take_snoc xs q hlt)
          obtain ⟨u, hu⟩ : ∃ u, xs.getD q 0 = u := ⟨_, rfl⟩
          rw [hu] at hc1 HT
          clear hu hcell hr
          by_cases hce : u = 63 - (k : Int)
          · have hbe : (u == 63 - (k : Int)) = true := by rw [beq_iff_eq]; exact hce
            have HC := hid hce
            clear hce
            go_wp2_with fail
            go_round
            case rel =>
              refine ⟨q + 1, z - z % 2 + 1, by omega, by go_num, by go_num, by omega, hid ?_⟩
              rw [HT.out, if_pos (by rw [HC.out]; simp)]
              have := HZ.out
              split at this <;> omega
            case measure => simp [intOf]; omega
          · have hbe : (u == 63 - (k : Int)) = false := by rw [beq_eq_false_iff_ne]; exact hce
            have HC := hid hce
            clear hce
            go_wp2_with fail
            go_round
            case rel =>
              refine ⟨q + 1, z, by omega, by go_num, rfl, hz, hid ?_⟩
              have hm : ((63 - k : Int) ∈ xs.take q ++ [u]) = ((63 - k : Int) ∈ xs.take q) := propext (by
                rw [List.mem_append, List.mem_singleton]
                exact ⟨fun h => h.elim id fun h => absurd h.symm HC.out, .inl⟩)
              rw [HT.out, HZ.out]
              simp only [hm]
            case measure => simp [intOf]; omega
        · go_wp2_with fail
          go_round
          case rel =>
            have := HL.out
            refine ⟨k + 1, z, by omega, by go_num, rfl, hid ?_⟩
            rw [HS.out, HY.out, HZ.out, List.take_of_length_le (by omega)]
          case measure => simp [intOf]; omega
    · have : k = 64 := by omega
      subst this
      go_wp2_with fail
      go_ret
      rw [HO.out, HY.out]
      exact ⟨rfl, rfl⟩

theorem isInts : IsInts Tryd.prog 30 3 := ⟨Tryd.underlying30, by kernel_rfl⟩

theorem refAll_any (s : Nat) (w : World) (hs : U64 s) :
    Calls Tryd.prog 18 #[.int .u64 (s : Int)] w fun e w' => ∃ v, e = .returned v ∧ OwnI w' w.heap.size 3 v (nums (al s)) ∧ Kp No w w' := by
  have HA := hid (show al s = cs (fun i => isIn s (i : Int)) 64 from rfl)
  go_enter Tryd.func18, Tryd.ntmps18
  go_wp2_with fail
  go_loopw [3, 4] (fun v i w' => ∃ (k m : Nat) (A : Option Addr) (c : Nat), k ≤ 64 ∧ m ≤ k ∧ i = .int .i64 (k : Int) ∧ v = .slice A m c ∧ Hid ((nums (cs (fun i => isIn s (i : Int)) k)).length = m ∧ OwnI w' w.heap.size 3 v (nums (cs (fun i => isIn s (i : Int)) k)) ∧ Kp No w w')) (fun _ i _ => 64 - (intOf i).toNat)
  case atStart => exact ⟨0, 0, none, 0, by omega, by omega, rfl, rfl, hid ⟨rfl, OwnI.nil _ _ _, Kp.refl _ _⟩⟩
  case round =>
    obtain ⟨k, m, A, c, hk, hm, rfl, rfl, HH⟩ := hrel
    by_cases hlt : k < 64
    · have hki : (k : Int) < 64 := by omega
      have HS := hid (cs_succ (fun i => isIn s (i : Int)) k hlt)
      go_wp2_with fail
      refine (refHas_any s (k : Int) _ hs).mono ?_
      rintro e w' ⟨rfl, rfl⟩
      cases hb : isIn s (k : Int) with
      | true =>
        rw [if_pos hb] at HS
        have HB := hid hb
        clear hb
        go_wp2_with (at_builtin
                     refine wp_appI isInts rfl (.tmp 12) (.tmp 14) rfl (base := w.heap.size) rfl HH.out.2.1 rfl (by have := HH.out.1; omega) (by exact HH.out.2.2.size) ?_
                     intro v2 w2 o2 k2
                     have K2 := hid (HH.out.2.2.step k2 fun i hi h => by omega)
                     have O2 := hid o2
                     obtain ⟨A2, c2, rfl⟩ := o2.form (n := m + 1) (by have := HH.out.1; rw [List.length_append, List.length_singleton]; omega)
                     clear o2 k2)
        go_roundw
        case rel => exact ⟨k + 1, m + 1, A2, c2, by omega, by omega, by go_num, rfl, hid ⟨by have := HH.out.1; rw [HS.out, nums_snoc, List.length_append, List.length_singleton]; omega, by rw [HS.out, nums_snoc]; exact O2.out, K2.out⟩⟩
        case measure => simp [intOf]; omega
      | false =>
        rw [if_neg (by rw [hb]; decide), List.append_nil] at HS
        have HB := hid hb
        clear hb
        go_wp2_with fail
        go_roundw
        case rel => exact ⟨k + 1, m, A, c, by omega, by omega, by go_num, rfl, hid (by rw [HS.out]; exact HH.out)⟩
        case measure => simp [intOf]; omega
    · have : k = 64 := by omega
      subst this
      go_wp2_with fail
      go_ret
      exact ⟨_, rfl, by rw [HA.out]; exact HH.out.2.1, HH.out.2.2⟩
end Go.Proofs.YtjmnclneopofhaaDoor
