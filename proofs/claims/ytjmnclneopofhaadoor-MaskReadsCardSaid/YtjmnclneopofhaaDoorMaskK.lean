/-
  Contract of the document's Parse.
-/
import Derived.Test.YtjmnclneopofhaaDoorMaskJ
import Derived.Test.YtjmnclneopofhaaDoorMaskFold
namespace Go.Proofs.YtjmnclneopofhaaDoor
open Go.RowKit

theorem str_at (t : List UInt8) (k : Nat) (h : k < (str t).size) : (str t)[k] = t[k]'h := rfl
theorem rng_take (f a : Int) (q : Nat) (h : q < (min a 63 + 1 - f).toNat) : (rng f a).take (q + 1) = (rng f a).take q ++ [f + (q : Int)] := by
  have hl : (rng f a).length = (min a 63 + 1 - f).toNat := by unfold rng; rw [List.length_map, List.length_range]
  rw [List.take_succ_eq_append_getElem (by omega)]
  unfold rng
  simp
theorem rng_all (f a : Int) : (rng f a).take (min a 63 + 1 - f).toNat = rng f a ∧ (rng f a).length = (min a 63 + 1 - f).toNat := by
  have hl : (rng f a).length = (min a 63 + 1 - f).toNat := by unfold rng; rw [List.length_map, List.length_range]
  exact ⟨List.take_of_length_le (by omega), hl⟩
theorem stp_comma (a b : Int) (l : List Int) : stp (a, b, l) 44 = (0, -1, l ++ rng (if b < 0 then a else b) a) := by
  unfold stp
  rw [if_neg (by decide), if_neg (by decide), if_pos (by decide)]
/-- The state of the reader behind k bytes. -/
def stA (t : List UInt8) (k : Nat) : Int × Int × List Int := fld ((t ++ [44]).take k) (0, -1, [])
theorem stA_zero (t : List UInt8) : stA t 0 = (0, -1, []) := rfl
theorem stA_succ (t : List UInt8) (k : Nat) (h : k < (t ++ [44]).length) : stA t (k + 1) = stp (stA t k) ((t ++ [44])[k]) := by
  unfold stA
  rw [List.take_succ_eq_append_getElem h, fld_app]
  rfl
theorem stA_sm (t : List UInt8) (k : Nat) (h : k ≤ (t ++ [44]).length) : Sm (stA t k) k := by
  induction k with
  | zero => rw [stA_zero]; exact ⟨by simp, by simp, by simp, by simp, by simp⟩
  | succ k ih => rw [stA_succ t k (by omega)]; exact (ih (by omega)).next _

set_option maxRecDepth 100000 in
set_option maxHeartbeats 4000000 in
theorem refParse_any (t : List UInt8) (w : World) (ht : t.length ≤ 200) :
    Calls Tryd.prog 26 #[.string (str t)] w fun e w' => ∃ r k, e = .returned (.tuple #[.int .u64 ((r : Nat) : Int), .int .i64 k]) ∧ Parsed t r k ∧ Kp No w w' := by
  have HS := hid (stA_succ t)
  have HM := hid (stA_sm t)
  have HZ := hid (str_size t)
  have HL := hid (show (t ++ [44]).length = t.length + 1 by simp)
  have hsz : (str t).size ≤ 200 := ht
  go_enter Tryd.func26, Tryd.ntmps26
  go_wp2_with fail
  go_loopw [4, 5, 6, 7] (fun v n f i w' => ∃ (k : Nat) (a b : Int) (l : List Int) (m : Nat) (A : Option Addr) (c : Nat), k ≤ (str t).size + 1 ∧ i = .int .i64 (k : Int) ∧ n = .int .i64 a ∧ f = .int .i64 b ∧ v = .slice A m c ∧ 0 ≤ a ∧ a ≤ 999 ∧ -1 ≤ b ∧ b ≤ 999 ∧ m ≤ 64 * k ∧ Hid (stA t k = (a, b, l) ∧ l.length = m ∧ OwnI w' w.heap.size 3 v l ∧ Kp No w w')) (fun _ _ _ i _ => (str t).size + 1 - (intOf i).toNat)
  case atStart => exact ⟨0, 0, -1, [], 0, none, 0, by omega, rfl, rfl, rfl, rfl, by omega, by omega, by omega, by omega, by omega, hid ⟨stA_zero t, rfl, OwnI.nil _ _ _, Kp.refl _ _⟩⟩
  case round =>
    obtain ⟨k, a, b, l, m, A, c, hk, rfl, rfl, rfl, rfl, ha0, ha1, hb0, hb1, hm, HH⟩ := hrel
    by_cases hlt : k ≤ (str t).size
    · have hki : (k : Int) ≤ ((str t).size : Int) := by omega
      by_cases hlt2 : k < (str t).size
      · have hki2 : (k : Int) < ((str t).size : Int) := by omega
        have HX0 := hid (HS.out k (by rw [HL.out, ← HZ.out]; omega))
        rw [HH.out.1] at HX0
        have hz0 : ((t ++ [44])[k]'(by rw [HL.out, ← HZ.out]; omega)).toNat = ((str t)[k]'hlt2).toNat := by rw [List.getElem_append_left (by rw [← HZ.out]; exact hlt2)]; exact congrArg UInt8.toNat (str_at t k hlt2).symm
        obtain ⟨y, hy⟩ : ∃ y, (t ++ [44])[k]'(by rw [HL.out, ← HZ.out]; omega) = y := ⟨_, rfl⟩
        rw [hy] at HX0 hz0
        obtain ⟨z, hz⟩ : ∃ z, y.toNat = z := ⟨_, rfl⟩
        have hzz : ((str t)[k]'hlt2).toNat = z := by rw [← hz0, hz]
        have HY := hid hz
        have hz256 : z < 256 := by rw [← hz]; exact UInt8.toNat_lt y
        clear hz0 hy hz
        by_cases hdig : 48 ≤ z ∧ z ≤ 57
        · have hd1 : (48 : Int) ≤ (z : Int) := by omega
          have hd2 : (z : Int) ≤ 57 := by omega
          have hn45 : ((z : Int) == 45) = false := by rw [beq_eq_false_iff_ne]; omega
          have hn44 : ((z : Int) == 44) = false := by rw [beq_eq_false_iff_ne]; omega
          by_cases ha : a < 100
          · have HX := hid (show stA t (k + 1) = (10 * a + ((z : Int) - 48), b, l) by rw [HX0.out]; unfold stp; rw [HY.out, if_pos hdig, if_pos ha])
            go_wp2_with fail
            go_roundw
            case rel => exact ⟨k + 1, 10 * a + ((z : Int) - 48), b, l, m, A, c, by omega, by go_num, by go_num, rfl, rfl, by omega, by omega, by omega, by omega, by omega, hid ⟨HX.out, HH.out.2.1, HH.out.2.2.1, HH.out.2.2.2⟩⟩
            case measure => simp [intOf]; omega
          · have HX := hid (show stA t (k + 1) = (a, b, l) by rw [HX0.out]; unfold stp; rw [HY.out, if_pos hdig, if_neg ha])
            go_wp2_with fail
            go_roundw
            case rel => exact ⟨k + 1, a, b, l, m, A, c, by omega, by go_num, rfl, rfl, rfl, by omega, by omega, by omega, by omega, by omega, hid ⟨HX.out, HH.out.2.1, HH.out.2.2.1, HH.out.2.2.2⟩⟩
            case measure => simp [intOf]; omega
        · by_cases h45 : z = 45
          · have HX := hid (show stA t (k + 1) = (0, a, l) by rw [HX0.out]; unfold stp; rw [HY.out, if_neg hdig, if_pos h45])
            have hd1 : ¬ (48 : Int) ≤ (z : Int) := by omega
            have hn45 : ((z : Int) == 45) = true := by rw [beq_iff_eq]; omega
            have hn44 : ((z : Int) == 44) = false := by rw [beq_eq_false_iff_ne]; omega
            clear hdig h45
            go_wp2_with fail
            go_roundw
            case rel => exact ⟨k + 1, 0, a, l, m, A, c, by omega, by go_num, rfl, rfl, rfl, by omega, by omega, by omega, by omega, by omega, hid ⟨HX.out, HH.out.2.1, HH.out.2.2.1, HH.out.2.2.2⟩⟩
            case measure => simp [intOf]; omega
          · by_cases h44 : z = 44
            · have HW := hid (show stA t (k + 1) = stp (a, b, l) 44 by rw [HX0.out, show y = 44 from UInt8.toNat_inj.1 (by rw [HY.out, h44]; rfl)])
              have hd1 : ¬ (48 : Int) ≤ (z : Int) := by omega
              have hn45 : ((z : Int) == 45) = false := by rw [beq_eq_false_iff_ne]; omega
              have hn44 : ((z : Int) == 44) = true := by rw [beq_iff_eq]; omega
              clear hdig h45 h44
              by_cases hb : b < 0
              · have HX := hid (show stA t (k + 1) = (0, -1, l ++ rng a a) by rw [HW.out]; rw [stp_comma, if_pos hb])
                have hcn : ((min a 63 + 1 - a).toNat : Int) = max 0 (min a 63 + 1 - a) := by omega
                have HG := hid (rng_take a a)
                have HA2 := hid (rng_all a a)
                obtain ⟨cn, hcc⟩ : ∃ cn, (min a 63 + 1 - a).toNat = cn := ⟨_, rfl⟩
                rw [hcc] at hcn HG HA2
                have hc64 : cn ≤ 64 := by omega
                have HC : Hid (∀ q : Nat, q < cn → a + (q : Int) ≤ a ∧ a + (q : Int) < 64) := hid fun q hq => by omega
                have HD : Hid (∀ q : Nat, ¬ q < cn → a + (q : Int) ≤ a → ¬ a + (q : Int) < 64) := hid fun q hq => by omega
                clear hcc hcn
                go_wp2_with fail
                go_loopw [4, 9] (fun v i w' => ∃ (q : Nat) (A' : Option Addr) (c' : Nat), q ≤ cn ∧ i = .int .i64 (a + (q : Int)) ∧ v = .slice A' (m + q) c' ∧ Hid (OwnI w' w.heap.size 3 v (l ++ (rng a a).take q) ∧ Kp No w w')) (fun _ i _ => cn - (intOf i - a).toNat)
                case atStart => exact ⟨0, A, c, by omega, by simp, rfl, hid ⟨by rw [List.take_zero, List.append_nil]; exact HH.out.2.2.1, HH.out.2.2.2⟩⟩
                case round =>
                  obtain ⟨q, A', c', hq, rfl, rfl, HI⟩ := hrel
                  by_cases hqc : q < cn
                  · obtain ⟨hq1, hq2⟩ := HC.out q hqc
                    have HT := hid (HG.out q hqc)
                    go_wp2_with (at_builtin
                                 refine wp_appI isInts rfl (.tmp 58) (.tmp 60) rfl (base := w.heap.size) rfl HI.out.1 rfl (by rw [List.length_append, List.length_take]; have := HH.out.2.1; omega) (by exact HI.out.2.size) ?_
                                 intro v2 w2 o2 k2
                                 have K2 := hid (HI.out.2.step k2 fun i hi h => by omega)
                                 have O2 := hid o2
                                 obtain ⟨A3, c3, rfl⟩ := o2.form (n := m + (q + 1)) (by have h1 := HH.out.2.1; have h2 := HA2.out.2; rw [List.length_append, List.length_append, List.length_take, List.length_singleton]; omega)
                                 clear o2 k2)
                    go_roundw
                    case rel => exact ⟨q + 1, A3, c3, by omega, by go_num, rfl, hid ⟨by rw [HT.out, ← List.append_assoc]; exact O2.out, K2.out⟩⟩
                    case measure => simp [intOf]; omega
                  · have hqe : q = cn := by omega
                    subst hqe
                    have HT := hid (HA2.out.1)
                    rw [HT.out] at HI
                    by_cases hqa : a + (q : Int) ≤ a
                    · have hq3 := HD.out q hqc hqa
                      go_wp2_with fail
                      go_roundw
                      case rel => exact ⟨k + 1, 0, -1, l ++ rng a a, m + q, A', c', by omega, by go_num, rfl, rfl, rfl, by omega, by omega, by omega, by omega, by omega, hid ⟨HX.out, by have h1 := HH.out.2.1; have h2 := HA2.out.2; rw [List.length_append]; omega, HI.out.1, HI.out.2⟩⟩
                      case measure => simp [intOf]; omega
                    · have hq3 := hqa
                      go_wp2_with fail
                      go_roundw
                      case rel => exact ⟨k + 1, 0, -1, l ++ rng a a, m + q, A', c', by omega, by go_num, rfl, rfl, rfl, by omega, by omega, by omega, by omega, by omega, hid ⟨HX.out, by have h1 := HH.out.2.1; have h2 := HA2.out.2; rw [List.length_append]; omega, HI.out.1, HI.out.2⟩⟩
                      case measure => simp [intOf]; omega
              · have hb2 : 0 ≤ b := by omega
                have HX := hid (show stA t (k + 1) = (0, -1, l ++ rng b a) by rw [HW.out]; rw [stp_comma, if_neg hb])
                have hcn : ((min a 63 + 1 - b).toNat : Int) = max 0 (min a 63 + 1 - b) := by omega
                have HG := hid (rng_take b a)
                have HA2 := hid (rng_all b a)
                obtain ⟨cn, hcc⟩ : ∃ cn, (min a 63 + 1 - b).toNat = cn := ⟨_, rfl⟩
                rw [hcc] at hcn HG HA2
                have hc64 : cn ≤ 64 := by omega
                have HC : Hid (∀ q : Nat, q < cn → b + (q : Int) ≤ a ∧ b + (q : Int) < 64) := hid fun q hq => by omega
                have HD : Hid (∀ q : Nat, ¬ q < cn → b + (q : Int) ≤ a → ¬ b + (q : Int) < 64) := hid fun q hq => by omega
                clear hcc hcn
                go_wp2_with fail
                go_loopw [4, 9] (fun v i w' => ∃ (q : Nat) (A' : Option Addr) (c' : Nat), q ≤ cn ∧ i = .int .i64 (b + (q : Int)) ∧ v = .slice A' (m + q) c' ∧ Hid (OwnI w' w.heap.size 3 v (l ++ (rng b a).take q) ∧ Kp No w w')) (fun _ i _ => cn - (intOf i - b).toNat)
                case atStart => exact ⟨0, A, c, by omega, by simp, rfl, hid ⟨by rw [List.take_zero, List.append_nil]; exact HH.out.2.2.1, HH.out.2.2.2⟩⟩
                case round =>
                  obtain ⟨q, A', c', hq, rfl, rfl, HI⟩ := hrel
                  by_cases hqc : q < cn
                  · obtain ⟨hq1, hq2⟩ := HC.out q hqc
                    have HT := hid (HG.out q hqc)
                    go_wp2_with (at_builtin
                                 refine wp_appI isInts rfl (.tmp 58) (.tmp 60) rfl (base := w.heap.size) rfl HI.out.1 rfl (by rw [List.length_append, List.length_take]; have := HH.out.2.1; omega) (by exact HI.out.2.size) ?_
                                 intro v2 w2 o2 k2
                                 have K2 := hid (HI.out.2.step k2 fun i hi h => by omega)
                                 have O2 := hid o2
                                 obtain ⟨A3, c3, rfl⟩ := o2.form (n := m + (q + 1)) (by have h1 := HH.out.2.1; have h2 := HA2.out.2; rw [List.length_append, List.length_append, List.length_take, List.length_singleton]; omega)
                                 clear o2 k2)
                    go_roundw
                    case rel => exact ⟨q + 1, A3, c3, by omega, by go_num, rfl, hid ⟨by rw [HT.out, ← List.append_assoc]; exact O2.out, K2.out⟩⟩
                    case measure => simp [intOf]; omega
                  · have hqe : q = cn := by omega
                    subst hqe
                    have HT := hid (HA2.out.1)
                    rw [HT.out] at HI
                    by_cases hqa : b + (q : Int) ≤ a
                    · have hq3 := HD.out q hqc hqa
                      go_wp2_with fail
                      go_roundw
                      case rel => exact ⟨k + 1, 0, -1, l ++ rng b a, m + q, A', c', by omega, by go_num, rfl, rfl, rfl, by omega, by omega, by omega, by omega, by omega, hid ⟨HX.out, by have h1 := HH.out.2.1; have h2 := HA2.out.2; rw [List.length_append]; omega, HI.out.1, HI.out.2⟩⟩
                      case measure => simp [intOf]; omega
                    · have hq3 := hqa
                      go_wp2_with fail
                      go_roundw
                      case rel => exact ⟨k + 1, 0, -1, l ++ rng b a, m + q, A', c', by omega, by go_num, rfl, rfl, rfl, by omega, by omega, by omega, by omega, by omega, hid ⟨HX.out, by have h1 := HH.out.2.1; have h2 := HA2.out.2; rw [List.length_append]; omega, HI.out.1, HI.out.2⟩⟩
                      case measure => simp [intOf]; omega
            · have HX := hid (show stA t (k + 1) = (a, b, l) by rw [HX0.out]; unfold stp; rw [HY.out, if_neg hdig, if_neg h45, if_neg h44])
              have hn45 : ((z : Int) == 45) = false := by rw [beq_eq_false_iff_ne]; omega
              have hn44 : ((z : Int) == 44) = false := by rw [beq_eq_false_iff_ne]; omega
              by_cases h48 : 48 ≤ z
              · have hd1 : (48 : Int) ≤ (z : Int) := by omega
                have hd2 : ¬ (z : Int) ≤ 57 := by omega
                clear hdig h45 h44 h48
                go_wp2_with fail
                go_roundw
                case rel => exact ⟨k + 1, a, b, l, m, A, c, by omega, by go_num, rfl, rfl, rfl, by omega, by omega, by omega, by omega, by omega, hid ⟨HX.out, HH.out.2.1, HH.out.2.2.1, HH.out.2.2.2⟩⟩
                case measure => simp [intOf]; omega
              · have hd1 : ¬ (48 : Int) ≤ (z : Int) := by omega
                clear hdig h45 h44 h48
                go_wp2_with fail
                go_roundw
                case rel => exact ⟨k + 1, a, b, l, m, A, c, by omega, by go_num, rfl, rfl, rfl, by omega, by omega, by omega, by omega, by omega, hid ⟨HX.out, HH.out.2.1, HH.out.2.2.1, HH.out.2.2.2⟩⟩
                case measure => simp [intOf]; omega
      · have hke : k = t.length := by have := HZ.out; omega
        have HW := hid (show stA t (k + 1) = stp (a, b, l) 44 by rw [HS.out k (by rw [HL.out]; omega), HH.out.1]; congr 1; rw [List.getElem_append_right (by omega)]; simp [hke])
        clear hke
        by_cases hb : b < 0
        · have HX := hid (show stA t (k + 1) = (0, -1, l ++ rng a a) by rw [HW.out]; rw [stp_comma, if_pos hb])
          have hcn : ((min a 63 + 1 - a).toNat : Int) = max 0 (min a 63 + 1 - a) := by omega
          have HG := hid (rng_take a a)
          have HA2 := hid (rng_all a a)
          obtain ⟨cn, hcc⟩ : ∃ cn, (min a 63 + 1 - a).toNat = cn := ⟨_, rfl⟩
          rw [hcc] at hcn HG HA2
          have hc64 : cn ≤ 64 := by omega
          have HC : Hid (∀ q : Nat, q < cn → a + (q : Int) ≤ a ∧ a + (q : Int) < 64) := hid fun q hq => by omega
          have HD : Hid (∀ q : Nat, ¬ q < cn → a + (q : Int) ≤ a → ¬ a + (q : Int) < 64) := hid fun q hq => by omega
          clear hcc hcn
          go_wp2_with fail
          go_loopw [4, 9] (fun v i w' => ∃ (q : Nat) (A' : Option Addr) (c' : Nat), q ≤ cn ∧ i = .int .i64 (a + (q : Int)) ∧ v = .slice A' (m + q) c' ∧ Hid (OwnI w' w.heap.size 3 v (l ++ (rng a a).take q) ∧ Kp No w w')) (fun _ i _ => cn - (intOf i - a).toNat)
          case atStart => exact ⟨0, A, c, by omega, by simp, rfl, hid ⟨by rw [List.take_zero, List.append_nil]; exact HH.out.2.2.1, HH.out.2.2.2⟩⟩
          case round =>
            obtain ⟨q, A', c', hq, rfl, rfl, HI⟩ := hrel
            by_cases hqc : q < cn
            · obtain ⟨hq1, hq2⟩ := HC.out q hqc
              have HT := hid (HG.out q hqc)
              go_wp2_with (at_builtin
                           refine wp_appI isInts rfl (.tmp 58) (.tmp 60) rfl (base := w.heap.size) rfl HI.out.1 rfl (by rw [List.length_append, List.length_take]; have := HH.out.2.1; omega) (by exact HI.out.2.size) ?_
                           intro v2 w2 o2 k2
                           have K2 := hid (HI.out.2.step k2 fun i hi h => by omega)
                           have O2 := hid o2
                           obtain ⟨A3, c3, rfl⟩ := o2.form (n := m + (q + 1)) (by have h1 := HH.out.2.1; have h2 := HA2.out.2; rw [List.length_append, List.length_append, List.length_take, List.length_singleton]; omega)
                           clear o2 k2)
              go_roundw
              case rel => exact ⟨q + 1, A3, c3, by omega, by go_num, rfl, hid ⟨by rw [HT.out, ← List.append_assoc]; exact O2.out, K2.out⟩⟩
              case measure => simp [intOf]; omega
            · have hqe : q = cn := by omega
              subst hqe
              have HT := hid (HA2.out.1)
              rw [HT.out] at HI
              by_cases hqa : a + (q : Int) ≤ a
              · have hq3 := HD.out q hqc hqa
                go_wp2_with fail
                go_roundw
                case rel => exact ⟨k + 1, 0, -1, l ++ rng a a, m + q, A', c', by omega, by go_num, rfl, rfl, rfl, by omega, by omega, by omega, by omega, by omega, hid ⟨HX.out, by have h1 := HH.out.2.1; have h2 := HA2.out.2; rw [List.length_append]; omega, HI.out.1, HI.out.2⟩⟩
                case measure => simp [intOf]; omega
              · have hq3 := hqa
                go_wp2_with fail
                go_roundw
                case rel => exact ⟨k + 1, 0, -1, l ++ rng a a, m + q, A', c', by omega, by go_num, rfl, rfl, rfl, by omega, by omega, by omega, by omega, by omega, hid ⟨HX.out, by have h1 := HH.out.2.1; have h2 := HA2.out.2; rw [List.length_append]; omega, HI.out.1, HI.out.2⟩⟩
                case measure => simp [intOf]; omega
        · have hb2 : 0 ≤ b := by omega
          have HX := hid (show stA t (k + 1) = (0, -1, l ++ rng b a) by rw [HW.out]; rw [stp_comma, if_neg hb])
          have hcn : ((min a 63 + 1 - b).toNat : Int) = max 0 (min a 63 + 1 - b) := by omega
          have HG := hid (rng_take b a)
          have HA2 := hid (rng_all b a)
          obtain ⟨cn, hcc⟩ : ∃ cn, (min a 63 + 1 - b).toNat = cn := ⟨_, rfl⟩
          rw [hcc] at hcn HG HA2
          have hc64 : cn ≤ 64 := by omega
          have HC : Hid (∀ q : Nat, q < cn → b + (q : Int) ≤ a ∧ b + (q : Int) < 64) := hid fun q hq => by omega
          have HD : Hid (∀ q : Nat, ¬ q < cn → b + (q : Int) ≤ a → ¬ b + (q : Int) < 64) := hid fun q hq => by omega
          clear hcc hcn
          go_wp2_with fail
          go_loopw [4, 9] (fun v i w' => ∃ (q : Nat) (A' : Option Addr) (c' : Nat), q ≤ cn ∧ i = .int .i64 (b + (q : Int)) ∧ v = .slice A' (m + q) c' ∧ Hid (OwnI w' w.heap.size 3 v (l ++ (rng b a).take q) ∧ Kp No w w')) (fun _ i _ => cn - (intOf i - b).toNat)
          case atStart => exact ⟨0, A, c, by omega, by simp, rfl, hid ⟨by rw [List.take_zero, List.append_nil]; exact HH.out.2.2.1, HH.out.2.2.2⟩⟩
          case round =>
            obtain ⟨q, A', c', hq, rfl, rfl, HI⟩ := hrel
            by_cases hqc : q < cn
            · obtain ⟨hq1, hq2⟩ := HC.out q hqc
              have HT := hid (HG.out q hqc)
              go_wp2_with (at_builtin
                           refine wp_appI isInts rfl (.tmp 58) (.tmp 60) rfl (base := w.heap.size) rfl HI.out.1 rfl (by rw [List.length_append, List.length_take]; have := HH.out.2.1; omega) (by exact HI.out.2.size) ?_
                           intro v2 w2 o2 k2
                           have K2 := hid (HI.out.2.step k2 fun i hi h => by omega)
                           have O2 := hid o2
                           obtain ⟨A3, c3, rfl⟩ := o2.form (n := m + (q + 1)) (by have h1 := HH.out.2.1; have h2 := HA2.out.2; rw [List.length_append, List.length_append, List.length_take, List.length_singleton]; omega)
                           clear o2 k2)
              go_roundw
              case rel => exact ⟨q + 1, A3, c3, by omega, by go_num, rfl, hid ⟨by rw [HT.out, ← List.append_assoc]; exact O2.out, K2.out⟩⟩
              case measure => simp [intOf]; omega
            · have hqe : q = cn := by omega
              subst hqe
              have HT := hid (HA2.out.1)
              rw [HT.out] at HI
              by_cases hqa : b + (q : Int) ≤ a
              · have hq3 := HD.out q hqc hqa
                go_wp2_with fail
                go_roundw
                case rel => exact ⟨k + 1, 0, -1, l ++ rng b a, m + q, A', c', by omega, by go_num, rfl, rfl, rfl, by omega, by omega, by omega, by omega, by omega, hid ⟨HX.out, by have h1 := HH.out.2.1; have h2 := HA2.out.2; rw [List.length_append]; omega, HI.out.1, HI.out.2⟩⟩
                case measure => simp [intOf]; omega
              · have hq3 := hqa
                go_wp2_with fail
                go_roundw
                case rel => exact ⟨k + 1, 0, -1, l ++ rng b a, m + q, A', c', by omega, by go_num, rfl, rfl, rfl, by omega, by omega, by omega, by omega, by omega, hid ⟨HX.out, by have h1 := HH.out.2.1; have h2 := HA2.out.2; rw [List.length_append]; omega, HI.out.1, HI.out.2⟩⟩
                case measure => simp [intOf]; omega
    · have HR := hid (fld_reads t)
      have hF : fld (t ++ [44]) (0, -1, []) = (a, b, l) := by
        have hke : k = t.length + 1 := by have := HZ.out; omega
        rw [← HH.out.1]
        unfold stA
        rw [List.take_of_length_le (by rw [HL.out]; omega)]
      rw [hF] at HR
      have hkn : ¬ (k : Int) ≤ ((str t).size : Int) := by omega
      clear hF hlt
      by_cases h45 : t = [45]
      · rw [if_pos h45] at HR
        have hq : (str t).toList = [45] := by rw [str_toList]; exact h45
        have HT := hid (show txt 0 = t by rw [h45]; rfl)
        clear h45
        go_wp2_with fail
        refine (refOf_any _ [] _ (Sl.nil _ _ _ Anyb)).mono ?_
        rw [show ofl [] = 0 by decide]
        rintro e w' ⟨rfl, rfl⟩
        go_wp2_with fail
        refine (refText_any 0 _ U64.zero).mono ?_
        rw [HT.out]
        rintro e w2 ⟨rfl, k2⟩
        have K2 := hid (HH.out.2.2.2.trans k2)
        clear k2
        go_wp2_with fail
        go_ret2
        exact ⟨0, 0, rfl, .inl ⟨U64.zero, HT.out, fun s hs h => (HR.out s hs h.symm).symm, rfl⟩, K2.out⟩
      · rw [if_neg h45] at HR
        have hq : ((str t).toList == [45]) = false := by rw [str_toList]; exact beq_eq_false_iff_ne.2 h45
        clear h45
        go_wp2_with fail
        refine (refOf_any _ l _ (HH.out.2.2.1.sl (P := Anyb) fun _ _ => trivial)).mono ?_
        rintro e w' ⟨rfl, rfl⟩
        have hu := ofl_U64 l
        obtain ⟨r, hr⟩ : ∃ r, ofl l = r := ⟨_, rfl⟩
        rw [hr] at hu HR ⊢
        clear hr
        go_wp2_with fail
        refine (refText_any r _ hu).mono ?_
        rintro e w2 ⟨rfl, k2⟩
        have K2 := hid (HH.out.2.2.2.trans k2)
        clear k2
        by_cases he : txt r = t
        · rw [he]
          have HQ := hid he
          clear he
          go_wp2_with fail
          go_ret2
          exact ⟨r, 0, rfl, .inl ⟨hu, HQ.out, fun s hs h => (HR.out s hs h.symm).symm, rfl⟩, K2.out⟩
        · have hb : ((str (txt r)).toList == (str t).toList) = false := by rw [str_beq]; exact decide_eq_false he
          have HQ := hid he
          clear he
          go_wp2_with fail
          go_ret2
          exact ⟨0, 5, rfl, .inr ⟨fun s hs h => HQ.out (by rw [HR.out s hs h.symm]; exact h), rfl, rfl⟩, K2.out⟩
end Go.Proofs.YtjmnclneopofhaaDoor
