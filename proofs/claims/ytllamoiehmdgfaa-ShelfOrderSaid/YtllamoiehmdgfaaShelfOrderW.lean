/-
  The walk of ShelfOrder.
-/
import Derived.Test.YtllamoiehmdgfaaSR
namespace Go.Proofs.Ytllamoiehmdgfaa
open Go.RowKit

theorem mem_at' {l : List It} {k : Nat} (hk : k < l.length) : l.getD k it0 ∈ l := by
  rw [List.getD_eq_getElem?_getD, List.getElem?_eq_getElem hk]
  exact List.getElem_mem hk
theorem mem_take {l : List It} {k : Nat} (hk : k < l.length) (x : It) : x ∈ l.take (k + 1) ↔ x ∈ l.take k ∨ x = l.getD k it0 := by
  rw [take_at l it0 hk]
  simp

set_option maxRecDepth 100000 in
set_option maxHeartbeats 2000000 in
theorem shelfOrder_walk (w : World) (u : Value) (by' : Int) (v : Value) {l o : List It} (hu : Rw 2 itc it0 w Anyb u l) (hby : 0 ≤ by' ∧ by' ≤ 18446744073709551615) (hv : Rw 2 itc it0 w Anyb v o) :
    Calls Try.prog 6 #[u, .int .u64 by', v] w fun e w' => e = .returned (.bool true) ∧ Kp No w w' := by
  have HU := hid hu
  have HV := hid hv
  obtain ⟨A, ca, rfl, hca, hma, hra⟩ := hu
  obtain ⟨B, cb, rfl, hcb, hmb, hrb⟩ := hv
  clear hra hrb
  simp only [maxLen] at hma hmb
  go_enter Try.func6, Try.ntmps6
  go_wp2_with fail
  refine (awake_any w).mono ?_
  rintro e w1 ⟨rfl, k1⟩
  have K1 := hid k1
  clear k1
  by_cases hbig : 50 < l.length ∨ 50 < o.length
  · go_wp2_with fail
    all_goals first
      | (go_ret; exact ⟨rfl, K1.out⟩)
      | skip
    done
  · have hl : l.length ≤ 50 := by omega
    have ho : o.length ≤ 50 := by omega
    clear hbig
    have hw1 := K1.out.size
    go_wp2_with fail
    refine (New_any w1).mono ?_
    rintro e w2 ⟨rfl, rfl⟩
    go_wp2_with fail
    refine (New_any (w1.alloc (.cells #[.slice none 0 0, .int .i64 0] 59))).mono ?_
    rintro e w2 ⟨rfl, rfl⟩
    have s2 := (Shf.new (S := Gap w1.heap.size (w1.heap.size + 1) (w1.heap.size + 2)) w1 (.inl ⟨Nat.le_refl _, Nat.lt_succ_self _⟩)).kp0 ((Kp.refl No _).alloc (.cells #[.slice none 0 0, .int .i64 0] 59))
    have t2 : Shf ((w1.alloc (.cells #[.slice none 0 0, .int .i64 0] 59)).alloc (.cells #[.slice none 0 0, .int .i64 0] 59)) (w1.heap.size + 1) (fun k => k = w1.heap.size + 1) [] := by
      have := Shf.new (S := fun k => k = w1.heap.size + 1) (w1.alloc (.cells #[.slice none 0 0, .int .i64 0] 59)) (by simp)
      simpa using this
    have k2 := ((Kp.refl No w1).alloc (.cells #[.slice none 0 0, .int .i64 0] 59)).alloc (.cells #[.slice none 0 0, .int .i64 0] 59)
    have hz : ((w1.alloc (.cells #[.slice none 0 0, .int .i64 0] 59)).alloc (.cells #[.slice none 0 0, .int .i64 0] 59)).heap.size = w1.heap.size + 2 := by simp
    go_wp2_with fail
    generalize (w1.alloc (.cells #[.slice none 0 0, .int .i64 0] 59)).alloc (.cells #[.slice none 0 0, .int .i64 0] 59) = w2 at s2 t2 k2 hz ⊢
    have S2 := hid s2
    have T2 := hid t2
    have K2 := hid (K1.out.trans k2)
    clear s2 t2 k2
    go_loopw [10] (fun i wr => ∃ k : Nat, k ≤ l.length ∧ i = .int .i64 (k : Int) ∧ Hid (Kp No w wr) ∧ Hid (w2.heap.size ≤ wr.heap.size) ∧ Hid (Shf wr (w1.heap.size + 1) (fun k => k = w1.heap.size + 1) []) ∧ Hid (∃ m : List It, Shf wr w1.heap.size (Gap w1.heap.size (w1.heap.size + 1) (w1.heap.size + 2)) m ∧ m.length ≤ k ∧ ∀ x, x ∈ m ↔ x ∈ l.take k)) (fun i _ => l.length - (intOf i).toNat)
    case atStart => exact ⟨0, by omega, rfl, K2, hid (Nat.le_refl _), T2, hid ⟨[], S2.out, by simp, by simp⟩⟩
    case round =>
      obtain ⟨k, hk, rfl, K, Z, T, M⟩ := hrel
      obtain ⟨m, hs, hml, hmem⟩ := M.out
      have HS := hid hs
      have HM := hid hmem
      clear M hs hmem
      by_cases hlt : k < l.length
      · have hki : (k : Int) < (l.length : Int) := by omega
        obtain ⟨ab, ao, hA⟩ := HU.out.there (by omega)
        subst hA
        have c0 := HU.out.cell K.out hlt (i := 0) (by omega) rfl
        have c1 := HU.out.cell K.out hlt (i := 1) (by omega) rfl
        have HT := hid (mem_take hlt)
        generalize l.getD k it0 = y at c0 c1 HT
        simp only [itc, Nat.add_zero] at c0 c1
        rw [← Nat.add_assoc] at c1
        go_wp2_with fail
        refine (put_gap HS.out (by omega) (by have := Z.out; omega) y rfl rfl).mono ?_
        rintro e w5 ⟨rfl, k5, h5⟩
        have hw5 := k5.size
        have K5 := hid (K.out.step k5 fun i hi e => by rcases e with e | e <;> omega)
        have T5 := hid (T.out.kp k5 fun i hi e => by subst hi; rcases e with e | e <;> omega)
        have H5 := hid h5
        have Z5 := hid (Nat.le_trans Z.out hw5)
        clear k5 h5 c0 c1
        go_wp2_with fail
        go_roundw
        case rel => exact ⟨k + 1, by omega, by go_num, K5, Z5, T5, hid ⟨_, H5.out, Nat.le_trans (putL_len _ _) (by omega), fun x => by rw [mem_putL, HT.out, HM.out]; exact or_comm⟩⟩
        case measure => simp [intOf]; omega
      · have hk2 : k = l.length := by omega
        subst hk2
        go_wp2_with fail
        have hmem : ∀ x, x ∈ m ↔ x ∈ l := fun x => by rw [HM.out, List.take_length]
        obtain ⟨w3, hw3⟩ : ∃ w3, w3 = wr := ⟨_, rfl⟩
        subst hw3
        have hz3 := Z.out
        have S3 := hid (HS.out.mono (T := fun k => Gap w1.heap.size (w1.heap.size + 1) (w1.heap.size + 2) k ∧ k < w3.heap.size) fun i hi h => ⟨h, hi⟩)
        have T3 := hid (T.out.mono (T := Gap (w1.heap.size + 1) (w1.heap.size + 2) w3.heap.size) fun i _ h => .inl (by omega))
        have MS := hid hmem
        have DJ : Hid (∀ i, (Gap w1.heap.size (w1.heap.size + 1) (w1.heap.size + 2) i ∧ i < w3.heap.size) → ¬ Gap (w1.heap.size + 1) (w1.heap.size + 2) w3.heap.size i) := hid fun i ⟨h1, h2⟩ h3 => by
          rcases h1 with h1 | h1 <;> rcases h3 with h3 | h3 <;> omega
        clear hmem HM HS T Z
        go_loopw [11] (fun i wr => ∃ k : Nat, k ≤ o.length ∧ i = .int .i64 (k : Int) ∧ Hid (Kp No w wr) ∧ Hid (w3.heap.size ≤ wr.heap.size) ∧ Hid (Shf wr w1.heap.size (fun k => Gap w1.heap.size (w1.heap.size + 1) (w1.heap.size + 2) k ∧ k < w3.heap.size) m) ∧ Hid (∃ n : List It, Shf wr (w1.heap.size + 1) (Gap (w1.heap.size + 1) (w1.heap.size + 2) w3.heap.size) n ∧ n.length ≤ k ∧ ∀ x, x ∈ n ↔ x ∈ o.take k)) (fun i _ => o.length - (intOf i).toNat)
        case atStart => exact ⟨0, by omega, rfl, K, hid (Nat.le_refl _), S3, hid ⟨[], T3.out, by simp, by simp⟩⟩
        case round =>
          obtain ⟨k, hk, rfl, K, Z, Sm, M⟩ := hrel
          obtain ⟨n, hs, hnl, hmem⟩ := M.out
          have HS := hid hs
          have HM := hid hmem
          clear M hs hmem
          by_cases hlt : k < o.length
          · have hki : (k : Int) < (o.length : Int) := by omega
            obtain ⟨ab, ao, hA⟩ := HV.out.there (by omega)
            subst hA
            have c0 := HV.out.cell K.out hlt (i := 0) (by omega) rfl
            have c1 := HV.out.cell K.out hlt (i := 1) (by omega) rfl
            have HT := hid (mem_take hlt)
            generalize o.getD k it0 = y at c0 c1 HT
            simp only [itc, Nat.add_zero] at c0 c1
            rw [← Nat.add_assoc] at c1
            go_wp2_with fail
            refine (put_gap HS.out (by omega) Z.out y rfl rfl).mono ?_
            rintro e w5 ⟨rfl, k5, h5⟩
            have hw5 := k5.size
            have K5 := hid (K.out.step k5 fun i hi e => by rcases e with e | e <;> omega)
            have Sm5 := hid (Sm.out.kp k5 DJ.out)
            have H5 := hid h5
            have Z5 := hid (Nat.le_trans Z.out hw5)
            clear k5 h5 c0 c1
            go_wp2_with fail
            go_roundw
            case rel => exact ⟨k + 1, by omega, by go_num, K5, Z5, Sm5, hid ⟨_, H5.out, Nat.le_trans (putL_len _ _) (by omega), fun x => by rw [mem_putL, HT.out, HM.out]; exact or_comm⟩⟩
            case measure => simp [intOf]; omega
          · have hk2 : k = o.length := by omega
            subst hk2
            go_wp2_with fail
            have hmem : ∀ x, x ∈ n ↔ x ∈ o := fun x => by rw [HM.out, List.take_length]
            obtain ⟨b, hb, hb50⟩ : ∃ b : Nat, Int.tmod by' 50 = (b : Int) ∧ b < 50 := ⟨(by' % 50).toNat, by rw [Int.tmod_eq_emod_of_nonneg (by omega)]; omega, by omega⟩
            have MO := hid hmem
            clear hmem HM
            go_loopw [12] (fun i wr => ∃ k : Nat, k ≤ l.length ∧ i = .int .i64 (k : Int) ∧ Hid (Kp No w wr) ∧ Hid (w3.heap.size ≤ wr.heap.size) ∧ Hid (Shf wr w1.heap.size (fun k => Gap w1.heap.size (w1.heap.size + 1) (w1.heap.size + 2) k ∧ k < w3.heap.size) m) ∧ Hid (∃ n : List It, Shf wr (w1.heap.size + 1) (Gap (w1.heap.size + 1) (w1.heap.size + 2) w3.heap.size) n ∧ n.length ≤ o.length + k ∧ ∀ x, x ∈ n ↔ x ∈ o ∨ ∃ i, i < k ∧ l.getD ((i + b) % l.length) it0 = x)) (fun i _ => l.length - (intOf i).toNat)
            case atStart => exact ⟨0, by omega, rfl, K, Z, Sm, hid ⟨n, HS.out, by omega, fun x => by rw [MO.out]; simp⟩⟩
            case round =>
              clear K Z Sm HS MO
              obtain ⟨k, hk, rfl, K, Z, Sm, M⟩ := hrel
              obtain ⟨n, hs, hnl, hmem⟩ := M.out
              have HS := hid hs
              have HM := hid hmem
              clear M hs hmem
              by_cases hlt : k < l.length
              · have hki : (k : Int) < (l.length : Int) := by omega
                obtain ⟨j, hj⟩ : ∃ j, (k + b) % l.length = j := ⟨_, rfl⟩
                have hjl : j < l.length := by rw [← hj]; exact Nat.mod_lt _ (Nat.lt_of_le_of_lt (Nat.zero_le _) hlt)
                have hji : (j : Int) < (l.length : Int) := by omega
                have q1 : Int.tmod ((k : Int) + (b : Int)) (l.length : Int) = (j : Int) := by rw [← hj, Int.tmod_eq_emod_of_nonneg (Int.add_nonneg (Int.natCast_nonneg _) (Int.natCast_nonneg _))]; simp
                have q2 : IntKind.i64.wrap (j : Int) = (j : Int) := wrapI (by unfold I64; omega)
                have q3 : IntKind.i64.wrap (b : Int) = (b : Int) := wrapI (by unfold I64; omega)
                have q4 : IntKind.i64.wrap ((k : Int) + (b : Int)) = (k : Int) + (b : Int) := wrapI (by unfold I64; omega)
                have q6 : ((l.length : Int) == 0) = false := by rw [beq_eq_false_iff_ne]; omega
                obtain ⟨ab, ao, hA⟩ := HU.out.there (by omega)
                subst hA
                have c0 := HU.out.cell K.out hjl (i := 0) (by omega) rfl
                have c1 := HU.out.cell K.out hjl (i := 1) (by omega) rfl
                obtain ⟨y, hy⟩ : ∃ y, l.getD j it0 = y := ⟨_, rfl⟩
                rw [hy] at c0 c1
                have HJ := hid hj
                have HY := hid hy
                clear hj hy
                simp only [itc, Nat.add_zero] at c0 c1
                rw [← Nat.add_assoc] at c1
                go_wp2_with fail
                refine (put_gap HS.out (by omega) Z.out y rfl rfl).mono ?_
                rintro e w5 ⟨rfl, k5, h5⟩
                have hw5 := k5.size
                have K5 := hid (K.out.step k5 fun i hi e => by rcases e with e | e <;> omega)
                have Sm5 := hid (Sm.out.kp k5 DJ.out)
                have H5 := hid h5
                have Z5 := hid (Nat.le_trans Z.out hw5)
                clear k5 h5 c0 c1
                go_wp2_with fail
                go_roundw
                case rel =>
                  refine ⟨k + 1, by omega, by go_num, K5, Z5, Sm5, hid ⟨_, H5.out, Nat.le_trans (putL_len _ _) (by omega), fun x => ?_⟩⟩
                  rw [mem_putL, HM.out]
                  constructor
                  · rintro (e | e | ⟨i, hi, e⟩)
                    · exact .inr ⟨k, by omega, by rw [HJ.out, HY.out, e]⟩
                    · exact .inl e
                    · exact .inr ⟨i, by omega, e⟩
                  · rintro (e | ⟨i, hi, e⟩)
                    · exact .inr (.inl e)
                    · by_cases hik : i = k
                      · subst hik
                        exact .inl (by rw [← e, HJ.out, HY.out])
                      · exact .inr (.inr ⟨i, by omega, e⟩)
                case measure => simp [intOf]; omega
              · have hk2 : k = l.length := by omega
                subst hk2
                go_wp2_with fail
                have hmem : ∀ x, x ∈ n ↔ x ∈ l ∨ x ∈ o := fun x => by
                  rw [HM.out]
                  constructor
                  · rintro (e | ⟨i, hi, e⟩)
                    · exact .inr e
                    · subst e
                      exact .inl (mem_at' (Nat.mod_lt _ (by omega)))
                  · rintro (e | e)
                    · obtain ⟨j, hj, rfl⟩ := List.getElem_of_mem e
                      obtain ⟨i, hi, h⟩ := round_all b hj
                      exact .inr ⟨i, hi, by rw [h, List.getD_eq_getElem?_getD, List.getElem?_eq_getElem hj]; rfl⟩
                    · exact .inl e
                have MO := hid hmem
                clear hmem HM
                go_loopw [13] (fun i wr => ∃ k : Nat, k ≤ o.length ∧ i = .int .i64 (k : Int) ∧ Hid (Kp No w wr) ∧ Hid (w3.heap.size ≤ wr.heap.size) ∧ Hid (Shf wr w1.heap.size (fun k => Gap w1.heap.size (w1.heap.size + 1) (w1.heap.size + 2) k ∧ k < w3.heap.size) m) ∧ Hid (∃ n : List It, Shf wr (w1.heap.size + 1) (Gap (w1.heap.size + 1) (w1.heap.size + 2) w3.heap.size) n ∧ n.length ≤ 100 ∧ ∀ x, x ∈ n ↔ x ∈ l ∨ (x ∈ o ∧ x ∉ o.take k))) (fun i _ => o.length - (intOf i).toNat)
                case atStart => exact ⟨0, by omega, rfl, K, Z, Sm, hid ⟨n, HS.out, by omega, fun x => by rw [MO.out]; simp⟩⟩
                case round =>
                  clear K Z Sm HS MO
                  obtain ⟨k, hk, rfl, K, Z, Sm, M⟩ := hrel
                  obtain ⟨n, hs, hnl, hmem⟩ := M.out
                  have HS := hid hs
                  have HM := hid hmem
                  clear M hs hmem
                  by_cases hlt : k < o.length
                  · have hki : (k : Int) < (o.length : Int) := by omega
                    obtain ⟨ab, ao, hA⟩ := HV.out.there (by omega)
                    subst hA
                    have HT := hid (mem_take hlt)
                    obtain ⟨y, hy⟩ : ∃ y, o.getD k it0 = y := ⟨_, rfl⟩
                    have CC : Hid (∀ w', Kp No w w' → w'.cell? ⟨ab, ao + k * 2, none⟩ = some (.int .i64 y.key) ∧ w'.cell? ⟨ab, ao + k * 2 + 1, none⟩ = some (.int .i64 y.id)) := hid fun w' hw => by
                      have c0 := HV.out.cell hw hlt (i := 0) (by omega) rfl
                      have c1 := HV.out.cell hw hlt (i := 1) (by omega) rfl
                      rw [hy] at c0 c1
                      simp only [itc, Nat.add_zero] at c0 c1
                      rw [← Nat.add_assoc] at c1
                      exact ⟨c0, c1⟩
                    rw [hy] at HT
                    clear hy
                    obtain ⟨c0, c1⟩ := CC.out _ K.out
                    obtain ⟨inn, hin⟩ : ∃ inn, decide (y ∈ l) = inn := ⟨_, rfl⟩
                    have HI := hid hin
                    clear hin
                    go_wp2_with fail
                    refine (refhas_any (HU.out.kp0 K.out) y (by omega)).mono ?_
                    rintro e w4 ⟨rfl, k4⟩
                    rw [HI.out]
                    have hw4 := k4.size
                    have K4 := hid (K.out.trans k4)
                    have S4 := hid (Sm.out.kp0 k4)
                    have H4 := hid (HS.out.kp0 k4)
                    have Z4 := hid (Nat.le_trans Z.out hw4)
                    clear k4 c0 c1 K Z Sm HS
                    obtain ⟨c0, c1⟩ := CC.out _ K4.out
                    cases inn with
                    | true =>
                      go_wp2_with fail
                      go_roundw
                      case rel =>
                        refine ⟨k + 1, by omega, by go_num, K4, Z4, S4, hid ⟨n, H4.out, hnl, fun x => ?_⟩⟩
                        have hyl : y ∈ l := of_decide_eq_true HI.out
                        rw [HM.out, HT.out]
                        by_cases e : x = y
                        · subst e; simp [hyl]
                        · simp [e]
                      case measure => simp [intOf]; omega
                    | false =>
                      go_wp2_with fail
                      refine (drop_gap H4.out y rfl rfl).mono ?_
                      rintro e w5 ⟨rfl, k5, h5⟩
                      have hw5 := k5.size
                      have K5 := hid (K4.out.step k5 fun i hi e => by rcases e with e | e <;> omega)
                      have S5 := hid (S4.out.kp k5 DJ.out)
                      have H5 := hid h5
                      have Z5 := hid (Nat.le_trans Z4.out hw5)
                      clear k5 h5 c0 c1
                      go_wp2_with fail
                      go_roundw
                      case rel =>
                        refine ⟨k + 1, by omega, by go_num, K5, Z5, S5, hid ⟨_, H5.out, Nat.le_trans (dropL_len _ _) hnl, fun x => ?_⟩⟩
                        have hyl : y ∉ l := of_decide_eq_false HI.out
                        rw [mem_dropL, HM.out, HT.out]
                        by_cases e : x = y
                        · subst e; simp [hyl]
                        · simp [e]
                      case measure => simp [intOf]; omega
                  · have hk2 : k = o.length := by omega
                    subst hk2
                    go_wp2_with fail
                    refine (told_any Sm.out (by omega)).mono ?_
                    rintro e w6 ⟨u1, rfl, k6, o6⟩
                    obtain ⟨A1, c1, rfl⟩ := o6.formN rfl
                    have hw6 := k6.size
                    have K6 := hid (K.out.trans k6)
                    have H6 := hid (HS.out.kp0 k6)
                    have O6 := hid o6
                    have hmn : n = m := sorted_ext HS.out.sorted Sm.out.sorted fun x => by
                      rw [HM.out, MS.out, List.take_length]
                      exact ⟨fun h => h.elim id fun h => absurd h.1 h.2, .inl⟩
                    subst hmn
                    clear k6 o6 K Z Sm HS
                    go_wp2_with fail
                    refine (told_any H6.out (by omega)).mono ?_
                    rintro e w7 ⟨u2, rfl, k7, o7⟩
                    obtain ⟨A2, c2, rfl⟩ := o7.formN rfl
                    have K7 := hid (K6.out.trans k7)
                    have O7 := hid o7
                    have O8 := hid (O6.out.kp0 k7)
                    clear k7 o7 H6 O6 K6
                    go_wp2_with fail
                    refine (same_any O8.out.rw O7.out.rw (by omega)).mono ?_
                    rintro e w8 ⟨rfl, k8⟩
                    have K8 := hid (K7.out.trans k8)
                    clear k8
                    go_wp2_with fail
                    go_ret
                    exact ⟨rfl, K8.out⟩
end Go.Proofs.Ytllamoiehmdgfaa
