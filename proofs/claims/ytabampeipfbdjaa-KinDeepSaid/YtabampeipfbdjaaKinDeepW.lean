/-
  The walk of KinDeep.
-/
import Derived.Test.YtabampeipfbdjaaNLawB
import Derived.Test.YtabampeipfbdjaaNDeep
import Derived.Deep.DeepCutAuto
import Derived.Deep.CutRange
namespace Go.Proofs.Ytabampeipfbdjaa
open Go.RowKit

set_option maxHeartbeats 2000000 in
set_option maxRecDepth 100000 in
theorem kinDeep_walk (w : World) (x y z : Int) (hx : 0 ≤ x ∧ x ≤ 255) (hy : 0 ≤ y ∧ y ≤ 255) (hz : 0 ≤ z ∧ z ≤ 255) :
    Calls Try.prog 8 #[.int .u8 x, .int .u8 y, .int .u8 z] w fun e w' => e = .returned (.bool true) ∧ Kp No w w' := by
  obtain ⟨a, rfl⟩ : ∃ a : Nat, x = (a : Int) := ⟨x.toNat, by omega⟩
  obtain ⟨b, rfl⟩ : ∃ b : Nat, y = (b : Int) := ⟨y.toNat, by omega⟩
  obtain ⟨c, rfl⟩ : ∃ c : Nat, z = (c : Int) := ⟨z.toNat, by omega⟩
  obtain ⟨n, hn⟩ : ∃ n, a % 20 = n := ⟨_, rfl⟩
  obtain ⟨hh, hhh⟩ : ∃ hh, b % 8 = hh := ⟨_, rfl⟩
  have hn20 : n < 20 := by rw [← hn]; exact Nat.mod_lt _ (by omega)
  have hh8 : hh < 8 := by rw [← hhh]; exact Nat.mod_lt _ (by omega)
  have hr1 : ((a : Int)).tmod 20 = (n : Int) := by rw [← hn]; rfl
  have hr2 : ((b : Int)).tmod 8 = (hh : Int) := by rw [← hhh]; rfl
  obtain ⟨mm, hmm⟩ : ∃ mm, min n 16 = mm := ⟨_, rfl⟩
  have hmin : min (n : Int) 16 = (mm : Int) := by omega
  have hm16 : mm ≤ 16 := by omega
  obtain ⟨t, ht⟩ : ∃ t, c % (mm + 1) = t := ⟨_, rfl⟩
  have htm : t ≤ mm := by have := Nat.mod_lt c (show 0 < mm + 1 by omega); omega
  have hr3 : ((c : Int)).tmod ((mm : Int) + 1) = (t : Int) := by rw [← ht]; rfl
  have hw3 := wrapI (x := (mm : Int) + 1) (by unfold I64; omega)
  have hw4 := wrapI (x := (t : Int) + 1) (by unfold I64; omega)
  have hw5 := wrapI (x := (t : Int) + 1 + (hh : Int)) (by unfold I64; omega)
  have hne : ((mm : Int) + 1 == 0) = false := by rw [beq_eq_false_iff_ne]; omega
  have i100 : I64 100 := by unfold I64; omega
  have it : I64 (t : Int) := by unfold I64; omega
  clear hn hhh ht
  go_enter Try.func8, Try.ntmps8
  go_wp2_with (first
    | (go_at_call 9
       refine (awake_any w).mono ?_
       rintro e w1 ⟨rfl, k1⟩
       have K1 := hid k1
       clear k1)
    | (go_at_call 10
       refine (new_any w1).mono ?_
       rintro e w2 ⟨g, m, rfl, _, _, n2, k2⟩
       have N2 := hid n2
       have K2 := hid k2
       clear n2 k2))
  go_loopw [10] (fun i wr => ∃ (k : Nat) (K : Int), i = .int .i64 K ∧ Hid (K = (k : Int) ∧ 1 ≤ k ∧ k ≤ n + 1) ∧ Hid (∃ T D cnt, Kn wr (fun i => w1.heap.size ≤ i) g m T cnt ∧ Ch T D (min (k - 1) 16) 0 ∧ Cn T cnt ∧ cnt ≤ k) ∧ Hid (Kp No w1 wr)) (fun i _ => n + 1 - (intOf i).toNat)
  case atStart => exact ⟨1, 1, rfl, hid (by omega), hid ⟨_, _, 1, N2.out, Ch.new, Cn.new, Nat.le_refl _⟩, K2⟩
  case round =>
    obtain ⟨k, K, rfl, HK, HT, KP⟩ := hrel
    obtain ⟨hk1, hk2, hk3⟩ := HK.out
    obtain ⟨T, D, cnt, t1, t2, t3, t4⟩ := HT.out
    by_cases hkn : k ≤ n
    · have hg1 : K ≤ (n : Int) := by omega
      obtain ⟨P, hP⟩ : ∃ P, K - 1 = P := ⟨_, rfl⟩
      have HPE := hid hP
      have hwp : IntKind.i64.wrap (K - 1) = P := by rw [hP]; exact wrapI (by unfold I64; omega)
      have hwk := wrapI (x := K + 1) (by unfold I64; omega)
      have hki : I64 K := by unfold I64; omega
      have hpi : I64 P := by unfold I64; omega
      obtain ⟨cd, T', hcd⟩ : ∃ cd T', addE T K P = cd ∧ (if addE T K P = 0 then hangT T K P [] else T) = T' ∧ (∃ D', Ch T' D' (min k 16) 0) ∧ (K ≤ 16 → cd = 0) ∧ (K = 17 → cd = 10) ∧ (18 ≤ K → cd = 8) := by
        by_cases h16 : k ≤ 16
        · obtain ⟨e1, q, _, _, D', hD⟩ := t2.up (by omega)
          have e2 : ((min (k - 1) 16 : Nat) : Int) = P := by omega
          have e3 : P + 1 = K := by omega
          rw [e2, e3] at e1 hD
          refine ⟨0, _, e1, by rw [e1, if_pos rfl], ⟨D', ?_⟩, fun _ => rfl, fun h => by omega, fun h => by omega⟩
          rwa [show min (k - 1) 16 + 1 = min k 16 by omega] at hD
        · rw [show min (k - 1) 16 = 16 by omega] at t2
          have e0 : min k 16 = 16 := by omega
          by_cases h17 : k = 17
          · have e1 := t2.deep
            have eK : K = 17 := by omega
            have eP : P = 16 := by omega
            subst eK eP
            exact ⟨10, _, e1, by rw [e1, if_neg (by decide)], ⟨D, by rw [e0]; exact t2⟩, fun h => by omega, fun _ => rfl, fun h => by omega⟩
          · have e1 := t2.far (x := K) (by omega) (by omega)
            rw [hP] at e1
            exact ⟨8, _, e1, by rw [e1, if_neg (by decide)], ⟨D, by rw [e0]; exact t2⟩, fun h => by omega, fun h => by omega, fun _ => rfl⟩
      obtain ⟨hc1, hc2, hc3, hc4, hc5, hc6⟩ := hcd
      have W := hid t2.w
      have N := hid t1
      have C := hid t3
      have HC1 := hid hc1
      have HC2 := hid hc2
      have HC3 := hid hc3
      have HCN := hid t4
      clear t1 t2 t3 t4 hc1 hc2 hc3 HT hk1 hk2 hk3 hP hkn
      rcases (show K ≤ 16 ∨ K = 17 ∨ 18 ≤ K by omega) with hc | hc | hc
      · have hcd := hc4 hc
        subst hcd
        have g17 : (K == 17) = false := by rw [beq_eq_false_iff_ne]; omega
        have g18 : ¬ 17 < K := by omega
        clear hc4 hc5 hc6
        go_wp2_with (first
          | (go_at_call 32
             with_reducible refine (add_any (id := K) (p := P) W.out N.out C.out (fun i hi => Nat.le_trans KP.out.size hi) hki hpi (by have := HCN.out; have := HK.out; omega)).mono ?_
             rintro e w5 ⟨rfl, ⟨c5, hc5, hl5, n5⟩, k5⟩
             rw [HC2.out] at hc5 n5
             rw [HC1.out]
             have N5 := hid n5
             have C5 := hid (And.intro hc5 hl5)
             have K5 := hid (KP.out.step k5 fun i hi e => by omega)
             clear n5 hc5 hl5 k5))
        go_roundw
        case rel => exact ⟨k + 1, K + 1, by first | rfl | go_num, hid (by have := HK.out; omega), hid (by
          obtain ⟨D', hD'⟩ := HC3.out
          exact ⟨_, D', c5, N5.out, hD', C5.out.1, by have := C5.out.2; have := HCN.out; omega⟩), K5⟩
        case measure => simp only [intOf]; (first | have := HJ.out | have := HK.out); omega
      · have hcd := hc5 hc
        have hp16 : P = 16 := by have := HPE.out; omega
        subst hc
        subst hp16
        subst hcd
        clear hc4 hc5 hc6
        go_wp2_with (first
          | (go_at_call 32
             with_reducible refine (add_any (id := 17) (p := 16) W.out N.out C.out (fun i hi => Nat.le_trans KP.out.size hi) hki hpi (by have := HCN.out; have := HK.out; omega)).mono ?_
             rintro e w5 ⟨rfl, ⟨c5, hc5, hl5, n5⟩, k5⟩
             rw [HC2.out] at hc5 n5
             rw [HC1.out]
             have N5 := hid n5
             have C5 := hid (And.intro hc5 hl5)
             have K5 := hid (KP.out.step k5 fun i hi e => by omega)
             clear n5 hc5 hl5 k5))
        go_roundw
        case rel => exact ⟨k + 1, 17 + 1, by first | rfl | go_num, hid (by have := HK.out; omega), hid (by
          obtain ⟨D', hD'⟩ := HC3.out
          exact ⟨_, D', c5, N5.out, hD', C5.out.1, by have := C5.out.2; have := HCN.out; omega⟩), K5⟩
        case measure => simp only [intOf]; (first | have := HJ.out | have := HK.out); omega
      · have hcd := hc6 hc
        subst hcd
        have g16 : ¬ K ≤ 16 := by omega
        have g17 : (K == 17) = false := by rw [beq_eq_false_iff_ne]; omega
        have g18 : 17 < K := by omega
        clear hc4 hc5 hc6
        go_wp2_with (first
          | (go_at_call 32
             with_reducible refine (add_any (id := K) (p := P) W.out N.out C.out (fun i hi => Nat.le_trans KP.out.size hi) hki hpi (by have := HCN.out; have := HK.out; omega)).mono ?_
             rintro e w5 ⟨rfl, ⟨c5, hc5, hl5, n5⟩, k5⟩
             rw [HC2.out] at hc5 n5
             rw [HC1.out]
             have N5 := hid n5
             have C5 := hid (And.intro hc5 hl5)
             have K5 := hid (KP.out.step k5 fun i hi e => by omega)
             clear n5 hc5 hl5 k5))
        go_roundw
        case rel => exact ⟨k + 1, K + 1, by first | rfl | go_num, hid (by have := HK.out; omega), hid (by
          obtain ⟨D', hD'⟩ := HC3.out
          exact ⟨_, D', c5, N5.out, hD', C5.out.1, by have := C5.out.2; have := HCN.out; omega⟩), K5⟩
        case measure => simp only [intOf]; (first | have := HJ.out | have := HK.out); omega
    · have hg1 : ¬ K ≤ (n : Int) := by omega
      rw [show min (k - 1) 16 = mm by omega] at t2
      have HT2 := hid (show ∃ T D cnt, Kn wr (fun i => w1.heap.size ≤ i) g m T cnt ∧ Ch T D mm 0 ∧ Cn T cnt ∧ cnt ≤ 20 from ⟨T, D, cnt, t1, t2, t3, by omega⟩)
      clear t1 t2 t3 HT
      go_wp2_with fail
      have hW := hid (show wr.heap.size ≤ wr.heap.size from Nat.le_refl _)
      obtain ⟨wa, hwa⟩ : ∃ wa, wr = wa := ⟨_, rfl⟩
      rw [hwa] at HT2 KP ⊢
      go_loopw [13] (fun i wr => ∃ (k : Nat) (K : Int), i = .int .i64 K ∧ Hid (K = (k : Int) ∧ k ≤ hh + 1) ∧ Hid (∃ T D cnt, Kn wr (fun i => w1.heap.size ≤ i) g m T cnt ∧ Ch T D mm k ∧ Cn T cnt ∧ cnt ≤ 20 + k) ∧ Hid (Kp No w1 wr)) (fun i _ => hh + 1 - (intOf i).toNat)
      case atStart => exact ⟨0, 0, rfl, hid (by omega), HT2, KP⟩
      case round =>
        clear HT2 KP hwa hg1 HK hk1 hk2 hk3 hW
        obtain ⟨j, J, rfl, HJ, HT, KP⟩ := hrel
        obtain ⟨hj1, hj2⟩ := HJ.out
        obtain ⟨T, D, cnt, t1, t2, t3, t4⟩ := HT.out
        by_cases hjn : j ≤ hh
        · have hg1 : J ≤ (hh : Int) := by omega
          obtain ⟨ID, hID⟩ : ∃ ID, 100 + J = ID := ⟨_, rfl⟩
          obtain ⟨UP, hUP⟩ : ∃ UP, ID - 1 = UP := ⟨_, rfl⟩
          have hwi : IntKind.i64.wrap (100 + J) = ID := by rw [hID]; exact wrapI (by unfold I64; omega)
          have hwu : IntKind.i64.wrap (ID - 1) = UP := by rw [hUP]; exact wrapI (by unfold I64; omega)
          have hwj := wrapI (x := J + 1) (by unfold I64; omega)
          have hidi : I64 ID := by unfold I64; omega
          have hupi : I64 UP := by unfold I64; omega
          have i0 : I64 0 := by unfold I64; omega
          have W := hid t2.w
          have N := hid t1
          have C := hid t3
          by_cases hj0 : j = 0
          · have gz : (J == 0) = true := by rw [beq_iff_eq]; omega
            obtain ⟨e1, q, _, _, D', hD⟩ := t2.add (by omega) (u := 0) (by rw [if_pos hj0])
            rw [show 100 + (j : Int) = ID by omega] at e1 hD
            have E1 := hid e1
            have HD := hid hD
            have HCN := hid t4
            have HJN := hid hjn
            clear t1 t2 t3 t4 HT e1 hD hID hUP hj1 hj2 hj0 hjn
            go_wp2_with (first
              | (go_at_call 32
                 with_reducible refine (add_any (id := ID) (p := 0) W.out N.out C.out (fun i hi => Nat.le_trans KP.out.size hi) hidi i0 (by have := HCN.out; have := HJN.out; omega)).mono ?_
                 rintro e w5 ⟨rfl, ⟨c5, hc5, hl5, n5⟩, k5⟩
                 rw [E1.out, if_pos rfl] at hc5 n5
                 rw [E1.out]
                 have N5 := hid n5
                 have C5 := hid (And.intro hc5 hl5)
                 have K5 := hid (KP.out.step k5 fun i hi e => by omega)
                 clear n5 hc5 hl5 k5))
            go_roundw
            case rel => exact ⟨j + 1, J + 1, by first | rfl | go_num, hid (by have := HJ.out; have := HJN.out; omega), hid ⟨_, D', c5, N5.out, HD.out, C5.out.1, by have := C5.out.2; have := HCN.out; omega⟩, K5⟩
            case measure => simp only [intOf]; (first | have := HJ.out | have := HK.out); omega
          · have gz : (J == 0) = false := by rw [beq_eq_false_iff_ne]; omega
            obtain ⟨e1, q, _, _, D', hD⟩ := t2.add (by omega) (u := UP) (by rw [if_neg hj0]; omega)
            rw [show 100 + (j : Int) = ID by omega] at e1 hD
            have E1 := hid e1
            have HD := hid hD
            have HCN := hid t4
            have HJN := hid hjn
            clear t1 t2 t3 t4 HT e1 hD hID hUP hj1 hj2 hj0 hjn
            go_wp2_with (first
              | (go_at_call 32
                 with_reducible refine (add_any (id := ID) (p := UP) W.out N.out C.out (fun i hi => Nat.le_trans KP.out.size hi) hidi hupi (by have := HCN.out; have := HJN.out; omega)).mono ?_
                 rintro e w5 ⟨rfl, ⟨c5, hc5, hl5, n5⟩, k5⟩
                 rw [E1.out, if_pos rfl] at hc5 n5
                 rw [E1.out]
                 have N5 := hid n5
                 have C5 := hid (And.intro hc5 hl5)
                 have K5 := hid (KP.out.step k5 fun i hi e => by omega)
                 clear n5 hc5 hl5 k5))
            go_roundw
            case rel => exact ⟨j + 1, J + 1, by first | rfl | go_num, hid (by have := HJ.out; have := HJN.out; omega), hid ⟨_, D', c5, N5.out, HD.out, C5.out.1, by have := C5.out.2; have := HCN.out; omega⟩, K5⟩
            case measure => simp only [intOf]; (first | have := HJ.out | have := HK.out); omega
        · have hg1 : ¬ J ≤ (hh : Int) := by omega
          rw [show j = hh + 1 by omega] at t2
          obtain ⟨D', W'⟩ := t2.after (t := (t : Int))
          have hmv := t2.moved (t := (t : Int)) (by omega) (by omega)
          have htl : tall (if movE T 100 (t : Int) = 0 then movT T 100 (t : Int) else T) 100 = (hh : Int) := by
            split
            · rename_i e
              exact t2.tall2 e
            · exact t2.tall
          obtain ⟨cd, hcd⟩ : ∃ cd, movE T 100 (t : Int) = cd := ⟨_, rfl⟩
          obtain ⟨T', hT'⟩ : ∃ T', (if movE T 100 (t : Int) = 0 then movT T 100 (t : Int) else T) = T' := ⟨_, rfl⟩
          rw [hT'] at W' htl
          have HW' := hid W'
          have HTL := hid htl
          have HCD := hid hcd
          have HT' := hid hT'
          have W := hid t2.w
          have N := hid t1
          have C := hid t3
          rw [hcd] at hmv
          have HCN := hid (show cnt ≤ 40 by omega)
          clear t1 t2 t3 t4 HT W' htl hcd hT' hj1 hj2 hjn
          by_cases hd : (t : Int) + 1 + (hh : Int) ≤ 16
          · rw [if_pos hd] at hmv
            subst hmv
            go_wp2_with (first
              | (go_at_call 30
                 with_reducible refine (move_any (id := 100) (p := (t : Int)) W.out N.out C.out (fun i hi => Nat.le_trans KP.out.size hi) i100 it (by have := HCN.out; omega)).mono ?_
                 rintro e w5 ⟨rfl, ⟨c5, hc5, hl5, n5⟩, k5⟩
                 rw [HT'.out] at hc5 n5
                 rw [HCD.out]
                 have N5 := hid n5
                 have K5 := hid (KP.out.step k5 fun i hi e => by omega)
                 clear n5 hc5 hl5 k5)
              | (go_at_call 22
                 refine (tall_any HW'.out N5.out i100).mono ?_
                 rintro e w6 ⟨rfl, k6⟩
                 rw [HTL.out]
                 have K6 := hid (K5.out.trans k6)
                 clear k6))
            go_ret
            exact ⟨by first | rfl | (simp [hd]), K1.out.trans K6.out⟩
          · rw [if_neg hd] at hmv
            subst hmv
            go_wp2_with (first
              | (go_at_call 30
                 with_reducible refine (move_any (id := 100) (p := (t : Int)) W.out N.out C.out (fun i hi => Nat.le_trans KP.out.size hi) i100 it (by have := HCN.out; omega)).mono ?_
                 rintro e w5 ⟨rfl, ⟨c5, hc5, hl5, n5⟩, k5⟩
                 rw [HT'.out] at hc5 n5
                 rw [HCD.out]
                 have N5 := hid n5
                 have K5 := hid (KP.out.step k5 fun i hi e => by omega)
                 clear n5 hc5 hl5 k5)
              | (go_at_call 22
                 refine (tall_any HW'.out N5.out i100).mono ?_
                 rintro e w6 ⟨rfl, k6⟩
                 rw [HTL.out]
                 have K6 := hid (K5.out.trans k6)
                 clear k6))
            go_ret
            exact ⟨by first | rfl | (simp [hd]), K1.out.trans K6.out⟩
end Go.Proofs.Ytabampeipfbdjaa
