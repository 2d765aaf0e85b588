/-
  The walk of KinMoves.
-/
import Derived.Test.YtabampeipfbdjaaNLawB
import Derived.Test.YtabampeipfbdjaaNMovB
namespace Go.Proofs.Ytabampeipfbdjaa
open Go.RowKit

section
variable {α : Type} {n : Nat} {f : α → Nat → Value} {d : α} {w : World} {base : Nat} {e : TypeId} {v : Value} {xs : List α}
theorem Ow.rwp (h : Ow w base e n f v xs) : Rw n f d w (fun i => base ≤ i ∧ i < w.heap.size) v xs := by
  obtain ⟨A, c, rfl, h1, h2, h3⟩ := Ow.rw (d := d) h
  refine ⟨A, c, rfl, h1, h2, fun h0 => ?_⟩
  obtain ⟨b, o, rfl, g1, _, g3⟩ := h3 h0
  obtain ⟨hb, hl, _⟩ := h.blk (k := b) rfl
  exact ⟨b, o, rfl, g1, ⟨hb, hl⟩, g3⟩
end
theorem WT.fold : ∀ (os : List Kop) (T : Tre) (D : Int → Nat), WT T D → ∃ D', WT (os.foldl doT T) D'
  | [], T, D, W => ⟨D, W⟩
  | o :: os, T, D, W => by
    obtain ⟨D', W'⟩ := W.do o
    exact WT.fold os _ D' W'
section
variable {w : World} {v : Value} {os : List Kop}
set_option maxHeartbeats 2000000 in
set_option maxRecDepth 100000 in
theorem kinMoves_walk (w : World) (os : List Kop) (id p : Int) {v : Value} (h : Kops w Anyb v os) (hi : I64 id) (hp : I64 p) :
    Calls Try.prog 6 #[v, .int .i64 id, .int .i64 p] w fun e w' => e = .returned (.bool true) ∧ Kp No w w' := by
  have HO := hid h
  obtain ⟨A, c, rfl, hc, hm, _⟩ := h.rw
  unfold maxLen at hm
  obtain ⟨n, hn⟩ : ∃ n, os.length = n := ⟨_, rfl⟩
  have HN := hid hn
  rw [hn] at hc HO ⊢
  clear hn h
  by_cases hl : 60 < n
  · have g1 : (60 : Int) < (n : Int) := by omega
    go_enter Try.func6, Try.ntmps6
    go_wp2_with (first
      | (go_at_call 9
         refine (awake_any w).mono ?_
         rintro e w1 ⟨rfl, k1⟩
         have K1 := hid k1
         clear k1))
    go_ret
    exact ⟨rfl, K1.out⟩
  · have g1 : ¬ (60 : Int) < (n : Int) := by omega
    obtain ⟨D, W⟩ := WT.fold os newT _ WT.new
    obtain ⟨T, hT⟩ : ∃ T, os.foldl doT newT = T := ⟨_, rfl⟩
    rw [hT] at W
    have HT := hid hT
    have HW := hid W
    have i0 : I64 0 := by unfold I64; omega
    obtain ⟨n0, hn0⟩ : ∃ n0, (under T 0).length = n0 := ⟨_, rfl⟩
    have hb0 := under_len W 0
    rw [hn0] at hb0
    have HN0 := hid hn0
    by_cases hcd : movE T id p = 0
    · obtain ⟨q, q2, hTi, h0, hTp, hnp, htl⟩ := mov_ok W hcd
      have W' := W.move hTi h0 hTp hnp htl
      obtain ⟨hb1, hb2⟩ := mov_back W W' hTi h0 hTp hnp
      have hlen := all_len W W' (mov_some W hTi h0 hTp hnp)
      have hund : under (movT T id p) id = under T id := by unfold under; rw [mov_places W hTi h0 hTp hnp]
      have hpar : par (movT T id p) id = p := by
        have := mov_at W hTi h0 hTp hnp id
        rw [hTi, Option.map_some, if_pos rfl] at this
        exact par_some this
      have hin : decide (p ∈ under T id) = false := by
        rw [decide_eq_false_iff_not, mem_under W hTi]
        rintro ⟨_, e | e⟩
        · exact h0 e
        · exact hnp e
      have hpq : par T id = q.1 := par_some hTi
      have hql := W.up id q hTi h0
      have hqi : I64 q.1 := by
        obtain ⟨_, hq'⟩ := hql
        have := W.low hq'
        unfold I64
        omega
      obtain ⟨T', hT'⟩ : ∃ T', movT T id p = T' := ⟨_, rfl⟩
      rw [hT'] at W' hb1 hb2 hlen hund hpar
      rw [hn0] at hlen
      have HW' := hid W'
      have HB1 := hid hb1
      have HB2 := hid hb2
      have HL := hid hlen
      have HU := hid hund
      have HP := hid hpar
      have HT' := hid hT'
      have HC := hid hcd
      have HIN := hid hin
      have HPQ := hid hpq
      obtain ⟨r1, hr1⟩ : ∃ r, q.1 = r := ⟨_, rfl⟩
      rw [hr1] at HPQ HB1 HB2 hqi
      clear hT W hn0 hcd W' hb1 hb2 hlen hund hpar hT' hin hpq hql hr1 htl
      go_enter Try.func6, Try.ntmps6
      go_wp2_with (first
        | (go_at_call 9
           refine (awake_any w).mono ?_
           rintro e w1 ⟨rfl, k1⟩
           have K1 := hid k1
           clear k1)
        | (go_at_call 28
           refine (walked_any (HO.out.kp0 K1.out) (by rw [HN.out]; omega)).mono ?_
           rintro e w2 ⟨g, m, _, cnt, rfl, n2, _, c2, l2, k2⟩
           rw [HT.out] at n2 c2
           rw [HN.out] at l2
           have N2 := hid n2.narrow
           have C2 := hid c2
           have L2 := hid (show cnt ≤ 61 by omega)
           have K2 := hid (K1.out.trans k2)
           clear n2 c2 l2 k2)
        | (go_at_call 16
           with_reducible refine (under_any (x := 0) HW.out N2.out i0).mono ?_
           rintro e w3 ⟨v3, rfl, o3, k3⟩
           have O3 := hid (Ow.rwp (d := (0 : Int)) o3)
           obtain ⟨A3, c3, rfl⟩ := o3.formN HN0.out
           have N3 := hid (N2.out.kp0 k3)
           have K3 := hid (K2.out.trans k3)
           have Z3 := hid k3.size
           clear o3 k3)
        | (go_at_call 16
           with_reducible refine (under_any (x := id) HW.out N3.out hi).mono ?_
           rintro e w4 ⟨v4, rfl, o4, k4⟩
           have O4 := hid (Ow.rwp (d := (0 : Int)) o4)
           have O34 := hid (O3.out.kp0 k4)
           have N4 := hid (N3.out.kp0 k4)
           have K4 := hid (K3.out.trans k4)
           have Z4 := hid k4.size
           clear o4 k4)
        | (go_at_call 20
           with_reducible refine (parent_any N4.out hi).mono ?_
           rintro e w5 ⟨rfl, k5⟩
           rw [HPQ.out]
           have O35 := hid (O34.out.kp0 k5)
           have O45 := hid (O4.out.kp0 k5)
           have N5 := hid (Kn.mono (S' := fun i => (w1.heap.size ≤ i ∧ i < w2.heap.size) ∨ w5.heap.size ≤ i) (N4.out.kp0 k5) fun i hi => .inl hi)
           have K5 := hid (K4.out.trans k5)
           have Z5 := hid k5.size
           clear k5)
        | (go_at_call 30
           with_reducible refine (move_any HW.out N5.out C2.out (fun i hi => .inr hi) hi hp (by have := L2.out; omega)).mono ?_
           rintro e w6 ⟨rfl, ⟨cnt6, c6, l6, n6⟩, k6⟩
           rw [HC.out, if_pos rfl, HT'.out] at c6 n6
           rw [HC.out]
           have O36 := hid (O35.out.kp k6 fun i h1 h2 h3 => by have := Z3.out; have := Z4.out; have := Z5.out; omega)
           have O46 := hid (O45.out.kp k6 fun i h1 h2 h3 => by have := Z3.out; have := Z4.out; have := Z5.out; omega)
           have N6 := hid n6.narrow
           have C6 := hid c6
           have L6 := hid (show cnt6 ≤ 62 by have := L2.out; omega)
           have K6 := hid (K5.out.step k6 fun i hi e => by have := K1.out.size; have := K5.out.size; omega)
           have Z6 := hid k6.size
           clear n6 c6 l6 k6)
        | (go_at_call 16
           with_reducible refine (under_any (x := 0) HW'.out N6.out i0).mono ?_
           rintro e w7 ⟨v7, rfl, o7, k7⟩
           obtain ⟨A7, c7, rfl⟩ := o7.formN HL.out
           have O37 := hid (O36.out.kp0 k7)
           have O47 := hid (O46.out.kp0 k7)
           have N7 := hid (N6.out.kp0 k7)
           have K7 := hid (K6.out.trans k7)
           have Z7 := hid k7.size
           clear o7 k7)
        | (go_at_call 20
           with_reducible refine (parent_any N7.out hi).mono ?_
           rintro e w8 ⟨rfl, k8⟩
           rw [HP.out]
           have O38 := hid (O37.out.kp0 k8)
           have O48 := hid (O47.out.kp0 k8)
           have N8 := hid (N7.out.kp0 k8)
           have K8 := hid (K7.out.trans k8)
           have Z8 := hid k8.size
           clear k8)
        | (go_at_call 16
           with_reducible refine (under_any (x := id) HW'.out N8.out hi).mono ?_
           rintro e w9 ⟨v9, rfl, o9, k9⟩
           rw [HU.out] at o9
           have O99 := hid (Ow.rwp (d := (0 : Int)) o9)
           have O39 := hid (O38.out.kp0 k9)
           have O49 := hid (O48.out.kp0 k9)
           have N9 := hid (N8.out.kp0 k9)
           have K9 := hid (K8.out.trans k9)
           have Z9 := hid k9.size
           clear o9 k9)
        | (go_at_call 15
           with_reducible refine (sameI_any _ _ (under T id) (under T id) w9 O99.out.sl O49.out.sl).mono ?_
           rintro e w10 ⟨rfl, q10, rfl⟩
           have O3a := hid (O39.out.kp0 ((Kp.refl No w9).drewN q10))
           have O4a := hid (O49.out.kp0 ((Kp.refl No w9).drewN q10))
           have N10 := hid (N9.out.kp0 ((Kp.refl No w9).drewN q10))
           have ZA := hid (show (w9.drewN q10).heap.size = w9.heap.size from rfl)
           have K10 := hid (K9.out.trans ((Kp.refl No w9).drewN q10)))
        | (go_at_call 29
           with_reducible refine (in_any O4a.out p).mono ?_
           rintro e w11 ⟨rfl, rfl⟩
           rw [HIN.out]
           have N11 := hid (Kn.mono (S' := fun i => (((w1.heap.size ≤ i ∧ i < w2.heap.size) ∨ w5.heap.size ≤ i) ∧ i < w6.heap.size) ∨ (w9.drewN q10).heap.size ≤ i) N10.out fun i hi => .inl hi))
        | (go_at_call 30
           with_reducible refine (move_any HW'.out N11.out C6.out (fun i hi => .inr hi) hi hqi (by have := L6.out; omega)).mono ?_
           rintro e w12 ⟨rfl, ⟨cnt12, c12, l12, n12⟩, k12⟩
           rw [HB1.out, if_pos rfl, HB2.out] at n12
           rw [HB1.out]
           have O3b := hid (O3a.out.kp k12 fun i h1 h2 h3 => by have := Z3.out; have := Z4.out; have := Z5.out; have := Z6.out; have := Z7.out; have := Z8.out; have := Z9.out; have := ZA.out; omega)
           have N12 := hid n12
           have K12 := hid (K10.out.step k12 fun i hi e => by have := K1.out.size; have := K5.out.size; have := K9.out.size; have := ZA.out; omega)
           clear n12 c12 l12 k12)
        | (go_at_call 16
           with_reducible refine (under_any (x := 0) HW.out N12.out i0).mono ?_
           rintro e w13 ⟨v13, rfl, o13, k13⟩
           have O13 := hid (Ow.rwp (d := (0 : Int)) o13)
           have O3c := hid (O3b.out.kp0 k13)
           have K13 := hid (K12.out.trans k13)
           clear o13 k13)
        | (go_at_call 15
           with_reducible refine (sameI_any _ _ (under T 0) (under T 0) w13 O13.out.sl O3c.out.sl).mono ?_
           rintro e w14 ⟨rfl, q14, rfl⟩
           have K14 := hid (K13.out.trans ((Kp.refl No w13).drewN q14))))
      go_ret
      exact ⟨rfl, K14.out⟩
    · obtain ⟨cd, hcd'⟩ : ∃ cd, movE T id p = cd := ⟨_, rfl⟩
      rw [hcd'] at hcd
      have HC := hid hcd'
      have g2 : (cd != 0) = true := by simp [hcd]
      have HNE := hid hcd
      obtain ⟨pp, hpp⟩ : ∃ pp, par T id = pp := ⟨_, rfl⟩
      have HPP := hid hpp
      clear hT W hn0 hcd' hcd hpp
      go_enter Try.func6, Try.ntmps6
      go_wp2_with (first
        | (go_at_call 9
           refine (awake_any w).mono ?_
           rintro e w1 ⟨rfl, k1⟩
           have K1 := hid k1
           clear k1)
        | (go_at_call 28
           refine (walked_any (HO.out.kp0 K1.out) (by rw [HN.out]; omega)).mono ?_
           rintro e w2 ⟨g, m, _, cnt, rfl, n2, _, c2, l2, k2⟩
           rw [HT.out] at n2 c2
           rw [HN.out] at l2
           have N2 := hid n2.narrow
           have C2 := hid c2
           have L2 := hid (show cnt ≤ 61 by omega)
           have K2 := hid (K1.out.trans k2)
           clear n2 c2 l2 k2)
        | (go_at_call 16
           with_reducible refine (under_any (x := 0) HW.out N2.out i0).mono ?_
           rintro e w3 ⟨v3, rfl, o3, k3⟩
           have O3 := hid (Ow.rwp (d := (0 : Int)) o3)
           obtain ⟨A3, c3, rfl⟩ := o3.formN HN0.out
           have N3 := hid (N2.out.kp0 k3)
           have K3 := hid (K2.out.trans k3)
           have Z3 := hid k3.size
           clear o3 k3)
        | (go_at_call 16
           with_reducible refine (under_any (x := id) HW.out N3.out hi).mono ?_
           rintro e w4 ⟨v4, rfl, o4, k4⟩
           have O34 := hid (O3.out.kp0 k4)
           have N4 := hid (N3.out.kp0 k4)
           have K4 := hid (K3.out.trans k4)
           have Z4 := hid k4.size
           clear o4 k4)
        | (go_at_call 20
           with_reducible refine (parent_any N4.out hi).mono ?_
           rintro e w5 ⟨rfl, k5⟩
           rw [HPP.out]
           have O35 := hid (O34.out.kp0 k5)
           have N5 := hid (Kn.mono (S' := fun i => (w1.heap.size ≤ i ∧ i < w2.heap.size) ∨ w5.heap.size ≤ i) (N4.out.kp0 k5) fun i hi => .inl hi)
           have K5 := hid (K4.out.trans k5)
           have Z5 := hid k5.size
           clear k5)
        | (go_at_call 30
           with_reducible refine (move_any HW.out N5.out C2.out (fun i hi => .inr hi) hi hp (by have := L2.out; omega)).mono ?_
           rintro e w6 ⟨rfl, ⟨cnt6, c6, l6, n6⟩, k6⟩
           rw [HC.out, if_neg HNE.out] at n6
           rw [HC.out]
           have O36 := hid (O35.out.kp k6 fun i h1 h2 h3 => by have := Z3.out; have := Z4.out; have := Z5.out; omega)
           have N6 := hid n6
           have K6 := hid (K5.out.step k6 fun i hi e => by have := K1.out.size; have := K5.out.size; omega)
           clear n6 c6 l6 k6)
        | (go_at_call 16
           with_reducible refine (under_any (x := 0) HW.out N6.out i0).mono ?_
           rintro e w7 ⟨v7, rfl, o7, k7⟩
           have O7 := hid (Ow.rwp (d := (0 : Int)) o7)
           have O37 := hid (O36.out.kp0 k7)
           have N7 := hid (N6.out.kp0 k7)
           have K7 := hid (K6.out.trans k7)
           clear o7 k7)
        | (go_at_call 15
           with_reducible refine (sameI_any _ _ (under T 0) (under T 0) w7 O37.out.sl O7.out.sl).mono ?_
           rintro e w8 ⟨rfl, q8, rfl⟩
           have N8 := hid (N7.out.kp0 ((Kp.refl No w7).drewN q8))
           have K8 := hid (K7.out.trans ((Kp.refl No w7).drewN q8)))
        | (go_at_call 20
           with_reducible refine (parent_any N8.out hi).mono ?_
           rintro e w9 ⟨rfl, k9⟩
           rw [HPP.out]
           have K9 := hid (K8.out.trans k9)
           clear k9))
      go_ret
      exact ⟨rfl, K9.out⟩
end
end Go.Proofs.Ytabampeipfbdjaa
