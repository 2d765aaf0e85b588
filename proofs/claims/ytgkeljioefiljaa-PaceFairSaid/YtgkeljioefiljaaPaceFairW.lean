/-
  The walk of PaceFair.
-/
import Derived.Test.YtgkeljioefiljaaPacePartsW
namespace Go.Proofs.Ytgkeljioefiljaa
open Go.RowKit

theorem At2.put1 {a w : World} {t : TypeId} {g p : Nat} {x y x' y' : Value} (h : At2 a t g p x y x' y' w) (hn : g ≠ p) (hp : a.heap.size ≤ g) (u z : Value) : At2 a t g p u z x' y' ((w.setCell ⟨g, 0, none⟩ u).setCell ⟨g, 1, none⟩ z) :=
  ⟨kp_put h.kept hp, (h.one.put 0 u).put 1 z, (h.two.kp (Kp.set1 _ _ _ _) (fun e => hn (Eq.symm e))).kp (Kp.set1 _ _ _ _) (fun e => hn (Eq.symm e))⟩

/-- A tick goes as far as Scale by the weight, and one at most. -/
theorem fair_tick {W s : Int} (h : 0 < W) : pv 0 0 W (s + 1) ≤ pv 0 0 W s + (1048576 / W + 1) ∧ pv 0 0 W s ≤ pv 0 0 W (s + 1) := by
  unfold pv
  rw [show 1048576 * (s + 1) + 0 = (1048576 * s + 0) + 1048576 by omega]
  generalize 1048576 * s + 0 = G
  have e : G = W * (G / W) + G % W := (Int.mul_ediv_add_emod G W).symm
  have r0 := Int.emod_nonneg G (show W ≠ 0 by omega)
  have r1 := Int.emod_lt_of_pos G h
  have e' : (1048576 : Int) = W * (1048576 / W) + 1048576 % W := (Int.mul_ediv_add_emod _ W).symm
  have s0 := Int.emod_nonneg 1048576 (show W ≠ 0 by omega)
  have s1 := Int.emod_lt_of_pos 1048576 h
  constructor
  · have : (G + 1048576) / W < G / W + (1048576 / W) + 2 := by
      refine Int.ediv_lt_of_lt_mul h ?_
      rw [Int.add_mul, Int.add_mul, Int.mul_comm _ W, Int.mul_comm (1048576 / W) W]
      omega
    omega
  · have := Int.ediv_le_ediv h (show G ≤ G + 1048576 by omega)
    omega
theorem fair_bd {W s : Int} (h : 0 < W) (h0 : 0 ≤ s) (h1 : s ≤ 499) : 0 ≤ pv 0 0 W s ∧ pv 0 0 W s ≤ 523239424 := by
  unfold pv
  have q0 : 0 ≤ (1048576 * s + 0) / W := Int.ediv_nonneg (by omega) (by omega)
  have q1 : (1048576 * s + 0) / W ≤ 1048576 * s + 0 := Int.ediv_le_self _ (by omega)
  omega
theorem fair_done {x s : Int} : wt x * pv 0 0 (wt x) s + pr 0 (wt x) s = 1048576 * s := by
  unfold pv pr
  rw [Int.zero_add, Int.mul_ediv_add_emod]
  omega
theorem ls_le {a b : Int} : ls a 1 b 2 = decide (a ≤ b) := by
  unfold ls
  rcases Int.lt_trichotomy a b with h | h | h
  · simp [h, Int.le_of_lt h]
  · simp [h]
  · have : ¬ a ≤ b := by omega
    have h2 : ¬ a < b := by omega
    have h3 : (a == b) = false := by simp; omega
    simp [this, h2, h3]

theorem fair_start {a w : World} {t : TypeId} {x y x' y' : Value} (k : Kp No a w) : At2 a t w.heap.size (w.heap.size + 1) x y x' y' ((w.alloc (.cells #[x, y] t)).alloc (.cells #[x', y'] t)) := by
  refine ⟨(k.alloc _).alloc _, (Blk.new w _ _).kp0 ((Kp.refl No _).alloc _), ?_⟩
  have h := Blk.new (w.alloc (.cells #[x, y] t)) t #[x', y']
  rwa [show (w.alloc (.cells #[x, y] t)).heap.size = w.heap.size + 1 from by simp] at h
theorem less_is {k i k' i' : Int} {q : Bool} {w : World} (h : ls k i k' i' = q) : Calls Try.prog 20 #[.agg #[.int .i64 k, .int .i64 i], .agg #[.int .i64 k', .int .i64 i']] w fun e w' => e = .returned (.bool q) ∧ Kp No w w' := by
  subst h
  exact less_any k i k' i' w

set_option maxHeartbeats 20000000 in
theorem paceFair_gen (w : World) (x y t T S : Int) (ht : 0 ≤ t ∧ t ≤ 65535) (hT : 1048576 / wt x = T) (hS : 1048576 / wt y = S)
    (hx : (x ≤ 1 ∧ T = 1048576) ∨ (1048576 < x ∧ T = 1) ∨ (1 < x ∧ x ≤ 1048576 ∧ IntKind.i64.wrap ((1048576 : Int).tdiv x) = T))
    (hy : (y ≤ 1 ∧ S = 1048576) ∨ (1048576 < y ∧ S = 1) ∨ (1 < y ∧ y ≤ 1048576 ∧ IntKind.i64.wrap ((1048576 : Int).tdiv y) = S)) :
    Calls Try.prog 7 #[.int .i64 x, .int .i64 y, .int .u16 t] w fun e w' => e = .returned (.bool true) ∧ Kp No w w' := by
  obtain ⟨n, hn⟩ : ∃ n, t % 500 = n := ⟨_, rfl⟩
  have hn0 : 0 ≤ n := by omega
  have hn1 : n ≤ 499 := by omega
  have f1 : t.tmod 500 = n := by rw [Int.tmod_eq_emod_of_nonneg ht.1]; exact hn
  have f2 : IntKind.i64.wrap n = n := wrapI ⟨by omega, by omega⟩
  have hwx := wt_bd x
  have hwy := wt_bd y
  have T0 : 0 ≤ T := by rw [← hT]; exact Int.ediv_nonneg (by omega) (by omega)
  have T1 : T ≤ 1048576 := by rw [← hT]; exact Int.ediv_le_self _ (by omega)
  have S0 : 0 ≤ S := by rw [← hS]; exact Int.ediv_nonneg (by omega) (by omega)
  have S1 : S ≤ 1048576 := by rw [← hS]; exact Int.ediv_le_self _ (by omega)
  have f3 : IntKind.i64.wrap (T + 1) = T + 1 := wrapI ⟨by omega, by omega⟩
  have f4 : IntKind.i64.wrap (S + 1) = S + 1 := wrapI ⟨by omega, by omega⟩
  have HT := hid hT
  have HS := hid hS
  clear hn hT hS ht
  have C0 : Hid (can 0 0 x = true ∧ can 0 0 y = true) := hid ⟨can_iff.2 ⟨by omega, by omega, by omega, by omega⟩, can_iff.2 ⟨by omega, by omega, by omega, by omega⟩⟩
  rcases hx with ⟨hx, rfl⟩ | ⟨hx, rfl⟩ | ⟨hx, hx', hx2⟩
  · rcases hy with ⟨hy, rfl⟩ | ⟨hy, rfl⟩ | ⟨hy, hy', hy2⟩
    · go_enter Try.func7, Try.ntmps7
      go_wp2_with fail
      refine (awake_any _).mono ?_
      rintro e w1 ⟨rfl, k1⟩
      have K1 := hid k1
      have A1 : At2 w 23 w1.heap.size (w1.heap.size + 1) (.int .i64 (pv 0 0 (wt x) 0)) (.int .i64 (pr 0 (wt x) 0)) (.int .i64 (pv 0 0 (wt y) 0)) (.int .i64 (pr 0 (wt y) 0)) ((w1.alloc (.cells #[.int .i64 0, .int .i64 0] 23)).alloc (.cells #[.int .i64 0, .int .i64 0] 23)) := by
        rw [(pv_zero C0.out.1).1, (pv_zero C0.out.1).2, (pv_zero C0.out.2).1, (pv_zero C0.out.2).2]
        exact fair_start k1
      have HA := hid A1
      have HG := hid k1.size
      clear k1 A1 K1
      go_wp2_with fail
      go_loopw [12, 13, 14] (fun m1 m2 i wr => ∃ (k j : Int), 0 ≤ k ∧ 0 ≤ j ∧ k + j ≤ n ∧ m1 = .int .i64 k ∧ m2 = .int .i64 j ∧ i = .int .i64 (k + j) ∧ Hid (pv 0 0 (wt x) k - pv 0 0 (wt y) j ≤ 1048576 + 1 ∧ pv 0 0 (wt y) j - pv 0 0 (wt x) k ≤ 1048576 + 1) ∧
        Hid (At2 w 23 w1.heap.size (w1.heap.size + 1) (.int .i64 (pv 0 0 (wt x) k)) (.int .i64 (pr 0 (wt x) k)) (.int .i64 (pv 0 0 (wt y) j)) (.int .i64 (pr 0 (wt y) j)) wr)) (fun _ _ i _ => (n - intOf i).toNat)
      case atStart => exact ⟨0, 0, by omega, by omega, by omega, rfl, rfl, rfl, hid (by rw [(pv_zero C0.out.1).1, (pv_zero C0.out.2).1]; omega), HA⟩
      case round =>
        obtain ⟨k, j, k0, j0, hk, rfl, rfl, rfl, HB, HH⟩ := hrel
        clear HA
        have tx := fair_tick (W := wt x) (s := k) (by omega)
        have ty := fair_tick (W := wt y) (s := j) (by omega)
        have bx := fair_bd (W := wt x) (s := k) (by omega) k0 (by omega)
        have by' := fair_bd (W := wt y) (s := j) (by omega) j0 (by omega)
        have stx := pv_step (v := 0) (r := 0) (W := wt x) (s := k) (n := 1) (by omega)
        have sty := pv_step (v := 0) (r := 0) (W := wt y) (s := j) (n := 1) (by omega)
        have cx := pv_can C0.out.1 (by omega) k0 (by omega)
        have cy := pv_can C0.out.2 (by omega) j0 (by omega)
        have dx := fair_done (x := x) (s := k)
        have dy := fair_done (x := y) (s := j)
        have hb := HB.out
        rw [HT.out] at tx
        rw [HS.out] at ty
        obtain ⟨P, hP⟩ : ∃ P, pv 0 0 (wt x) k = P := ⟨_, rfl⟩
        obtain ⟨Q, hQ⟩ : ∃ Q, pv 0 0 (wt y) j = Q := ⟨_, rfl⟩
        obtain ⟨R, hR⟩ : ∃ R, pr 0 (wt x) k = R := ⟨_, rfl⟩
        obtain ⟨R', hR'⟩ : ∃ R', pr 0 (wt y) j = R' := ⟨_, rfl⟩
        obtain ⟨P', hP'⟩ : ∃ P', pv 0 0 (wt x) (k + 1) = P' := ⟨_, rfl⟩
        obtain ⟨Q', hQ'⟩ : ∃ Q', pv 0 0 (wt y) (j + 1) = Q' := ⟨_, rfl⟩
        rw [hP] at tx bx stx cx dx hb HH
        rw [hQ] at ty by' sty cy dy hb HH
        rw [hR] at stx cx dx HH
        rw [hR'] at sty cy dy HH
        rw [hP'] at tx stx
        rw [hQ'] at ty sty
        have HX := hid stx
        have HY := hid sty
        have CX := hid cx
        have CY := hid cy
        have DX := hid dx
        have DY := hid dy
        clear stx sty cx cy dx dy HB
        have EP := hid hP'
        have EQ := hid hQ'
        have HPQ := hid (And.intro hP hQ)
        have HRR := hid (And.intro hR hR')
        clear hP' hQ' hP hQ hR hR'
        obtain ⟨c0, c1, d0, d1, _⟩ := HH.out.all
        have lt1 := HH.out.one.lt
        have lt2 := HH.out.two.lt
        by_cases hlt : k + j < n
        · by_cases hle : P ≤ Q
          · go_wp2_with fail
            refine (less_is (q := true) (by rw [ls_le]; exact decide_eq_true hle)).mono ?_
            rintro e w4 ⟨rfl, k4⟩
            have H4 := hid (HH.out.kp k4)
            clear c0 c1 d0 d1 lt1 lt2 HH k4
            obtain ⟨c0, c1, d0, d1, _⟩ := H4.out.all
            have lt1 := H4.out.one.lt
            have lt2 := H4.out.two.lt
            go_wp2_with fail
            refine (run_is (a := P') (b := pr 0 (wt x) (k + 1)) CX.out (show P + (1048576 * tk 1 + R) / wt x = P' from HX.out.1) (show (1048576 * tk 1 + R) % wt x = _ from HX.out.2)).mono ?_
            rintro e w5 ⟨rfl, k5⟩
            have H5 := hid (H4.out.kp k5)
            clear c0 c1 d0 d1 lt1 lt2 H4 k5
            obtain ⟨c0, c1, d0, d1, _⟩ := H5.out.all
            have lt1 := H5.out.one.lt
            have lt2 := H5.out.two.lt
            have z0 := H5.out.one.frozen 0
            have z1 := H5.out.one.frozen 1
            have g0 := H5.out.put1 (by omega) HG.out (.int .i64 P') (.int .i64 (pr 0 (wt x) (k + 1)))
            obtain ⟨w6, hw6⟩ : ∃ w6, (w5.setCell { block := w1.heap.size, off := 0 } (.int .i64 P')).setCell { block := w1.heap.size, off := 1 } (.int .i64 (pr 0 (wt x) (k + 1))) = w6 := ⟨_, rfl⟩
            rw [hw6] at g0
            have H6 := hid g0
            clear g0
            have g1 : IntKind.i64.wrap (k + 1) = k + 1 := wrapI ⟨by omega, by omega⟩
            have g2 : IntKind.i64.wrap (k + j + 1) = k + j + 1 := wrapI ⟨by omega, by omega⟩
            have g3 : IntKind.i64.wrap (P' - Q) = P' - Q := wrapI ⟨by omega, by omega⟩
            have g4 : IntKind.i64.wrap (Q - P') = Q - P' := wrapI ⟨by omega, by omega⟩
            have l1 : decide (1048577 < P' - Q) = false := decide_eq_false (by omega)
            have l2 : decide (1048577 < Q - P') = false := decide_eq_false (by omega)
            go_wp2_with fail
            try rw [hw6]
            clear c0 c1 d0 d1 lt1 lt2 z0 z1 H5 hw6
            obtain ⟨c0, c1, d0, d1, _⟩ := H6.out.all
            have lt1 := H6.out.one.lt
            have lt2 := H6.out.two.lt
            go_quiet (fail)
            go_wp2
            go_roundw
            case rel => exact ⟨k + 1, j, by omega, by omega, by omega, by go_num, by go_num, by go_num, hid (by rw [EP.out, HPQ.out.2]; omega), hid (by rw [EP.out, HPQ.out.2, HRR.out.2]; exact H6.out.kp ((Kp.refl No _).drewN _))⟩
            case measure => simp [intOf]; omega
          · go_wp2_with fail
            refine (less_is (q := false) (by rw [ls_le]; exact decide_eq_false (by omega))).mono ?_
            rintro e w4 ⟨rfl, k4⟩
            have H4 := hid (HH.out.kp k4)
            clear c0 c1 d0 d1 lt1 lt2 HH k4
            obtain ⟨c0, c1, d0, d1, _⟩ := H4.out.all
            have lt1 := H4.out.one.lt
            have lt2 := H4.out.two.lt
            go_wp2_with fail
            refine (run_is (a := Q') (b := pr 0 (wt y) (j + 1)) CY.out (show Q + (1048576 * tk 1 + R') / wt y = Q' from HY.out.1) (show (1048576 * tk 1 + R') % wt y = _ from HY.out.2)).mono ?_
            rintro e w5 ⟨rfl, k5⟩
            have H5 := hid (H4.out.kp k5)
            clear c0 c1 d0 d1 lt1 lt2 H4 k5
            obtain ⟨c0, c1, d0, d1, _⟩ := H5.out.all
            have lt1 := H5.out.one.lt
            have lt2 := H5.out.two.lt
            have z0 := H5.out.two.frozen 0
            have z1 := H5.out.two.frozen 1
            have g0 := H5.out.put2 (by omega) (Nat.le_succ_of_le HG.out) (.int .i64 Q') (.int .i64 (pr 0 (wt y) (j + 1)))
            obtain ⟨w6, hw6⟩ : ∃ w6, (w5.setCell { block := w1.heap.size + 1, off := 0 } (.int .i64 Q')).setCell { block := w1.heap.size + 1, off := 1 } (.int .i64 (pr 0 (wt y) (j + 1))) = w6 := ⟨_, rfl⟩
            rw [hw6] at g0
            have H6 := hid g0
            clear g0
            have g1 : IntKind.i64.wrap (j + 1) = j + 1 := wrapI ⟨by omega, by omega⟩
            have g2 : IntKind.i64.wrap (k + j + 1) = k + j + 1 := wrapI ⟨by omega, by omega⟩
            have g3 : IntKind.i64.wrap (P - Q') = P - Q' := wrapI ⟨by omega, by omega⟩
            have g4 : IntKind.i64.wrap (Q' - P) = Q' - P := wrapI ⟨by omega, by omega⟩
            have l1 : decide (1048577 < P - Q') = false := decide_eq_false (by omega)
            have l2 : decide (1048577 < Q' - P) = false := decide_eq_false (by omega)
            go_wp2_with fail
            try rw [hw6]
            clear c0 c1 d0 d1 lt1 lt2 z0 z1 H5 hw6
            obtain ⟨c0, c1, d0, d1, _⟩ := H6.out.all
            have lt1 := H6.out.one.lt
            have lt2 := H6.out.two.lt
            go_quiet (fail)
            go_wp2
            go_roundw
            case rel => exact ⟨k, j + 1, by omega, by omega, by omega, by go_num, by go_num, by go_num, hid (by rw [EQ.out, HPQ.out.1]; omega), hid (by rw [EQ.out, HPQ.out.1, HRR.out.1]; exact H6.out.kp ((Kp.refl No _).drewN _))⟩
            case measure => simp [intOf]; omega
        · have DB := hid (And.intro (can_iff.1 CX.out) (can_iff.1 CY.out))
          have hd := decide_eq_false hlt
          have s0 : (k == k) = true := by simp
          have s1 : (j == j) = true := by simp
          go_wp2_with fail
          refine (done_is (n := k) k0 (by omega) DB.out.1.2.2.1 (by have := DB.out.1.2.2.2; omega) DX.out DB.out.1.1).mono ?_
          rintro e w4 ⟨rfl, k4⟩
          have H4 := hid (HH.out.kp k4)
          clear c0 c1 d0 d1 lt1 lt2 HH k4
          obtain ⟨c0, c1, d0, d1, _⟩ := H4.out.all
          have lt1 := H4.out.one.lt
          have lt2 := H4.out.two.lt
          go_wp2_with fail
          refine (done_is (n := j) j0 (by omega) DB.out.2.2.2.1 (by have := DB.out.2.2.2.2; omega) DY.out DB.out.2.1).mono ?_
          rintro e w5 ⟨rfl, k5⟩
          have K5 := hid (H4.out.kept.trans k5)
          clear c0 c1 d0 d1 lt1 lt2 H4 k5
          go_wp2_with fail
          go_ret
          exact ⟨rfl, K5.out⟩
    · go_enter Try.func7, Try.ntmps7
      go_wp2_with fail
      refine (awake_any _).mono ?_
      rintro e w1 ⟨rfl, k1⟩
      have K1 := hid k1
      have A1 : At2 w 23 w1.heap.size (w1.heap.size + 1) (.int .i64 (pv 0 0 (wt x) 0)) (.int .i64 (pr 0 (wt x) 0)) (.int .i64 (pv 0 0 (wt y) 0)) (.int .i64 (pr 0 (wt y) 0)) ((w1.alloc (.cells #[.int .i64 0, .int .i64 0] 23)).alloc (.cells #[.int .i64 0, .int .i64 0] 23)) := by
        rw [(pv_zero C0.out.1).1, (pv_zero C0.out.1).2, (pv_zero C0.out.2).1, (pv_zero C0.out.2).2]
        exact fair_start k1
      have HA := hid A1
      have HG := hid k1.size
      clear k1 A1 K1
      go_wp2_with fail
      go_loopw [12, 13, 14] (fun m1 m2 i wr => ∃ (k j : Int), 0 ≤ k ∧ 0 ≤ j ∧ k + j ≤ n ∧ m1 = .int .i64 k ∧ m2 = .int .i64 j ∧ i = .int .i64 (k + j) ∧ Hid (pv 0 0 (wt x) k - pv 0 0 (wt y) j ≤ 1048576 + 1 ∧ pv 0 0 (wt y) j - pv 0 0 (wt x) k ≤ 1 + 1) ∧
        Hid (At2 w 23 w1.heap.size (w1.heap.size + 1) (.int .i64 (pv 0 0 (wt x) k)) (.int .i64 (pr 0 (wt x) k)) (.int .i64 (pv 0 0 (wt y) j)) (.int .i64 (pr 0 (wt y) j)) wr)) (fun _ _ i _ => (n - intOf i).toNat)
      case atStart => exact ⟨0, 0, by omega, by omega, by omega, rfl, rfl, rfl, hid (by rw [(pv_zero C0.out.1).1, (pv_zero C0.out.2).1]; omega), HA⟩
      case round =>
        obtain ⟨k, j, k0, j0, hk, rfl, rfl, rfl, HB, HH⟩ := hrel
        clear HA
        have tx := fair_tick (W := wt x) (s := k) (by omega)
        have ty := fair_tick (W := wt y) (s := j) (by omega)
        have bx := fair_bd (W := wt x) (s := k) (by omega) k0 (by omega)
        have by' := fair_bd (W := wt y) (s := j) (by omega) j0 (by omega)
        have stx := pv_step (v := 0) (r := 0) (W := wt x) (s := k) (n := 1) (by omega)
        have sty := pv_step (v := 0) (r := 0) (W := wt y) (s := j) (n := 1) (by omega)
        have cx := pv_can C0.out.1 (by omega) k0 (by omega)
        have cy := pv_can C0.out.2 (by omega) j0 (by omega)
        have dx := fair_done (x := x) (s := k)
        have dy := fair_done (x := y) (s := j)
        have hb := HB.out
        rw [HT.out] at tx
        rw [HS.out] at ty
        obtain ⟨P, hP⟩ : ∃ P, pv 0 0 (wt x) k = P := ⟨_, rfl⟩
        obtain ⟨Q, hQ⟩ : ∃ Q, pv 0 0 (wt y) j = Q := ⟨_, rfl⟩
        obtain ⟨R, hR⟩ : ∃ R, pr 0 (wt x) k = R := ⟨_, rfl⟩
        obtain ⟨R', hR'⟩ : ∃ R', pr 0 (wt y) j = R' := ⟨_, rfl⟩
        obtain ⟨P', hP'⟩ : ∃ P', pv 0 0 (wt x) (k + 1) = P' := ⟨_, rfl⟩
        obtain ⟨Q', hQ'⟩ : ∃ Q', pv 0 0 (wt y) (j + 1) = Q' := ⟨_, rfl⟩
        rw [hP] at tx bx stx cx dx hb HH
        rw [hQ] at ty by' sty cy dy hb HH
        rw [hR] at stx cx dx HH
        rw [hR'] at sty cy dy HH
        rw [hP'] at tx stx
        rw [hQ'] at ty sty
        have HX := hid stx
        have HY := hid sty
        have CX := hid cx
        have CY := hid cy
        have DX := hid dx
        have DY := hid dy
        clear stx sty cx cy dx dy HB
        have EP := hid hP'
        have EQ := hid hQ'
        have HPQ := hid (And.intro hP hQ)
        have HRR := hid (And.intro hR hR')
        clear hP' hQ' hP hQ hR hR'
        obtain ⟨c0, c1, d0, d1, _⟩ := HH.out.all
        have lt1 := HH.out.one.lt
        have lt2 := HH.out.two.lt
        by_cases hlt : k + j < n
        · by_cases hle : P ≤ Q
          · go_wp2_with fail
            refine (less_is (q := true) (by rw [ls_le]; exact decide_eq_true hle)).mono ?_
            rintro e w4 ⟨rfl, k4⟩
            have H4 := hid (HH.out.kp k4)
            clear c0 c1 d0 d1 lt1 lt2 HH k4
            obtain ⟨c0, c1, d0, d1, _⟩ := H4.out.all
            have lt1 := H4.out.one.lt
            have lt2 := H4.out.two.lt
            go_wp2_with fail
            refine (run_is (a := P') (b := pr 0 (wt x) (k + 1)) CX.out (show P + (1048576 * tk 1 + R) / wt x = P' from HX.out.1) (show (1048576 * tk 1 + R) % wt x = _ from HX.out.2)).mono ?_
            rintro e w5 ⟨rfl, k5⟩
            have H5 := hid (H4.out.kp k5)
            clear c0 c1 d0 d1 lt1 lt2 H4 k5
            obtain ⟨c0, c1, d0, d1, _⟩ := H5.out.all
            have lt1 := H5.out.one.lt
            have lt2 := H5.out.two.lt
            have z0 := H5.out.one.frozen 0
            have z1 := H5.out.one.frozen 1
            have g0 := H5.out.put1 (by omega) HG.out (.int .i64 P') (.int .i64 (pr 0 (wt x) (k + 1)))
            obtain ⟨w6, hw6⟩ : ∃ w6, (w5.setCell { block := w1.heap.size, off := 0 } (.int .i64 P')).setCell { block := w1.heap.size, off := 1 } (.int .i64 (pr 0 (wt x) (k + 1))) = w6 := ⟨_, rfl⟩
            rw [hw6] at g0
            have H6 := hid g0
            clear g0
            have g1 : IntKind.i64.wrap (k + 1) = k + 1 := wrapI ⟨by omega, by omega⟩
            have g2 : IntKind.i64.wrap (k + j + 1) = k + j + 1 := wrapI ⟨by omega, by omega⟩
            have g3 : IntKind.i64.wrap (P' - Q) = P' - Q := wrapI ⟨by omega, by omega⟩
            have g4 : IntKind.i64.wrap (Q - P') = Q - P' := wrapI ⟨by omega, by omega⟩
            have l1 : decide (1048577 < P' - Q) = false := decide_eq_false (by omega)
            have l2 : decide (2 < Q - P') = false := decide_eq_false (by omega)
            go_wp2_with fail
            try rw [hw6]
            clear c0 c1 d0 d1 lt1 lt2 z0 z1 H5 hw6
            obtain ⟨c0, c1, d0, d1, _⟩ := H6.out.all
            have lt1 := H6.out.one.lt
            have lt2 := H6.out.two.lt
            go_quiet (fail)
            go_wp2
            go_roundw
            case rel => exact ⟨k + 1, j, by omega, by omega, by omega, by go_num, by go_num, by go_num, hid (by rw [EP.out, HPQ.out.2]; omega), hid (by rw [EP.out, HPQ.out.2, HRR.out.2]; exact H6.out.kp ((Kp.refl No _).drewN _))⟩
            case measure => simp [intOf]; omega
          · go_wp2_with fail
            refine (less_is (q := false) (by rw [ls_le]; exact decide_eq_false (by omega))).mono ?_
            rintro e w4 ⟨rfl, k4⟩
            have H4 := hid (HH.out.kp k4)
            clear c0 c1 d0 d1 lt1 lt2 HH k4
            obtain ⟨c0, c1, d0, d1, _⟩ := H4.out.all
            have lt1 := H4.out.one.lt
            have lt2 := H4.out.two.lt
            go_wp2_with fail
            refine (run_is (a := Q') (b := pr 0 (wt y) (j + 1)) CY.out (show Q + (1048576 * tk 1 + R') / wt y = Q' from HY.out.1) (show (1048576 * tk 1 + R') % wt y = _ from HY.out.2)).mono ?_
            rintro e w5 ⟨rfl, k5⟩
            have H5 := hid (H4.out.kp k5)
            clear c0 c1 d0 d1 lt1 lt2 H4 k5
            obtain ⟨c0, c1, d0, d1, _⟩ := H5.out.all
            have lt1 := H5.out.one.lt
            have lt2 := H5.out.two.lt
            have z0 := H5.out.two.frozen 0
            have z1 := H5.out.two.frozen 1
            have g0 := H5.out.put2 (by omega) (Nat.le_succ_of_le HG.out) (.int .i64 Q') (.int .i64 (pr 0 (wt y) (j + 1)))
            obtain ⟨w6, hw6⟩ : ∃ w6, (w5.setCell { block := w1.heap.size + 1, off := 0 } (.int .i64 Q')).setCell { block := w1.heap.size + 1, off := 1 } (.int .i64 (pr 0 (wt y) (j + 1))) = w6 := ⟨_, rfl⟩
            rw [hw6] at g0
            have H6 := hid g0
            clear g0
            have g1 : IntKind.i64.wrap (j + 1) = j + 1 := wrapI ⟨by omega, by omega⟩
            have g2 : IntKind.i64.wrap (k + j + 1) = k + j + 1 := wrapI ⟨by omega, by omega⟩
            have g3 : IntKind.i64.wrap (P - Q') = P - Q' := wrapI ⟨by omega, by omega⟩
            have g4 : IntKind.i64.wrap (Q' - P) = Q' - P := wrapI ⟨by omega, by omega⟩
            have l1 : decide (1048577 < P - Q') = false := decide_eq_false (by omega)
            have l2 : decide (2 < Q' - P) = false := decide_eq_false (by omega)
            go_wp2_with fail
            try rw [hw6]
            clear c0 c1 d0 d1 lt1 lt2 z0 z1 H5 hw6
            obtain ⟨c0, c1, d0, d1, _⟩ := H6.out.all
            have lt1 := H6.out.one.lt
            have lt2 := H6.out.two.lt
            go_quiet (fail)
            go_wp2
            go_roundw
            case rel => exact ⟨k, j + 1, by omega, by omega, by omega, by go_num, by go_num, by go_num, hid (by rw [EQ.out, HPQ.out.1]; omega), hid (by rw [EQ.out, HPQ.out.1, HRR.out.1]; exact H6.out.kp ((Kp.refl No _).drewN _))⟩
            case measure => simp [intOf]; omega
        · have DB := hid (And.intro (can_iff.1 CX.out) (can_iff.1 CY.out))
          have hd := decide_eq_false hlt
          have s0 : (k == k) = true := by simp
          have s1 : (j == j) = true := by simp
          go_wp2_with fail
          refine (done_is (n := k) k0 (by omega) DB.out.1.2.2.1 (by have := DB.out.1.2.2.2; omega) DX.out DB.out.1.1).mono ?_
          rintro e w4 ⟨rfl, k4⟩
          have H4 := hid (HH.out.kp k4)
          clear c0 c1 d0 d1 lt1 lt2 HH k4
          obtain ⟨c0, c1, d0, d1, _⟩ := H4.out.all
          have lt1 := H4.out.one.lt
          have lt2 := H4.out.two.lt
          go_wp2_with fail
          refine (done_is (n := j) j0 (by omega) DB.out.2.2.2.1 (by have := DB.out.2.2.2.2; omega) DY.out DB.out.2.1).mono ?_
          rintro e w5 ⟨rfl, k5⟩
          have K5 := hid (H4.out.kept.trans k5)
          clear c0 c1 d0 d1 lt1 lt2 H4 k5
          go_wp2_with fail
          go_ret
          exact ⟨rfl, K5.out⟩
    · go_enter Try.func7, Try.ntmps7
      go_wp2_with fail
      refine (awake_any _).mono ?_
      rintro e w1 ⟨rfl, k1⟩
      have K1 := hid k1
      have A1 : At2 w 23 w1.heap.size (w1.heap.size + 1) (.int .i64 (pv 0 0 (wt x) 0)) (.int .i64 (pr 0 (wt x) 0)) (.int .i64 (pv 0 0 (wt y) 0)) (.int .i64 (pr 0 (wt y) 0)) ((w1.alloc (.cells #[.int .i64 0, .int .i64 0] 23)).alloc (.cells #[.int .i64 0, .int .i64 0] 23)) := by
        rw [(pv_zero C0.out.1).1, (pv_zero C0.out.1).2, (pv_zero C0.out.2).1, (pv_zero C0.out.2).2]
        exact fair_start k1
      have HA := hid A1
      have HG := hid k1.size
      clear k1 A1 K1
      go_wp2_with fail
      go_loopw [12, 13, 14] (fun m1 m2 i wr => ∃ (k j : Int), 0 ≤ k ∧ 0 ≤ j ∧ k + j ≤ n ∧ m1 = .int .i64 k ∧ m2 = .int .i64 j ∧ i = .int .i64 (k + j) ∧ Hid (pv 0 0 (wt x) k - pv 0 0 (wt y) j ≤ 1048576 + 1 ∧ pv 0 0 (wt y) j - pv 0 0 (wt x) k ≤ S + 1) ∧
        Hid (At2 w 23 w1.heap.size (w1.heap.size + 1) (.int .i64 (pv 0 0 (wt x) k)) (.int .i64 (pr 0 (wt x) k)) (.int .i64 (pv 0 0 (wt y) j)) (.int .i64 (pr 0 (wt y) j)) wr)) (fun _ _ i _ => (n - intOf i).toNat)
      case atStart => exact ⟨0, 0, by omega, by omega, by omega, rfl, rfl, rfl, hid (by rw [(pv_zero C0.out.1).1, (pv_zero C0.out.2).1]; omega), HA⟩
      case round =>
        obtain ⟨k, j, k0, j0, hk, rfl, rfl, rfl, HB, HH⟩ := hrel
        clear HA
        have tx := fair_tick (W := wt x) (s := k) (by omega)
        have ty := fair_tick (W := wt y) (s := j) (by omega)
        have bx := fair_bd (W := wt x) (s := k) (by omega) k0 (by omega)
        have by' := fair_bd (W := wt y) (s := j) (by omega) j0 (by omega)
        have stx := pv_step (v := 0) (r := 0) (W := wt x) (s := k) (n := 1) (by omega)
        have sty := pv_step (v := 0) (r := 0) (W := wt y) (s := j) (n := 1) (by omega)
        have cx := pv_can C0.out.1 (by omega) k0 (by omega)
        have cy := pv_can C0.out.2 (by omega) j0 (by omega)
        have dx := fair_done (x := x) (s := k)
        have dy := fair_done (x := y) (s := j)
        have hb := HB.out
        rw [HT.out] at tx
        rw [HS.out] at ty
        obtain ⟨P, hP⟩ : ∃ P, pv 0 0 (wt x) k = P := ⟨_, rfl⟩
        obtain ⟨Q, hQ⟩ : ∃ Q, pv 0 0 (wt y) j = Q := ⟨_, rfl⟩
        obtain ⟨R, hR⟩ : ∃ R, pr 0 (wt x) k = R := ⟨_, rfl⟩
        obtain ⟨R', hR'⟩ : ∃ R', pr 0 (wt y) j = R' := ⟨_, rfl⟩
        obtain ⟨P', hP'⟩ : ∃ P', pv 0 0 (wt x) (k + 1) = P' := ⟨_, rfl⟩
        obtain ⟨Q', hQ'⟩ : ∃ Q', pv 0 0 (wt y) (j + 1) = Q' := ⟨_, rfl⟩
        rw [hP] at tx bx stx cx dx hb HH
        rw [hQ] at ty by' sty cy dy hb HH
        rw [hR] at stx cx dx HH
        rw [hR'] at sty cy dy HH
        rw [hP'] at tx stx
        rw [hQ'] at ty sty
        have HX := hid stx
        have HY := hid sty
        have CX := hid cx
        have CY := hid cy
        have DX := hid dx
        have DY := hid dy
        clear stx sty cx cy dx dy HB
        have EP := hid hP'
        have EQ := hid hQ'
        have HPQ := hid (And.intro hP hQ)
        have HRR := hid (And.intro hR hR')
        clear hP' hQ' hP hQ hR hR'
        obtain ⟨c0, c1, d0, d1, _⟩ := HH.out.all
        have lt1 := HH.out.one.lt
        have lt2 := HH.out.two.lt
        by_cases hlt : k + j < n
        · by_cases hle : P ≤ Q
          · go_wp2_with fail
            refine (less_is (q := true) (by rw [ls_le]; exact decide_eq_true hle)).mono ?_
            rintro e w4 ⟨rfl, k4⟩
            have H4 := hid (HH.out.kp k4)
            clear c0 c1 d0 d1 lt1 lt2 HH k4
            obtain ⟨c0, c1, d0, d1, _⟩ := H4.out.all
            have lt1 := H4.out.one.lt
            have lt2 := H4.out.two.lt
            go_wp2_with fail
            refine (run_is (a := P') (b := pr 0 (wt x) (k + 1)) CX.out (show P + (1048576 * tk 1 + R) / wt x = P' from HX.out.1) (show (1048576 * tk 1 + R) % wt x = _ from HX.out.2)).mono ?_
            rintro e w5 ⟨rfl, k5⟩
            have H5 := hid (H4.out.kp k5)
            clear c0 c1 d0 d1 lt1 lt2 H4 k5
            obtain ⟨c0, c1, d0, d1, _⟩ := H5.out.all
            have lt1 := H5.out.one.lt
            have lt2 := H5.out.two.lt
            have z0 := H5.out.one.frozen 0
            have z1 := H5.out.one.frozen 1
            have g0 := H5.out.put1 (by omega) HG.out (.int .i64 P') (.int .i64 (pr 0 (wt x) (k + 1)))
            obtain ⟨w6, hw6⟩ : ∃ w6, (w5.setCell { block := w1.heap.size, off := 0 } (.int .i64 P')).setCell { block := w1.heap.size, off := 1 } (.int .i64 (pr 0 (wt x) (k + 1))) = w6 := ⟨_, rfl⟩
            rw [hw6] at g0
            have H6 := hid g0
            clear g0
            have g1 : IntKind.i64.wrap (k + 1) = k + 1 := wrapI ⟨by omega, by omega⟩
            have g2 : IntKind.i64.wrap (k + j + 1) = k + j + 1 := wrapI ⟨by omega, by omega⟩
            have g3 : IntKind.i64.wrap (P' - Q) = P' - Q := wrapI ⟨by omega, by omega⟩
            have g4 : IntKind.i64.wrap (Q - P') = Q - P' := wrapI ⟨by omega, by omega⟩
            have l1 : decide (1048577 < P' - Q) = false := decide_eq_false (by omega)
            have l2 : decide (S + 1 < Q - P') = false := decide_eq_false (by omega)
            go_wp2_with fail
            try rw [hw6]
            clear c0 c1 d0 d1 lt1 lt2 z0 z1 H5 hw6
            obtain ⟨c0, c1, d0, d1, _⟩ := H6.out.all
            have lt1 := H6.out.one.lt
            have lt2 := H6.out.two.lt
            go_quiet (fail)
            go_wp2
            go_roundw
            case rel => exact ⟨k + 1, j, by omega, by omega, by omega, by go_num, by go_num, by go_num, hid (by rw [EP.out, HPQ.out.2]; omega), hid (by rw [EP.out, HPQ.out.2, HRR.out.2]; exact H6.out.kp ((Kp.refl No _).drewN _))⟩
            case measure => simp [intOf]; omega
          · go_wp2_with fail
            refine (less_is (q := false) (by rw [ls_le]; exact decide_eq_false (by omega))).mono ?_
            rintro e w4 ⟨rfl, k4⟩
            have H4 := hid (HH.out.kp k4)
            clear c0 c1 d0 d1 lt1 lt2 HH k4
            obtain ⟨c0, c1, d0, d1, _⟩ := H4.out.all
            have lt1 := H4.out.one.lt
            have lt2 := H4.out.two.lt
            go_wp2_with fail
            refine (run_is (a := Q') (b := pr 0 (wt y) (j + 1)) CY.out (show Q + (1048576 * tk 1 + R') / wt y = Q' from HY.out.1) (show (1048576 * tk 1 + R') % wt y = _ from HY.out.2)).mono ?_
            rintro e w5 ⟨rfl, k5⟩
            have H5 := hid (H4.out.kp k5)
            clear c0 c1 d0 d1 lt1 lt2 H4 k5
            obtain ⟨c0, c1, d0, d1, _⟩ := H5.out.all
            have lt1 := H5.out.one.lt
            have lt2 := H5.out.two.lt
            have z0 := H5.out.two.frozen 0
            have z1 := H5.out.two.frozen 1
            have g0 := H5.out.put2 (by omega) (Nat.le_succ_of_le HG.out) (.int .i64 Q') (.int .i64 (pr 0 (wt y) (j + 1)))
            obtain ⟨w6, hw6⟩ : ∃ w6, (w5.setCell { block := w1.heap.size + 1, off := 0 } (.int .i64 Q')).setCell { block := w1.heap.size + 1, off := 1 } (.int .i64 (pr 0 (wt y) (j + 1))) = w6 := ⟨_, rfl⟩
            rw [hw6] at g0
            have H6 := hid g0
            clear g0
            have g1 : IntKind.i64.wrap (j + 1) = j + 1 := wrapI ⟨by omega, by omega⟩
            have g2 : IntKind.i64.wrap (k + j + 1) = k + j + 1 := wrapI ⟨by omega, by omega⟩
            have g3 : IntKind.i64.wrap (P - Q') = P - Q' := wrapI ⟨by omega, by omega⟩
            have g4 : IntKind.i64.wrap (Q' - P) = Q' - P := wrapI ⟨by omega, by omega⟩
            have l1 : decide (1048577 < P - Q') = false := decide_eq_false (by omega)
            have l2 : decide (S + 1 < Q' - P) = false := decide_eq_false (by omega)
            go_wp2_with fail
            try rw [hw6]
            clear c0 c1 d0 d1 lt1 lt2 z0 z1 H5 hw6
            obtain ⟨c0, c1, d0, d1, _⟩ := H6.out.all
            have lt1 := H6.out.one.lt
            have lt2 := H6.out.two.lt
            go_quiet (fail)
            go_wp2
            go_roundw
            case rel => exact ⟨k, j + 1, by omega, by omega, by omega, by go_num, by go_num, by go_num, hid (by rw [EQ.out, HPQ.out.1]; omega), hid (by rw [EQ.out, HPQ.out.1, HRR.out.1]; exact H6.out.kp ((Kp.refl No _).drewN _))⟩
            case measure => simp [intOf]; omega
        · have DB := hid (And.intro (can_iff.1 CX.out) (can_iff.1 CY.out))
          have hd := decide_eq_false hlt
          have s0 : (k == k) = true := by simp
          have s1 : (j == j) = true := by simp
          go_wp2_with fail
          refine (done_is (n := k) k0 (by omega) DB.out.1.2.2.1 (by have := DB.out.1.2.2.2; omega) DX.out DB.out.1.1).mono ?_
          rintro e w4 ⟨rfl, k4⟩
          have H4 := hid (HH.out.kp k4)
          clear c0 c1 d0 d1 lt1 lt2 HH k4
          obtain ⟨c0, c1, d0, d1, _⟩ := H4.out.all
          have lt1 := H4.out.one.lt
          have lt2 := H4.out.two.lt
          go_wp2_with fail
          refine (done_is (n := j) j0 (by omega) DB.out.2.2.2.1 (by have := DB.out.2.2.2.2; omega) DY.out DB.out.2.1).mono ?_
          rintro e w5 ⟨rfl, k5⟩
          have K5 := hid (H4.out.kept.trans k5)
          clear c0 c1 d0 d1 lt1 lt2 H4 k5
          go_wp2_with fail
          go_ret
          exact ⟨rfl, K5.out⟩
  · rcases hy with ⟨hy, rfl⟩ | ⟨hy, rfl⟩ | ⟨hy, hy', hy2⟩
    · go_enter Try.func7, Try.ntmps7
      go_wp2_with fail
      refine (awake_any _).mono ?_
      rintro e w1 ⟨rfl, k1⟩
      have K1 := hid k1
      have A1 : At2 w 23 w1.heap.size (w1.heap.size + 1) (.int .i64 (pv 0 0 (wt x) 0)) (.int .i64 (pr 0 (wt x) 0)) (.int .i64 (pv 0 0 (wt y) 0)) (.int .i64 (pr 0 (wt y) 0)) ((w1.alloc (.cells #[.int .i64 0, .int .i64 0] 23)).alloc (.cells #[.int .i64 0, .int .i64 0] 23)) := by
        rw [(pv_zero C0.out.1).1, (pv_zero C0.out.1).2, (pv_zero C0.out.2).1, (pv_zero C0.out.2).2]
        exact fair_start k1
      have HA := hid A1
      have HG := hid k1.size
      clear k1 A1 K1
      go_wp2_with fail
      go_loopw [12, 13, 14] (fun m1 m2 i wr => ∃ (k j : Int), 0 ≤ k ∧ 0 ≤ j ∧ k + j ≤ n ∧ m1 = .int .i64 k ∧ m2 = .int .i64 j ∧ i = .int .i64 (k + j) ∧ Hid (pv 0 0 (wt x) k - pv 0 0 (wt y) j ≤ 1 + 1 ∧ pv 0 0 (wt y) j - pv 0 0 (wt x) k ≤ 1048576 + 1) ∧
        Hid (At2 w 23 w1.heap.size (w1.heap.size + 1) (.int .i64 (pv 0 0 (wt x) k)) (.int .i64 (pr 0 (wt x) k)) (.int .i64 (pv 0 0 (wt y) j)) (.int .i64 (pr 0 (wt y) j)) wr)) (fun _ _ i _ => (n - intOf i).toNat)
      case atStart => exact ⟨0, 0, by omega, by omega, by omega, rfl, rfl, rfl, hid (by rw [(pv_zero C0.out.1).1, (pv_zero C0.out.2).1]; omega), HA⟩
      case round =>
        obtain ⟨k, j, k0, j0, hk, rfl, rfl, rfl, HB, HH⟩ := hrel
        clear HA
        have tx := fair_tick (W := wt x) (s := k) (by omega)
        have ty := fair_tick (W := wt y) (s := j) (by omega)
        have bx := fair_bd (W := wt x) (s := k) (by omega) k0 (by omega)
        have by' := fair_bd (W := wt y) (s := j) (by omega) j0 (by omega)
        have stx := pv_step (v := 0) (r := 0) (W := wt x) (s := k) (n := 1) (by omega)
        have sty := pv_step (v := 0) (r := 0) (W := wt y) (s := j) (n := 1) (by omega)
        have cx := pv_can C0.out.1 (by omega) k0 (by omega)
        have cy := pv_can C0.out.2 (by omega) j0 (by omega)
        have dx := fair_done (x := x) (s := k)
        have dy := fair_done (x := y) (s := j)
        have hb := HB.out
        rw [HT.out] at tx
        rw [HS.out] at ty
        obtain ⟨P, hP⟩ : ∃ P, pv 0 0 (wt x) k = P := ⟨_, rfl⟩
        obtain ⟨Q, hQ⟩ : ∃ Q, pv 0 0 (wt y) j = Q := ⟨_, rfl⟩
        obtain ⟨R, hR⟩ : ∃ R, pr 0 (wt x) k = R := ⟨_, rfl⟩
        obtain ⟨R', hR'⟩ : ∃ R', pr 0 (wt y) j = R' := ⟨_, rfl⟩
        obtain ⟨P', hP'⟩ : ∃ P', pv 0 0 (wt x) (k + 1) = P' := ⟨_, rfl⟩
        obtain ⟨Q', hQ'⟩ : ∃ Q', pv 0 0 (wt y) (j + 1) = Q' := ⟨_, rfl⟩
        rw [hP] at tx bx stx cx dx hb HH
        rw [hQ] at ty by' sty cy dy hb HH
        rw [hR] at stx cx dx HH
        rw [hR'] at sty cy dy HH
        rw [hP'] at tx stx
        rw [hQ'] at ty sty
        have HX := hid stx
        have HY := hid sty
        have CX := hid cx
        have CY := hid cy
        have DX := hid dx
        have DY := hid dy
        clear stx sty cx cy dx dy HB
        have EP := hid hP'
        have EQ := hid hQ'
        have HPQ := hid (And.intro hP hQ)
        have HRR := hid (And.intro hR hR')
        clear hP' hQ' hP hQ hR hR'
        obtain ⟨c0, c1, d0, d1, _⟩ := HH.out.all
        have lt1 := HH.out.one.lt
        have lt2 := HH.out.two.lt
        by_cases hlt : k + j < n
        · by_cases hle : P ≤ Q
          · go_wp2_with fail
            refine (less_is (q := true) (by rw [ls_le]; exact decide_eq_true hle)).mono ?_
            rintro e w4 ⟨rfl, k4⟩
            have H4 := hid (HH.out.kp k4)
            clear c0 c1 d0 d1 lt1 lt2 HH k4
            obtain ⟨c0, c1, d0, d1, _⟩ := H4.out.all
            have lt1 := H4.out.one.lt
            have lt2 := H4.out.two.lt
            go_wp2_with fail
            refine (run_is (a := P') (b := pr 0 (wt x) (k + 1)) CX.out (show P + (1048576 * tk 1 + R) / wt x = P' from HX.out.1) (show (1048576 * tk 1 + R) % wt x = _ from HX.out.2)).mono ?_
            rintro e w5 ⟨rfl, k5⟩
            have H5 := hid (H4.out.kp k5)
            clear c0 c1 d0 d1 lt1 lt2 H4 k5
            obtain ⟨c0, c1, d0, d1, _⟩ := H5.out.all
            have lt1 := H5.out.one.lt
            have lt2 := H5.out.two.lt
            have z0 := H5.out.one.frozen 0
            have z1 := H5.out.one.frozen 1
            have g0 := H5.out.put1 (by omega) HG.out (.int .i64 P') (.int .i64 (pr 0 (wt x) (k + 1)))
            obtain ⟨w6, hw6⟩ : ∃ w6, (w5.setCell { block := w1.heap.size, off := 0 } (.int .i64 P')).setCell { block := w1.heap.size, off := 1 } (.int .i64 (pr 0 (wt x) (k + 1))) = w6 := ⟨_, rfl⟩
            rw [hw6] at g0
            have H6 := hid g0
            clear g0
            have g1 : IntKind.i64.wrap (k + 1) = k + 1 := wrapI ⟨by omega, by omega⟩
            have g2 : IntKind.i64.wrap (k + j + 1) = k + j + 1 := wrapI ⟨by omega, by omega⟩
            have g3 : IntKind.i64.wrap (P' - Q) = P' - Q := wrapI ⟨by omega, by omega⟩
            have g4 : IntKind.i64.wrap (Q - P') = Q - P' := wrapI ⟨by omega, by omega⟩
            have l1 : decide (2 < P' - Q) = false := decide_eq_false (by omega)
            have l2 : decide (1048577 < Q - P') = false := decide_eq_false (by omega)
            go_wp2_with fail
            try rw [hw6]
            clear c0 c1 d0 d1 lt1 lt2 z0 z1 H5 hw6
            obtain ⟨c0, c1, d0, d1, _⟩ := H6.out.all
            have lt1 := H6.out.one.lt
            have lt2 := H6.out.two.lt
            go_quiet (fail)
            go_wp2
            go_roundw
            case rel => exact ⟨k + 1, j, by omega, by omega, by omega, by go_num, by go_num, by go_num, hid (by rw [EP.out, HPQ.out.2]; omega), hid (by rw [EP.out, HPQ.out.2, HRR.out.2]; exact H6.out.kp ((Kp.refl No _).drewN _))⟩
            case measure => simp [intOf]; omega
          · go_wp2_with fail
            refine (less_is (q := false) (by rw [ls_le]; exact decide_eq_false (by omega))).mono ?_
            rintro e w4 ⟨rfl, k4⟩
            have H4 := hid (HH.out.kp k4)
            clear c0 c1 d0 d1 lt1 lt2 HH k4
            obtain ⟨c0, c1, d0, d1, _⟩ := H4.out.all
            have lt1 := H4.out.one.lt
            have lt2 := H4.out.two.lt
            go_wp2_with fail
            refine (run_is (a := Q') (b := pr 0 (wt y) (j + 1)) CY.out (show Q + (1048576 * tk 1 + R') / wt y = Q' from HY.out.1) (show (1048576 * tk 1 + R') % wt y = _ from HY.out.2)).mono ?_
            rintro e w5 ⟨rfl, k5⟩
            have H5 := hid (H4.out.kp k5)
            clear c0 c1 d0 d1 lt1 lt2 H4 k5
            obtain ⟨c0, c1, d0, d1, _⟩ := H5.out.all
            have lt1 := H5.out.one.lt
            have lt2 := H5.out.two.lt
            have z0 := H5.out.two.frozen 0
            have z1 := H5.out.two.frozen 1
            have g0 := H5.out.put2 (by omega) (Nat.le_succ_of_le HG.out) (.int .i64 Q') (.int .i64 (pr 0 (wt y) (j + 1)))
            obtain ⟨w6, hw6⟩ : ∃ w6, (w5.setCell { block := w1.heap.size + 1, off := 0 } (.int .i64 Q')).setCell { block := w1.heap.size + 1, off := 1 } (.int .i64 (pr 0 (wt y) (j + 1))) = w6 := ⟨_, rfl⟩
            rw [hw6] at g0
            have H6 := hid g0
            clear g0
            have g1 : IntKind.i64.wrap (j + 1) = j + 1 := wrapI ⟨by omega, by omega⟩
            have g2 : IntKind.i64.wrap (k + j + 1) = k + j + 1 := wrapI ⟨by omega, by omega⟩
            have g3 : IntKind.i64.wrap (P - Q') = P - Q' := wrapI ⟨by omega, by omega⟩
            have g4 : IntKind.i64.wrap (Q' - P) = Q' - P := wrapI ⟨by omega, by omega⟩
            have l1 : decide (2 < P - Q') = false := decide_eq_false (by omega)
            have l2 : decide (1048577 < Q' - P) = false := decide_eq_false (by omega)
            go_wp2_with fail
            try rw [hw6]
            clear c0 c1 d0 d1 lt1 lt2 z0 z1 H5 hw6
            obtain ⟨c0, c1, d0, d1, _⟩ := H6.out.all
            have lt1 := H6.out.one.lt
            have lt2 := H6.out.two.lt
            go_quiet (fail)
            go_wp2
            go_roundw
            case rel => exact ⟨k, j + 1, by omega, by omega, by omega, by go_num, by go_num, by go_num, hid (by rw [EQ.out, HPQ.out.1]; omega), hid (by rw [EQ.out, HPQ.out.1, HRR.out.1]; exact H6.out.kp ((Kp.refl No _).drewN _))⟩
            case measure => simp [intOf]; omega
        · have DB := hid (And.intro (can_iff.1 CX.out) (can_iff.1 CY.out))
          have hd := decide_eq_false hlt
          have s0 : (k == k) = true := by simp
          have s1 : (j == j) = true := by simp
          go_wp2_with fail
          refine (done_is (n := k) k0 (by omega) DB.out.1.2.2.1 (by have := DB.out.1.2.2.2; omega) DX.out DB.out.1.1).mono ?_
          rintro e w4 ⟨rfl, k4⟩
          have H4 := hid (HH.out.kp k4)
          clear c0 c1 d0 d1 lt1 lt2 HH k4
          obtain ⟨c0, c1, d0, d1, _⟩ := H4.out.all
          have lt1 := H4.out.one.lt
          have lt2 := H4.out.two.lt
          go_wp2_with fail
          refine (done_is (n := j) j0 (by omega) DB.out.2.2.2.1 (by have := DB.out.2.2.2.2; omega) DY.out DB.out.2.1).mono ?_
          rintro e w5 ⟨rfl, k5⟩
          have K5 := hid (H4.out.kept.trans k5)
          clear c0 c1 d0 d1 lt1 lt2 H4 k5
          go_wp2_with fail
          go_ret
          exact ⟨rfl, K5.out⟩
    · go_enter Try.func7, Try.ntmps7
      go_wp2_with fail
      refine (awake_any _).mono ?_
      rintro e w1 ⟨rfl, k1⟩
      have K1 := hid k1
      have A1 : At2 w 23 w1.heap.size (w1.heap.size + 1) (.int .i64 (pv 0 0 (wt x) 0)) (.int .i64 (pr 0 (wt x) 0)) (.int .i64 (pv 0 0 (wt y) 0)) (.int .i64 (pr 0 (wt y) 0)) ((w1.alloc (.cells #[.int .i64 0, .int .i64 0] 23)).alloc (.cells #[.int .i64 0, .int .i64 0] 23)) := by
        rw [(pv_zero C0.out.1).1, (pv_zero C0.out.1).2, (pv_zero C0.out.2).1, (pv_zero C0.out.2).2]
        exact fair_start k1
      have HA := hid A1
      have HG := hid k1.size
      clear k1 A1 K1
      go_wp2_with fail
      go_loopw [12, 13, 14] (fun m1 m2 i wr => ∃ (k j : Int), 0 ≤ k ∧ 0 ≤ j ∧ k + j ≤ n ∧ m1 = .int .i64 k ∧ m2 = .int .i64 j ∧ i = .int .i64 (k + j) ∧ Hid (pv 0 0 (wt x) k - pv 0 0 (wt y) j ≤ 1 + 1 ∧ pv 0 0 (wt y) j - pv 0 0 (wt x) k ≤ 1 + 1) ∧
        Hid (At2 w 23 w1.heap.size (w1.heap.size + 1) (.int .i64 (pv 0 0 (wt x) k)) (.int .i64 (pr 0 (wt x) k)) (.int .i64 (pv 0 0 (wt y) j)) (.int .i64 (pr 0 (wt y) j)) wr)) (fun _ _ i _ => (n - intOf i).toNat)
      case atStart => exact ⟨0, 0, by omega, by omega, by omega, rfl, rfl, rfl, hid (by rw [(pv_zero C0.out.1).1, (pv_zero C0.out.2).1]; omega), HA⟩
      case round =>
        obtain ⟨k, j, k0, j0, hk, rfl, rfl, rfl, HB, HH⟩ := hrel
        clear HA
        have tx := fair_tick (W := wt x) (s := k) (by omega)
        have ty := fair_tick (W := wt y) (s := j) (by omega)
        have bx := fair_bd (W := wt x) (s := k) (by omega) k0 (by omega)
        have by' := fair_bd (W := wt y) (s := j) (by omega) j0 (by omega)
        have stx := pv_step (v := 0) (r := 0) (W := wt x) (s := k) (n := 1) (by omega)
        have sty := pv_step (v := 0) (r := 0) (W := wt y) (s := j) (n := 1) (by omega)
        have cx := pv_can C0.out.1 (by omega) k0 (by omega)
        have cy := pv_can C0.out.2 (by omega) j0 (by omega)
        have dx := fair_done (x := x) (s := k)
        have dy := fair_done (x := y) (s := j)
        have hb := HB.out
        rw [HT.out] at tx
        rw [HS.out] at ty
        obtain ⟨P, hP⟩ : ∃ P, pv 0 0 (wt x) k = P := ⟨_, rfl⟩
        obtain ⟨Q, hQ⟩ : ∃ Q, pv 0 0 (wt y) j = Q := ⟨_, rfl⟩
        obtain ⟨R, hR⟩ : ∃ R, pr 0 (wt x) k = R := ⟨_, rfl⟩
        obtain ⟨R', hR'⟩ : ∃ R', pr 0 (wt y) j = R' := ⟨_, rfl⟩
        obtain ⟨P', hP'⟩ : ∃ P', pv 0 0 (wt x) (k + 1) = P' := ⟨_, rfl⟩
        obtain ⟨Q', hQ'⟩ : ∃ Q', pv 0 0 (wt y) (j + 1) = Q' := ⟨_, rfl⟩
        rw [hP] at tx bx stx cx dx hb HH
        rw [hQ] at ty by' sty cy dy hb HH
        rw [hR] at stx cx dx HH
        rw [hR'] at sty cy dy HH
        rw [hP'] at tx stx
        rw [hQ'] at ty sty
        have HX := hid stx
        have HY := hid sty
        have CX := hid cx
        have CY := hid cy
        have DX := hid dx
        have DY := hid dy
        clear stx sty cx cy dx dy HB
        have EP := hid hP'
        have EQ := hid hQ'
        have HPQ := hid (And.intro hP hQ)
        have HRR := hid (And.intro hR hR')
        clear hP' hQ' hP hQ hR hR'
        obtain ⟨c0, c1, d0, d1, _⟩ := HH.out.all
        have lt1 := HH.out.one.lt
        have lt2 := HH.out.two.lt
        by_cases hlt : k + j < n
        · by_cases hle : P ≤ Q
          · go_wp2_with fail
            refine (less_is (q := true) (by rw [ls_le]; exact decide_eq_true hle)).mono ?_
            rintro e w4 ⟨rfl, k4⟩
            have H4 := hid (HH.out.kp k4)
            clear c0 c1 d0 d1 lt1 lt2 HH k4
            obtain ⟨c0, c1, d0, d1, _⟩ := H4.out.all
            have lt1 := H4.out.one.lt
            have lt2 := H4.out.two.lt
            go_wp2_with fail
            refine (run_is (a := P') (b := pr 0 (wt x) (k + 1)) CX.out (show P + (1048576 * tk 1 + R) / wt x = P' from HX.out.1) (show (1048576 * tk 1 + R) % wt x = _ from HX.out.2)).mono ?_
            rintro e w5 ⟨rfl, k5⟩
            have H5 := hid (H4.out.kp k5)
            clear c0 c1 d0 d1 lt1 lt2 H4 k5
            obtain ⟨c0, c1, d0, d1, _⟩ := H5.out.all
            have lt1 := H5.out.one.lt
            have lt2 := H5.out.two.lt
            have z0 := H5.out.one.frozen 0
            have z1 := H5.out.one.frozen 1
            have g0 := H5.out.put1 (by omega) HG.out (.int .i64 P') (.int .i64 (pr 0 (wt x) (k + 1)))
            obtain ⟨w6, hw6⟩ : ∃ w6, (w5.setCell { block := w1.heap.size, off := 0 } (.int .i64 P')).setCell { block := w1.heap.size, off := 1 } (.int .i64 (pr 0 (wt x) (k + 1))) = w6 := ⟨_, rfl⟩
            rw [hw6] at g0
            have H6 := hid g0
            clear g0
            have g1 : IntKind.i64.wrap (k + 1) = k + 1 := wrapI ⟨by omega, by omega⟩
            have g2 : IntKind.i64.wrap (k + j + 1) = k + j + 1 := wrapI ⟨by omega, by omega⟩
            have g3 : IntKind.i64.wrap (P' - Q) = P' - Q := wrapI ⟨by omega, by omega⟩
            have g4 : IntKind.i64.wrap (Q - P') = Q - P' := wrapI ⟨by omega, by omega⟩
            have l1 : decide (2 < P' - Q) = false := decide_eq_false (by omega)
            have l2 : decide (2 < Q - P') = false := decide_eq_false (by omega)
            go_wp2_with fail
            try rw [hw6]
            clear c0 c1 d0 d1 lt1 lt2 z0 z1 H5 hw6
            obtain ⟨c0, c1, d0, d1, _⟩ := H6.out.all
            have lt1 := H6.out.one.lt
            have lt2 := H6.out.two.lt
            go_quiet (fail)
            go_wp2
            go_roundw
            case rel => exact ⟨k + 1, j, by omega, by omega, by omega, by go_num, by go_num, by go_num, hid (by rw [EP.out, HPQ.out.2]; omega), hid (by rw [EP.out, HPQ.out.2, HRR.out.2]; exact H6.out.kp ((Kp.refl No _).drewN _))⟩
            case measure => simp [intOf]; omega
          · go_wp2_with fail
            refine (less_is (q := false) (by rw [ls_le]; exact decide_eq_false (by omega))).mono ?_
            rintro e w4 ⟨rfl, k4⟩
            have H4 := hid (HH.out.kp k4)
            clear c0 c1 d0 d1 lt1 lt2 HH k4
            obtain ⟨c0, c1, d0, d1, _⟩ := H4.out.all
            have lt1 := H4.out.one.lt
            have lt2 := H4.out.two.lt
            go_wp2_with fail
            refine (run_is (a := Q') (b := pr 0 (wt y) (j + 1)) CY.out (show Q + (1048576 * tk 1 + R') / wt y = Q' from HY.out.1) (show (1048576 * tk 1 + R') % wt y = _ from HY.out.2)).mono ?_
            rintro e w5 ⟨rfl, k5⟩
            have H5 := hid (H4.out.kp k5)
            clear c0 c1 d0 d1 lt1 lt2 H4 k5
            obtain ⟨c0, c1, d0, d1, _⟩ := H5.out.all
            have lt1 := H5.out.one.lt
            have lt2 := H5.out.two.lt
            have z0 := H5.out.two.frozen 0
            have z1 := H5.out.two.frozen 1
            have g0 := H5.out.put2 (by omega) (Nat.le_succ_of_le HG.out) (.int .i64 Q') (.int .i64 (pr 0 (wt y) (j + 1)))
            obtain ⟨w6, hw6⟩ : ∃ w6, (w5.setCell { block := w1.heap.size + 1, off := 0 } (.int .i64 Q')).setCell { block := w1.heap.size + 1, off := 1 } (.int .i64 (pr 0 (wt y) (j + 1))) = w6 := ⟨_, rfl⟩
            rw [hw6] at g0
            have H6 := hid g0
            clear g0
            have g1 : IntKind.i64.wrap (j + 1) = j + 1 := wrapI ⟨by omega, by omega⟩
            have g2 : IntKind.i64.wrap (k + j + 1) = k + j + 1 := wrapI ⟨by omega, by omega⟩
            have g3 : IntKind.i64.wrap (P - Q') = P - Q' := wrapI ⟨by omega, by omega⟩
            have g4 : IntKind.i64.wrap (Q' - P) = Q' - P := wrapI ⟨by omega, by omega⟩
            have l1 : decide (2 < P - Q') = false := decide_eq_false (by omega)
            have l2 : decide (2 < Q' - P) = false := decide_eq_false (by omega)
            go_wp2_with fail
            try rw [hw6]
            clear c0 c1 d0 d1 lt1 lt2 z0 z1 H5 hw6
            obtain ⟨c0, c1, d0, d1, _⟩ := H6.out.all
            have lt1 := H6.out.one.lt
            have lt2 := H6.out.two.lt
            go_quiet (fail)
            go_wp2
            go_roundw
            case rel => exact ⟨k, j + 1, by omega, by omega, by omega, by go_num, by go_num, by go_num, hid (by rw [EQ.out, HPQ.out.1]; omega), hid (by rw [EQ.out, HPQ.out.1, HRR.out.1]; exact H6.out.kp ((Kp.refl No _).drewN _))⟩
            case measure => simp [intOf]; omega
        · have DB := hid (And.intro (can_iff.1 CX.out) (can_iff.1 CY.out))
          have hd := decide_eq_false hlt
          have s0 : (k == k) = true := by simp
          have s1 : (j == j) = true := by simp
          go_wp2_with fail
          refine (done_is (n := k) k0 (by omega) DB.out.1.2.2.1 (by have := DB.out.1.2.2.2; omega) DX.out DB.out.1.1).mono ?_
          rintro e w4 ⟨rfl, k4⟩
          have H4 := hid (HH.out.kp k4)
          clear c0 c1 d0 d1 lt1 lt2 HH k4
          obtain ⟨c0, c1, d0, d1, _⟩ := H4.out.all
          have lt1 := H4.out.one.lt
          have lt2 := H4.out.two.lt
          go_wp2_with fail
          refine (done_is (n := j) j0 (by omega) DB.out.2.2.2.1 (by have := DB.out.2.2.2.2; omega) DY.out DB.out.2.1).mono ?_
          rintro e w5 ⟨rfl, k5⟩
          have K5 := hid (H4.out.kept.trans k5)
          clear c0 c1 d0 d1 lt1 lt2 H4 k5
          go_wp2_with fail
          go_ret
          exact ⟨rfl, K5.out⟩
    · go_enter Try.func7, Try.ntmps7
      go_wp2_with fail
      refine (awake_any _).mono ?_
      rintro e w1 ⟨rfl, k1⟩
      have K1 := hid k1
      have A1 : At2 w 23 w1.heap.size (w1.heap.size + 1) (.int .i64 (pv 0 0 (wt x) 0)) (.int .i64 (pr 0 (wt x) 0)) (.int .i64 (pv 0 0 (wt y) 0)) (.int .i64 (pr 0 (wt y) 0)) ((w1.alloc (.cells #[.int .i64 0, .int .i64 0] 23)).alloc (.cells #[.int .i64 0, .int .i64 0] 23)) := by
        rw [(pv_zero C0.out.1).1, (pv_zero C0.out.1).2, (pv_zero C0.out.2).1, (pv_zero C0.out.2).2]
        exact fair_start k1
      have HA := hid A1
      have HG := hid k1.size
      clear k1 A1 K1
      go_wp2_with fail
      go_loopw [12, 13, 14] (fun m1 m2 i wr => ∃ (k j : Int), 0 ≤ k ∧ 0 ≤ j ∧ k + j ≤ n ∧ m1 = .int .i64 k ∧ m2 = .int .i64 j ∧ i = .int .i64 (k + j) ∧ Hid (pv 0 0 (wt x) k - pv 0 0 (wt y) j ≤ 1 + 1 ∧ pv 0 0 (wt y) j - pv 0 0 (wt x) k ≤ S + 1) ∧
        Hid (At2 w 23 w1.heap.size (w1.heap.size + 1) (.int .i64 (pv 0 0 (wt x) k)) (.int .i64 (pr 0 (wt x) k)) (.int .i64 (pv 0 0 (wt y) j)) (.int .i64 (pr 0 (wt y) j)) wr)) (fun _ _ i _ => (n - intOf i).toNat)
      case atStart => exact ⟨0, 0, by omega, by omega, by omega, rfl, rfl, rfl, hid (by rw [(pv_zero C0.out.1).1, (pv_zero C0.out.2).1]; omega), HA⟩
      case round =>
        obtain ⟨k, j, k0, j0, hk, rfl, rfl, rfl, HB, HH⟩ := hrel
        clear HA
        have tx := fair_tick (W := wt x) (s := k) (by omega)
        have ty := fair_tick (W := wt y) (s := j) (by omega)
        have bx := fair_bd (W := wt x) (s := k) (by omega) k0 (by omega)
        have by' := fair_bd (W := wt y) (s := j) (by omega) j0 (by omega)
        have stx := pv_step (v := 0) (r := 0) (W := wt x) (s := k) (n := 1) (by omega)
        have sty := pv_step (v := 0) (r := 0) (W := wt y) (s := j) (n := 1) (by omega)
        have cx := pv_can C0.out.1 (by omega) k0 (by omega)
        have cy := pv_can C0.out.2 (by omega) j0 (by omega)
        have dx := fair_done (x := x) (s := k)
        have dy := fair_done (x := y) (s := j)
        have hb := HB.out
        rw [HT.out] at tx
        rw [HS.out] at ty
        obtain ⟨P, hP⟩ : ∃ P, pv 0 0 (wt x) k = P := ⟨_, rfl⟩
        obtain ⟨Q, hQ⟩ : ∃ Q, pv 0 0 (wt y) j = Q := ⟨_, rfl⟩
        obtain ⟨R, hR⟩ : ∃ R, pr 0 (wt x) k = R := ⟨_, rfl⟩
        obtain ⟨R', hR'⟩ : ∃ R', pr 0 (wt y) j = R' := ⟨_, rfl⟩
        obtain ⟨P', hP'⟩ : ∃ P', pv 0 0 (wt x) (k + 1) = P' := ⟨_, rfl⟩
        obtain ⟨Q', hQ'⟩ : ∃ Q', pv 0 0 (wt y) (j + 1) = Q' := ⟨_, rfl⟩
        rw [hP] at tx bx stx cx dx hb HH
        rw [hQ] at ty by' sty cy dy hb HH
        rw [hR] at stx cx dx HH
        rw [hR'] at sty cy dy HH
        rw [hP'] at tx stx
        rw [hQ'] at ty sty
        have HX := hid stx
        have HY := hid sty
        have CX := hid cx
        have CY := hid cy
        have DX := hid dx
        have DY := hid dy
        clear stx sty cx cy dx dy HB
        have EP := hid hP'
        have EQ := hid hQ'
        have HPQ := hid (And.intro hP hQ)
        have HRR := hid (And.intro hR hR')
        clear hP' hQ' hP hQ hR hR'
        obtain ⟨c0, c1, d0, d1, _⟩ := HH.out.all
        have lt1 := HH.out.one.lt
        have lt2 := HH.out.two.lt
        by_cases hlt : k + j < n
        · by_cases hle : P ≤ Q
          · go_wp2_with fail
            refine (less_is (q := true) (by rw [ls_le]; exact decide_eq_true hle)).mono ?_
            rintro e w4 ⟨rfl, k4⟩
            have H4 := hid (HH.out.kp k4)
            clear c0 c1 d0 d1 lt1 lt2 HH k4
            obtain ⟨c0, c1, d0, d1, _⟩ := H4.out.all
            have lt1 := H4.out.one.lt
            have lt2 := H4.out.two.lt
            go_wp2_with fail
            refine (run_is (a := P') (b := pr 0 (wt x) (k + 1)) CX.out (show P + (1048576 * tk 1 + R) / wt x = P' from HX.out.1) (show (1048576 * tk 1 + R) % wt x = _ from HX.out.2)).mono ?_
            rintro e w5 ⟨rfl, k5⟩
            have H5 := hid (H4.out.kp k5)
            clear c0 c1 d0 d1 lt1 lt2 H4 k5
            obtain ⟨c0, c1, d0, d1, _⟩ := H5.out.all
            have lt1 := H5.out.one.lt
            have lt2 := H5.out.two.lt
            have z0 := H5.out.one.frozen 0
            have z1 := H5.out.one.frozen 1
            have g0 := H5.out.put1 (by omega) HG.out (.int .i64 P') (.int .i64 (pr 0 (wt x) (k + 1)))
            obtain ⟨w6, hw6⟩ : ∃ w6, (w5.setCell { block := w1.heap.size, off := 0 } (.int .i64 P')).setCell { block := w1.heap.size, off := 1 } (.int .i64 (pr 0 (wt x) (k + 1))) = w6 := ⟨_, rfl⟩
            rw [hw6] at g0
            have H6 := hid g0
            clear g0
            have g1 : IntKind.i64.wrap (k + 1) = k + 1 := wrapI ⟨by omega, by omega⟩
            have g2 : IntKind.i64.wrap (k + j + 1) = k + j + 1 := wrapI ⟨by omega, by omega⟩
            have g3 : IntKind.i64.wrap (P' - Q) = P' - Q := wrapI ⟨by omega, by omega⟩
            have g4 : IntKind.i64.wrap (Q - P') = Q - P' := wrapI ⟨by omega, by omega⟩
            have l1 : decide (2 < P' - Q) = false := decide_eq_false (by omega)
            have l2 : decide (S + 1 < Q - P') = false := decide_eq_false (by omega)
            go_wp2_with fail
            try rw [hw6]
            clear c0 c1 d0 d1 lt1 lt2 z0 z1 H5 hw6
            obtain ⟨c0, c1, d0, d1, _⟩ := H6.out.all
            have lt1 := H6.out.one.lt
            have lt2 := H6.out.two.lt
            go_quiet (fail)
            go_wp2
            go_roundw
            case rel => exact ⟨k + 1, j, by omega, by omega, by omega, by go_num, by go_num, by go_num, hid (by rw [EP.out, HPQ.out.2]; omega), hid (by rw [EP.out, HPQ.out.2, HRR.out.2]; exact H6.out.kp ((Kp.refl No _).drewN _))⟩
            case measure => simp [intOf]; omega
          · go_wp2_with fail
            refine (less_is (q := false) (by rw [ls_le]; exact decide_eq_false (by omega))).mono ?_
            rintro e w4 ⟨rfl, k4⟩
            have H4 := hid (HH.out.kp k4)
            clear c0 c1 d0 d1 lt1 lt2 HH k4
            obtain ⟨c0, c1, d0, d1, _⟩ := H4.out.all
            have lt1 := H4.out.one.lt
            have lt2 := H4.out.two.lt
            go_wp2_with fail
            refine (run_is (a := Q') (b := pr 0 (wt y) (j + 1)) CY.out (show Q + (1048576 * tk 1 + R') / wt y = Q' from HY.out.1) (show (1048576 * tk 1 + R') % wt y = _ from HY.out.2)).mono ?_
            rintro e w5 ⟨rfl, k5⟩
            have H5 := hid (H4.out.kp k5)
            clear c0 c1 d0 d1 lt1 lt2 H4 k5
            obtain ⟨c0, c1, d0, d1, _⟩ := H5.out.all
            have lt1 := H5.out.one.lt
            have lt2 := H5.out.two.lt
            have z0 := H5.out.two.frozen 0
            have z1 := H5.out.two.frozen 1
            have g0 := H5.out.put2 (by omega) (Nat.le_succ_of_le HG.out) (.int .i64 Q') (.int .i64 (pr 0 (wt y) (j + 1)))
            obtain ⟨w6, hw6⟩ : ∃ w6, (w5.setCell { block := w1.heap.size + 1, off := 0 } (.int .i64 Q')).setCell { block := w1.heap.size + 1, off := 1 } (.int .i64 (pr 0 (wt y) (j + 1))) = w6 := ⟨_, rfl⟩
            rw [hw6] at g0
            have H6 := hid g0
            clear g0
            have g1 : IntKind.i64.wrap (j + 1) = j + 1 := wrapI ⟨by omega, by omega⟩
            have g2 : IntKind.i64.wrap (k + j + 1) = k + j + 1 := wrapI ⟨by omega, by omega⟩
            have g3 : IntKind.i64.wrap (P - Q') = P - Q' := wrapI ⟨by omega, by omega⟩
            have g4 : IntKind.i64.wrap (Q' - P) = Q' - P := wrapI ⟨by omega, by omega⟩
            have l1 : decide (2 < P - Q') = false := decide_eq_false (by omega)
            have l2 : decide (S + 1 < Q' - P) = false := decide_eq_false (by omega)
            go_wp2_with fail
            try rw [hw6]
            clear c0 c1 d0 d1 lt1 lt2 z0 z1 H5 hw6
            obtain ⟨c0, c1, d0, d1, _⟩ := H6.out.all
            have lt1 := H6.out.one.lt
            have lt2 := H6.out.two.lt
            go_quiet (fail)
            go_wp2
            go_roundw
            case rel => exact ⟨k, j + 1, by omega, by omega, by omega, by go_num, by go_num, by go_num, hid (by rw [EQ.out, HPQ.out.1]; omega), hid (by rw [EQ.out, HPQ.out.1, HRR.out.1]; exact H6.out.kp ((Kp.refl No _).drewN _))⟩
            case measure => simp [intOf]; omega
        · have DB := hid (And.intro (can_iff.1 CX.out) (can_iff.1 CY.out))
          have hd := decide_eq_false hlt
          have s0 : (k == k) = true := by simp
          have s1 : (j == j) = true := by simp
          go_wp2_with fail
          refine (done_is (n := k) k0 (by omega) DB.out.1.2.2.1 (by have := DB.out.1.2.2.2; omega) DX.out DB.out.1.1).mono ?_
          rintro e w4 ⟨rfl, k4⟩
          have H4 := hid (HH.out.kp k4)
          clear c0 c1 d0 d1 lt1 lt2 HH k4
          obtain ⟨c0, c1, d0, d1, _⟩ := H4.out.all
          have lt1 := H4.out.one.lt
          have lt2 := H4.out.two.lt
          go_wp2_with fail
          refine (done_is (n := j) j0 (by omega) DB.out.2.2.2.1 (by have := DB.out.2.2.2.2; omega) DY.out DB.out.2.1).mono ?_
          rintro e w5 ⟨rfl, k5⟩
          have K5 := hid (H4.out.kept.trans k5)
          clear c0 c1 d0 d1 lt1 lt2 H4 k5
          go_wp2_with fail
          go_ret
          exact ⟨rfl, K5.out⟩
  · rcases hy with ⟨hy, rfl⟩ | ⟨hy, rfl⟩ | ⟨hy, hy', hy2⟩
    · go_enter Try.func7, Try.ntmps7
      go_wp2_with fail
      refine (awake_any _).mono ?_
      rintro e w1 ⟨rfl, k1⟩
      have K1 := hid k1
      have A1 : At2 w 23 w1.heap.size (w1.heap.size + 1) (.int .i64 (pv 0 0 (wt x) 0)) (.int .i64 (pr 0 (wt x) 0)) (.int .i64 (pv 0 0 (wt y) 0)) (.int .i64 (pr 0 (wt y) 0)) ((w1.alloc (.cells #[.int .i64 0, .int .i64 0] 23)).alloc (.cells #[.int .i64 0, .int .i64 0] 23)) := by
        rw [(pv_zero C0.out.1).1, (pv_zero C0.out.1).2, (pv_zero C0.out.2).1, (pv_zero C0.out.2).2]
        exact fair_start k1
      have HA := hid A1
      have HG := hid k1.size
      clear k1 A1 K1
      go_wp2_with fail
      go_loopw [12, 13, 14] (fun m1 m2 i wr => ∃ (k j : Int), 0 ≤ k ∧ 0 ≤ j ∧ k + j ≤ n ∧ m1 = .int .i64 k ∧ m2 = .int .i64 j ∧ i = .int .i64 (k + j) ∧ Hid (pv 0 0 (wt x) k - pv 0 0 (wt y) j ≤ T + 1 ∧ pv 0 0 (wt y) j - pv 0 0 (wt x) k ≤ 1048576 + 1) ∧
        Hid (At2 w 23 w1.heap.size (w1.heap.size + 1) (.int .i64 (pv 0 0 (wt x) k)) (.int .i64 (pr 0 (wt x) k)) (.int .i64 (pv 0 0 (wt y) j)) (.int .i64 (pr 0 (wt y) j)) wr)) (fun _ _ i _ => (n - intOf i).toNat)
      case atStart => exact ⟨0, 0, by omega, by omega, by omega, rfl, rfl, rfl, hid (by rw [(pv_zero C0.out.1).1, (pv_zero C0.out.2).1]; omega), HA⟩
      case round =>
        obtain ⟨k, j, k0, j0, hk, rfl, rfl, rfl, HB, HH⟩ := hrel
        clear HA
        have tx := fair_tick (W := wt x) (s := k) (by omega)
        have ty := fair_tick (W := wt y) (s := j) (by omega)
        have bx := fair_bd (W := wt x) (s := k) (by omega) k0 (by omega)
        have by' := fair_bd (W := wt y) (s := j) (by omega) j0 (by omega)
        have stx := pv_step (v := 0) (r := 0) (W := wt x) (s := k) (n := 1) (by omega)
        have sty := pv_step (v := 0) (r := 0) (W := wt y) (s := j) (n := 1) (by omega)
        have cx := pv_can C0.out.1 (by omega) k0 (by omega)
        have cy := pv_can C0.out.2 (by omega) j0 (by omega)
        have dx := fair_done (x := x) (s := k)
        have dy := fair_done (x := y) (s := j)
        have hb := HB.out
        rw [HT.out] at tx
        rw [HS.out] at ty
        obtain ⟨P, hP⟩ : ∃ P, pv 0 0 (wt x) k = P := ⟨_, rfl⟩
        obtain ⟨Q, hQ⟩ : ∃ Q, pv 0 0 (wt y) j = Q := ⟨_, rfl⟩
        obtain ⟨R, hR⟩ : ∃ R, pr 0 (wt x) k = R := ⟨_, rfl⟩
        obtain ⟨R', hR'⟩ : ∃ R', pr 0 (wt y) j = R' := ⟨_, rfl⟩
        obtain ⟨P', hP'⟩ : ∃ P', pv 0 0 (wt x) (k + 1) = P' := ⟨_, rfl⟩
        obtain ⟨Q', hQ'⟩ : ∃ Q', pv 0 0 (wt y) (j + 1) = Q' := ⟨_, rfl⟩
        rw [hP] at tx bx stx cx dx hb HH
        rw [hQ] at ty by' sty cy dy hb HH
        rw [hR] at stx cx dx HH
        rw [hR'] at sty cy dy HH
        rw [hP'] at tx stx
        rw [hQ'] at ty sty
        have HX := hid stx
        have HY := hid sty
        have CX := hid cx
        have CY := hid cy
        have DX := hid dx
        have DY := hid dy
        clear stx sty cx cy dx dy HB
        have EP := hid hP'
        have EQ := hid hQ'
        have HPQ := hid (And.intro hP hQ)
        have HRR := hid (And.intro hR hR')
        clear hP' hQ' hP hQ hR hR'
        obtain ⟨c0, c1, d0, d1, _⟩ := HH.out.all
        have lt1 := HH.out.one.lt
        have lt2 := HH.out.two.lt
        by_cases hlt : k + j < n
        · by_cases hle : P ≤ Q
          · go_wp2_with fail
            refine (less_is (q := true) (by rw [ls_le]; exact decide_eq_true hle)).mono ?_
            rintro e w4 ⟨rfl, k4⟩
            have H4 := hid (HH.out.kp k4)
            clear c0 c1 d0 d1 lt1 lt2 HH k4
            obtain ⟨c0, c1, d0, d1, _⟩ := H4.out.all
            have lt1 := H4.out.one.lt
            have lt2 := H4.out.two.lt
            go_wp2_with fail
            refine (run_is (a := P') (b := pr 0 (wt x) (k + 1)) CX.out (show P + (1048576 * tk 1 + R) / wt x = P' from HX.out.1) (show (1048576 * tk 1 + R) % wt x = _ from HX.out.2)).mono ?_
            rintro e w5 ⟨rfl, k5⟩
            have H5 := hid (H4.out.kp k5)
            clear c0 c1 d0 d1 lt1 lt2 H4 k5
            obtain ⟨c0, c1, d0, d1, _⟩ := H5.out.all
            have lt1 := H5.out.one.lt
            have lt2 := H5.out.two.lt
            have z0 := H5.out.one.frozen 0
            have z1 := H5.out.one.frozen 1
            have g0 := H5.out.put1 (by omega) HG.out (.int .i64 P') (.int .i64 (pr 0 (wt x) (k + 1)))
            obtain ⟨w6, hw6⟩ : ∃ w6, (w5.setCell { block := w1.heap.size, off := 0 } (.int .i64 P')).setCell { block := w1.heap.size, off := 1 } (.int .i64 (pr 0 (wt x) (k + 1))) = w6 := ⟨_, rfl⟩
            rw [hw6] at g0
            have H6 := hid g0
            clear g0
            have g1 : IntKind.i64.wrap (k + 1) = k + 1 := wrapI ⟨by omega, by omega⟩
            have g2 : IntKind.i64.wrap (k + j + 1) = k + j + 1 := wrapI ⟨by omega, by omega⟩
            have g3 : IntKind.i64.wrap (P' - Q) = P' - Q := wrapI ⟨by omega, by omega⟩
            have g4 : IntKind.i64.wrap (Q - P') = Q - P' := wrapI ⟨by omega, by omega⟩
            have l1 : decide (T + 1 < P' - Q) = false := decide_eq_false (by omega)
            have l2 : decide (1048577 < Q - P') = false := decide_eq_false (by omega)
            go_wp2_with fail
            try rw [hw6]
            clear c0 c1 d0 d1 lt1 lt2 z0 z1 H5 hw6
            obtain ⟨c0, c1, d0, d1, _⟩ := H6.out.all
            have lt1 := H6.out.one.lt
            have lt2 := H6.out.two.lt
            go_quiet (fail)
            go_wp2
            go_roundw
            case rel => exact ⟨k + 1, j, by omega, by omega, by omega, by go_num, by go_num, by go_num, hid (by rw [EP.out, HPQ.out.2]; omega), hid (by rw [EP.out, HPQ.out.2, HRR.out.2]; exact H6.out.kp ((Kp.refl No _).drewN _))⟩
            case measure => simp [intOf]; omega
          · go_wp2_with fail
            refine (less_is (q := false) (by rw [ls_le]; exact decide_eq_false (by omega))).mono ?_
            rintro e w4 ⟨rfl, k4⟩
            have H4 := hid (HH.out.kp k4)
            clear c0 c1 d0 d1 lt1 lt2 HH k4
            obtain ⟨c0, c1, d0, d1, _⟩ := H4.out.all
            have lt1 := H4.out.one.lt
            have lt2 := H4.out.two.lt
            go_wp2_with fail
            refine (run_is (a := Q') (b := pr 0 (wt y) (j + 1)) CY.out (show Q + (1048576 * tk 1 + R') / wt y = Q' from HY.out.1) (show (1048576 * tk 1 + R') % wt y = _ from HY.out.2)).mono ?_
            rintro e w5 ⟨rfl, k5⟩
            have H5 := hid (H4.out.kp k5)
            clear c0 c1 d0 d1 lt1 lt2 H4 k5
            obtain ⟨c0, c1, d0, d1, _⟩ := H5.out.all
            have lt1 := H5.out.one.lt
            have lt2 := H5.out.two.lt
            have z0 := H5.out.two.frozen 0
            have z1 := H5.out.two.frozen 1
            have g0 := H5.out.put2 (by omega) (Nat.le_succ_of_le HG.out) (.int .i64 Q') (.int .i64 (pr 0 (wt y) (j + 1)))
            obtain ⟨w6, hw6⟩ : ∃ w6, (w5.setCell { block := w1.heap.size + 1, off := 0 } (.int .i64 Q')).setCell { block := w1.heap.size + 1, off := 1 } (.int .i64 (pr 0 (wt y) (j + 1))) = w6 := ⟨_, rfl⟩
            rw [hw6] at g0
            have H6 := hid g0
            clear g0
            have g1 : IntKind.i64.wrap (j + 1) = j + 1 := wrapI ⟨by omega, by omega⟩
            have g2 : IntKind.i64.wrap (k + j + 1) = k + j + 1 := wrapI ⟨by omega, by omega⟩
            have g3 : IntKind.i64.wrap (P - Q') = P - Q' := wrapI ⟨by omega, by omega⟩
            have g4 : IntKind.i64.wrap (Q' - P) = Q' - P := wrapI ⟨by omega, by omega⟩
            have l1 : decide (T + 1 < P - Q') = false := decide_eq_false (by omega)
            have l2 : decide (1048577 < Q' - P) = false := decide_eq_false (by omega)
            go_wp2_with fail
            try rw [hw6]
            clear c0 c1 d0 d1 lt1 lt2 z0 z1 H5 hw6
            obtain ⟨c0, c1, d0, d1, _⟩ := H6.out.all
            have lt1 := H6.out.one.lt
            have lt2 := H6.out.two.lt
            go_quiet (fail)
            go_wp2
            go_roundw
            case rel => exact ⟨k, j + 1, by omega, by omega, by omega, by go_num, by go_num, by go_num, hid (by rw [EQ.out, HPQ.out.1]; omega), hid (by rw [EQ.out, HPQ.out.1, HRR.out.1]; exact H6.out.kp ((Kp.refl No _).drewN _))⟩
            case measure => simp [intOf]; omega
        · have DB := hid (And.intro (can_iff.1 CX.out) (can_iff.1 CY.out))
          have hd := decide_eq_false hlt
          have s0 : (k == k) = true := by simp
          have s1 : (j == j) = true := by simp
          go_wp2_with fail
          refine (done_is (n := k) k0 (by omega) DB.out.1.2.2.1 (by have := DB.out.1.2.2.2; omega) DX.out DB.out.1.1).mono ?_
          rintro e w4 ⟨rfl, k4⟩
          have H4 := hid (HH.out.kp k4)
          clear c0 c1 d0 d1 lt1 lt2 HH k4
          obtain ⟨c0, c1, d0, d1, _⟩ := H4.out.all
          have lt1 := H4.out.one.lt
          have lt2 := H4.out.two.lt
          go_wp2_with fail
          refine (done_is (n := j) j0 (by omega) DB.out.2.2.2.1 (by have := DB.out.2.2.2.2; omega) DY.out DB.out.2.1).mono ?_
          rintro e w5 ⟨rfl, k5⟩
          have K5 := hid (H4.out.kept.trans k5)
          clear c0 c1 d0 d1 lt1 lt2 H4 k5
          go_wp2_with fail
          go_ret
          exact ⟨rfl, K5.out⟩
    · go_enter Try.func7, Try.ntmps7
      go_wp2_with fail
      refine (awake_any _).mono ?_
      rintro e w1 ⟨rfl, k1⟩
      have K1 := hid k1
      have A1 : At2 w 23 w1.heap.size (w1.heap.size + 1) (.int .i64 (pv 0 0 (wt x) 0)) (.int .i64 (pr 0 (wt x) 0)) (.int .i64 (pv 0 0 (wt y) 0)) (.int .i64 (pr 0 (wt y) 0)) ((w1.alloc (.cells #[.int .i64 0, .int .i64 0] 23)).alloc (.cells #[.int .i64 0, .int .i64 0] 23)) := by
        rw [(pv_zero C0.out.1).1, (pv_zero C0.out.1).2, (pv_zero C0.out.2).1, (pv_zero C0.out.2).2]
        exact fair_start k1
      have HA := hid A1
      have HG := hid k1.size
      clear k1 A1 K1
      go_wp2_with fail
      go_loopw [12, 13, 14] (fun m1 m2 i wr => ∃ (k j : Int), 0 ≤ k ∧ 0 ≤ j ∧ k + j ≤ n ∧ m1 = .int .i64 k ∧ m2 = .int .i64 j ∧ i = .int .i64 (k + j) ∧ Hid (pv 0 0 (wt x) k - pv 0 0 (wt y) j ≤ T + 1 ∧ pv 0 0 (wt y) j - pv 0 0 (wt x) k ≤ 1 + 1) ∧
        Hid (At2 w 23 w1.heap.size (w1.heap.size + 1) (.int .i64 (pv 0 0 (wt x) k)) (.int .i64 (pr 0 (wt x) k)) (.int .i64 (pv 0 0 (wt y) j)) (.int .i64 (pr 0 (wt y) j)) wr)) (fun _ _ i _ => (n - intOf i).toNat)
      case atStart => exact ⟨0, 0, by omega, by omega, by omega, rfl, rfl, rfl, hid (by rw [(pv_zero C0.out.1).1, (pv_zero C0.out.2).1]; omega), HA⟩
      case round =>
        obtain ⟨k, j, k0, j0, hk, rfl, rfl, rfl, HB, HH⟩ := hrel
        clear HA
        have tx := fair_tick (W := wt x) (s := k) (by omega)
        have ty := fair_tick (W := wt y) (s := j) (by omega)
        have bx := fair_bd (W := wt x) (s := k) (by omega) k0 (by omega)
        have by' := fair_bd (W := wt y) (s := j) (by omega) j0 (by omega)
        have stx := pv_step (v := 0) (r := 0) (W := wt x) (s := k) (n := 1) (by omega)
        have sty := pv_step (v := 0) (r := 0) (W := wt y) (s := j) (n := 1) (by omega)
        have cx := pv_can C0.out.1 (by omega) k0 (by omega)
        have cy := pv_can C0.out.2 (by omega) j0 (by omega)
        have dx := fair_done (x := x) (s := k)
        have dy := fair_done (x := y) (s := j)
        have hb := HB.out
        rw [HT.out] at tx
        rw [HS.out] at ty
        obtain ⟨P, hP⟩ : ∃ P, pv 0 0 (wt x) k = P := ⟨_, rfl⟩
        obtain ⟨Q, hQ⟩ : ∃ Q, pv 0 0 (wt y) j = Q := ⟨_, rfl⟩
        obtain ⟨R, hR⟩ : ∃ R, pr 0 (wt x) k = R := ⟨_, rfl⟩
        obtain ⟨R', hR'⟩ : ∃ R', pr 0 (wt y) j = R' := ⟨_, rfl⟩
        obtain ⟨P', hP'⟩ : ∃ P', pv 0 0 (wt x) (k + 1) = P' := ⟨_, rfl⟩
        obtain ⟨Q', hQ'⟩ : ∃ Q', pv 0 0 (wt y) (j + 1) = Q' := ⟨_, rfl⟩
        rw [hP] at tx bx stx cx dx hb HH
        rw [hQ] at ty by' sty cy dy hb HH
        rw [hR] at stx cx dx HH
        rw [hR'] at sty cy dy HH
        rw [hP'] at tx stx
        rw [hQ'] at ty sty
        have HX := hid stx
        have HY := hid sty
        have CX := hid cx
        have CY := hid cy
        have DX := hid dx
        have DY := hid dy
        clear stx sty cx cy dx dy HB
        have EP := hid hP'
        have EQ := hid hQ'
        have HPQ := hid (And.intro hP hQ)
        have HRR := hid (And.intro hR hR')
        clear hP' hQ' hP hQ hR hR'
        obtain ⟨c0, c1, d0, d1, _⟩ := HH.out.all
        have lt1 := HH.out.one.lt
        have lt2 := HH.out.two.lt
        by_cases hlt : k + j < n
        · by_cases hle : P ≤ Q
          · go_wp2_with fail
            refine (less_is (q := true) (by rw [ls_le]; exact decide_eq_true hle)).mono ?_
            rintro e w4 ⟨rfl, k4⟩
            have H4 := hid (HH.out.kp k4)
            clear c0 c1 d0 d1 lt1 lt2 HH k4
            obtain ⟨c0, c1, d0, d1, _⟩ := H4.out.all
            have lt1 := H4.out.one.lt
            have lt2 := H4.out.two.lt
            go_wp2_with fail
            refine (run_is (a := P') (b := pr 0 (wt x) (k + 1)) CX.out (show P + (1048576 * tk 1 + R) / wt x = P' from HX.out.1) (show (1048576 * tk 1 + R) % wt x = _ from HX.out.2)).mono ?_
            rintro e w5 ⟨rfl, k5⟩
            have H5 := hid (H4.out.kp k5)
            clear c0 c1 d0 d1 lt1 lt2 H4 k5
            obtain ⟨c0, c1, d0, d1, _⟩ := H5.out.all
            have lt1 := H5.out.one.lt
            have lt2 := H5.out.two.lt
            have z0 := H5.out.one.frozen 0
            have z1 := H5.out.one.frozen 1
            have g0 := H5.out.put1 (by omega) HG.out (.int .i64 P') (.int .i64 (pr 0 (wt x) (k + 1)))
            obtain ⟨w6, hw6⟩ : ∃ w6, (w5.setCell { block := w1.heap.size, off := 0 } (.int .i64 P')).setCell { block := w1.heap.size, off := 1 } (.int .i64 (pr 0 (wt x) (k + 1))) = w6 := ⟨_, rfl⟩
            rw [hw6] at g0
            have H6 := hid g0
            clear g0
            have g1 : IntKind.i64.wrap (k + 1) = k + 1 := wrapI ⟨by omega, by omega⟩
            have g2 : IntKind.i64.wrap (k + j + 1) = k + j + 1 := wrapI ⟨by omega, by omega⟩
            have g3 : IntKind.i64.wrap (P' - Q) = P' - Q := wrapI ⟨by omega, by omega⟩
            have g4 : IntKind.i64.wrap (Q - P') = Q - P' := wrapI ⟨by omega, by omega⟩
            have l1 : decide (T + 1 < P' - Q) = false := decide_eq_false (by omega)
            have l2 : decide (2 < Q - P') = false := decide_eq_false (by omega)
            go_wp2_with fail
            try rw [hw6]
            clear c0 c1 d0 d1 lt1 lt2 z0 z1 H5 hw6
            obtain ⟨c0, c1, d0, d1, _⟩ := H6.out.all
            have lt1 := H6.out.one.lt
            have lt2 := H6.out.two.lt
            go_quiet (fail)
            go_wp2
            go_roundw
            case rel => exact ⟨k + 1, j, by omega, by omega, by omega, by go_num, by go_num, by go_num, hid (by rw [EP.out, HPQ.out.2]; omega), hid (by rw [EP.out, HPQ.out.2, HRR.out.2]; exact H6.out.kp ((Kp.refl No _).drewN _))⟩
            case measure => simp [intOf]; omega
          · go_wp2_with fail
            refine (less_is (q := false) (by rw [ls_le]; exact decide_eq_false (by omega))).mono ?_
            rintro e w4 ⟨rfl, k4⟩
            have H4 := hid (HH.out.kp k4)
            clear c0 c1 d0 d1 lt1 lt2 HH k4
            obtain ⟨c0, c1, d0, d1, _⟩ := H4.out.all
            have lt1 := H4.out.one.lt
            have lt2 := H4.out.two.lt
            go_wp2_with fail
            refine (run_is (a := Q') (b := pr 0 (wt y) (j + 1)) CY.out (show Q + (1048576 * tk 1 + R') / wt y = Q' from HY.out.1) (show (1048576 * tk 1 + R') % wt y = _ from HY.out.2)).mono ?_
            rintro e w5 ⟨rfl, k5⟩
            have H5 := hid (H4.out.kp k5)
            clear c0 c1 d0 d1 lt1 lt2 H4 k5
            obtain ⟨c0, c1, d0, d1, _⟩ := H5.out.all
            have lt1 := H5.out.one.lt
            have lt2 := H5.out.two.lt
            have z0 := H5.out.two.frozen 0
            have z1 := H5.out.two.frozen 1
            have g0 := H5.out.put2 (by omega) (Nat.le_succ_of_le HG.out) (.int .i64 Q') (.int .i64 (pr 0 (wt y) (j + 1)))
            obtain ⟨w6, hw6⟩ : ∃ w6, (w5.setCell { block := w1.heap.size + 1, off := 0 } (.int .i64 Q')).setCell { block := w1.heap.size + 1, off := 1 } (.int .i64 (pr 0 (wt y) (j + 1))) = w6 := ⟨_, rfl⟩
            rw [hw6] at g0
            have H6 := hid g0
            clear g0
            have g1 : IntKind.i64.wrap (j + 1) = j + 1 := wrapI ⟨by omega, by omega⟩
            have g2 : IntKind.i64.wrap (k + j + 1) = k + j + 1 := wrapI ⟨by omega, by omega⟩
            have g3 : IntKind.i64.wrap (P - Q') = P - Q' := wrapI ⟨by omega, by omega⟩
            have g4 : IntKind.i64.wrap (Q' - P) = Q' - P := wrapI ⟨by omega, by omega⟩
            have l1 : decide (T + 1 < P - Q') = false := decide_eq_false (by omega)
            have l2 : decide (2 < Q' - P) = false := decide_eq_false (by omega)
            go_wp2_with fail
            try rw [hw6]
            clear c0 c1 d0 d1 lt1 lt2 z0 z1 H5 hw6
            obtain ⟨c0, c1, d0, d1, _⟩ := H6.out.all
            have lt1 := H6.out.one.lt
            have lt2 := H6.out.two.lt
            go_quiet (fail)
            go_wp2
            go_roundw
            case rel => exact ⟨k, j + 1, by omega, by omega, by omega, by go_num, by go_num, by go_num, hid (by rw [EQ.out, HPQ.out.1]; omega), hid (by rw [EQ.out, HPQ.out.1, HRR.out.1]; exact H6.out.kp ((Kp.refl No _).drewN _))⟩
            case measure => simp [intOf]; omega
        · have DB := hid (And.intro (can_iff.1 CX.out) (can_iff.1 CY.out))
          have hd := decide_eq_false hlt
          have s0 : (k == k) = true := by simp
          have s1 : (j == j) = true := by simp
          go_wp2_with fail
          refine (done_is (n := k) k0 (by omega) DB.out.1.2.2.1 (by have := DB.out.1.2.2.2; omega) DX.out DB.out.1.1).mono ?_
          rintro e w4 ⟨rfl, k4⟩
          have H4 := hid (HH.out.kp k4)
          clear c0 c1 d0 d1 lt1 lt2 HH k4
          obtain ⟨c0, c1, d0, d1, _⟩ := H4.out.all
          have lt1 := H4.out.one.lt
          have lt2 := H4.out.two.lt
          go_wp2_with fail
          refine (done_is (n := j) j0 (by omega) DB.out.2.2.2.1 (by have := DB.out.2.2.2.2; omega) DY.out DB.out.2.1).mono ?_
          rintro e w5 ⟨rfl, k5⟩
          have K5 := hid (H4.out.kept.trans k5)
          clear c0 c1 d0 d1 lt1 lt2 H4 k5
          go_wp2_with fail
          go_ret
          exact ⟨rfl, K5.out⟩
    · go_enter Try.func7, Try.ntmps7
      go_wp2_with fail
      refine (awake_any _).mono ?_
      rintro e w1 ⟨rfl, k1⟩
      have K1 := hid k1
      have A1 : At2 w 23 w1.heap.size (w1.heap.size + 1) (.int .i64 (pv 0 0 (wt x) 0)) (.int .i64 (pr 0 (wt x) 0)) (.int .i64 (pv 0 0 (wt y) 0)) (.int .i64 (pr 0 (wt y) 0)) ((w1.alloc (.cells #[.int .i64 0, .int .i64 0] 23)).alloc (.cells #[.int .i64 0, .int .i64 0] 23)) := by
        rw [(pv_zero C0.out.1).1, (pv_zero C0.out.1).2, (pv_zero C0.out.2).1, (pv_zero C0.out.2).2]
        exact fair_start k1
      have HA := hid A1
      have HG := hid k1.size
      clear k1 A1 K1
      go_wp2_with fail
      go_loopw [12, 13, 14] (fun m1 m2 i wr => ∃ (k j : Int), 0 ≤ k ∧ 0 ≤ j ∧ k + j ≤ n ∧ m1 = .int .i64 k ∧ m2 = .int .i64 j ∧ i = .int .i64 (k + j) ∧ Hid (pv 0 0 (wt x) k - pv 0 0 (wt y) j ≤ T + 1 ∧ pv 0 0 (wt y) j - pv 0 0 (wt x) k ≤ S + 1) ∧
        Hid (At2 w 23 w1.heap.size (w1.heap.size + 1) (.int .i64 (pv 0 0 (wt x) k)) (.int .i64 (pr 0 (wt x) k)) (.int .i64 (pv 0 0 (wt y) j)) (.int .i64 (pr 0 (wt y) j)) wr)) (fun _ _ i _ => (n - intOf i).toNat)
      case atStart => exact ⟨0, 0, by omega, by omega, by omega, rfl, rfl, rfl, hid (by rw [(pv_zero C0.out.1).1, (pv_zero C0.out.2).1]; omega), HA⟩
      case round =>
        obtain ⟨k, j, k0, j0, hk, rfl, rfl, rfl, HB, HH⟩ := hrel
        clear HA
        have tx := fair_tick (W := wt x) (s := k) (by omega)
        have ty := fair_tick (W := wt y) (s := j) (by omega)
        have bx := fair_bd (W := wt x) (s := k) (by omega) k0 (by omega)
        have by' := fair_bd (W := wt y) (s := j) (by omega) j0 (by omega)
        have stx := pv_step (v := 0) (r := 0) (W := wt x) (s := k) (n := 1) (by omega)
        have sty := pv_step (v := 0) (r := 0) (W := wt y) (s := j) (n := 1) (by omega)
        have cx := pv_can C0.out.1 (by omega) k0 (by omega)
        have cy := pv_can C0.out.2 (by omega) j0 (by omega)
        have dx := fair_done (x := x) (s := k)
        have dy := fair_done (x := y) (s := j)
        have hb := HB.out
        rw [HT.out] at tx
        rw [HS.out] at ty
        obtain ⟨P, hP⟩ : ∃ P, pv 0 0 (wt x) k = P := ⟨_, rfl⟩
        obtain ⟨Q, hQ⟩ : ∃ Q, pv 0 0 (wt y) j = Q := ⟨_, rfl⟩
        obtain ⟨R, hR⟩ : ∃ R, pr 0 (wt x) k = R := ⟨_, rfl⟩
        obtain ⟨R', hR'⟩ : ∃ R', pr 0 (wt y) j = R' := ⟨_, rfl⟩
        obtain ⟨P', hP'⟩ : ∃ P', pv 0 0 (wt x) (k + 1) = P' := ⟨_, rfl⟩
        obtain ⟨Q', hQ'⟩ : ∃ Q', pv 0 0 (wt y) (j + 1) = Q' := ⟨_, rfl⟩
        rw [hP] at tx bx stx cx dx hb HH
        rw [hQ] at ty by' sty cy dy hb HH
        rw [hR] at stx cx dx HH
        rw [hR'] at sty cy dy HH
        rw [hP'] at tx stx
        rw [hQ'] at ty sty
        have HX := hid stx
        have HY := hid sty
        have CX := hid cx
        have CY := hid cy
        have DX := hid dx
        have DY := hid dy
        clear stx sty cx cy dx dy HB
        have EP := hid hP'
        have EQ := hid hQ'
        have HPQ := hid (And.intro hP hQ)
        have HRR := hid (And.intro hR hR')
        clear hP' hQ' hP hQ hR hR'
        obtain ⟨c0, c1, d0, d1, _⟩ := HH.out.all
        have lt1 := HH.out.one.lt
        have lt2 := HH.out.two.lt
        by_cases hlt : k + j < n
        · by_cases hle : P ≤ Q
          · go_wp2_with fail
            refine (less_is (q := true) (by rw [ls_le]; exact decide_eq_true hle)).mono ?_
            rintro e w4 ⟨rfl, k4⟩
            have H4 := hid (HH.out.kp k4)
            clear c0 c1 d0 d1 lt1 lt2 HH k4
            obtain ⟨c0, c1, d0, d1, _⟩ := H4.out.all
            have lt1 := H4.out.one.lt
            have lt2 := H4.out.two.lt
            go_wp2_with fail
            refine (run_is (a := P') (b := pr 0 (wt x) (k + 1)) CX.out (show P + (1048576 * tk 1 + R) / wt x = P' from HX.out.1) (show (1048576 * tk 1 + R) % wt x = _ from HX.out.2)).mono ?_
            rintro e w5 ⟨rfl, k5⟩
            have H5 := hid (H4.out.kp k5)
            clear c0 c1 d0 d1 lt1 lt2 H4 k5
            obtain ⟨c0, c1, d0, d1, _⟩ := H5.out.all
            have lt1 := H5.out.one.lt
            have lt2 := H5.out.two.lt
            have z0 := H5.out.one.frozen 0
            have z1 := H5.out.one.frozen 1
            have g0 := H5.out.put1 (by omega) HG.out (.int .i64 P') (.int .i64 (pr 0 (wt x) (k + 1)))
            obtain ⟨w6, hw6⟩ : ∃ w6, (w5.setCell { block := w1.heap.size, off := 0 } (.int .i64 P')).setCell { block := w1.heap.size, off := 1 } (.int .i64 (pr 0 (wt x) (k + 1))) = w6 := ⟨_, rfl⟩
            rw [hw6] at g0
            have H6 := hid g0
            clear g0
            have g1 : IntKind.i64.wrap (k + 1) = k + 1 := wrapI ⟨by omega, by omega⟩
            have g2 : IntKind.i64.wrap (k + j + 1) = k + j + 1 := wrapI ⟨by omega, by omega⟩
            have g3 : IntKind.i64.wrap (P' - Q) = P' - Q := wrapI ⟨by omega, by omega⟩
            have g4 : IntKind.i64.wrap (Q - P') = Q - P' := wrapI ⟨by omega, by omega⟩
            have l1 : decide (T + 1 < P' - Q) = false := decide_eq_false (by omega)
            have l2 : decide (S + 1 < Q - P') = false := decide_eq_false (by omega)
            go_wp2_with fail
            try rw [hw6]
            clear c0 c1 d0 d1 lt1 lt2 z0 z1 H5 hw6
            obtain ⟨c0, c1, d0, d1, _⟩ := H6.out.all
            have lt1 := H6.out.one.lt
            have lt2 := H6.out.two.lt
            go_quiet (fail)
            go_wp2
            go_roundw
            case rel => exact ⟨k + 1, j, by omega, by omega, by omega, by go_num, by go_num, by go_num, hid (by rw [EP.out, HPQ.out.2]; omega), hid (by rw [EP.out, HPQ.out.2, HRR.out.2]; exact H6.out.kp ((Kp.refl No _).drewN _))⟩
            case measure => simp [intOf]; omega
          · go_wp2_with fail
            refine (less_is (q := false) (by rw [ls_le]; exact decide_eq_false (by omega))).mono ?_
            rintro e w4 ⟨rfl, k4⟩
            have H4 := hid (HH.out.kp k4)
            clear c0 c1 d0 d1 lt1 lt2 HH k4
            obtain ⟨c0, c1, d0, d1, _⟩ := H4.out.all
            have lt1 := H4.out.one.lt
            have lt2 := H4.out.two.lt
            go_wp2_with fail
            refine (run_is (a := Q') (b := pr 0 (wt y) (j + 1)) CY.out (show Q + (1048576 * tk 1 + R') / wt y = Q' from HY.out.1) (show (1048576 * tk 1 + R') % wt y = _ from HY.out.2)).mono ?_
            rintro e w5 ⟨rfl, k5⟩
            have H5 := hid (H4.out.kp k5)
            clear c0 c1 d0 d1 lt1 lt2 H4 k5
            obtain ⟨c0, c1, d0, d1, _⟩ := H5.out.all
            have lt1 := H5.out.one.lt
            have lt2 := H5.out.two.lt
            have z0 := H5.out.two.frozen 0
            have z1 := H5.out.two.frozen 1
            have g0 := H5.out.put2 (by omega) (Nat.le_succ_of_le HG.out) (.int .i64 Q') (.int .i64 (pr 0 (wt y) (j + 1)))
            obtain ⟨w6, hw6⟩ : ∃ w6, (w5.setCell { block := w1.heap.size + 1, off := 0 } (.int .i64 Q')).setCell { block := w1.heap.size + 1, off := 1 } (.int .i64 (pr 0 (wt y) (j + 1))) = w6 := ⟨_, rfl⟩
            rw [hw6] at g0
            have H6 := hid g0
            clear g0
            have g1 : IntKind.i64.wrap (j + 1) = j + 1 := wrapI ⟨by omega, by omega⟩
            have g2 : IntKind.i64.wrap (k + j + 1) = k + j + 1 := wrapI ⟨by omega, by omega⟩
            have g3 : IntKind.i64.wrap (P - Q') = P - Q' := wrapI ⟨by omega, by omega⟩
            have g4 : IntKind.i64.wrap (Q' - P) = Q' - P := wrapI ⟨by omega, by omega⟩
            have l1 : decide (T + 1 < P - Q') = false := decide_eq_false (by omega)
            have l2 : decide (S + 1 < Q' - P) = false := decide_eq_false (by omega)
            go_wp2_with fail
            try rw [hw6]
            clear c0 c1 d0 d1 lt1 lt2 z0 z1 H5 hw6
            obtain ⟨c0, c1, d0, d1, _⟩ := H6.out.all
            have lt1 := H6.out.one.lt
            have lt2 := H6.out.two.lt
            go_quiet (fail)
            go_wp2
            go_roundw
            case rel => exact ⟨k, j + 1, by omega, by omega, by omega, by go_num, by go_num, by go_num, hid (by rw [EQ.out, HPQ.out.1]; omega), hid (by rw [EQ.out, HPQ.out.1, HRR.out.1]; exact H6.out.kp ((Kp.refl No _).drewN _))⟩
            case measure => simp [intOf]; omega
        · have DB := hid (And.intro (can_iff.1 CX.out) (can_iff.1 CY.out))
          have hd := decide_eq_false hlt
          have s0 : (k == k) = true := by simp
          have s1 : (j == j) = true := by simp
          go_wp2_with fail
          refine (done_is (n := k) k0 (by omega) DB.out.1.2.2.1 (by have := DB.out.1.2.2.2; omega) DX.out DB.out.1.1).mono ?_
          rintro e w4 ⟨rfl, k4⟩
          have H4 := hid (HH.out.kp k4)
          clear c0 c1 d0 d1 lt1 lt2 HH k4
          obtain ⟨c0, c1, d0, d1, _⟩ := H4.out.all
          have lt1 := H4.out.one.lt
          have lt2 := H4.out.two.lt
          go_wp2_with fail
          refine (done_is (n := j) j0 (by omega) DB.out.2.2.2.1 (by have := DB.out.2.2.2.2; omega) DY.out DB.out.2.1).mono ?_
          rintro e w5 ⟨rfl, k5⟩
          have K5 := hid (H4.out.kept.trans k5)
          clear c0 c1 d0 d1 lt1 lt2 H4 k5
          go_wp2_with fail
          go_ret
          exact ⟨rfl, K5.out⟩

theorem fair_case {x T : Int} (hT : 1048576 / wt x = T) : (x ≤ 1 ∧ T = 1048576) ∨ (1048576 < x ∧ T = 1) ∨ (1 < x ∧ x ≤ 1048576 ∧ IntKind.i64.wrap ((1048576 : Int).tdiv x) = T) := by
  rcases (show x ≤ 1 ∨ 1048576 < x ∨ (1 < x ∧ x ≤ 1048576) from by omega) with h | h | h
  · refine .inl ⟨h, ?_⟩
    rw [← hT, show wt x = 1 by unfold wt; split <;> (try split) <;> omega]
    decide
  · refine .inr (.inl ⟨h, ?_⟩)
    rw [← hT, show wt x = 1048576 by unfold wt; split <;> (try split) <;> omega]
    decide
  · refine .inr (.inr ⟨h.1, h.2, ?_⟩)
    rw [← hT, show wt x = x by unfold wt; split <;> (try split) <;> omega]
    exact Go.IntWalk.i64_quo 1048576 x ⟨by omega, by omega, by omega⟩

theorem paceFair_walk (w : World) (x y t : Int) (_ : I64 x) (_ : I64 y) (ht : 0 ≤ t ∧ t ≤ 65535) :
    Calls Try.prog 7 #[.int .i64 x, .int .i64 y, .int .u16 t] w fun e w' => e = .returned (.bool true) ∧ Kp No w w' :=
  paceFair_gen w x y t _ _ ht rfl rfl (fair_case rfl) (fair_case rfl)
end Go.Proofs.Ytgkeljioefiljaa
