/-
  The walk of BandBounds.
-/
import Derived.Test.YtnlehhmogdencaaBandEndsW
import Derived.Test.YtnlehhmogdencaaBandH
import Derived.Test.YtnlehhmogdencaaArgs
namespace Go.Proofs.Ytnlehhmogdencaa
open Go.RowKit

/-- What was had since the last end, and what is used. -/
def Bst (q u h : Int) : Prop := (q = 0 ∧ u = 0) ∨ (0 < q ∧ u = h ∧ h ≤ q)
theorem ps_one {p u : Int} (k : Nat) (hk : k ≤ 1000) (hp : 1 ≤ p) : ps p u k 1 = if ((k : Int) + 1) % p = 0 then 0 else u := by
  have h := cnt_step (p := p) (f := (k : Int)) (by omega) 0
  have h0 : cnt p k 0 = 0 := by unfold cnt; simp
  have h1 : en p k 1 = cnt p k (0 + 1) := by
    unfold en cnt
    rw [tk_in (show (0 : Int) ≤ k by omega) (by omega), tk_in (show (0 : Int) ≤ 1 by omega) (by omega)]
    rfl
  rw [h0, Int.zero_add] at h
  have e : (k : Int) + 1 + ((0 : Nat) : Int) = k + 1 := by omega
  rw [e] at h
  unfold ps
  rw [h1, h]
  split <;> simp
theorem At.put3 {a w : World} {g : Nat} {t : TypeId} {x y z : Value} (h : At a g t #[x, y, z] w) (hg : a.heap.size ≤ g) (x' y' z' : Value) : At a g t #[x', y', z'] (((w.setCell ⟨g, 0, none⟩ x').setCell ⟨g, 1, none⟩ y').setCell ⟨g, 2, none⟩ z') :=
  ⟨((h.kept.setCell (p := ⟨g, 0, none⟩) (.inr hg) x').setCell (p := ⟨g, 1, none⟩) (.inr hg) y').setCell (p := ⟨g, 2, none⟩) (.inr hg) z', ((h.blk.put 0 x').put 1 y').put 2 z'⟩
theorem At.cells {a w : World} {g : Nat} {t : TypeId} {x y z : Value} (h : At a g t #[x, y, z] w) : w.cell? ⟨g, 0, none⟩ = some x ∧ w.cell? ⟨g, 1, none⟩ = some y ∧ w.cell? ⟨g, 2, none⟩ = some z ∧ w.frozen? ⟨g, 0, none⟩ = false ∧ w.frozen? ⟨g, 1, none⟩ = false ∧ w.frozen? ⟨g, 2, none⟩ = false ∧ g < w.heap.size :=
  ⟨h.blk.cell 0, h.blk.cell 1, h.blk.cell 2, h.blk.frozen 0, h.blk.frozen 1, h.blk.frozen 2, h.blk.lt⟩
theorem sl_some {a : World} {A : Option Addr} {n c : Nat} {xs : List Bool} (h : Sl Value.bool false a Anyb (.slice A n c) xs) (h0 : 0 < xs.length) : ∃ b o, A = some ⟨b, o, none⟩ := by
  obtain ⟨A', c', he, _, _, hc⟩ := h
  injection he with e1 e2 e3
  subst e1
  obtain ⟨b, o, hA, _⟩ := hc h0
  exact ⟨b, o, hA⟩
theorem sl_at {a w : World} {b o n c k : Nat} {xs : List Bool} (h : Sl Value.bool false a Anyb (.slice (some ⟨b, o, none⟩) n c) xs) (K : Kp No a w) (hk : k < xs.length) : w.cell? ⟨b, o + k, none⟩ = some (.bool (xs.getD k false)) := by
  obtain ⟨A', c', he, _, _, hc⟩ := h
  injection he with e1 e2 e3
  subst e1
  obtain ⟨b', o', hA, hb, _, hcell⟩ := hc (by omega)
  injection hA with hA
  injection hA with e1 e2 e3
  subst e1 e2
  exact (K.cell (p := ⟨b, o + k, none⟩) hb (fun h => h)).trans (hcell k hk)

set_option maxHeartbeats 2000000 in
theorem bandBounds_walk (w : World) (a b : Int) (v : Value) {xs : List Bool} (ha : 0 ≤ a ∧ a ≤ 65535) (hb : 0 ≤ b ∧ b ≤ 65535) (hv : Sl Value.bool false w Anyb v xs) :
    Calls Try.prog 6 #[.int .u16 a, .int .u16 b, v] w fun e w' => e = .returned (.bool true) ∧ Kp No w w' := by
  obtain ⟨A, c, rfl, hc, hm, _⟩ := id hv
  have HV := hid hv
  clear hv
  obtain ⟨p', hp⟩ : ∃ p', a % 1000 = p' := ⟨_, rfl⟩
  obtain ⟨q, hq⟩ : ∃ q, b % 1000 = q := ⟨_, rfl⟩
  have p0 : 0 ≤ p' := by omega
  have p1 : p' ≤ 999 := by omega
  have q0 : 0 ≤ q := by omega
  have q1 : q ≤ 999 := by omega
  have e1 : a.tmod 1000 = p' := by rw [Int.tmod_eq_emod_of_nonneg ha.1]; exact hp
  have e2 : b.tmod 1000 = q := by rw [Int.tmod_eq_emod_of_nonneg hb.1]; exact hq
  have e3 : IntKind.u16.wrap p' = p' := by simp only [IntKind.wrap, IntKind.bits, IntKind.signed]; simp; omega
  have e4 : IntKind.u16.wrap q = q := by simp only [IntKind.wrap, IntKind.bits, IntKind.signed]; simp; omega
  have e5 : IntKind.i64.wrap p' = p' := wrapI ⟨by omega, by omega⟩
  have e6 : IntKind.i64.wrap q = q := wrapI ⟨by omega, by omega⟩
  obtain ⟨p, hpp⟩ : ∃ p, 1 + p' = p := ⟨_, rfl⟩
  have e7 : IntKind.i64.wrap (1 + p') = p := by rw [hpp]; exact wrapI ⟨by omega, by omega⟩
  have g0 : 1 ≤ p := by omega
  have g1 : p ≤ 1000 := by omega
  have hpz : p ≠ 0 := by omega
  clear hp hq hpp
  by_cases hlen : 500 < xs.length
  · have hlen' : (500 : Int) < (xs.length : Int) := by omega
    go_enter Try.func6, Try.ntmps6
    go_wp2_with fail
    refine (awake_any _).mono ?_
    rintro e v1 ⟨rfl, k1⟩
    have K1 := hid k1
    clear k1
    go_wp2_with fail
    go_ret
    exact ⟨rfl, K1.out⟩
  have hlen' := decide_eq_false (show ¬ (500 : Int) < (xs.length : Int) by omega)
  go_enter Try.func6, Try.ntmps6
  go_wp2_with fail
  refine (awake_any _).mono ?_
  rintro e v1 ⟨rfl, k1⟩
  have HG := hid k1.size
  have A2 := hid (show At w v1.heap.size 23 #[.int .i64 p, .int .i64 q, .int .i64 0] (v1.alloc (.cells #[.int .i64 p, .int .i64 q, .int .i64 0] 23)) from ⟨k1.alloc _, Blk.new _ _ _⟩)
  clear k1
  go_wp2_with fail
  go_loopw [10, 11] (fun had i wr => ∃ (k : Nat) (h u : Int), k ≤ xs.length ∧ i = .int .i64 k ∧ had = .int .i64 h ∧ 0 ≤ h ∧ h ≤ k ∧ Hid (Bst q u h ∧ At w v1.heap.size 23 #[.int .i64 p, .int .i64 q, .int .i64 u] wr)) (fun _ i _ => xs.length - (intOf i).toNat)
  case atStart => exact ⟨0, 0, 0, Nat.zero_le _, rfl, rfl, by omega, by omega, hid ⟨by unfold Bst; omega, A2.out⟩⟩
  case round =>
    obtain ⟨k, h, u, hk, rfl, rfl, h0, h1, HH⟩ := hrel
    clear A2
    have B := hid HH.out.1
    have R := hid HH.out.2
    clear HH
    obtain ⟨c0, c1, c2, f0, f1, f2, lt⟩ := R.out.cells
    by_cases hlt : k < xs.length
    · have hlt' : (k : Int) < (xs.length : Int) := by omega
      have hk0 : (0 : Int) ≤ (k : Int) := by omega
      obtain ⟨b1, o1, rfl⟩ := sl_some HV.out (by omega)
      have cz := sl_at HV.out R.out.kept hlt
      generalize xs.getD k false = z at cz
      have w1 : IntKind.i64.wrap ((k : Int) + 1) = k + 1 := wrapI ⟨by omega, by omega⟩
      have w2 : IntKind.i64.wrap (h + 1) = h + 1 := wrapI ⟨by omega, by omega⟩
      have t1 : ((k : Int) + 1).tmod p = (k + 1) % p := Int.tmod_eq_emod_of_nonneg (by omega)
      have r1 : 0 ≤ ((k : Int) + 1) % p := Int.emod_nonneg _ hpz
      have r2 : ((k : Int) + 1) % p < p := Int.emod_lt_of_pos _ (by omega)
      have t2 : IntKind.i64.wrap (((k : Int) + 1) % p) = (k + 1) % p := wrapI ⟨by omega, by omega⟩
      rcases B.out with ⟨rfl, rfl⟩ | ⟨hq, rfl, hle⟩
      · cases z
        · skip

          have R6 := hid (R.out.kp (Kp.refl No _).drew)
          have HR := hid (show Rb p 0 (0) from ⟨by omega, by omega, by omega, by omega, by omega, by omega, by omega, by omega⟩)
          have HP := hid (ps_one (p := p) (u := 0) k (by omega) g0)
          go_wp2_with fail
          refine region_all (fun w' => At w v1.heap.size 23 #[.int .i64 p, .int .i64 0, .int .i64 0] w') (by kernel_rfl) (by kernel_rfl) (R6.out) ?_
          repeat ((first | ((with_reducible refine cl_val (v := ?_) ?_ ?_ ?_); rotate_left; (focus (go_simp; done)); (focus (intro w' hw; obtain ⟨c0, c1, c2, f0, f1, f2, lt⟩ := hw.cells; go_simp; (try with_reducible rfl); done))) | ((with_reducible refine cl_skip ?_ ?_); (focus (first | (go_simp; done) | exact unwanted rfl rfl)))); simp only [Act.put, List.setIfInBounds_toArray, List.set_cons_zero, List.set_cons_succ])
          refine cl_call (v := .bool false) rfl (fun w' hw => by go_simp) (fun w' hw => (shut_is HR.out (show (lf 0 0 == 0) = false from rfl) w').mono fun e w'' ⟨he, hk⟩ => ⟨he, hw.kp hk⟩) ?_
          simp only [Act.put, List.setIfInBounds_toArray, List.set_cons_zero, List.set_cons_succ]
          repeat ((first | ((with_reducible refine cl_val (v := ?_) ?_ ?_ ?_); rotate_left; (focus (go_simp; done)); (focus (intro w' hw; obtain ⟨c0, c1, c2, f0, f1, f2, lt⟩ := hw.cells; go_simp; (try with_reducible rfl); done))) | ((with_reducible refine cl_skip ?_ ?_); (focus (first | (go_simp; done) | exact unwanted rfl rfl)))); simp only [Act.put, List.setIfInBounds_toArray, List.set_cons_zero, List.set_cons_succ])
          refine cl_nil fun w' hw => ?_
          have R7 := hid hw
          clear hw R6
          obtain ⟨c0, c1, c2, f0, f1, f2, lt⟩ := R7.out.cells
          by_cases he : ((k : Int) + 1) % p = 0
          · have he : ((k : Int) + 1) % p = 0 := he
            rw [if_pos he] at HP
            rw [he] at t1 t2
            go_wp2_with fail
            refine (pass_is HP.out _).mono ?_
            rintro e v9 ⟨rfl, k9⟩
            have R8 := hid (R7.out.kp k9)
            clear c0 c1 c2 f0 f1 f2 lt k9 R7
            obtain ⟨c0, c1, c2, f0, f1, f2, lt⟩ := R8.out.cells
            go_wp2_with fail
            go_roundw
            case rel => exact ⟨k + 1, 0, 0, by omega, by go_num, by first | rfl | go_num, by omega, by omega, hid ⟨by unfold Bst; omega, R8.out.put3 HG.out _ _ _⟩⟩
            case measure => simp [intOf]; omega
          · rw [if_neg he] at HP
            have he' : (((k : Int) + 1) % p == 0) = false := by simp; exact he
            go_wp2_with fail
            refine (pass_is HP.out _).mono ?_
            rintro e v9 ⟨rfl, k9⟩
            have R8 := hid (R7.out.kp k9)
            clear c0 c1 c2 f0 f1 f2 lt k9 R7
            obtain ⟨c0, c1, c2, f0, f1, f2, lt⟩ := R8.out.cells
            go_wp2_with fail
            go_roundw
            case rel => exact ⟨k + 1, h, 0, by omega, by go_num, by first | rfl | go_num, by omega, by omega, hid ⟨by unfold Bst; omega, R8.out.put3 HG.out _ _ _⟩⟩
            case measure => simp [intOf]; omega
        · have HR0 := hid (show Rb p 0 0 from ⟨by omega, by omega, by omega, by omega, by omega, by omega, by omega, by omega⟩)
          have HS0 := hid (show (lf 0 0 == 0) = false from rfl)
          go_wp2_with fail
          refine (shut_is HR0.out HS0.out _).mono ?_
          rintro e v5 ⟨rfl, k5⟩
          have R5 := hid (R.out.kp k5)
          clear c0 c1 c2 f0 f1 f2 lt R k5 cz
          obtain ⟨c0, c1, c2, f0, f1, f2, lt⟩ := R5.out.cells
          have HC := hid (show ch 0 0 1 = 0 from rfl)
          go_wp2_with fail
          refine (charge_is HR0.out HC.out _).mono ?_
          rintro e v6 ⟨rfl, k6⟩
          have S6 := hid (R5.out.kp k6)
          clear c0 c1 c2 f0 f1 f2 lt R5 k6
          obtain ⟨c0, c1, c2, f0, f1, f2, lt⟩ := S6.out.cells
          have R6 := hid ((S6.out.put3 HG.out (.int .i64 p) (.int .i64 0) (.int .i64 0)).kp (Kp.refl No _).drew)
          have HR := hid (show Rb p 0 (0) from ⟨by omega, by omega, by omega, by omega, by omega, by omega, by omega, by omega⟩)
          have HP := hid (ps_one (p := p) (u := 0) k (by omega) g0)
          go_wp2_with fail
          refine region_all (fun w' => At w v1.heap.size 23 #[.int .i64 p, .int .i64 0, .int .i64 0] w') (by kernel_rfl) (by kernel_rfl) (R6.out) ?_
          repeat ((first | ((with_reducible refine cl_val (v := ?_) ?_ ?_ ?_); rotate_left; (focus (go_simp; done)); (focus (intro w' hw; obtain ⟨c0, c1, c2, f0, f1, f2, lt⟩ := hw.cells; go_simp; (try with_reducible rfl); done))) | ((with_reducible refine cl_skip ?_ ?_); (focus (first | (go_simp; done) | exact unwanted rfl rfl)))); simp only [Act.put, List.setIfInBounds_toArray, List.set_cons_zero, List.set_cons_succ])
          refine cl_call (v := .bool false) rfl (fun w' hw => by go_simp) (fun w' hw => (shut_is HR.out (show (lf 0 0 == 0) = false from rfl) w').mono fun e w'' ⟨he, hk⟩ => ⟨he, hw.kp hk⟩) ?_
          simp only [Act.put, List.setIfInBounds_toArray, List.set_cons_zero, List.set_cons_succ]
          repeat ((first | ((with_reducible refine cl_val (v := ?_) ?_ ?_ ?_); rotate_left; (focus (go_simp; done)); (focus (intro w' hw; obtain ⟨c0, c1, c2, f0, f1, f2, lt⟩ := hw.cells; go_simp; (try with_reducible rfl); done))) | ((with_reducible refine cl_skip ?_ ?_); (focus (first | (go_simp; done) | exact unwanted rfl rfl)))); simp only [Act.put, List.setIfInBounds_toArray, List.set_cons_zero, List.set_cons_succ])
          refine cl_nil fun w' hw => ?_
          have R7 := hid hw
          clear hw R6
          obtain ⟨c0, c1, c2, f0, f1, f2, lt⟩ := R7.out.cells
          by_cases he : ((k : Int) + 1) % p = 0
          · have he : ((k : Int) + 1) % p = 0 := he
            rw [if_pos he] at HP
            rw [he] at t1 t2
            go_wp2_with fail
            refine (pass_is HP.out _).mono ?_
            rintro e v9 ⟨rfl, k9⟩
            have R8 := hid (R7.out.kp k9)
            clear c0 c1 c2 f0 f1 f2 lt k9 R7
            obtain ⟨c0, c1, c2, f0, f1, f2, lt⟩ := R8.out.cells
            go_wp2_with fail
            go_roundw
            case rel => exact ⟨k + 1, 0, 0, by omega, by go_num, by first | rfl | go_num, by omega, by omega, hid ⟨by unfold Bst; omega, R8.out.put3 HG.out _ _ _⟩⟩
            case measure => simp [intOf]; omega
          · rw [if_neg he] at HP
            have he' : (((k : Int) + 1) % p == 0) = false := by simp; exact he
            go_wp2_with fail
            refine (pass_is HP.out _).mono ?_
            rintro e v9 ⟨rfl, k9⟩
            have R8 := hid (R7.out.kp k9)
            clear c0 c1 c2 f0 f1 f2 lt k9 R7
            obtain ⟨c0, c1, c2, f0, f1, f2, lt⟩ := R8.out.cells
            go_wp2_with fail
            go_roundw
            case rel => exact ⟨k + 1, (h + 1), 0, by omega, by go_num, by first | rfl | go_num, by omega, by omega, hid ⟨by unfold Bst; omega, R8.out.put3 HG.out _ _ _⟩⟩
            case measure => simp [intOf]; omega
      · cases z
        · skip

          have R6 := hid (R.out.kp (Kp.refl No _).drew)
          have HL := hid (show lf q (u) = q - (u) by unfold lf; rw [if_neg (show ¬ q = 0 by omega), if_neg (show ¬ q < u by omega)])
          have wl : IntKind.i64.wrap (q - (u)) = q - (u) := wrapI ⟨by omega, by omega⟩
          have y1 : (q < u) = False := eq_false (by omega)
          have y2 : (q == 0) = false := by simp; omega
          have y3 : ((q - (u)) == (q - (u))) = true := by simp
          have HR := hid (show Rb p q (u) from ⟨by omega, by omega, by omega, by omega, by omega, by omega, by omega, by omega⟩)
          have HP := hid (ps_one (p := p) (u := u) k (by omega) g0)
          go_wp2_with fail
          refine region_all (fun w' => At w v1.heap.size 23 #[.int .i64 p, .int .i64 q, .int .i64 (u)] w') (by kernel_rfl) (by kernel_rfl) (R6.out) ?_
          repeat ((first | ((with_reducible refine cl_val (v := ?_) ?_ ?_ ?_); rotate_left; (focus (go_simp; done)); (focus (intro w' hw; obtain ⟨c0, c1, c2, f0, f1, f2, lt⟩ := hw.cells; go_simp; (try with_reducible rfl); done))) | ((with_reducible refine cl_skip ?_ ?_); (focus (first | (go_simp; done) | exact unwanted rfl rfl)))); simp only [Act.put, List.setIfInBounds_toArray, List.set_cons_zero, List.set_cons_succ])
          refine cl_call (v := .int .i64 (q - (u))) rfl (fun w' hw => by go_simp) (fun w' hw => (left_is HR.out HL.out w').mono fun e w'' ⟨he, hk⟩ => ⟨he, hw.kp hk⟩) ?_
          simp only [Act.put, List.setIfInBounds_toArray, List.set_cons_zero, List.set_cons_succ]
          repeat ((first | ((with_reducible refine cl_val (v := ?_) ?_ ?_ ?_); rotate_left; (focus (go_simp; done)); (focus (intro w' hw; obtain ⟨c0, c1, c2, f0, f1, f2, lt⟩ := hw.cells; go_simp; (try with_reducible rfl); done))) | ((with_reducible refine cl_skip ?_ ?_); (focus (first | (go_simp; done) | exact unwanted rfl rfl)))); simp only [Act.put, List.setIfInBounds_toArray, List.set_cons_zero, List.set_cons_succ])
          refine cl_nil fun w' hw => ?_
          have R7 := hid hw
          clear hw R6
          obtain ⟨c0, c1, c2, f0, f1, f2, lt⟩ := R7.out.cells
          by_cases he : ((k : Int) + 1) % p = 0
          · have he : ((k : Int) + 1) % p = 0 := he
            rw [if_pos he] at HP
            rw [he] at t1 t2
            go_wp2_with fail
            refine (pass_is HP.out _).mono ?_
            rintro e v9 ⟨rfl, k9⟩
            have R8 := hid (R7.out.kp k9)
            clear c0 c1 c2 f0 f1 f2 lt k9 R7
            obtain ⟨c0, c1, c2, f0, f1, f2, lt⟩ := R8.out.cells
            go_wp2_with fail
            go_roundw
            case rel => exact ⟨k + 1, 0, 0, by omega, by go_num, by first | rfl | go_num, by omega, by omega, hid ⟨by unfold Bst; omega, R8.out.put3 HG.out _ _ _⟩⟩
            case measure => simp [intOf]; omega
          · rw [if_neg he] at HP
            have he' : (((k : Int) + 1) % p == 0) = false := by simp; exact he
            go_wp2_with fail
            refine (pass_is HP.out _).mono ?_
            rintro e v9 ⟨rfl, k9⟩
            have R8 := hid (R7.out.kp k9)
            clear c0 c1 c2 f0 f1 f2 lt k9 R7
            obtain ⟨c0, c1, c2, f0, f1, f2, lt⟩ := R8.out.cells
            go_wp2_with fail
            go_roundw
            case rel => exact ⟨k + 1, u, u, by omega, by go_num, by first | rfl | go_num, by omega, by omega, hid ⟨by unfold Bst; omega, R8.out.put3 HG.out _ _ _⟩⟩
            case measure => simp [intOf]; omega
        · by_cases hs : u < q
          · have HR0 := hid (show Rb p q u from ⟨by omega, by omega, by omega, by omega, by omega, by omega, by omega, by omega⟩)
            have HS0 := hid (show (lf q u == 0) = false from lf_false.2 (.inr hs))
            go_wp2_with fail
            refine (shut_is HR0.out HS0.out _).mono ?_
            rintro e v5 ⟨rfl, k5⟩
            have R5 := hid (R.out.kp k5)
            clear c0 c1 c2 f0 f1 f2 lt R k5 cz
            obtain ⟨c0, c1, c2, f0, f1, f2, lt⟩ := R5.out.cells
            have HC := hid (show ch q u 1 = (u + 1) from by unfold ch; rw [if_neg (show ¬ q = 0 by omega), show tk 1 = 1 by decide]; exact tk_in (by omega) (by omega))
            go_wp2_with fail
            refine (charge_is HR0.out HC.out _).mono ?_
            rintro e v6 ⟨rfl, k6⟩
            have S6 := hid (R5.out.kp k6)
            clear c0 c1 c2 f0 f1 f2 lt R5 k6
            obtain ⟨c0, c1, c2, f0, f1, f2, lt⟩ := S6.out.cells
            have R6 := hid ((S6.out.put3 HG.out (.int .i64 p) (.int .i64 q) (.int .i64 (u + 1))).kp (Kp.refl No _).drew)
            have HL := hid (show lf q ((u + 1)) = q - ((u + 1)) by unfold lf; rw [if_neg (show ¬ q = 0 by omega), if_neg (show ¬ q < (u + 1) by omega)])
            have wl : IntKind.i64.wrap (q - ((u + 1))) = q - ((u + 1)) := wrapI ⟨by omega, by omega⟩
            have y1 : (q < (u + 1)) = False := eq_false (by omega)
            have y2 : (q == 0) = false := by simp; omega
            have y3 : ((q - ((u + 1))) == (q - ((u + 1)))) = true := by simp
            have HR := hid (show Rb p q ((u + 1)) from ⟨by omega, by omega, by omega, by omega, by omega, by omega, by omega, by omega⟩)
            have HP := hid (ps_one (p := p) (u := (u + 1)) k (by omega) g0)
            go_wp2_with fail
            refine region_all (fun w' => At w v1.heap.size 23 #[.int .i64 p, .int .i64 q, .int .i64 ((u + 1))] w') (by kernel_rfl) (by kernel_rfl) (R6.out) ?_
            repeat ((first | ((with_reducible refine cl_val (v := ?_) ?_ ?_ ?_); rotate_left; (focus (go_simp; done)); (focus (intro w' hw; obtain ⟨c0, c1, c2, f0, f1, f2, lt⟩ := hw.cells; go_simp; (try with_reducible rfl); done))) | ((with_reducible refine cl_skip ?_ ?_); (focus (first | (go_simp; done) | exact unwanted rfl rfl)))); simp only [Act.put, List.setIfInBounds_toArray, List.set_cons_zero, List.set_cons_succ])
            refine cl_call (v := .int .i64 (q - ((u + 1)))) rfl (fun w' hw => by go_simp) (fun w' hw => (left_is HR.out HL.out w').mono fun e w'' ⟨he, hk⟩ => ⟨he, hw.kp hk⟩) ?_
            simp only [Act.put, List.setIfInBounds_toArray, List.set_cons_zero, List.set_cons_succ]
            repeat ((first | ((with_reducible refine cl_val (v := ?_) ?_ ?_ ?_); rotate_left; (focus (go_simp; done)); (focus (intro w' hw; obtain ⟨c0, c1, c2, f0, f1, f2, lt⟩ := hw.cells; go_simp; (try with_reducible rfl); done))) | ((with_reducible refine cl_skip ?_ ?_); (focus (first | (go_simp; done) | exact unwanted rfl rfl)))); simp only [Act.put, List.setIfInBounds_toArray, List.set_cons_zero, List.set_cons_succ])
            refine cl_nil fun w' hw => ?_
            have R7 := hid hw
            clear hw R6
            obtain ⟨c0, c1, c2, f0, f1, f2, lt⟩ := R7.out.cells
            by_cases he : ((k : Int) + 1) % p = 0
            · have he : ((k : Int) + 1) % p = 0 := he
              rw [if_pos he] at HP
              rw [he] at t1 t2
              go_wp2_with fail
              refine (pass_is HP.out _).mono ?_
              rintro e v9 ⟨rfl, k9⟩
              have R8 := hid (R7.out.kp k9)
              clear c0 c1 c2 f0 f1 f2 lt k9 R7
              obtain ⟨c0, c1, c2, f0, f1, f2, lt⟩ := R8.out.cells
              go_wp2_with fail
              go_roundw
              case rel => exact ⟨k + 1, 0, 0, by omega, by go_num, by first | rfl | go_num, by omega, by omega, hid ⟨by unfold Bst; omega, R8.out.put3 HG.out _ _ _⟩⟩
              case measure => simp [intOf]; omega
            · rw [if_neg he] at HP
              have he' : (((k : Int) + 1) % p == 0) = false := by simp; exact he
              go_wp2_with fail
              refine (pass_is HP.out _).mono ?_
              rintro e v9 ⟨rfl, k9⟩
              have R8 := hid (R7.out.kp k9)
              clear c0 c1 c2 f0 f1 f2 lt k9 R7
              obtain ⟨c0, c1, c2, f0, f1, f2, lt⟩ := R8.out.cells
              go_wp2_with fail
              go_roundw
              case rel => exact ⟨k + 1, (u + 1), (u + 1), by omega, by go_num, by first | rfl | go_num, by omega, by omega, hid ⟨by unfold Bst; omega, R8.out.put3 HG.out _ _ _⟩⟩
              case measure => simp [intOf]; omega
          · have HR0 := hid (show Rb p q u from ⟨by omega, by omega, by omega, by omega, by omega, by omega, by omega, by omega⟩)
            have HS0 := hid (show (lf q u == 0) = true from lf_zero.2 ⟨by omega, by omega⟩)
            go_wp2_with fail
            refine (shut_is HR0.out HS0.out _).mono ?_
            rintro e v5 ⟨rfl, k5⟩
            have R5 := hid (R.out.kp k5)
            clear c0 c1 c2 f0 f1 f2 lt R k5 cz
            obtain ⟨c0, c1, c2, f0, f1, f2, lt⟩ := R5.out.cells
            have R6 := hid (R5.out.kp (Kp.refl No _).drew)
            have HL := hid (show lf q (u) = q - (u) by unfold lf; rw [if_neg (show ¬ q = 0 by omega), if_neg (show ¬ q < u by omega)])
            have wl : IntKind.i64.wrap (q - (u)) = q - (u) := wrapI ⟨by omega, by omega⟩
            have y1 : (q < u) = False := eq_false (by omega)
            have y2 : (q == 0) = false := by simp; omega
            have y3 : ((q - (u)) == (q - (u))) = true := by simp
            have HR := hid (show Rb p q (u) from ⟨by omega, by omega, by omega, by omega, by omega, by omega, by omega, by omega⟩)
            have HP := hid (ps_one (p := p) (u := u) k (by omega) g0)
            go_wp2_with fail
            refine region_all (fun w' => At w v1.heap.size 23 #[.int .i64 p, .int .i64 q, .int .i64 (u)] w') (by kernel_rfl) (by kernel_rfl) (R6.out) ?_
            repeat ((first | ((with_reducible refine cl_val (v := ?_) ?_ ?_ ?_); rotate_left; (focus (go_simp; done)); (focus (intro w' hw; obtain ⟨c0, c1, c2, f0, f1, f2, lt⟩ := hw.cells; go_simp; (try with_reducible rfl); done))) | ((with_reducible refine cl_skip ?_ ?_); (focus (first | (go_simp; done) | exact unwanted rfl rfl)))); simp only [Act.put, List.setIfInBounds_toArray, List.set_cons_zero, List.set_cons_succ])
            refine cl_call (v := .int .i64 (q - (u))) rfl (fun w' hw => by go_simp) (fun w' hw => (left_is HR.out HL.out w').mono fun e w'' ⟨he, hk⟩ => ⟨he, hw.kp hk⟩) ?_
            simp only [Act.put, List.setIfInBounds_toArray, List.set_cons_zero, List.set_cons_succ]
            repeat ((first | ((with_reducible refine cl_val (v := ?_) ?_ ?_ ?_); rotate_left; (focus (go_simp; done)); (focus (intro w' hw; obtain ⟨c0, c1, c2, f0, f1, f2, lt⟩ := hw.cells; go_simp; (try with_reducible rfl); done))) | ((with_reducible refine cl_skip ?_ ?_); (focus (first | (go_simp; done) | exact unwanted rfl rfl)))); simp only [Act.put, List.setIfInBounds_toArray, List.set_cons_zero, List.set_cons_succ])
            refine cl_nil fun w' hw => ?_
            have R7 := hid hw
            clear hw R6
            obtain ⟨c0, c1, c2, f0, f1, f2, lt⟩ := R7.out.cells
            by_cases he : ((k : Int) + 1) % p = 0
            · have he : ((k : Int) + 1) % p = 0 := he
              rw [if_pos he] at HP
              rw [he] at t1 t2
              go_wp2_with fail
              refine (pass_is HP.out _).mono ?_
              rintro e v9 ⟨rfl, k9⟩
              have R8 := hid (R7.out.kp k9)
              clear c0 c1 c2 f0 f1 f2 lt k9 R7
              obtain ⟨c0, c1, c2, f0, f1, f2, lt⟩ := R8.out.cells
              go_wp2_with fail
              go_roundw
              case rel => exact ⟨k + 1, 0, 0, by omega, by go_num, by first | rfl | go_num, by omega, by omega, hid ⟨by unfold Bst; omega, R8.out.put3 HG.out _ _ _⟩⟩
              case measure => simp [intOf]; omega
            · rw [if_neg he] at HP
              have he' : (((k : Int) + 1) % p == 0) = false := by simp; exact he
              go_wp2_with fail
              refine (pass_is HP.out _).mono ?_
              rintro e v9 ⟨rfl, k9⟩
              have R8 := hid (R7.out.kp k9)
              clear c0 c1 c2 f0 f1 f2 lt k9 R7
              obtain ⟨c0, c1, c2, f0, f1, f2, lt⟩ := R8.out.cells
              go_wp2_with fail
              go_roundw
              case rel => exact ⟨k + 1, u, u, by omega, by go_num, by first | rfl | go_num, by omega, by omega, hid ⟨by unfold Bst; omega, R8.out.put3 HG.out _ _ _⟩⟩
              case measure => simp [intOf]; omega
    · have hd := decide_eq_false (show ¬ (k : Int) < (xs.length : Int) by omega)
      have HR := hid (show decide (Rb p q u) = true from decide_eq_true (by
        rcases B.out with ⟨e, e'⟩ | ⟨e, e', e''⟩
        · subst e e'
          exact ⟨by omega, by omega, by omega, by omega, by omega, by omega, by omega, by omega⟩
        · subst e'
          exact ⟨by omega, by omega, by omega, by omega, by omega, by omega, by omega, by omega⟩))
      go_wp2_with fail
      refine (right_is HR.out _).mono ?_
      rintro e v9 ⟨rfl, k9⟩
      have R8 := hid (R.out.kp k9)
      go_wp2_with fail
      go_ret
      exact ⟨rfl, R8.out.kept⟩
end Go.Proofs.Ytnlehhmogdencaa
