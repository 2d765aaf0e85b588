/-
  The walk of PaceParts.
-/
import Derived.Test.YtgkeljioefiljaaPaceTickW
import Derived.Test.YtgkeljioefiljaaArgs
namespace Go.Proofs.Ytgkeljioefiljaa
open Go.RowKit

theorem pacePt_at {α : Type} {f : α → Value} {d : α} {w0 w : World} {P : Nat → Prop} {A : Option Addr} {n c : Nat} {xs : List α} (h : Sl f d w0 P (.slice A n c) xs) (k : Kp No w0 w) {j b o : Nat} (hj : j < xs.length) (hA : A = some ⟨b, o, none⟩) :
    w.cell? ⟨b, o + j, none⟩ = some (f (xs.getD j d)) := by
  obtain ⟨A', c', he, _, _, hr⟩ := h.kp k fun _ _ _ h => h
  injection he with e1 _ e3
  subst e1 e3
  obtain ⟨b', o', e8, _, _, hc⟩ := hr (by omega)
  rw [hA] at e8
  cases e8
  exact hc j hj
theorem pacePt_some {α : Type} {f : α → Value} {d : α} {w0 : World} {P : Nat → Prop} {A : Option Addr} {n c : Nat} {xs : List α} (h : Sl f d w0 P (.slice A n c) xs) (h0 : 0 < xs.length) : ∃ b o, A = some ⟨b, o, none⟩ := by
  obtain ⟨A', c', he, _, _, hr⟩ := h
  injection he with e1 _ e3
  subst e1 e3
  obtain ⟨b', o', e8, _⟩ := hr h0
  exact ⟨b', o', e8⟩

theorem pacePt_math {G W n : Int} (h : 0 < W) : G / W + (n + G % W) / W = (n + G) / W ∧ (n + G % W) % W = (n + G) % W := by
  have e : G = W * (G / W) + G % W := (Int.mul_ediv_add_emod G W).symm
  constructor
  · have : n + G = (n + G % W) + W * (G / W) := by omega
    rw [this, Int.add_mul_ediv_left _ _ (by omega)]
    omega
  · rw [Int.add_emod, Int.emod_emod, ← Int.add_emod]

/-- A pace behind so many ticks. -/
def pv (v r W s : Int) : Int := v + (1048576 * s + r) / W
def pr (r W s : Int) : Int := (1048576 * s + r) % W

theorem pv_step {v r W s n : Int} (h : 0 < W) : pv v r W s + (1048576 * n + pr r W s) / W = pv v r W (s + n) ∧ (1048576 * n + pr r W s) % W = pr r W (s + n) := by
  obtain ⟨h1, h2⟩ := pacePt_math (G := 1048576 * s + r) (n := 1048576 * n) h
  have e : 1048576 * n + (1048576 * s + r) = 1048576 * (s + n) + r := by omega
  rw [e] at h1 h2
  unfold pv pr
  exact ⟨by omega, h2⟩
theorem pv_can {v r x s : Int} (h : can v r x = true) (hv : v ≤ 1152921504606846976) (h0 : 0 ≤ s) (h1 : s ≤ 1000000000) : can (pv v r (wt x) s) (pr r (wt x) s) x = true := by
  obtain ⟨a1, a2, a3, a4⟩ := can_iff.1 h
  have hb := wt_bd x
  have q0 : 0 ≤ (1048576 * s + r) / wt x := Int.ediv_nonneg (by omega) (by omega)
  have q1 : (1048576 * s + r) / wt x ≤ 1048576 * s + r := Int.ediv_le_self _ (by omega)
  refine can_iff.2 ⟨?_, ?_, Int.emod_nonneg _ (by omega), Int.emod_lt_of_pos _ (by omega)⟩ <;> unfold pv <;> omega
theorem pv_zero {v r x : Int} (h : can v r x = true) : pv v r (wt x) 0 = v ∧ pr r (wt x) 0 = r := by
  obtain ⟨a1, a2, a3, a4⟩ := can_iff.1 h
  unfold pv pr
  rw [Int.mul_zero, Int.zero_add, Int.ediv_eq_zero_of_lt a3 a4, Int.emod_eq_of_lt a3 a4]
  exact ⟨by omega, rfl⟩
theorem tk_id {s : Int} (h0 : 0 ≤ s) (h1 : s ≤ 1099511627776) : tk s = s := by unfold tk; split <;> (try split) <;> omega
theorem At2.put2 {a w : World} {t : TypeId} {g p : Nat} {x y x' y' : Value} (h : At2 a t g p x y x' y' w) (hn : g ≠ p) (hp : a.heap.size ≤ p) (u z : Value) : At2 a t g p x y u z ((w.setCell ⟨p, 0, none⟩ u).setCell ⟨p, 1, none⟩ z) :=
  ⟨kp_put h.kept hp, (h.one.kp (Kp.set1 _ _ _ _) hn).kp (Kp.set1 _ _ _ _) hn, (h.two.put 0 u).put 1 z⟩

theorem paceParts_walk (w : World) (v r x : Int) (u : Value) {xs : List Int} (_ : I64 v) (_ : I64 r) (_ : I64 x) (hu : Sl (Value.int .u32) 0 w Anyb u xs ∧ ∀ z ∈ xs, (Lit.int .u32 z).wf = true) :
    Calls Try.prog 5 #[.agg #[.int .i64 v, .int .i64 r], .int .i64 x, u] w fun e w' => e = .returned (.bool true) ∧ Kp No w w' := by
  have HU := hid hu.1
  have HX := hid hu.2
  obtain ⟨hu1, _⟩ := hu
  obtain ⟨A, c, rfl, hc, hmx, _⟩ := hu1
  unfold maxLen at hmx
  go_enter Try.func5, Try.ntmps5
  go_wp2_with fail
  refine (awake_any _).mono ?_
  rintro e w1 ⟨rfl, k1⟩
  have B1 := hid ((Blk.new w _ _).kp0 k1)
  have K1 := hid (((Kp.refl No w).alloc _).trans k1)
  obtain ⟨c0, c1, lt⟩ := B1.out.two
  clear k1
  go_wp2_with fail
  refine (refright_any v r x _).mono ?_
  rintro e w2 ⟨rfl, k2⟩
  have B2 := hid (B1.out.kp0 k2)
  have K2 := hid (K1.out.trans k2)
  clear c0 c1 lt B1 K1 k2
  obtain ⟨c0, c1, lt⟩ := B2.out.two
  cases hc : can v r x
  · go_wp2_with fail
    go_ret
    exact ⟨rfl, K2.out⟩
  · by_cases hl : 20 < xs.length
    · have hb1 : decide ((20 : Int) < (xs.length : Int)) = true := by simp; omega
      go_wp2
      go_ret
      exact ⟨rfl, K2.out⟩
    · have hb1 : decide ((20 : Int) < (xs.length : Int)) = false := by simp; omega
      by_cases hfar : 1152921504606846976 < v
      · have hb2 : decide (1152921504606846976 < v) = true := by simp; omega
        go_wp2
        go_ret
        exact ⟨rfl, K2.out⟩
      · have hb2 : decide (1152921504606846976 < v) = false := by simp; omega
        have HC := hid hc
        clear hc
        go_wp2_with fail
        have A2 : At2 w 23 w.heap.size w2.heap.size (.int .i64 v) (.int .i64 r) (.int .i64 (pv v r (wt x) 0)) (.int .i64 (pr r (wt x) 0)) (w2.alloc (.cells #[.int .i64 v, .int .i64 r] 23)) := by
          rw [(pv_zero HC.out).1, (pv_zero HC.out).2]
          exact ⟨K2.out.alloc _, B2.out.kp0 ((Kp.refl No w2).alloc _), Blk.new _ _ _⟩
        have HA2 := hid A2
        have HG := hid (Nat.lt_of_lt_of_le B2.out.lt (Nat.le_refl _))
        have HG2 := hid K2.out.size
        clear A2 hb1 hb2 c0 c1 lt B2 K2
        go_loopw [10, 11] (fun s i wr => ∃ (k : Nat) (S : Int), k ≤ xs.length ∧ i = .int .i64 k ∧ s = .int .i64 S ∧ 0 ≤ S ∧ S ≤ 999999 * k ∧ Hid (At2 w 23 w.heap.size w2.heap.size (.int .i64 v) (.int .i64 r) (.int .i64 (pv v r (wt x) S)) (.int .i64 (pr r (wt x) S)) wr)) (fun _ i _ => xs.length - (intOf i).toNat)
        case atStart => exact ⟨0, 0, Nat.zero_le _, rfl, rfl, by omega, by omega, HA2⟩
        case round =>
          obtain ⟨k, S, hk, rfl, rfl, s0, s1, HH⟩ := hrel
          clear HA2
          by_cases hlt : k < xs.length
          · have hlt' : (k : Int) < (xs.length : Int) := by omega
            obtain ⟨b1, o1, rfl⟩ := pacePt_some HU.out (by omega)
            have cz := pacePt_at HU.out HH.out.kept hlt rfl
            obtain ⟨z, hz⟩ : ∃ z, xs.getD k 0 = z := ⟨_, rfl⟩
            rw [hz] at cz
            have zb : 0 ≤ z ∧ z ≤ 4294967295 := by
              have := bounds_u32 (HX.out z (by rw [← hz]; simp [List.getD, hlt]))
              exact this
            obtain ⟨n, hn⟩ : ∃ n, z % 1000000 = n := ⟨_, rfl⟩
            have n0 : 0 ≤ n := by omega
            have n1 : n ≤ 999999 := by omega
            have f1 : z.tmod 1000000 = n := by rw [Int.tmod_eq_emod_of_nonneg zb.1]; exact hn
            have f2 : IntKind.i64.wrap n = n := wrapI ⟨by omega, by omega⟩
            have f3 : IntKind.i64.wrap (S + n) = S + n := wrapI ⟨by omega, by omega⟩
            obtain ⟨a, ha⟩ : ∃ a, pv v r (wt x) S = a := ⟨_, rfl⟩
            obtain ⟨b, hb⟩ : ∃ b, pr r (wt x) S = b := ⟨_, rfl⟩
            have hst := pv_step (v := v) (r := r) (W := wt x) (s := S) (n := n) (by have := wt_bd x; omega)
            have hcn := pv_can HC.out (by omega) s0 (by omega)
            rw [ha, hb] at hst hcn HH
            have HS := hid hst
            have HN := hid hcn
            have HT := hid (tk_id (s := n) n0 (by omega))
            obtain ⟨c0, c1, d0, d1, _⟩ := HH.out.all
            have ltp := HH.out.two.lt
            clear hst hcn ha hb hz hn
            go_wp2_with fail
            refine (run_is (a := pv v r (wt x) (S + n)) (b := pr r (wt x) (S + n)) HN.out (by rw [HT.out]; exact HS.out.1) (by rw [HT.out]; exact HS.out.2)).mono ?_
            rintro e w5 ⟨rfl, k5⟩
            have H5 := hid (HH.out.kp k5)
            clear c0 c1 d0 d1 ltp cz k5
            obtain ⟨c0, c1, d0, d1, _⟩ := H5.out.all
            have ltp := H5.out.two.lt
            have z0 := H5.out.two.frozen 0
            have z1 := H5.out.two.frozen 1
            go_wp2
            go_roundw
            case rel => exact ⟨k + 1, S + n, by omega, by go_num, by go_num, by omega, by omega, hid (H5.out.put2 (by have := HG.out; omega) HG2.out _ _)⟩
            case measure => simp [intOf]; omega
          · have hlt' : ¬ (k : Int) < (xs.length : Int) := by omega
            have hd := decide_eq_false hlt'
            have A5 := HH.out.kp (Kp.refl No _).drew
            obtain ⟨a, ha⟩ : ∃ a, pv v r (wt x) S = a := ⟨_, rfl⟩
            obtain ⟨b, hb⟩ : ∃ b, pr r (wt x) S = b := ⟨_, rfl⟩
            rw [ha, hb] at A5
            have HP := hid (show v + (1048576 * tk S + r) / wt x = a ∧ (1048576 * tk S + r) % wt x = b by rw [tk_id s0 (by omega)]; exact ⟨ha, hb⟩)
            have H0 := hid (show v + (1048576 * tk 0 + r) / wt x = v ∧ (1048576 * tk 0 + r) % wt x = r from pv_zero HC.out)
            have H1 := hid (show v + (1048576 * tk (-1) + r) / wt x = v ∧ (1048576 * tk (-1) + r) % wt x = r from pv_zero HC.out)
            have q0 : (a == a) = true := by simp
            have q1 : (b == b) = true := by simp
            have q2 : (v == v) = true := by simp
            have q3 : (r == r) = true := by simp
            clear ha hb s0 s1 HH
            go_wp2_with fail
            go_region_held3 (fun w' => w'.cell? ⟨w.heap.size, 0, none⟩ = some (.int .i64 v) ∧ w'.cell? ⟨w.heap.size, 1, none⟩ = some (.int .i64 r) ∧ w'.cell? ⟨w2.heap.size, 0, none⟩ = some (.int .i64 a) ∧ w'.cell? ⟨w2.heap.size, 1, none⟩ = some (.int .i64 b) ∧
                At2 w 23 w.heap.size w2.heap.size (.int .i64 v) (.int .i64 r) (.int .i64 a) (.int .i64 b) w')
              (first | exact A5.all | exact At2.stepc (by assumption) (by assumption))
              (first
                | (go_at_call 13; with_reducible refine (run_is (v := v) (r := r) (x := x) (t := S) HC.out HP.out.1 HP.out.2).mono ?_; rintro e w5 ⟨rfl, k5⟩)
                | (go_at_call 13; with_reducible refine (run_is (v := v) (r := r) (x := x) (t := 0) HC.out H0.out.1 H0.out.2).mono ?_; rintro e w5 ⟨rfl, k5⟩)
                | (go_at_call 13; with_reducible refine (run_is (v := v) (r := r) (x := x) (t := -1) HC.out H1.out.1 H1.out.2).mono ?_; rintro e w5 ⟨rfl, k5⟩))
            go_wp2_with fail
            go_ret
            rename_i hh
            exact ⟨rfl, hh.2.2.2.2.kept⟩
end Go.Proofs.Ytgkeljioefiljaa
