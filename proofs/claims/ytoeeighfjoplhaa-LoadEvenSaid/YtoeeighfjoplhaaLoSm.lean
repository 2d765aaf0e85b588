/-
  Contract of slices.symMergeCmpFunc at []int, whatever the comparison is.
-/
import Derived.Test.YtoeeighfjoplhaaLoPa
import Derived.Test.YtoeeighfjoplhaaLoPi
import Derived.Test.YtoeeighfjoplhaaLoM
import Derived.Test.YtoeeighfjoplhaaLoX
import Derived.Deep.CutBlock
import Derived.Deep.DeepCutAuto
namespace Go.Proofs.Ytoeeighfjoplhaa
open Go.RowKit
section
variable {w0 w : World} {bk n cap : Nat} {g : FuncId} {bd cb : Array Value} {V : Int → Prop} {c : Int → Int → Int} {R : Int → Int → Prop} {F : Nat → Int}
theorem lift_r {R : Int → Int → Prop} (hR : Ord R) {a b : Nat} {f : Nat → Int} (h : Srt R a b f) {x y : Nat} {v : Int} (hx : a ≤ x) (hxy : x ≤ y) (hy : y < b) (hr : R (f y) v) : R (f x) v := by
  rcases Nat.lt_or_eq_of_le hxy with e | e
  · exact hR.tr (h x y hx e hy) hr
  · rw [e]; exact hr
theorem lift_l {R : Int → Int → Prop} (hR : Ord R) {a b : Nat} {f : Nat → Int} (h : Srt R a b f) {x y : Nat} {v : Int} (hx : a ≤ x) (hxy : x ≤ y) (hy : y < b) (hr : R v (f x)) : R v (f y) := by
  rcases Nat.lt_or_eq_of_le hxy with e | e
  · exact hR.tr hr (h x y hx e hy)
  · rw [← e]; exact hr
set_option maxRecDepth 100000 in
set_option maxHeartbeats 4000000 in
theorem one_left_any {a b : Nat} (hR : Ord R) (hC : Cmp w0 bk g bd cb V c) (h : RowF w0 w bk n F) (hV : ∀ k, k < n → V (F k)) (ham : a + 1 < b) (hbn : b ≤ n) (hn : n ≤ 1000000) (hr : Srt R (a + 1) b F) (hx : Crs c R a (a + 1) b F) :
    Calls Try.prog 76 #[.slice (some ⟨bk, 0, none⟩) n cap, .int .i64 (a : Int), .int .i64 ((a : Int) + 1), .int .i64 (b : Int), .func (.func g) bd cb] w fun e w' => e = .returned (.tuple #[]) ∧ ∃ F', RowF w0 w' bk n F' ∧ Pm a b F F' ∧ Srt R a b F' := by
  have H0 := hid h
  have HR := hid hR
  have HC := hid hC
  have HV := hid hV
  have HS := hid hr
  have HX := hid hx
  have mixed : Try.prog.follows .mixedOrders = true := by kernel_rfl
  clear h hR hC hV hr hx
  have e1 : (a : Int) + 1 - (a : Int) = 1 := by omega
  have w1 := wrapI (x := (1 : Int)) (by unfold I64; omega)
  have gan : (a : Int) < (n : Int) := by omega
  go_enter Try.func76, Try.ntmps76
  go_wp2_with fail
  go_loopw [10, 11] (fun u v wr => ∃ i j : Nat, u = .int .i64 (i : Int) ∧ v = .int .i64 (j : Int) ∧ a + 1 ≤ i ∧ i ≤ j ∧ j ≤ b ∧ Hid (RowF w0 wr bk n F) ∧ Hid ((∀ t, a + 1 ≤ t → t < i → R (F t) (F a)) ∧ (∀ t, j ≤ t → t < b → R (F a) (F t)))) (fun u v _ => (vNum v).toNat - (vNum u).toNat)
  case atStart => exact ⟨a + 1, b, by go_num, rfl, Nat.le_refl _, by omega, Nat.le_refl _, H0, hid ⟨fun t h1 h2 => by omega, fun t h1 h2 => by omega⟩⟩
  case round =>
    clear H0
    obtain ⟨i, j, rfl, rfl, hi, hij, hj, HG, HI⟩ := hrel
    by_cases hlt : i < j
    · have glt : (i : Int) < (j : Int) := by omega
      obtain ⟨h, hh⟩ : ∃ r : Nat, (i + j) / 2 = r := ⟨_, rfl⟩
      have eh : ((i : Int) + (j : Int)) / 2 = (h : Int) := by omega
      have wh := wrapI (x := (h : Int)) (by unfold I64; omega)
      have wh1 := wrapI (x := (h : Int) + 1) (by unfold I64; omega)
      have ghn : (h : Int) < (n : Int) := by omega
      obtain ⟨x, hx⟩ : ∃ x, F h = x := ⟨_, rfl⟩
      obtain ⟨y, hy⟩ : ∃ y, F a = y := ⟨_, rfl⟩
      have Hx := hid hx
      have Hy := hid hy
      clear hx hy
      have HXY := hid (show V x ∧ V y from ⟨by rw [← Hx.out]; exact HV.out _ (by omega), by rw [← Hy.out]; exact HV.out _ (by omega)⟩)
      have HSY := hid (HX.out a h (Nat.le_refl _) (by omega) (by omega) (by omega))
      rw [Hx.out, Hy.out] at HSY
      rcases HSY.out with ⟨hc, hr⟩ | ⟨hc, hr⟩
      · have HN := hid (show (∀ t, a + 1 ≤ t → t < h + 1 → R (F t) (F a)) ∧ (∀ t, j ≤ t → t < b → R (F a) (F t)) from ⟨fun t h1 h2 => lift_r HR.out HS.out (y := h) h1 (by omega) (by omega) (by rw [Hx.out, Hy.out]; exact hr), HI.out.2⟩)
        have dxy : decide (c x y < 0) = true := decide_eq_true hc
        clear hc hr
        go_upto_region 5 with fail
        refine region_all (fun W => RowF w0 W bk n F) mixed (by kernel_rfl) (HG.out.kp0 (Kp.refl No _).drew) ?_
        repeat ((first | ((with_reducible refine cl_val (v := ?_) ?_ ?_ ?_); rotate_left; (focus (go_simp; done)); (focus (intro w' hw; obtain ⟨c1, c2⟩ := And.intro (hw.cell (j := h) (by omega)) (hw.cell (j := a) (by omega)); rw [Hx.out] at c1; rw [Hy.out] at c2; go_simp; (try with_reducible rfl); done))) | ((with_reducible refine cl_skip ?_ ?_); (focus (first | (go_simp; done) | exact unwanted rfl rfl)))); simp only [Act.put, List.setIfInBounds_toArray, List.set_cons_zero, List.set_cons_succ])
        refine cl_call (v := .int .i64 (c x y)) (by first | rfl | go_simp) (fun w' hw => by first | (go_simp; exact HC.out.enters _ _) | exact HC.out.enters _ _) (fun w' hw => (HC.out.says _ hw.kp x y HXY.out.1 HXY.out.2).mono fun e w'' h => ⟨h.1, hw.kp0 h.2⟩) ?_
        simp only [Act.put, List.setIfInBounds_toArray, List.set_cons_zero, List.set_cons_succ]
        repeat ((first | ((with_reducible refine cl_val (v := ?_) ?_ ?_ ?_); rotate_left; (focus (go_simp; done)); (focus (intro w' hw; obtain ⟨c1, c2⟩ := And.intro (hw.cell (j := h) (by omega)) (hw.cell (j := a) (by omega)); rw [Hx.out] at c1; rw [Hy.out] at c2; go_simp; (try with_reducible rfl); done))) | ((with_reducible refine cl_skip ?_ ?_); (focus (first | (go_simp; done) | exact unwanted rfl rfl)))); simp only [Act.put, List.setIfInBounds_toArray, List.set_cons_zero, List.set_cons_succ])
        refine cl_nil fun w4 hw => ?_
        have HG4 := hid hw
        clear hw
        go_wp2_with fail
        go_roundw
        case rel => exact ⟨h + 1, j, by go_num, rfl, by omega, by omega, hj, HG4, HN⟩
        case measure => simp [vNum] <;> omega
      · have HN := hid (show (∀ t, a + 1 ≤ t → t < i → R (F t) (F a)) ∧ (∀ t, h ≤ t → t < b → R (F a) (F t)) from ⟨HI.out.1, fun t h1 h2 => lift_l HR.out HS.out (x := h) (by omega) h1 h2 (by rw [Hx.out, Hy.out]; exact hr)⟩)
        have dxy : decide (c x y < 0) = false := decide_eq_false hc
        clear hc hr
        go_upto_region 5 with fail
        refine region_all (fun W => RowF w0 W bk n F) mixed (by kernel_rfl) (HG.out.kp0 (Kp.refl No _).drew) ?_
        repeat ((first | ((with_reducible refine cl_val (v := ?_) ?_ ?_ ?_); rotate_left; (focus (go_simp; done)); (focus (intro w' hw; obtain ⟨c1, c2⟩ := And.intro (hw.cell (j := h) (by omega)) (hw.cell (j := a) (by omega)); rw [Hx.out] at c1; rw [Hy.out] at c2; go_simp; (try with_reducible rfl); done))) | ((with_reducible refine cl_skip ?_ ?_); (focus (first | (go_simp; done) | exact unwanted rfl rfl)))); simp only [Act.put, List.setIfInBounds_toArray, List.set_cons_zero, List.set_cons_succ])
        refine cl_call (v := .int .i64 (c x y)) (by first | rfl | go_simp) (fun w' hw => by first | (go_simp; exact HC.out.enters _ _) | exact HC.out.enters _ _) (fun w' hw => (HC.out.says _ hw.kp x y HXY.out.1 HXY.out.2).mono fun e w'' h => ⟨h.1, hw.kp0 h.2⟩) ?_
        simp only [Act.put, List.setIfInBounds_toArray, List.set_cons_zero, List.set_cons_succ]
        repeat ((first | ((with_reducible refine cl_val (v := ?_) ?_ ?_ ?_); rotate_left; (focus (go_simp; done)); (focus (intro w' hw; obtain ⟨c1, c2⟩ := And.intro (hw.cell (j := h) (by omega)) (hw.cell (j := a) (by omega)); rw [Hx.out] at c1; rw [Hy.out] at c2; go_simp; (try with_reducible rfl); done))) | ((with_reducible refine cl_skip ?_ ?_); (focus (first | (go_simp; done) | exact unwanted rfl rfl)))); simp only [Act.put, List.setIfInBounds_toArray, List.set_cons_zero, List.set_cons_succ])
        refine cl_nil fun w4 hw => ?_
        have HG4 := hid hw
        clear hw
        go_wp2_with fail
        go_roundw
        case rel => exact ⟨i, h, rfl, by go_num, hi, by omega, by omega, HG4, HN⟩
        case measure => simp [vNum] <;> omega
    · obtain rfl : j = i := by omega
      have glt : ¬ (j : Int) < (j : Int) := by omega
      obtain ⟨ip, hip⟩ : ∃ r : Nat, j - 1 = r := ⟨_, rfl⟩
      have eip : (j : Int) - 1 = (ip : Int) := by omega
      have wip := wrapI (x := (ip : Int)) (by unfold I64; omega)
      have HF := hid (one_up HS.out hi hj HI.out.1 HI.out.2)
      clear HI
      go_wp2_with fail
      go_loopw [13] (fun u wr => ∃ (k : Nat) (G : Nat → Int), u = .int .i64 (k : Int) ∧ a ≤ k ∧ k ≤ ip ∧ Hid (RowF w0 wr bk n G) ∧ Hid (G = rotF a (a + 1) (k + 1) F) ∧ Hid (Pm a b F G)) (fun u _ => ip - (vNum u).toNat)
      case atStart => exact ⟨a, F, by go_num, Nat.le_refl _, by omega, HG, hid rot_id2.symm, hid .rfl'⟩
      case round =>
        clear HG
        obtain ⟨k, G, rfl, hak, hki, HG, HE, HP⟩ := hrel
        obtain ⟨k1, hk1⟩ : ∃ r : Nat, k + 1 = r := ⟨_, rfl⟩
        have ek1 : (k : Int) + 1 = (k1 : Int) := by omega
        have wk1 := wrapI (x := (k1 : Int)) (by unfold I64; omega)
        by_cases hlt2 : k < ip
        · have glt2 : (k : Int) < (ip : Int) := by omega
          have gkn : (k : Int) < (n : Int) := by omega
          have gk1n : (k1 : Int) < (n : Int) := by omega
          go_wp2_with fail
          obtain ⟨x, hx⟩ : ∃ x, G k = x := ⟨_, rfl⟩
          obtain ⟨y, hy⟩ : ∃ y, G k1 = y := ⟨_, rfl⟩
          have Hx := hid hx
          have Hy := hid hy
          clear hx hy
          have cA := HG.out.cell (j := k) (by omega)
          have cB := HG.out.cell (j := k1) (by omega)
          have fA := HG.out.frozen k
          have fB := HG.out.frozen k1
          rw [Hx.out] at cA
          rw [Hy.out] at cB
          obtain ⟨uC, cC⟩ := HG.out.c2 (x := k) (y := k1) (by omega) (by omega) (.int .i64 y)
          have HG2 := hid ((HG.out.swapq (x := k) (y := k1) (by omega) (by omega)).kp0 (Kp.refl No _).drew)
          rw [Hx.out, Hy.out] at HG2
          go_wp2_with fail
          go_big_region_o
          clear cA cB cC fA fB
          generalize World.drew (World.setCell (World.setCell wr ⟨bk, k, none⟩ (.int .i64 y)) ⟨bk, k1, none⟩ (.int .i64 x)) = w2 at HG2 ⊢
          have HE2 := hid (show swp2 k k1 G = rotF a (a + 1) (k1 + 1) F from by rw [HE.out, ← hk1]; exact rot_up hak)
          have HP2 := hid (HP.out.sw (x := k) (y := k1) (by omega) (by omega) (by omega) (by omega))
          go_wp2_with fail
          go_roundw
          case rel => exact ⟨k1, _, by go_num, by omega, by omega, HG2, HE2, HP2⟩
          case measure => simp [vNum] <;> omega
        · have glt2 : ¬ (k : Int) < (ip : Int) := by omega
          go_wp2_with fail
          (try simp only [Exit.inBlock, Exit.then])
          refine bodyPost_ret (results_none rfl _ _ _) rfl ?_
          exact ⟨rfl, G, HG.out, HP.out, by rw [HE.out, show k + 1 = j from by omega]; exact HF.out⟩
set_option maxRecDepth 100000 in
set_option maxHeartbeats 4000000 in
theorem one_right_any {a m : Nat} (hR : Ord R) (hC : Cmp w0 bk g bd cb V c) (h : RowF w0 w bk n F) (hV : ∀ k, k < n → V (F k)) (ham : a + 1 < m) (hbn : m + 1 ≤ n) (hn : n ≤ 1000000) (hl : Srt R a m F) (hx : Crs c R a m (m + 1) F) :
    Calls Try.prog 76 #[.slice (some ⟨bk, 0, none⟩) n cap, .int .i64 (a : Int), .int .i64 (m : Int), .int .i64 ((m : Int) + 1), .func (.func g) bd cb] w fun e w' => e = .returned (.tuple #[]) ∧ ∃ F', RowF w0 w' bk n F' ∧ Pm a (m + 1) F F' ∧ Srt R a (m + 1) F' := by
  have H0 := hid h
  have HR := hid hR
  have HC := hid hC
  have HV := hid hV
  have HS := hid hl
  have HX := hid hx
  have mixed : Try.prog.follows .mixedOrders = true := by kernel_rfl
  clear h hR hC hV hl hx
  obtain ⟨d, hd⟩ : ∃ r : Nat, m - a = r := ⟨_, rfl⟩
  have ed : (m : Int) - (a : Int) = (d : Int) := by omega
  have wd := wrapI (x := (d : Int)) (by unfold I64; omega)
  have gd : ((d : Int) == 1) = false := by rw [beq_eq_false_iff_ne]; omega
  have gd' : ¬ (d : Int) = 1 := by omega
  have gd2 : ¬ d = 1 := by omega
  have e1 : (m : Int) + 1 - (m : Int) = 1 := by omega
  have w1 := wrapI (x := (1 : Int)) (by unfold I64; omega)
  have gmn : (m : Int) < (n : Int) := by omega
  go_enter Try.func76, Try.ntmps76
  go_wp2_with fail
  go_loopw [14, 15] (fun u v wr => ∃ i j : Nat, u = .int .i64 (i : Int) ∧ v = .int .i64 (j : Int) ∧ a ≤ i ∧ i ≤ j ∧ j ≤ m ∧ Hid (RowF w0 wr bk n F) ∧ Hid ((∀ t, a ≤ t → t < i → R (F t) (F m)) ∧ (∀ t, j ≤ t → t < m → R (F m) (F t)))) (fun u v _ => (vNum v).toNat - (vNum u).toNat)
  case atStart => exact ⟨a, m, rfl, rfl, Nat.le_refl _, by omega, Nat.le_refl _, H0, hid ⟨fun t h1 h2 => by omega, fun t h1 h2 => by omega⟩⟩
  case round =>
    clear H0
    obtain ⟨i, j, rfl, rfl, hi, hij, hj, HG, HI⟩ := hrel
    by_cases hlt : i < j
    · have glt : (i : Int) < (j : Int) := by omega
      obtain ⟨h, hh⟩ : ∃ r : Nat, (i + j) / 2 = r := ⟨_, rfl⟩
      have eh : ((i : Int) + (j : Int)) / 2 = (h : Int) := by omega
      have wh := wrapI (x := (h : Int)) (by unfold I64; omega)
      have wh1 := wrapI (x := (h : Int) + 1) (by unfold I64; omega)
      have ghn : (h : Int) < (n : Int) := by omega
      obtain ⟨x, hx⟩ : ∃ x, F m = x := ⟨_, rfl⟩
      obtain ⟨y, hy⟩ : ∃ y, F h = y := ⟨_, rfl⟩
      have Hx := hid hx
      have Hy := hid hy
      clear hx hy
      have HXY := hid (show V x ∧ V y from ⟨by rw [← Hx.out]; exact HV.out _ (by omega), by rw [← Hy.out]; exact HV.out _ (by omega)⟩)
      have HSY := hid (HX.out h m (by omega) (by omega) (Nat.le_refl _) (by omega))
      rw [Hx.out, Hy.out] at HSY
      rcases HSY.out with ⟨hc, hr⟩ | ⟨hc, hr⟩
      · have HN := hid (show (∀ t, a ≤ t → t < i → R (F t) (F m)) ∧ (∀ t, h ≤ t → t < m → R (F m) (F t)) from ⟨HI.out.1, fun t h1 h2 => lift_l HR.out HS.out (x := h) (by omega) h1 h2 (by rw [Hx.out, Hy.out]; exact hr)⟩)
        have dxy : decide (c x y < 0) = true := decide_eq_true hc
        clear hc hr
        go_upto_region 17 with fail
        refine region_all (fun W => RowF w0 W bk n F) mixed (by kernel_rfl) (HG.out.kp0 (Kp.refl No _).drew) ?_
        repeat ((first | ((with_reducible refine cl_val (v := ?_) ?_ ?_ ?_); rotate_left; (focus (go_simp; done)); (focus (intro w' hw; obtain ⟨c1, c2⟩ := And.intro (hw.cell (j := m) (by omega)) (hw.cell (j := h) (by omega)); rw [Hx.out] at c1; rw [Hy.out] at c2; go_simp; (try with_reducible rfl); done))) | ((with_reducible refine cl_skip ?_ ?_); (focus (first | (go_simp; done) | exact unwanted rfl rfl)))); simp only [Act.put, List.setIfInBounds_toArray, List.set_cons_zero, List.set_cons_succ])
        refine cl_call (v := .int .i64 (c x y)) (by first | rfl | go_simp) (fun w' hw => by first | (go_simp; exact HC.out.enters _ _) | exact HC.out.enters _ _) (fun w' hw => (HC.out.says _ hw.kp x y HXY.out.1 HXY.out.2).mono fun e w'' h => ⟨h.1, hw.kp0 h.2⟩) ?_
        simp only [Act.put, List.setIfInBounds_toArray, List.set_cons_zero, List.set_cons_succ]
        repeat ((first | ((with_reducible refine cl_val (v := ?_) ?_ ?_ ?_); rotate_left; (focus (go_simp; done)); (focus (intro w' hw; obtain ⟨c1, c2⟩ := And.intro (hw.cell (j := m) (by omega)) (hw.cell (j := h) (by omega)); rw [Hx.out] at c1; rw [Hy.out] at c2; go_simp; (try with_reducible rfl); done))) | ((with_reducible refine cl_skip ?_ ?_); (focus (first | (go_simp; done) | exact unwanted rfl rfl)))); simp only [Act.put, List.setIfInBounds_toArray, List.set_cons_zero, List.set_cons_succ])
        refine cl_nil fun w4 hw => ?_
        have HG4 := hid hw
        clear hw
        go_wp2_with fail
        go_roundw
        case rel => exact ⟨i, h, rfl, by go_num, hi, by omega, by omega, HG4, HN⟩
        case measure => simp [vNum] <;> omega
      · have HN := hid (show (∀ t, a ≤ t → t < h + 1 → R (F t) (F m)) ∧ (∀ t, j ≤ t → t < m → R (F m) (F t)) from ⟨fun t h1 h2 => lift_r HR.out HS.out (y := h) h1 (by omega) (by omega) (by rw [Hx.out, Hy.out]; exact hr), HI.out.2⟩)
        have dxy : decide (c x y < 0) = false := decide_eq_false hc
        clear hc hr
        go_upto_region 17 with fail
        refine region_all (fun W => RowF w0 W bk n F) mixed (by kernel_rfl) (HG.out.kp0 (Kp.refl No _).drew) ?_
        repeat ((first | ((with_reducible refine cl_val (v := ?_) ?_ ?_ ?_); rotate_left; (focus (go_simp; done)); (focus (intro w' hw; obtain ⟨c1, c2⟩ := And.intro (hw.cell (j := m) (by omega)) (hw.cell (j := h) (by omega)); rw [Hx.out] at c1; rw [Hy.out] at c2; go_simp; (try with_reducible rfl); done))) | ((with_reducible refine cl_skip ?_ ?_); (focus (first | (go_simp; done) | exact unwanted rfl rfl)))); simp only [Act.put, List.setIfInBounds_toArray, List.set_cons_zero, List.set_cons_succ])
        refine cl_call (v := .int .i64 (c x y)) (by first | rfl | go_simp) (fun w' hw => by first | (go_simp; exact HC.out.enters _ _) | exact HC.out.enters _ _) (fun w' hw => (HC.out.says _ hw.kp x y HXY.out.1 HXY.out.2).mono fun e w'' h => ⟨h.1, hw.kp0 h.2⟩) ?_
        simp only [Act.put, List.setIfInBounds_toArray, List.set_cons_zero, List.set_cons_succ]
        repeat ((first | ((with_reducible refine cl_val (v := ?_) ?_ ?_ ?_); rotate_left; (focus (go_simp; done)); (focus (intro w' hw; obtain ⟨c1, c2⟩ := And.intro (hw.cell (j := m) (by omega)) (hw.cell (j := h) (by omega)); rw [Hx.out] at c1; rw [Hy.out] at c2; go_simp; (try with_reducible rfl); done))) | ((with_reducible refine cl_skip ?_ ?_); (focus (first | (go_simp; done) | exact unwanted rfl rfl)))); simp only [Act.put, List.setIfInBounds_toArray, List.set_cons_zero, List.set_cons_succ])
        refine cl_nil fun w4 hw => ?_
        have HG4 := hid hw
        clear hw
        go_wp2_with fail
        go_roundw
        case rel => exact ⟨h + 1, j, by go_num, rfl, by omega, by omega, hj, HG4, HN⟩
        case measure => simp [vNum] <;> omega
    · obtain rfl : j = i := by omega
      have glt : ¬ (j : Int) < (j : Int) := by omega
      have HF := hid (one_dn HS.out hi hj HI.out.1 HI.out.2)
      clear HI
      go_wp2_with fail
      go_loopw [17] (fun u wr => ∃ (k : Nat) (G : Nat → Int), u = .int .i64 (k : Int) ∧ j ≤ k ∧ k ≤ m ∧ Hid (RowF w0 wr bk n G) ∧ Hid (G = rotF k m (m + 1) F) ∧ Hid (Pm a (m + 1) F G)) (fun u _ => (vNum u).toNat)
      case atStart => exact ⟨m, F, rfl, hj, Nat.le_refl _, HG, hid rot_id1.symm, hid .rfl'⟩
      case round =>
        clear HG
        obtain ⟨k, G, rfl, hak, hki, HG, HE, HP⟩ := hrel
        by_cases hlt2 : j < k
        · have glt2 : (j : Int) < (k : Int) := by omega
          obtain ⟨k1, hk1⟩ : ∃ r : Nat, k - 1 = r := ⟨_, rfl⟩
          have ek1 : (k : Int) - 1 = (k1 : Int) := by omega
          have wk1 := wrapI (x := (k1 : Int)) (by unfold I64; omega)
          have gkn : (k : Int) < (n : Int) := by omega
          have gk1n : (k1 : Int) < (n : Int) := by omega
          go_wp2_with fail
          obtain ⟨x, hx⟩ : ∃ x, G k = x := ⟨_, rfl⟩
          obtain ⟨y, hy⟩ : ∃ y, G k1 = y := ⟨_, rfl⟩
          have Hx := hid hx
          have Hy := hid hy
          clear hx hy
          have cA := HG.out.cell (j := k) (by omega)
          have cB := HG.out.cell (j := k1) (by omega)
          have fA := HG.out.frozen k
          have fB := HG.out.frozen k1
          rw [Hx.out] at cA
          rw [Hy.out] at cB
          obtain ⟨uC, cC⟩ := HG.out.c2 (x := k) (y := k1) (by omega) (by omega) (.int .i64 y)
          have HG2 := hid ((HG.out.swapq (x := k) (y := k1) (by omega) (by omega)).kp0 (Kp.refl No _).drew)
          rw [Hx.out, Hy.out] at HG2
          go_wp2_with fail
          go_big_region_o
          clear cA cB cC fA fB
          generalize World.drew (World.setCell (World.setCell wr ⟨bk, k, none⟩ (.int .i64 y)) ⟨bk, k1, none⟩ (.int .i64 x)) = w2 at HG2 ⊢
          have HE2 := hid (show swp2 k k1 G = rotF k1 m (m + 1) F from by
            obtain rfl : k = k1 + 1 := by omega
            rw [HE.out]; exact rot_dn (by omega))
          have HP2 := hid (HP.out.sw (x := k) (y := k1) (by omega) (by omega) (by omega) (by omega))
          go_wp2_with fail
          go_roundw
          case rel => exact ⟨k1, _, by go_num, by omega, by omega, HG2, HE2, HP2⟩
          case measure => simp [vNum] <;> omega
        · have glt2 : ¬ (j : Int) < (k : Int) := by omega
          go_wp2_with fail
          (try simp only [Exit.inBlock, Exit.then])
          refine bodyPost_ret (results_none rfl _ _ _) rfl ?_
          exact ⟨rfl, G, HG.out, HP.out, by rw [HE.out, show k = j from by omega]; exact HF.out⟩
end
end Go.Proofs.Ytoeeighfjoplhaa
