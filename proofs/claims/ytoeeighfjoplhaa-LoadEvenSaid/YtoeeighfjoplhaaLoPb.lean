/-
  Contract of slices.partitionCmpFunc at []int, whatever the comparison is.
-/
import Derived.Test.YtoeeighfjoplhaaLoPi
import Derived.Test.YtoeeighfjoplhaaLoPa
import Derived.Deep.CutBlock
import Derived.Deep.DeepCutAuto
namespace Go.Proofs.Ytoeeighfjoplhaa
open Go.RowKit
section
variable {w0 w : World} {bk n cap : Nat} {g : FuncId} {bd cb : Array Value} {V : Int → Prop} {c : Int → Int → Int} {R : Int → Int → Prop} {F : Nat → Int}
set_option maxRecDepth 100000 in
set_option maxHeartbeats 4000000 in
theorem partition_any {a b pv : Nat} (hT : Tot R V c) (hC : Cmp w0 bk g bd cb V c) (h : RowF w0 w bk n F) (hV : ∀ k, k < n → V (F k)) (hd : Dis n F) (hap : a ≤ pv) (hpb : pv < b) (hbn : b ≤ n) (hn : n ≤ 1000000) :
    Calls Try.prog 66 #[.slice (some ⟨bk, 0, none⟩) n cap, .int .i64 (a : Int), .int .i64 (b : Int), .int .i64 (pv : Int), .func (.func g) bd cb] w fun e w' => ∃ (m : Nat) (q : Bool), e = .returned (.tuple #[.int .i64 (m : Int), .bool q]) ∧ ∃ F', RowF w0 w' bk n F' ∧ Pm a b F F' ∧ Part R a b m F' := by
  have H0 := hid h
  have HT := hid hT
  have HC := hid hC
  have HV := hid hV
  have HD := hid hd
  have mixed : Try.prog.follows .mixedOrders = true := by kernel_rfl
  have gan : (a : Int) < (n : Int) := by omega
  have gpv : (pv : Int) < (n : Int) := by omega
  have wa1 := wrapI (x := (a : Int) + 1) (by unfold I64; omega)
  have wb1 := wrapI (x := (b : Int) - 1) (by unfold I64; omega)
  clear h hT hC hV hd
  go_enter Try.func66, Try.ntmps66
  go_wp2_with fail
  obtain ⟨x0, hx0⟩ : ∃ x, F a = x := ⟨_, rfl⟩
  obtain ⟨y0, hy0⟩ : ∃ y, F pv = y := ⟨_, rfl⟩
  have Hx0 := hid hx0
  have Hy0 := hid hy0
  clear hx0 hy0
  have cA := H0.out.cell (j := a) (by omega)
  have cB := H0.out.cell (j := pv) (by omega)
  have fA := H0.out.frozen a
  have fB := H0.out.frozen pv
  rw [Hx0.out] at cA
  rw [Hy0.out] at cB
  obtain ⟨uC, cC⟩ := H0.out.c2 (x := a) (y := pv) (by omega) (by omega) (.int .i64 y0)
  have HG := hid ((H0.out.swapq (x := a) (y := pv) (by omega) (by omega)).kp0 (Kp.refl No _).drew)
  rw [Hx0.out, Hy0.out] at HG
  go_wp2_with fail
  go_big_region_o
  clear cA cB cC fA fB
  generalize World.drew (World.setCell (World.setCell w ⟨bk, a, none⟩ (.int .i64 y0)) ⟨bk, pv, none⟩ (.int .i64 x0)) = w1 at HG ⊢
  have HI := hid (PI.start (R := R) (show a < b by omega) (Pm.sw (Pm.rfl' (f := F)) (x := a) (y := pv) (by omega) (by omega) (by omega) (by omega)))
  obtain ⟨G, hG⟩ : ∃ G, swp2 a pv F = G := ⟨_, rfl⟩
  rw [hG] at HG HI
  clear hG H0
  have HVG := hid (HI.out.pm.vals HV.out hbn)
  have HDG := hid (HI.out.pm.dis hbn HD.out)
  obtain ⟨i0, hi0⟩ : ∃ q : Nat, a + 1 = q := ⟨_, rfl⟩
  obtain ⟨j0, hj0⟩ : ∃ q : Nat, b - 1 = q := ⟨_, rfl⟩
  have ei0 : (a : Int) + 1 = (i0 : Int) := by omega
  have ej0 : (b : Int) - 1 = (j0 : Int) := by omega
  rw [hi0, hj0] at HI
  go_upto_block 0 with fail
  go_cut [12] (fun u wx => ∃ p : Nat, u = .int .i64 (p : Int) ∧ Hid (RowF w0 wx bk n G) ∧ Hid (PI R a b p j0 F G) ∧ Hid (p ≤ j0 → ¬ c (G p) (G a) < 0) ∧ i0 ≤ p)
  case first =>
    go_wp2_with fail
    go_loopw [12] (fun u wr => ∃ p : Nat, u = .int .i64 (p : Int) ∧ Hid (RowF w0 wr bk n G) ∧ Hid (PI R a b p j0 F G) ∧ i0 ≤ p) (fun u _ => j0 + 1 - (vNum u).toNat)
    case atStart => exact ⟨i0, by go_num, HG, HI, Nat.le_refl _⟩
    case round =>
      clear HG HI
      obtain ⟨p, rfl, HG1, HI1, hip⟩ := hrel
      have hpb := HI1.out.ij
      have hpa := HI1.out.ai
      have wp1 := wrapI (x := (p : Int) + 1) (by unfold I64; omega)
      by_cases hle : p ≤ j0
      · have gle : (p : Int) ≤ (j0 : Int) := by omega
        have gpn : (p : Int) < (n : Int) := by omega
        obtain ⟨x, hx⟩ : ∃ x, G p = x := ⟨_, rfl⟩
        obtain ⟨y, hy⟩ : ∃ y, G a = y := ⟨_, rfl⟩
        have Hx := hid hx
        have Hy := hid hy
        clear hx hy
        have HXY := hid (show V x ∧ V y from ⟨by rw [← Hx.out]; exact HVG.out _ (by omega), by rw [← Hy.out]; exact HVG.out _ (by omega)⟩)
        by_cases hc : c x y < 0
        · have HN := hid (HI1.out.up hle (by rw [Hx.out, Hy.out]; exact (HT.out.lt HXY.out.1 HXY.out.2).1 hc))
          have dxy : decide (c x y < 0) = true := decide_eq_true hc
          clear hc
          go_upto_region 3 with fail
          refine region_all (fun W => RowF w0 W bk n G) mixed (by kernel_rfl) (HG1.out.kp0 (Kp.refl No _).drew) ?_
          repeat ((first | ((with_reducible refine cl_val (v := ?_) ?_ ?_ ?_); rotate_left; (focus (go_simp; done)); (focus (intro w' hw; obtain ⟨c1, c2⟩ := And.intro (hw.cell (j := p) (by omega)) (hw.cell (j := a) (by omega)); rw [Hx.out] at c1; rw [Hy.out] at c2; go_simp; (try with_reducible rfl); done))) | ((with_reducible refine cl_skip ?_ ?_); (focus (first | (go_simp; done) | exact unwanted rfl rfl)))); simp only [Act.put, List.setIfInBounds_toArray, List.set_cons_zero, List.set_cons_succ])
          refine cl_call (v := .int .i64 (c x y)) (by first | rfl | go_simp) (fun w' hw => by first | (go_simp; exact HC.out.enters _ _) | exact HC.out.enters _ _) (fun w' hw => (HC.out.says _ hw.kp x y HXY.out.1 HXY.out.2).mono fun e w'' h => ⟨h.1, hw.kp0 h.2⟩) ?_
          simp only [Act.put, List.setIfInBounds_toArray, List.set_cons_zero, List.set_cons_succ]
          repeat ((first | ((with_reducible refine cl_val (v := ?_) ?_ ?_ ?_); rotate_left; (focus (go_simp; done)); (focus (intro w' hw; obtain ⟨c1, c2⟩ := And.intro (hw.cell (j := p) (by omega)) (hw.cell (j := a) (by omega)); rw [Hx.out] at c1; rw [Hy.out] at c2; go_simp; (try with_reducible rfl); done))) | ((with_reducible refine cl_skip ?_ ?_); (focus (first | (go_simp; done) | exact unwanted rfl rfl)))); simp only [Act.put, List.setIfInBounds_toArray, List.set_cons_zero, List.set_cons_succ])
          refine cl_nil fun w4 hw => ?_
          have HG4 := hid hw
          clear hw
          go_wp2_with fail
          go_roundw
          case rel => exact ⟨p + 1, by go_num, HG4, HN, by omega⟩
          case measure => simp [vNum] <;> omega
        · have dxy : decide (c x y < 0) = false := decide_eq_false hc
          have HN := hid (show p ≤ j0 → ¬ c (G p) (G a) < 0 from fun _ => by rw [Hx.out, Hy.out]; exact hc)
          clear hc
          go_upto_region 3 with fail
          refine region_all (fun W => RowF w0 W bk n G) mixed (by kernel_rfl) (HG1.out.kp0 (Kp.refl No _).drew) ?_
          repeat ((first | ((with_reducible refine cl_val (v := ?_) ?_ ?_ ?_); rotate_left; (focus (go_simp; done)); (focus (intro w' hw; obtain ⟨c1, c2⟩ := And.intro (hw.cell (j := p) (by omega)) (hw.cell (j := a) (by omega)); rw [Hx.out] at c1; rw [Hy.out] at c2; go_simp; (try with_reducible rfl); done))) | ((with_reducible refine cl_skip ?_ ?_); (focus (first | (go_simp; done) | exact unwanted rfl rfl)))); simp only [Act.put, List.setIfInBounds_toArray, List.set_cons_zero, List.set_cons_succ])
          refine cl_call (v := .int .i64 (c x y)) (by first | rfl | go_simp) (fun w' hw => by first | (go_simp; exact HC.out.enters _ _) | exact HC.out.enters _ _) (fun w' hw => (HC.out.says _ hw.kp x y HXY.out.1 HXY.out.2).mono fun e w'' h => ⟨h.1, hw.kp0 h.2⟩) ?_
          simp only [Act.put, List.setIfInBounds_toArray, List.set_cons_zero, List.set_cons_succ]
          repeat ((first | ((with_reducible refine cl_val (v := ?_) ?_ ?_ ?_); rotate_left; (focus (go_simp; done)); (focus (intro w' hw; obtain ⟨c1, c2⟩ := And.intro (hw.cell (j := p) (by omega)) (hw.cell (j := a) (by omega)); rw [Hx.out] at c1; rw [Hy.out] at c2; go_simp; (try with_reducible rfl); done))) | ((with_reducible refine cl_skip ?_ ?_); (focus (first | (go_simp; done) | exact unwanted rfl rfl)))); simp only [Act.put, List.setIfInBounds_toArray, List.set_cons_zero, List.set_cons_succ])
          refine cl_nil fun w4 hw => ?_
          have HG4 := hid hw
          clear hw
          go_wp2_with fail
          go_meet
          exact ⟨p, rfl, HG4, HI1, HN, hip⟩
      · have gle : ¬ (p : Int) ≤ (j0 : Int) := by omega
        go_upto_region 3 with fail
        go_big_region_o
        go_wp2_with fail
        go_meet
        exact ⟨p, rfl, hid (HG1.out.kp0 (Kp.refl No _).drew), HI1, hid fun h => absurd h hle, hip⟩
  case rest =>
    obtain ⟨i1, rfl, HG1, HI1, HQ1, hip1⟩ := hcut
    clear HG HI
    go_upto_block 2 with fail
    go_cut [13] (fun u wx => ∃ q : Nat, u = .int .i64 (q : Int) ∧ Hid (RowF w0 wx bk n G) ∧ Hid (PI R a b i1 q F G) ∧ Hid (i1 ≤ q → c (G q) (G a) < 0) ∧ q ≤ j0)
    case first =>
      go_wp2_with fail
      go_loopw [13] (fun u wr => ∃ q : Nat, u = .int .i64 (q : Int) ∧ Hid (RowF w0 wr bk n G) ∧ Hid (PI R a b i1 q F G) ∧ q ≤ j0) (fun u _ => (vNum u).toNat)
      case atStart => exact ⟨j0, by go_num, HG1, HI1, Nat.le_refl _⟩
      case round =>
        clear HG1 HI1
        obtain ⟨q, rfl, HG1, HI1, hqj⟩ := hrel
        have hpb := HI1.out.ij
        have hpa := HI1.out.ai
        have hqb := HI1.out.jb
        by_cases hle : i1 ≤ q
        · have gle : (i1 : Int) ≤ (q : Int) := by omega
          have gpn : (q : Int) < (n : Int) := by omega
          obtain ⟨q1, hq1⟩ : ∃ q1, q - 1 = q1 := ⟨_, rfl⟩
          have eq1 : (q : Int) - 1 = (q1 : Int) := by omega
          have wq1 := wrapI (x := (q1 : Int)) (by unfold I64; omega)
          obtain ⟨x, hx⟩ : ∃ x, G q = x := ⟨_, rfl⟩
          obtain ⟨y, hy⟩ : ∃ y, G a = y := ⟨_, rfl⟩
          have Hx := hid hx
          have Hy := hid hy
          clear hx hy
          have HXY := hid (show V x ∧ V y from ⟨by rw [← Hx.out]; exact HVG.out _ (by omega), by rw [← Hy.out]; exact HVG.out _ (by omega)⟩)
          have HNE := hid (show x ≠ y from by
            intro e
            rw [← Hx.out, ← Hy.out] at e
            have := HDG.out _ _ (by omega) (by omega) e
            omega)
          by_cases hc : c x y < 0
          · have dxy : decide (c x y < 0) = true := decide_eq_true hc
            have HN := hid (show i1 ≤ q → c (G q) (G a) < 0 from fun _ => by rw [Hx.out, Hy.out]; exact hc)
            clear hc
            go_upto_region 5 with fail
            refine region_all (fun W => RowF w0 W bk n G) mixed (by kernel_rfl) (HG1.out.kp0 (Kp.refl No _).drew) ?_
            repeat ((first | ((with_reducible refine cl_val (v := ?_) ?_ ?_ ?_); rotate_left; (focus (go_simp; done)); (focus (intro w' hw; obtain ⟨c1, c2⟩ := And.intro (hw.cell (j := q) (by omega)) (hw.cell (j := a) (by omega)); rw [Hx.out] at c1; rw [Hy.out] at c2; go_simp; (try with_reducible rfl); done))) | ((with_reducible refine cl_skip ?_ ?_); (focus (first | (go_simp; done) | exact unwanted rfl rfl)))); simp only [Act.put, List.setIfInBounds_toArray, List.set_cons_zero, List.set_cons_succ])
            refine cl_call (v := .int .i64 (c x y)) (by first | rfl | go_simp) (fun w' hw => by first | (go_simp; exact HC.out.enters _ _) | exact HC.out.enters _ _) (fun w' hw => (HC.out.says _ hw.kp x y HXY.out.1 HXY.out.2).mono fun e w'' h => ⟨h.1, hw.kp0 h.2⟩) ?_
            simp only [Act.put, List.setIfInBounds_toArray, List.set_cons_zero, List.set_cons_succ]
            repeat ((first | ((with_reducible refine cl_val (v := ?_) ?_ ?_ ?_); rotate_left; (focus (go_simp; done)); (focus (intro w' hw; obtain ⟨c1, c2⟩ := And.intro (hw.cell (j := q) (by omega)) (hw.cell (j := a) (by omega)); rw [Hx.out] at c1; rw [Hy.out] at c2; go_simp; (try with_reducible rfl); done))) | ((with_reducible refine cl_skip ?_ ?_); (focus (first | (go_simp; done) | exact unwanted rfl rfl)))); simp only [Act.put, List.setIfInBounds_toArray, List.set_cons_zero, List.set_cons_succ])
            refine cl_nil fun w4 hw => ?_
            have HG4 := hid hw
            clear hw
            go_wp2_with fail
            go_meet
            exact ⟨q, rfl, HG4, HI1, HN, hqj⟩
          · have dxy : decide (c x y < 0) = false := decide_eq_false hc
            have HN := hid (HI1.out.dn hle (by rw [Hx.out, Hy.out]; exact HT.out.nle HXY.out.1 HXY.out.2 hc HNE.out))
            rw [hq1] at HN
            clear hc
            go_upto_region 5 with fail
            refine region_all (fun W => RowF w0 W bk n G) mixed (by kernel_rfl) (HG1.out.kp0 (Kp.refl No _).drew) ?_
            repeat ((first | ((with_reducible refine cl_val (v := ?_) ?_ ?_ ?_); rotate_left; (focus (go_simp; done)); (focus (intro w' hw; obtain ⟨c1, c2⟩ := And.intro (hw.cell (j := q) (by omega)) (hw.cell (j := a) (by omega)); rw [Hx.out] at c1; rw [Hy.out] at c2; go_simp; (try with_reducible rfl); done))) | ((with_reducible refine cl_skip ?_ ?_); (focus (first | (go_simp; done) | exact unwanted rfl rfl)))); simp only [Act.put, List.setIfInBounds_toArray, List.set_cons_zero, List.set_cons_succ])
            refine cl_call (v := .int .i64 (c x y)) (by first | rfl | go_simp) (fun w' hw => by first | (go_simp; exact HC.out.enters _ _) | exact HC.out.enters _ _) (fun w' hw => (HC.out.says _ hw.kp x y HXY.out.1 HXY.out.2).mono fun e w'' h => ⟨h.1, hw.kp0 h.2⟩) ?_
            simp only [Act.put, List.setIfInBounds_toArray, List.set_cons_zero, List.set_cons_succ]
            repeat ((first | ((with_reducible refine cl_val (v := ?_) ?_ ?_ ?_); rotate_left; (focus (go_simp; done)); (focus (intro w' hw; obtain ⟨c1, c2⟩ := And.intro (hw.cell (j := q) (by omega)) (hw.cell (j := a) (by omega)); rw [Hx.out] at c1; rw [Hy.out] at c2; go_simp; (try with_reducible rfl); done))) | ((with_reducible refine cl_skip ?_ ?_); (focus (first | (go_simp; done) | exact unwanted rfl rfl)))); simp only [Act.put, List.setIfInBounds_toArray, List.set_cons_zero, List.set_cons_succ])
            refine cl_nil fun w4 hw => ?_
            have HG4 := hid hw
            clear hw
            go_wp2_with fail
            go_roundw
            case rel => exact ⟨q1, by go_num, HG4, HN, by omega⟩
            case measure => simp [vNum] <;> omega
        · have gle : ¬ (i1 : Int) ≤ (q : Int) := by omega
          go_upto_region 5 with fail
          go_big_region_o
          go_wp2_with fail
          go_meet
          exact ⟨q, rfl, hid (HG1.out.kp0 (Kp.refl No _).drew), HI1, hid fun h => absurd h hle, hqj⟩
    case rest =>
      obtain ⟨j1, rfl, HG2, HI2, HQ2, hjj⟩ := hcut
      clear HG1 HI1
      have k1 := HI2.out.ai
      have k2 := HI2.out.ij
      have k3 := HI2.out.jb
      by_cases hgt : j1 < i1
      · have ggt : (j1 : Int) < (i1 : Int) := by omega
        have gjn : (j1 : Int) < (n : Int) := by omega
        have HF := hid (HI2.out.fin hgt)
        go_wp2_with fail
        obtain ⟨x1, hx1⟩ : ∃ x, G j1 = x := ⟨_, rfl⟩
        obtain ⟨y1, hy1⟩ : ∃ y, G a = y := ⟨_, rfl⟩
        have Hx1 := hid hx1
        have Hy1 := hid hy1
        clear hx1 hy1
        have cA := HG2.out.cell (j := j1) (by omega)
        have cB := HG2.out.cell (j := a) (by omega)
        have fA := HG2.out.frozen j1
        have fB := HG2.out.frozen a
        rw [Hx1.out] at cA
        rw [Hy1.out] at cB
        obtain ⟨uC, cC⟩ := HG2.out.c2 (x := j1) (y := a) (by omega) (by omega) (.int .i64 y1)
        have HG3 := hid ((HG2.out.swapq (x := j1) (y := a) (by omega) (by omega)).kp0 (Kp.refl No _).drew)
        rw [Hx1.out, Hy1.out] at HG3
        go_wp2_with fail
        go_big_region_o
        clear cA cB cC fA fB
        generalize World.drew (World.setCell (World.setCell wc ⟨bk, j1, none⟩ (.int .i64 y1)) ⟨bk, a, none⟩ (.int .i64 x1)) = w3 at HG3 ⊢
        go_wp2_with fail
        go_ret2
        exact ⟨j1, true, rfl, _, HG3.out, HF.out.1, HF.out.2⟩
      · have ggt : ¬ (j1 : Int) < (i1 : Int) := by omega
        have gjn : (j1 : Int) < (n : Int) := by omega
        have gin : (i1 : Int) < (n : Int) := by omega
        have HX := hid (show i1 < j1 ∧ R (G a) (G i1) ∧ R (G j1) (G a) from by
          have c1 := HQ1.out (by omega)
          have c2 := HQ2.out (by omega)
          have hne : i1 ≠ j1 := by
            rintro rfl
            exact c1 c2
          have hne2 : G i1 ≠ G a := by
            intro e
            have := HDG.out _ _ (by omega) (by omega) e
            omega
          exact ⟨by omega, HT.out.nle (HVG.out _ (by omega)) (HVG.out _ (by omega)) c1 hne2, (HT.out.lt (HVG.out _ (by omega)) (HVG.out _ (by omega))).1 c2⟩)
        have HI3 := hid (HI2.out.sw HX.out.1 HX.out.2.1 HX.out.2.2)
        have k4 := HX.out.1
        go_wp2_with fail
        obtain ⟨x1, hx1⟩ : ∃ x, G i1 = x := ⟨_, rfl⟩
        obtain ⟨y1, hy1⟩ : ∃ y, G j1 = y := ⟨_, rfl⟩
        have Hx1 := hid hx1
        have Hy1 := hid hy1
        clear hx1 hy1
        have cA := HG2.out.cell (j := i1) (by omega)
        have cB := HG2.out.cell (j := j1) (by omega)
        have fA := HG2.out.frozen i1
        have fB := HG2.out.frozen j1
        rw [Hx1.out] at cA
        rw [Hy1.out] at cB
        obtain ⟨uC, cC⟩ := HG2.out.c2 (x := i1) (y := j1) (by omega) (by omega) (.int .i64 y1)
        have HG3 := hid ((HG2.out.swapq (x := i1) (y := j1) (by omega) (by omega)).kp0 (Kp.refl No _).drew)
        rw [Hx1.out, Hy1.out] at HG3
        go_wp2_with fail
        go_big_region_o
        clear cA cB cC fA fB
        generalize World.drew (World.setCell (World.setCell wc ⟨bk, i1, none⟩ (.int .i64 y1)) ⟨bk, j1, none⟩ (.int .i64 x1)) = w3 at HG3 ⊢
        obtain ⟨G3, hG3⟩ : ∃ q, swp2 i1 j1 G = q := ⟨_, rfl⟩
        rw [hG3] at HG3 HI3
        obtain ⟨j2, hj2⟩ : ∃ q : Nat, j1 - 1 = q := ⟨_, rfl⟩
        have ej2 : (j1 : Int) - 1 = (j2 : Int) := by omega
        have wj2 := wrapI (x := (j2 : Int)) (by unfold I64; omega)
        have wi2 := wrapI (x := (i1 : Int) + 1) (by unfold I64; omega)
        rw [hj2] at HI3
        clear hG3 HG2 HI2 HQ1 HQ2 HX HVG HDG
        go_upto_block 4 with fail
        go_cut [12, 13] (fun u v wx => ∃ (i j : Nat) (G : Nat → Int), u = .int .i64 (i : Int) ∧ v = .int .i64 (j : Int) ∧ Hid (RowF w0 wx bk n G) ∧ Hid (PI R a b i j F G) ∧ j < i)
        case first =>
          go_wp2_with fail
          go_loopw [12, 13] (fun u v wr => ∃ (i j : Nat) (G : Nat → Int), u = .int .i64 (i : Int) ∧ v = .int .i64 (j : Int) ∧ Hid (RowF w0 wr bk n G) ∧ Hid (PI R a b i j F G)) (fun u v _ => (vNum v + 1 - vNum u).toNat)
          case atStart => exact ⟨i1 + 1, j2, G3, by go_num, by go_num, HG3, HI3⟩
          case round =>
            clear HG3 HI3
            obtain ⟨i, j, G, rfl, rfl, HG, HI⟩ := hrel
            have HVG := hid (HI.out.pm.vals HV.out hbn)
            have HDG := hid (HI.out.pm.dis hbn HD.out)
            have m1 := HI.out.ai
            have m2 := HI.out.ij
            have m3 := HI.out.jb
            go_upto_block 6 with fail
            go_cut [12] (fun u wx => ∃ p : Nat, u = .int .i64 (p : Int) ∧ Hid (RowF w0 wx bk n G) ∧ Hid (PI R a b p j F G) ∧ Hid (p ≤ j → ¬ c (G p) (G a) < 0) ∧ i ≤ p)
            case first =>
              go_wp2_with fail
              go_loopw [12] (fun u wr => ∃ p : Nat, u = .int .i64 (p : Int) ∧ Hid (RowF w0 wr bk n G) ∧ Hid (PI R a b p j F G) ∧ i ≤ p) (fun u _ => j + 1 - (vNum u).toNat)
              case atStart => exact ⟨i, by go_num, HG, HI, Nat.le_refl _⟩
              case round =>
                clear HG HI
                obtain ⟨p, rfl, HG1, HI1, hip⟩ := hrel
                have hpb := HI1.out.ij
                have hpa := HI1.out.ai
                have wp1 := wrapI (x := (p : Int) + 1) (by unfold I64; omega)
                by_cases hle : p ≤ j
                · have gle : (p : Int) ≤ (j : Int) := by omega
                  have gpn : (p : Int) < (n : Int) := by omega
                  obtain ⟨x, hx⟩ : ∃ x, G p = x := ⟨_, rfl⟩
                  obtain ⟨y, hy⟩ : ∃ y, G a = y := ⟨_, rfl⟩
                  have Hx := hid hx
                  have Hy := hid hy
                  clear hx hy
                  have HXY := hid (show V x ∧ V y from ⟨by rw [← Hx.out]; exact HVG.out _ (by omega), by rw [← Hy.out]; exact HVG.out _ (by omega)⟩)
                  by_cases hc : c x y < 0
                  · have HN := hid (HI1.out.up hle (by rw [Hx.out, Hy.out]; exact (HT.out.lt HXY.out.1 HXY.out.2).1 hc))
                    have dxy : decide (c x y < 0) = true := decide_eq_true hc
                    clear hc
                    go_upto_region 13 with fail
                    refine region_all (fun W => RowF w0 W bk n G) mixed (by kernel_rfl) (HG1.out.kp0 (Kp.refl No _).drew) ?_
                    repeat ((first | ((with_reducible refine cl_val (v := ?_) ?_ ?_ ?_); rotate_left; (focus (go_simp; done)); (focus (intro w' hw; obtain ⟨c1, c2⟩ := And.intro (hw.cell (j := p) (by omega)) (hw.cell (j := a) (by omega)); rw [Hx.out] at c1; rw [Hy.out] at c2; go_simp; (try with_reducible rfl); done))) | ((with_reducible refine cl_skip ?_ ?_); (focus (first | (go_simp; done) | exact unwanted rfl rfl)))); simp only [Act.put, List.setIfInBounds_toArray, List.set_cons_zero, List.set_cons_succ])
                    refine cl_call (v := .int .i64 (c x y)) (by first | rfl | go_simp) (fun w' hw => by first | (go_simp; exact HC.out.enters _ _) | exact HC.out.enters _ _) (fun w' hw => (HC.out.says _ hw.kp x y HXY.out.1 HXY.out.2).mono fun e w'' h => ⟨h.1, hw.kp0 h.2⟩) ?_
                    simp only [Act.put, List.setIfInBounds_toArray, List.set_cons_zero, List.set_cons_succ]
                    repeat ((first | ((with_reducible refine cl_val (v := ?_) ?_ ?_ ?_); rotate_left; (focus (go_simp; done)); (focus (intro w' hw; obtain ⟨c1, c2⟩ := And.intro (hw.cell (j := p) (by omega)) (hw.cell (j := a) (by omega)); rw [Hx.out] at c1; rw [Hy.out] at c2; go_simp; (try with_reducible rfl); done))) | ((with_reducible refine cl_skip ?_ ?_); (focus (first | (go_simp; done) | exact unwanted rfl rfl)))); simp only [Act.put, List.setIfInBounds_toArray, List.set_cons_zero, List.set_cons_succ])
                    refine cl_nil fun w4 hw => ?_
                    have HG4 := hid hw
                    clear hw
                    go_wp2_with fail
                    go_roundw
                    case rel => exact ⟨p + 1, by go_num, HG4, HN, by omega⟩
                    case measure => simp [vNum] <;> omega
                  · have dxy : decide (c x y < 0) = false := decide_eq_false hc
                    have HN := hid (show p ≤ j → ¬ c (G p) (G a) < 0 from fun _ => by rw [Hx.out, Hy.out]; exact hc)
                    clear hc
                    go_upto_region 13 with fail
                    refine region_all (fun W => RowF w0 W bk n G) mixed (by kernel_rfl) (HG1.out.kp0 (Kp.refl No _).drew) ?_
                    repeat ((first | ((with_reducible refine cl_val (v := ?_) ?_ ?_ ?_); rotate_left; (focus (go_simp; done)); (focus (intro w' hw; obtain ⟨c1, c2⟩ := And.intro (hw.cell (j := p) (by omega)) (hw.cell (j := a) (by omega)); rw [Hx.out] at c1; rw [Hy.out] at c2; go_simp; (try with_reducible rfl); done))) | ((with_reducible refine cl_skip ?_ ?_); (focus (first | (go_simp; done) | exact unwanted rfl rfl)))); simp only [Act.put, List.setIfInBounds_toArray, List.set_cons_zero, List.set_cons_succ])
                    refine cl_call (v := .int .i64 (c x y)) (by first | rfl | go_simp) (fun w' hw => by first | (go_simp; exact HC.out.enters _ _) | exact HC.out.enters _ _) (fun w' hw => (HC.out.says _ hw.kp x y HXY.out.1 HXY.out.2).mono fun e w'' h => ⟨h.1, hw.kp0 h.2⟩) ?_
                    simp only [Act.put, List.setIfInBounds_toArray, List.set_cons_zero, List.set_cons_succ]
                    repeat ((first | ((with_reducible refine cl_val (v := ?_) ?_ ?_ ?_); rotate_left; (focus (go_simp; done)); (focus (intro w' hw; obtain ⟨c1, c2⟩ := And.intro (hw.cell (j := p) (by omega)) (hw.cell (j := a) (by omega)); rw [Hx.out] at c1; rw [Hy.out] at c2; go_simp; (try with_reducible rfl); done))) | ((with_reducible refine cl_skip ?_ ?_); (focus (first | (go_simp; done) | exact unwanted rfl rfl)))); simp only [Act.put, List.setIfInBounds_toArray, List.set_cons_zero, List.set_cons_succ])
                    refine cl_nil fun w4 hw => ?_
                    have HG4 := hid hw
                    clear hw
                    go_wp2_with fail
                    go_meet
                    exact ⟨p, rfl, HG4, HI1, HN, hip⟩
                · have gle : ¬ (p : Int) ≤ (j : Int) := by omega
                  go_upto_region 13 with fail
                  go_big_region_o
                  go_wp2_with fail
                  go_meet
                  exact ⟨p, rfl, hid (HG1.out.kp0 (Kp.refl No _).drew), HI1, hid fun h => absurd h hle, hip⟩
            case rest =>
              obtain ⟨p, rfl, HG1, HI1, HQ1, hip1⟩ := hcut
              clear HG HI
              go_upto_block 8 with fail
              go_cut [13] (fun u wx => ∃ q : Nat, u = .int .i64 (q : Int) ∧ Hid (RowF w0 wx bk n G) ∧ Hid (PI R a b p q F G) ∧ Hid (p ≤ q → c (G q) (G a) < 0) ∧ q ≤ j)
              case first =>
                go_wp2_with fail
                go_loopw [13] (fun u wr => ∃ q : Nat, u = .int .i64 (q : Int) ∧ Hid (RowF w0 wr bk n G) ∧ Hid (PI R a b p q F G) ∧ q ≤ j) (fun u _ => (vNum u).toNat)
                case atStart => exact ⟨j, by go_num, HG1, HI1, Nat.le_refl _⟩
                case round =>
                  clear HG1 HI1
                  obtain ⟨q, rfl, HG1, HI1, hqj⟩ := hrel
                  have hpb := HI1.out.ij
                  have hpa := HI1.out.ai
                  have hqb := HI1.out.jb
                  by_cases hle : p ≤ q
                  · have gle : (p : Int) ≤ (q : Int) := by omega
                    have gpn : (q : Int) < (n : Int) := by omega
                    obtain ⟨q1, hq1⟩ : ∃ q1, q - 1 = q1 := ⟨_, rfl⟩
                    have eq1 : (q : Int) - 1 = (q1 : Int) := by omega
                    have wq1 := wrapI (x := (q1 : Int)) (by unfold I64; omega)
                    obtain ⟨x, hx⟩ : ∃ x, G q = x := ⟨_, rfl⟩
                    obtain ⟨y, hy⟩ : ∃ y, G a = y := ⟨_, rfl⟩
                    have Hx := hid hx
                    have Hy := hid hy
                    clear hx hy
                    have HXY := hid (show V x ∧ V y from ⟨by rw [← Hx.out]; exact HVG.out _ (by omega), by rw [← Hy.out]; exact HVG.out _ (by omega)⟩)
                    have HNE := hid (show x ≠ y from by
                      intro e
                      rw [← Hx.out, ← Hy.out] at e
                      have := HDG.out _ _ (by omega) (by omega) e
                      omega)
                    by_cases hc : c x y < 0
                    · have dxy : decide (c x y < 0) = true := decide_eq_true hc
                      have HN := hid (show p ≤ q → c (G q) (G a) < 0 from fun _ => by rw [Hx.out, Hy.out]; exact hc)
                      clear hc
                      go_upto_region 15 with fail
                      refine region_all (fun W => RowF w0 W bk n G) mixed (by kernel_rfl) (HG1.out.kp0 (Kp.refl No _).drew) ?_
                      repeat ((first | ((with_reducible refine cl_val (v := ?_) ?_ ?_ ?_); rotate_left; (focus (go_simp; done)); (focus (intro w' hw; obtain ⟨c1, c2⟩ := And.intro (hw.cell (j := q) (by omega)) (hw.cell (j := a) (by omega)); rw [Hx.out] at c1; rw [Hy.out] at c2; go_simp; (try with_reducible rfl); done))) | ((with_reducible refine cl_skip ?_ ?_); (focus (first | (go_simp; done) | exact unwanted rfl rfl)))); simp only [Act.put, List.setIfInBounds_toArray, List.set_cons_zero, List.set_cons_succ])
                      refine cl_call (v := .int .i64 (c x y)) (by first | rfl | go_simp) (fun w' hw => by first | (go_simp; exact HC.out.enters _ _) | exact HC.out.enters _ _) (fun w' hw => (HC.out.says _ hw.kp x y HXY.out.1 HXY.out.2).mono fun e w'' h => ⟨h.1, hw.kp0 h.2⟩) ?_
                      simp only [Act.put, List.setIfInBounds_toArray, List.set_cons_zero, List.set_cons_succ]
                      repeat ((first | ((with_reducible refine cl_val (v := ?_) ?_ ?_ ?_); rotate_left; (focus (go_simp; done)); (focus (intro w' hw; obtain ⟨c1, c2⟩ := And.intro (hw.cell (j := q) (by omega)) (hw.cell (j := a) (by omega)); rw [Hx.out] at c1; rw [Hy.out] at c2; go_simp; (try with_reducible rfl); done))) | ((with_reducible refine cl_skip ?_ ?_); (focus (first | (go_simp; done) | exact unwanted rfl rfl)))); simp only [Act.put, List.setIfInBounds_toArray, List.set_cons_zero, List.set_cons_succ])
                      refine cl_nil fun w4 hw => ?_
                      have HG4 := hid hw
                      clear hw
                      go_wp2_with fail
                      go_meet
                      exact ⟨q, rfl, HG4, HI1, HN, hqj⟩
                    · have dxy : decide (c x y < 0) = false := decide_eq_false hc
                      have HN := hid (HI1.out.dn hle (by rw [Hx.out, Hy.out]; exact HT.out.nle HXY.out.1 HXY.out.2 hc HNE.out))
                      rw [hq1] at HN
                      clear hc
                      go_upto_region 15 with fail
                      refine region_all (fun W => RowF w0 W bk n G) mixed (by kernel_rfl) (HG1.out.kp0 (Kp.refl No _).drew) ?_
                      repeat ((first | ((with_reducible refine cl_val (v := ?_) ?_ ?_ ?_); rotate_left; (focus (go_simp; done)); (focus (intro w' hw; obtain ⟨c1, c2⟩ := And.intro (hw.cell (j := q) (by omega)) (hw.cell (j := a) (by omega)); rw [Hx.out] at c1; rw [Hy.out] at c2; go_simp; (try with_reducible rfl); done))) | ((with_reducible refine cl_skip ?_ ?_); (focus (first | (go_simp; done) | exact unwanted rfl rfl)))); simp only [Act.put, List.setIfInBounds_toArray, List.set_cons_zero, List.set_cons_succ])
                      refine cl_call (v := .int .i64 (c x y)) (by first | rfl | go_simp) (fun w' hw => by first | (go_simp; exact HC.out.enters _ _) | exact HC.out.enters _ _) (fun w' hw => (HC.out.says _ hw.kp x y HXY.out.1 HXY.out.2).mono fun e w'' h => ⟨h.1, hw.kp0 h.2⟩) ?_
                      simp only [Act.put, List.setIfInBounds_toArray, List.set_cons_zero, List.set_cons_succ]
                      repeat ((first | ((with_reducible refine cl_val (v := ?_) ?_ ?_ ?_); rotate_left; (focus (go_simp; done)); (focus (intro w' hw; obtain ⟨c1, c2⟩ := And.intro (hw.cell (j := q) (by omega)) (hw.cell (j := a) (by omega)); rw [Hx.out] at c1; rw [Hy.out] at c2; go_simp; (try with_reducible rfl); done))) | ((with_reducible refine cl_skip ?_ ?_); (focus (first | (go_simp; done) | exact unwanted rfl rfl)))); simp only [Act.put, List.setIfInBounds_toArray, List.set_cons_zero, List.set_cons_succ])
                      refine cl_nil fun w4 hw => ?_
                      have HG4 := hid hw
                      clear hw
                      go_wp2_with fail
                      go_roundw
                      case rel => exact ⟨q1, by go_num, HG4, HN, by omega⟩
                      case measure => simp [vNum] <;> omega
                  · have gle : ¬ (p : Int) ≤ (q : Int) := by omega
                    go_upto_region 15 with fail
                    go_big_region_o
                    go_wp2_with fail
                    go_meet
                    exact ⟨q, rfl, hid (HG1.out.kp0 (Kp.refl No _).drew), HI1, hid fun h => absurd h hle, hqj⟩
              case rest =>
                obtain ⟨q, rfl, HG2, HI2, HQ2, hjj2⟩ := hcut
                clear HG1 HI1
                have k5 := HI2.out.ai
                have k6 := HI2.out.ij
                have k7 := HI2.out.jb
                by_cases hgt2 : q < p
                · have ggt2 : (q : Int) < (p : Int) := by omega
                  go_wp2_with fail
                  go_meet
                  exact ⟨p, q, G, rfl, rfl, HG2, HI2, hgt2⟩
                · have ggt2 : ¬ (q : Int) < (p : Int) := by omega
                  have gqn : (q : Int) < (n : Int) := by omega
                  have gpn : (p : Int) < (n : Int) := by omega
                  have HX := hid (show p < q ∧ R (G a) (G p) ∧ R (G q) (G a) from by
                    have c1 := HQ1.out (by omega)
                    have c2 := HQ2.out (by omega)
                    have hne : p ≠ q := by
                      rintro rfl
                      exact c1 c2
                    have hne2 : G p ≠ G a := by
                      intro e
                      have := HDG.out _ _ (by omega) (by omega) e
                      omega
                    exact ⟨by omega, HT.out.nle (HVG.out _ (by omega)) (HVG.out _ (by omega)) c1 hne2, (HT.out.lt (HVG.out _ (by omega)) (HVG.out _ (by omega))).1 c2⟩)
                  have HI3 := hid (HI2.out.sw HX.out.1 HX.out.2.1 HX.out.2.2)
                  have k8 := HX.out.1
                  obtain ⟨q2, hq2⟩ : ∃ r : Nat, q - 1 = r := ⟨_, rfl⟩
                  have eq2 : (q : Int) - 1 = (q2 : Int) := by omega
                  have wq2 := wrapI (x := (q2 : Int)) (by unfold I64; omega)
                  have wp2 := wrapI (x := (p : Int) + 1) (by unfold I64; omega)
                  rw [hq2] at HI3
                  go_wp2_with fail
                  obtain ⟨x2, hx2⟩ : ∃ x, G p = x := ⟨_, rfl⟩
                  obtain ⟨y2, hy2⟩ : ∃ y, G q = y := ⟨_, rfl⟩
                  have Hx2 := hid hx2
                  have Hy2 := hid hy2
                  clear hx2 hy2
                  have cA := HG2.out.cell (j := p) (by omega)
                  have cB := HG2.out.cell (j := q) (by omega)
                  have fA := HG2.out.frozen p
                  have fB := HG2.out.frozen q
                  rw [Hx2.out] at cA
                  rw [Hy2.out] at cB
                  obtain ⟨uC, cC⟩ := HG2.out.c2 (x := p) (y := q) (by omega) (by omega) (.int .i64 y2)
                  have HG3 := hid ((HG2.out.swapq (x := p) (y := q) (by omega) (by omega)).kp0 (Kp.refl No _).drew)
                  rw [Hx2.out, Hy2.out] at HG3
                  go_wp2_with fail
                  go_big_region_o
                  clear cA cB cC fA fB
                  generalize World.drew (World.setCell (World.setCell wc ⟨bk, p, none⟩ (.int .i64 y2)) ⟨bk, q, none⟩ (.int .i64 x2)) = w4 at HG3 ⊢
                  go_wp2_with fail
                  go_roundw
                  case rel => exact ⟨p + 1, q2, _, by go_num, by go_num, HG3, HI3⟩
                  case measure => simp [vNum] <;> omega
        case rest =>
          obtain ⟨i3, j3, G4, rfl, rfl, HG4, HI4, hgt4⟩ := hcut
          clear HG3 HI3
          have k9 := HI4.out.ai
          have k10 := HI4.out.ij
          have k11 := HI4.out.jb
          have gjn4 : (j3 : Int) < (n : Int) := by omega
          have HF := hid (HI4.out.fin hgt4)
          go_wp2_with fail
          obtain ⟨x3, hx3⟩ : ∃ x, G4 j3 = x := ⟨_, rfl⟩
          obtain ⟨y3, hy3⟩ : ∃ y, G4 a = y := ⟨_, rfl⟩
          have Hx3 := hid hx3
          have Hy3 := hid hy3
          clear hx3 hy3
          have cA := HG4.out.cell (j := j3) (by omega)
          have cB := HG4.out.cell (j := a) (by omega)
          have fA := HG4.out.frozen j3
          have fB := HG4.out.frozen a
          rw [Hx3.out] at cA
          rw [Hy3.out] at cB
          obtain ⟨uC, cC⟩ := HG4.out.c2 (x := j3) (y := a) (by omega) (by omega) (.int .i64 y3)
          have HG5 := hid ((HG4.out.swapq (x := j3) (y := a) (by omega) (by omega)).kp0 (Kp.refl No _).drew)
          rw [Hx3.out, Hy3.out] at HG5
          go_wp2_with fail
          go_big_region_o
          clear cA cB cC fA fB
          generalize World.drew (World.setCell (World.setCell wc ⟨bk, j3, none⟩ (.int .i64 y3)) ⟨bk, a, none⟩ (.int .i64 x3)) = w5 at HG5 ⊢
          go_wp2_with fail
          go_ret2
          exact ⟨j3, false, rfl, _, HG5.out, HF.out.1, HF.out.2⟩
end
end Go.Proofs.Ytoeeighfjoplhaa
