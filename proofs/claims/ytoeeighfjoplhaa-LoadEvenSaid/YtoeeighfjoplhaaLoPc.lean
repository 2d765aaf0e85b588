/-
  Contracts of slices.order2CmpFunc, medianCmpFunc, choosePivotCmpFunc, partialInsertionSortCmpFunc at []int, of fewer than fifty, whatever the comparison is.
-/
import Derived.Test.YtoeeighfjoplhaaLoPa
import Derived.Test.YtoeeighfjoplhaaLoPi
import Derived.Deep.CutBlock
import Derived.Deep.DeepCutAuto
namespace Go.Proofs.Ytoeeighfjoplhaa
open Go.RowKit
section
variable {w0 w : World} {bk n cap : Nat} {g : FuncId} {bd cb : Array Value} {V : Int → Prop} {c : Int → Int → Int} {R : Int → Int → Prop} {F : Nat → Int}
/-- A row, and a counter beside it. -/
structure Cnt (w0 W : World) (bk n : Nat) (F : Nat → Int) (q : Nat) : Prop where
  row : RowF w0 W bk n F
  bx : ∃ s : Int, Blk W q 3 #[.int .i64 s]
  nw : w0.heap.size ≤ q
theorem Cnt.cell {W : World} {q : Nat} (h : Cnt w0 W bk n F q) {j : Nat} (hj : j < n) : W.cell? ⟨bk, j, none⟩ = some (.int .i64 (F j)) := h.row.cell hj
theorem Cnt.kp {W : World} {q : Nat} (h : Cnt w0 W bk n F q) : Kp (Only bk) w0 W := h.row.kp
theorem Cnt.kp0 {W W' : World} {q : Nat} (h : Cnt w0 W bk n F q) (k : Kp No W W') : Cnt w0 W' bk n F q := ⟨h.row.kp0 k, by obtain ⟨s, b⟩ := h.bx; exact ⟨s, b.kp0 k⟩, h.nw⟩
theorem Cnt.put {W : World} {q : Nat} (h : Cnt w0 W bk n F q) (t : Int) : Cnt w0 (W.setCell ⟨q, 0, none⟩ (.int .i64 t)) bk n F q := by
  obtain ⟨s, b⟩ := h.bx
  obtain ⟨cs, hb, hc⟩ := h.row.bx
  obtain ⟨sm, sz0, sz1⟩ := h.row.sz
  have hlt := h.row.lt
  have hbq : ¬ Only q bk := by
    intro e
    have e' : bk = q := e
    have := h.nw
    omega
  refine ⟨⟨h.row.kp.step (Kp.set1 q 0 W (.int .i64 t)) fun i hi e => ?_, ⟨sm, sz0, sz1.kp (Kp.set1 q 0 W (.int .i64 t)) hbq⟩, ⟨cs, hb.kp (Kp.set1 q 0 W (.int .i64 t)) hbq, hc⟩, hlt⟩, ⟨t, b.put 0 (.int .i64 t)⟩, h.nw⟩
  have e' : i = q := e
  have := h.nw
  omega
set_option maxRecDepth 100000 in
set_option maxHeartbeats 4000000 in
theorem order2_any {i j q : Nat} (hC : Cmp w0 bk g bd cb V c) (h : Cnt w0 w bk n F q) (hV : ∀ k, k < n → V (F k)) (hi : i < n) (hj : j < n) :
    Calls Try.prog 78 #[.slice (some ⟨bk, 0, none⟩) n cap, .int .i64 (i : Int), .int .i64 (j : Int), .pointer (some ⟨q, 0, none⟩), .func (.func g) bd cb] w fun e w' => ∃ i' j' : Nat, e = .returned (.tuple #[.int .i64 (i' : Int), .int .i64 (j' : Int)]) ∧ (i' = i ∧ j' = j ∨ i' = j ∧ j' = i) ∧ Cnt w0 w' bk n F q := by
  have H0 := hid h
  have HC := hid hC
  have HV := hid hV
  have mixed : Try.prog.follows .mixedOrders = true := by kernel_rfl
  have gi : (i : Int) < (n : Int) := by omega
  have gj : (j : Int) < (n : Int) := by omega
  clear h hC hV
  go_enter Try.func78, Try.ntmps78
  obtain ⟨x, hx⟩ : ∃ x, F j = x := ⟨_, rfl⟩
  obtain ⟨y, hy⟩ : ∃ y, F i = y := ⟨_, rfl⟩
  have Hx := hid hx
  have Hy := hid hy
  clear hx hy
  have HXY := hid (show V x ∧ V y from ⟨by rw [← Hx.out]; exact HV.out _ (by omega), by rw [← Hy.out]; exact HV.out _ (by omega)⟩)
  by_cases hc : c x y < 0
  · have dxy : decide (c x y < 0) = true := decide_eq_true hc
    clear hc
    go_upto_region 1 with fail
    refine region_all (fun W => Cnt w0 W bk n F q) mixed (by kernel_rfl) (H0.out.kp0 (Kp.refl No _).drew) ?_
    repeat ((first | ((with_reducible refine cl_val (v := ?_) ?_ ?_ ?_); rotate_left; (focus (go_simp; done)); (focus (intro w' hw; obtain ⟨c1, c2⟩ := And.intro (hw.cell (j := j) (by omega)) (hw.cell (j := i) (by omega)); rw [Hx.out] at c1; rw [Hy.out] at c2; go_simp; (try with_reducible rfl); done))) | ((with_reducible refine cl_skip ?_ ?_); (focus (first | (go_simp; done) | exact unwanted rfl rfl)))); simp only [Act.put, List.setIfInBounds_toArray, List.set_cons_zero, List.set_cons_succ])
    refine cl_call (v := .int .i64 (c x y)) (by first | rfl | go_simp) (fun w' hw => by first | (go_simp; exact HC.out.enters _ _) | exact HC.out.enters _ _) (fun w' hw => (HC.out.says _ hw.kp x y HXY.out.1 HXY.out.2).mono fun e w'' h => ⟨h.1, hw.kp0 h.2⟩) ?_
    simp only [Act.put, List.setIfInBounds_toArray, List.set_cons_zero, List.set_cons_succ]
    repeat ((first | ((with_reducible refine cl_val (v := ?_) ?_ ?_ ?_); rotate_left; (focus (go_simp; done)); (focus (intro w' hw; obtain ⟨c1, c2⟩ := And.intro (hw.cell (j := j) (by omega)) (hw.cell (j := i) (by omega)); rw [Hx.out] at c1; rw [Hy.out] at c2; go_simp; (try with_reducible rfl); done))) | ((with_reducible refine cl_skip ?_ ?_); (focus (first | (go_simp; done) | exact unwanted rfl rfl)))); simp only [Act.put, List.setIfInBounds_toArray, List.set_cons_zero, List.set_cons_succ])
    refine cl_nil fun w4 hw => ?_
    have HG4 := hid hw
    clear hw
    obtain ⟨s, hs⟩ := HG4.out.bx
    have c0 := hs.cell 0
    have f0 := hs.frozen 0
    have lq := hs.lt
    have HP := hid (fun t => HG4.out.put t)
    clear hs
    go_wp2_with fail
    go_ret2
    exact ⟨j, i, rfl, .inr ⟨rfl, rfl⟩, HP.out _⟩
  · have dxy : decide (c x y < 0) = false := decide_eq_false hc
    clear hc
    go_upto_region 1 with fail
    refine region_all (fun W => Cnt w0 W bk n F q) mixed (by kernel_rfl) (H0.out.kp0 (Kp.refl No _).drew) ?_
    repeat ((first | ((with_reducible refine cl_val (v := ?_) ?_ ?_ ?_); rotate_left; (focus (go_simp; done)); (focus (intro w' hw; obtain ⟨c1, c2⟩ := And.intro (hw.cell (j := j) (by omega)) (hw.cell (j := i) (by omega)); rw [Hx.out] at c1; rw [Hy.out] at c2; go_simp; (try with_reducible rfl); done))) | ((with_reducible refine cl_skip ?_ ?_); (focus (first | (go_simp; done) | exact unwanted rfl rfl)))); simp only [Act.put, List.setIfInBounds_toArray, List.set_cons_zero, List.set_cons_succ])
    refine cl_call (v := .int .i64 (c x y)) (by first | rfl | go_simp) (fun w' hw => by first | (go_simp; exact HC.out.enters _ _) | exact HC.out.enters _ _) (fun w' hw => (HC.out.says _ hw.kp x y HXY.out.1 HXY.out.2).mono fun e w'' h => ⟨h.1, hw.kp0 h.2⟩) ?_
    simp only [Act.put, List.setIfInBounds_toArray, List.set_cons_zero, List.set_cons_succ]
    repeat ((first | ((with_reducible refine cl_val (v := ?_) ?_ ?_ ?_); rotate_left; (focus (go_simp; done)); (focus (intro w' hw; obtain ⟨c1, c2⟩ := And.intro (hw.cell (j := j) (by omega)) (hw.cell (j := i) (by omega)); rw [Hx.out] at c1; rw [Hy.out] at c2; go_simp; (try with_reducible rfl); done))) | ((with_reducible refine cl_skip ?_ ?_); (focus (first | (go_simp; done) | exact unwanted rfl rfl)))); simp only [Act.put, List.setIfInBounds_toArray, List.set_cons_zero, List.set_cons_succ])
    refine cl_nil fun w4 hw => ?_
    have HG4 := hid hw
    clear hw
    go_wp2_with fail
    go_ret2
    exact ⟨i, j, rfl, .inl ⟨rfl, rfl⟩, HG4.out⟩
set_option maxRecDepth 100000 in
set_option maxHeartbeats 4000000 in
theorem median_any {i j k q : Nat} (hC : Cmp w0 bk g bd cb V c) (h : Cnt w0 w bk n F q) (hV : ∀ k, k < n → V (F k)) (hi : i < n) (hj : j < n) (hk : k < n) :
    Calls Try.prog 75 #[.slice (some ⟨bk, 0, none⟩) n cap, .int .i64 (i : Int), .int .i64 (j : Int), .int .i64 (k : Int), .pointer (some ⟨q, 0, none⟩), .func (.func g) bd cb] w fun e w' => ∃ m : Nat, e = .returned (.int .i64 (m : Int)) ∧ (m = i ∨ m = j ∨ m = k) ∧ Cnt w0 w' bk n F q := by
  have HO := hid (fun (W : World) (a b : Nat) (h : Cnt w0 W bk n F q) (ha : a < n) (hb : b < n) => order2_any (cap := cap) hC h hV ha hb)
  have H0 := hid h
  clear h hC hV
  go_enter Try.func75, Try.ntmps75
  go_upto_region 2 with (go_at_call 78; refine (HO.out _ i j H0.out hi hj).mono ?_; rintro e w4 ⟨i1, j1, rfl, h1, k4⟩; have H1 := hid h1; have K4 := hid k4; clear h1 k4)
  have hj1 : j1 < n := by have := H1.out; omega
  have hi1 : i1 < n := by have := H1.out; omega
  go_upto_region 3 with (go_at_call 78; refine (HO.out _ j1 k K4.out hj1 hk).mono ?_; rintro e w5 ⟨j2, k2, rfl, h2, k5⟩; have H2 := hid h2; have K5 := hid k5; clear h2 k5)
  have hj2 : j2 < n := by have := H2.out; omega
  go_wp2_with (go_at_call 78; refine (HO.out _ i1 j2 K5.out hi1 hj2).mono ?_; rintro e w6 ⟨i3, j3, rfl, h3, k6⟩; have H3 := hid h3; have K6 := hid k6; clear h3 k6)
  go_ret
  exact ⟨j3, rfl, by have := H1.out; have := H2.out; have := H3.out; omega, K6.out⟩
set_option maxRecDepth 100000 in
set_option maxHeartbeats 4000000 in
theorem choose_any {a b : Nat} (hC : Cmp w0 bk g bd cb V c) (h : RowF w0 w bk n F) (hV : ∀ k, k < n → V (F k)) (hab : a + 12 < b) (hb50 : b < a + 50) (hbn : b ≤ n) (hn : n ≤ 1000000) :
    Calls Try.prog 62 #[.slice (some ⟨bk, 0, none⟩) n cap, .int .i64 (a : Int), .int .i64 (b : Int), .func (.func g) bd cb] w fun e w' => ∃ (m : Nat) (hn : Int), e = .returned (.tuple #[.int .i64 (m : Int), .int .i64 hn]) ∧ a ≤ m ∧ m < b ∧ (hn = 0 ∨ hn = 1 ∨ hn = 2) ∧ RowF w0 w' bk n F := by
  have H0 := hid (show Cnt w0 (w.alloc (.cells #[.int .i64 0] 3)) bk n F w.heap.size from ⟨h.kp0 ((Kp.refl No w).alloc _), ⟨0, Blk.new w 3 #[.int .i64 0]⟩, h.kp.size⟩)
  have HO := hid (fun (W : World) (i j k : Nat) (h : Cnt w0 W bk n F w.heap.size) (hi : i < n) (hj : j < n) (hk : k < n) => median_any (cap := cap) hC h hV hi hj hk)
  obtain ⟨l, hl⟩ : ∃ q : Nat, b - a = q := ⟨_, rfl⟩
  have el : (b : Int) - (a : Int) = (l : Int) := by omega
  have wl := wrapI (x := (l : Int)) (by unfold I64; omega)
  obtain ⟨d, hd⟩ : ∃ q : Nat, l / 4 = q := ⟨_, rfl⟩
  have ed : (l : Int) / 4 = (d : Int) := by omega
  have etd : (l : Int).tdiv 4 = (d : Int) := by rw [Int.tdiv_eq_ediv_of_nonneg (by omega)]; omega
  have wd := wrapI (x := (d : Int)) (by unfold I64; omega)
  have ed1 : (d : Int) * 1 = (d : Int) := by omega
  obtain ⟨d2, hd2⟩ : ∃ qq : Nat, d * 2 = qq := ⟨_, rfl⟩
  have ed2 : (d : Int) * 2 = (d2 : Int) := by omega
  have wd2 := wrapI (x := (d2 : Int)) (by unfold I64; omega)
  obtain ⟨d3, hd3⟩ : ∃ qq : Nat, d * 3 = qq := ⟨_, rfl⟩
  have ed3 : (d : Int) * 3 = (d3 : Int) := by omega
  have wd3 := wrapI (x := (d3 : Int)) (by unfold I64; omega)
  obtain ⟨i, hi⟩ : ∃ qq : Nat, a + d = qq := ⟨_, rfl⟩
  have ei : (a : Int) + (d : Int) = (i : Int) := by omega
  have wi := wrapI (x := (i : Int)) (by unfold I64; omega)
  obtain ⟨j, hj⟩ : ∃ qq : Nat, a + d * 2 = qq := ⟨_, rfl⟩
  have ej : (a : Int) + (d2 : Int) = (j : Int) := by omega
  have wj := wrapI (x := (j : Int)) (by unfold I64; omega)
  obtain ⟨k, hk⟩ : ∃ qq : Nat, a + d * 3 = qq := ⟨_, rfl⟩
  have ek : (a : Int) + (d3 : Int) = (k : Int) := by omega
  have wk := wrapI (x := (k : Int)) (by unfold I64; omega)
  have g8 : (8 : Int) ≤ (l : Int) := by omega
  have g50 : ¬ (50 : Int) ≤ (l : Int) := by omega
  have hj' : d * 2 = d2 := hd2
  have hk' : d * 3 = d3 := hd3
  clear h hC hV
  go_enter Try.func62, Try.ntmps62
  go_upto_region 12 with (go_at_call 75; refine (HO.out _ i j k H0.out (by omega) (by omega) (by omega)).mono ?_; rintro e w4 ⟨m, rfl, h1, k4⟩; have H1 := hid h1; have K4 := hid k4; clear h1 k4)
  obtain ⟨s, hs⟩ := K4.out.bx
  have c0 := hs.cell 0
  have lq := hs.lt
  clear hs
  have hm : a ≤ m ∧ m < b := by have := H1.out; omega
  by_cases s0 : s = 0
  · subst s0
    go_wp2_with fail
    (try simp only [Exit.inBlock, Exit.then])
    first | go_ret2 | skip
    exact ⟨m, 1, rfl, hm.1, hm.2, .inr (.inl rfl), K4.out.row⟩
  · have b0 : (s == 0) = false := by simp [s0]
    by_cases s12 : s = 12
    · subst s12
      go_wp2_with fail
      (try simp only [Exit.inBlock, Exit.then])
      first | go_ret2 | skip
      exact ⟨m, 2, rfl, hm.1, hm.2, .inr (.inr rfl), K4.out.row⟩
    · have b12 : (s == 12) = false := by simp [s12]
      go_wp2_with fail
      (try simp only [Exit.inBlock, Exit.then])
      first | go_ret2 | skip
      exact ⟨m, 0, rfl, hm.1, hm.2, .inl rfl, K4.out.row⟩
set_option maxRecDepth 100000 in
set_option maxHeartbeats 4000000 in
theorem partial_any {a b : Nat} (hT : Tot R V c) (hC : Cmp w0 bk g bd cb V c) (h : RowF w0 w bk n F) (hV : ∀ k, k < n → V (F k)) (hd : Dis n F) (hab : a < b) (hb50 : b < a + 50) (hbn : b ≤ n) (hn : n ≤ 1000000) :
    Calls Try.prog 64 #[.slice (some ⟨bk, 0, none⟩) n cap, .int .i64 (a : Int), .int .i64 (b : Int), .func (.func g) bd cb] w fun e w' => ∃ q : Bool, e = .returned (.bool q) ∧ RowF w0 w' bk n F ∧ (q = true → Srt R a b F) := by
  have H0 := hid h
  have HT := hid hT
  have HC := hid hC
  have HV := hid hV
  have HD := hid hd
  have mixed : Try.prog.follows .mixedOrders = true := by kernel_rfl
  obtain ⟨l, hl⟩ : ∃ q : Nat, b - a = q := ⟨_, rfl⟩
  have el : (b : Int) - (a : Int) = (l : Int) := by omega
  have wl := wrapI (x := (l : Int)) (by unfold I64; omega)
  have g50 : (l : Int) < 50 := by omega
  have wa := wrapI (x := (a : Int) + 1) (by unfold I64; omega)
  clear h hT hC hV hd
  go_enter Try.func64, Try.ntmps64
  go_wp2_with fail
  go_loopw [8, 9, 10, 11, 12] (fun r u v x y wr => r = .bool false ∧ u = .int .i64 ((a : Int) + 1) ∧ v = .int .i64 0 ∧ x = undef ∧ y = undef ∧ wr = w) (fun _ _ _ _ _ _ => 0)
  case atStart => exact ⟨rfl, by go_num, rfl, rfl, rfl, rfl⟩
  case round =>
    obtain ⟨rfl, rfl, rfl, rfl, rfl, rfl⟩ := hrel
    go_upto_block 2 with fail
    go_cut [9] (fun u wx => ∃ i : Nat, u = .int .i64 (i : Int) ∧ i ≤ b ∧ a < i ∧ Hid (RowF w0 wx bk n F) ∧ Hid (∀ k, a < k → k < i → R (F (k - 1)) (F k)))
    case first =>
      go_wp2_with fail
      go_loopw [9] (fun u wr => ∃ i : Nat, u = .int .i64 (i : Int) ∧ i ≤ b ∧ a < i ∧ Hid (RowF w0 wr bk n F) ∧ Hid (∀ k, a < k → k < i → R (F (k - 1)) (F k))) (fun u _ => b - (vNum u).toNat)
      case atStart => exact ⟨a + 1, by go_num, by omega, by omega, H0, hid fun k h1 h2 => by omega⟩
      case round =>
        clear H0
        obtain ⟨i, rfl, hib, hai, HG, HN⟩ := hrel
        have wi := wrapI (x := (i : Int) + 1) (by unfold I64; omega)
        by_cases hlt : i < b
        · have glt : (i : Int) < (b : Int) := by omega
          obtain ⟨ip, hip⟩ : ∃ q : Nat, i - 1 = q := ⟨_, rfl⟩
          have eip : (i : Int) - 1 = (ip : Int) := by omega
          have wip := wrapI (x := (ip : Int)) (by unfold I64; omega)
          have gin : (i : Int) < (n : Int) := by omega
          have gipn : (ip : Int) < (n : Int) := by omega
          obtain ⟨x, hx⟩ : ∃ x, F i = x := ⟨_, rfl⟩
          obtain ⟨y, hy⟩ : ∃ y, F ip = y := ⟨_, rfl⟩
          have Hx := hid hx
          have Hy := hid hy
          clear hx hy
          have HXY := hid (show V x ∧ V y from ⟨by rw [← Hx.out]; exact HV.out _ (by omega), by rw [← Hy.out]; exact HV.out _ (by omega)⟩)
          have HNE := hid (show x ≠ y from by
            intro e
            rw [← Hx.out, ← Hy.out] at e
            have := HD.out _ _ (by omega) (by omega) e
            omega)
          by_cases hc : c x y < 0
          · have dxy : decide (c x y < 0) = true := decide_eq_true hc
            clear hc
            go_upto_region 5 with fail
            refine region_all (fun W => RowF w0 W bk n F) mixed (by kernel_rfl) (HG.out.kp0 (Kp.refl No _).drew) ?_
            repeat ((first | ((with_reducible refine cl_val (v := ?_) ?_ ?_ ?_); rotate_left; (focus (go_simp; done)); (focus (intro w' hw; obtain ⟨c1, c2⟩ := And.intro (hw.cell (j := i) (by omega)) (hw.cell (j := ip) (by omega)); rw [Hx.out] at c1; rw [Hy.out] at c2; go_simp; (try with_reducible rfl); done))) | ((with_reducible refine cl_skip ?_ ?_); (focus (first | (go_simp; done) | exact unwanted rfl rfl)))); simp only [Act.put, List.setIfInBounds_toArray, List.set_cons_zero, List.set_cons_succ])
            refine cl_call (v := .int .i64 (c x y)) (by first | rfl | go_simp) (fun w' hw => by first | (go_simp; exact HC.out.enters _ _) | exact HC.out.enters _ _) (fun w' hw => (HC.out.says _ hw.kp x y HXY.out.1 HXY.out.2).mono fun e w'' h => ⟨h.1, hw.kp0 h.2⟩) ?_
            simp only [Act.put, List.setIfInBounds_toArray, List.set_cons_zero, List.set_cons_succ]
            repeat ((first | ((with_reducible refine cl_val (v := ?_) ?_ ?_ ?_); rotate_left; (focus (go_simp; done)); (focus (intro w' hw; obtain ⟨c1, c2⟩ := And.intro (hw.cell (j := i) (by omega)) (hw.cell (j := ip) (by omega)); rw [Hx.out] at c1; rw [Hy.out] at c2; go_simp; (try with_reducible rfl); done))) | ((with_reducible refine cl_skip ?_ ?_); (focus (first | (go_simp; done) | exact unwanted rfl rfl)))); simp only [Act.put, List.setIfInBounds_toArray, List.set_cons_zero, List.set_cons_succ])
            refine cl_nil fun w4 hw => ?_
            have HG4 := hid hw
            clear hw
            go_wp2_with fail
            go_meet
            exact ⟨i, rfl, hib, hai, HG4, HN⟩
          · have dxy : decide (c x y < 0) = false := decide_eq_false hc
            have HN2 := hid (show ∀ k, a < k → k < i + 1 → R (F (k - 1)) (F k) from fun k h1 h2 => by
              by_cases e : k = i
              · rw [e, hip, Hx.out, Hy.out]; exact HT.out.nle HXY.out.1 HXY.out.2 hc HNE.out
              · exact HN.out k h1 (by omega))
            clear hc
            go_upto_region 5 with fail
            refine region_all (fun W => RowF w0 W bk n F) mixed (by kernel_rfl) (HG.out.kp0 (Kp.refl No _).drew) ?_
            repeat ((first | ((with_reducible refine cl_val (v := ?_) ?_ ?_ ?_); rotate_left; (focus (go_simp; done)); (focus (intro w' hw; obtain ⟨c1, c2⟩ := And.intro (hw.cell (j := i) (by omega)) (hw.cell (j := ip) (by omega)); rw [Hx.out] at c1; rw [Hy.out] at c2; go_simp; (try with_reducible rfl); done))) | ((with_reducible refine cl_skip ?_ ?_); (focus (first | (go_simp; done) | exact unwanted rfl rfl)))); simp only [Act.put, List.setIfInBounds_toArray, List.set_cons_zero, List.set_cons_succ])
            refine cl_call (v := .int .i64 (c x y)) (by first | rfl | go_simp) (fun w' hw => by first | (go_simp; exact HC.out.enters _ _) | exact HC.out.enters _ _) (fun w' hw => (HC.out.says _ hw.kp x y HXY.out.1 HXY.out.2).mono fun e w'' h => ⟨h.1, hw.kp0 h.2⟩) ?_
            simp only [Act.put, List.setIfInBounds_toArray, List.set_cons_zero, List.set_cons_succ]
            repeat ((first | ((with_reducible refine cl_val (v := ?_) ?_ ?_ ?_); rotate_left; (focus (go_simp; done)); (focus (intro w' hw; obtain ⟨c1, c2⟩ := And.intro (hw.cell (j := i) (by omega)) (hw.cell (j := ip) (by omega)); rw [Hx.out] at c1; rw [Hy.out] at c2; go_simp; (try with_reducible rfl); done))) | ((with_reducible refine cl_skip ?_ ?_); (focus (first | (go_simp; done) | exact unwanted rfl rfl)))); simp only [Act.put, List.setIfInBounds_toArray, List.set_cons_zero, List.set_cons_succ])
            refine cl_nil fun w4 hw => ?_
            have HG4 := hid hw
            clear hw
            go_wp2_with fail
            go_roundw
            case rel => exact ⟨i + 1, by go_num, by omega, by omega, HG4, HN2⟩
            case measure => simp [vNum] <;> omega
        · have glt : ¬ (i : Int) < (b : Int) := by omega
          go_upto_region 5 with fail
          go_big_region_o
          go_wp2_with fail
          go_meet
          exact ⟨i, rfl, hib, hai, hid (HG.out.kp0 (Kp.refl No _).drew), HN⟩
    case rest =>
      obtain ⟨i, rfl, hib, hai, HG, HN⟩ := hcut
      by_cases he : i = b
      · subst he
        have HS := hid (Srt.next HT.out.ord HN.out)
        go_wp2_with fail
        (try simp only [Exit.inBlock, Exit.then])
        first | go_ret | skip
        exact ⟨true, rfl, HG.out, fun _ => HS.out⟩
      · have be : ((i : Int) == (b : Int)) = false := by
          rw [beq_eq_false_iff_ne]
          omega
        have ne : ¬ (i : Int) = (b : Int) := by omega
        go_wp2_with fail
        (try simp only [Exit.inBlock, Exit.then])
        first | go_ret | skip
        exact ⟨false, rfl, HG.out, fun h => by cases h⟩
end
end Go.Proofs.Ytoeeighfjoplhaa
