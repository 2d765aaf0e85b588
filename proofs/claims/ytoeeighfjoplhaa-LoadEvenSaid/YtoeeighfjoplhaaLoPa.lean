/-
  Contracts of slices.reverseRangeCmpFunc and siftDownCmpFunc at []int, whatever the comparison is.
-/
import Derived.Test.YtoeeighfjoplhaaLoV
import Derived.Test.YtoeeighfjoplhaaLoP
import Derived.Test.YtoeeighfjoplhaaTail
namespace Go.Proofs.Ytoeeighfjoplhaa
open Go.RowKit
section
variable {w0 w : World} {bk n cap : Nat} {g : FuncId} {bd cb : Array Value} {V : Int → Prop} {c : Int → Int → Int} {R : Int → Int → Prop} {F : Nat → Int}
theorem RowF.c2 {W : World} (h : RowF w0 W bk n F) {x y : Nat} (hx : x < n) (hy : y < n) (v : Value) : ∃ u, (W.setCell ⟨bk, x, none⟩ v).cell? ⟨bk, y, none⟩ = some u := by
  by_cases e : x = y
  · subst e; exact ⟨v, World.cell?_setCell_same _ _ _ (h.cell hx)⟩
  · exact ⟨_, (World.cell?_setCell_other _ _ _ _ (by intro e'; simp only [Addr.mk.injEq] at e'; omega)).trans (h.cell hy)⟩
theorem RowF.swapq {W : World} (h : RowF w0 W bk n F) {x y : Nat} (hx : x < n) (hy : y < n) : RowF w0 ((W.setCell ⟨bk, x, none⟩ (.int .i64 (F y))).setCell ⟨bk, y, none⟩ (.int .i64 (F x))) bk n (swp2 x y F) := by
  by_cases e : x = y
  · subst e
    obtain ⟨cs, hb, hc⟩ := h.bx
    obtain ⟨sm, sz0, sz1⟩ := h.sz
    rw [swp2_same]
    refine ⟨h.kp.step ((Kp.set1 bk x W _).setCell (p := ⟨bk, x, none⟩) (.inl rfl) _) fun i hi e => e, ⟨sm, sz0, (sz1.put x _).put x _⟩, ⟨_, (hb.put x _).put x _, fun j hj => ?_⟩, h.lt⟩
    have hxs : x < cs.size := (Array.getElem?_eq_some_iff.1 (hc x hx)).1
    by_cases h1 : j = x
    · subst h1
      rw [Array.getElem?_setIfInBounds_self]
      simp [hxs]
    · rw [Array.getElem?_setIfInBounds_ne (fun e => h1 e.symm), Array.getElem?_setIfInBounds_ne (fun e => h1 e.symm)]
      exact hc j hj
  · exact h.swap hx hy e
set_option maxRecDepth 100000 in
set_option maxHeartbeats 4000000 in
theorem reverse_any {a b : Nat} (h : RowF w0 w bk n F) (hab : a ≤ b) (hbn : b ≤ n) (hn : n ≤ 1000000) :
    Calls Try.prog 63 #[.slice (some ⟨bk, 0, none⟩) n cap, .int .i64 (a : Int), .int .i64 (b : Int), .func (.func g) bd cb] w fun e w' => e = .returned (.tuple #[]) ∧ ∃ F', RowF w0 w' bk n F' ∧ Pm a b F F' := by
  have H0 := hid h
  have mixed : Try.prog.follows .mixedOrders = true := by kernel_rfl
  have hwb := wrapI (x := (b : Int) - 1) (by unfold I64; omega)
  clear h
  go_enter Try.func63, Try.ntmps63
  go_wp2_with fail
  go_loopw [8, 9] (fun u v wr => ∃ (i : Nat) (j : Int) (G : Nat → Int), u = .int .i64 (i : Int) ∧ v = .int .i64 j ∧ a ≤ i ∧ i ≤ n ∧ -1 ≤ j ∧ j < b ∧ Hid (RowF w0 wr bk n G) ∧ Hid (Pm a b F G)) (fun u v _ => (vNum v + 1 - vNum u).toNat)
  case atStart => exact ⟨a, (b : Int) - 1, F, rfl, by go_num, Nat.le_refl _, by omega, by omega, by omega, H0, hid .rfl'⟩
  case round =>
    clear H0
    obtain ⟨i, j, G, rfl, rfl, hai, hin, hj, hjb, HG, HP⟩ := hrel
    by_cases hlt : (i : Int) < j
    · obtain ⟨k, rfl⟩ : ∃ k : Nat, j = (k : Int) := ⟨j.toNat, by omega⟩
      have hkn : (k : Int) < (n : Int) := by omega
      have hin2 : (i : Int) < (n : Int) := by omega
      have hwi := wrapI (x := (i : Int) + 1) (by unfold I64; omega)
      have hwk := wrapI (x := (k : Int) - 1) (by unfold I64; omega)
      obtain ⟨x, hx⟩ : ∃ x, G i = x := ⟨_, rfl⟩
      obtain ⟨y, hy⟩ : ∃ y, G k = y := ⟨_, rfl⟩
      have Hx := hid hx
      have Hy := hid hy
      clear hx hy
      have HP2 := hid (HP.out.sw (x := i) (y := k) (by omega) (by omega) (by omega) (by omega))
      have cA := HG.out.cell (j := i) (by omega)
      have cB := HG.out.cell (j := k) (by omega)
      have fA := HG.out.frozen i
      have fB := HG.out.frozen k
      rw [Hx.out] at cA
      rw [Hy.out] at cB
      obtain ⟨uC, cC⟩ := HG.out.c2 (x := i) (y := k) (by omega) (by omega) (.int .i64 y)
      have HG2 := hid ((HG.out.swapq (x := i) (y := k) (by omega) (by omega)).kp0 (Kp.refl No _).drew)
      rw [Hx.out, Hy.out] at HG2
      go_wp2_with fail
      go_big_region_o
      clear cA cB cC fA fB
      generalize World.drew (World.setCell (World.setCell wr ⟨bk, i, none⟩ (.int .i64 y)) ⟨bk, k, none⟩ (.int .i64 x)) = w2 at HG2 ⊢
      go_wp2_with fail
      go_roundw
      case rel => exact ⟨i + 1, (k : Int) - 1, _, by go_num, by go_num, by omega, by omega, by omega, by omega, HG2, HP2⟩
      case measure => simp [vNum]; omega
    · have gnl : ¬ ((i : Int) < j) := hlt
      go_wp2_with fail
      go_end0
      exact ⟨rfl, G, HG.out, HP.out⟩
set_option maxRecDepth 100000 in
set_option maxHeartbeats 4000000 in
theorem sift_any {lo hi a : Nat} (hT : Tot R V c) (hC : Cmp w0 bk g bd cb V c) (h : RowF w0 w bk n F) (hV : ∀ k, k < n → V (F k)) (hd : Dis n F) (hlo : lo ≤ hi) (hb : a + hi ≤ n) (hn : n ≤ 1000000) (hH : Hp R a hi (lo + 1) F) :
    Calls Try.prog 71 #[.slice (some ⟨bk, 0, none⟩) n cap, .int .i64 (lo : Int), .int .i64 (hi : Int), .int .i64 (a : Int), .func (.func g) bd cb] w fun e w' => e = .returned (.tuple #[]) ∧ ∃ F', RowF w0 w' bk n F' ∧ Pm a (a + hi) F F' ∧ Hp R a hi lo F' := by
  have H0 := hid h
  have HT := hid hT
  have HC := hid hC
  have HV := hid hV
  have HD := hid hd
  have HS := hid hH.start
  have mixed : Try.prog.follows .mixedOrders = true := by kernel_rfl
  clear h hT hC hV hd hH
  go_enter Try.func71, Try.ntmps71
  go_wp2_with fail
  go_loopw [10] (fun u wr => ∃ (r : Nat) (G : Nat → Int), u = .int .i64 (r : Int) ∧ lo ≤ r ∧ r ≤ hi ∧ Hid (RowF w0 wr bk n G) ∧ Hid (Pm a (a + hi) F G) ∧ Hid (HpB R a hi lo r G ∧ HpU R a hi lo r G)) (fun u _ => hi - (vNum u).toNat)
  case atStart => exact ⟨lo, F, rfl, Nat.le_refl _, hlo, H0, hid .rfl', HS⟩
  case round =>
    clear H0 HS
    obtain ⟨r, G, rfl, hlr, hrh, HG, HP, HI⟩ := hrel
    obtain ⟨d2, hd2⟩ : ∃ qq : Nat, 2 * r = qq := ⟨_, rfl⟩
    have ed2 : 2 * (r : Int) = (d2 : Int) := by omega
    have wd2 := wrapI (x := (d2 : Int)) (by unfold I64; omega)
    obtain ⟨c1, hc1⟩ : ∃ qq : Nat, 2 * r + 1 = qq := ⟨_, rfl⟩
    have ec1 : (d2 : Int) + 1 = (c1 : Int) := by omega
    have wc1 := wrapI (x := (c1 : Int)) (by unfold I64; omega)
    by_cases hend : hi ≤ c1
    · have gend : (hi : Int) ≤ (c1 : Int) := by omega
      go_wp2_with fail
      go_end0
      exact ⟨rfl, G, HG.out, HP.out, HI.out.1.stop fun k hk hkh => by omega⟩
    · have gend : ¬ (hi : Int) ≤ (c1 : Int) := by omega
      have HVG := hid (fun k (hk : k < n) => show V (G k) from by
        by_cases hkk : a ≤ k ∧ k < a + hi
        · exact HP.out.all (P := V) (fun k h1 h2 => HV.out k (by omega)) k hkk.1 hkk.2
        · rw [HP.out.out (by omega)]; exact HV.out k hk)
      have HDG := hid (HP.out.dis hb HD.out)
      obtain ⟨c2, hc2⟩ : ∃ qq : Nat, 2 * r + 2 = qq := ⟨_, rfl⟩
      have ec2 : (c1 : Int) + 1 = (c2 : Int) := by omega
      have wc2 := wrapI (x := (c2 : Int)) (by unfold I64; omega)
      obtain ⟨pr, hpr⟩ : ∃ qq : Nat, a + r = qq := ⟨_, rfl⟩
      have epr : (a : Int) + (r : Int) = (pr : Int) := by omega
      have wpr := wrapI (x := (pr : Int)) (by unfold I64; omega)
      obtain ⟨p1, hp1⟩ : ∃ qq : Nat, a + (2 * r + 1) = qq := ⟨_, rfl⟩
      have ep1 : (a : Int) + (c1 : Int) = (p1 : Int) := by omega
      have wp1 := wrapI (x := (p1 : Int)) (by unfold I64; omega)
      obtain ⟨p2, hp2⟩ : ∃ qq : Nat, a + (2 * r + 2) = qq := ⟨_, rfl⟩
      have ep2 : (p1 : Int) + 1 = (p2 : Int) := by omega
      have wp2 := wrapI (x := (p2 : Int)) (by unfold I64; omega)
      have e2p : (a : Int) + (c2 : Int) = (p2 : Int) := by omega
      have gr : (pr : Int) < (n : Int) := by omega
      have g1 : (p1 : Int) < (n : Int) := by omega
      obtain ⟨x, hx⟩ : ∃ x, G pr = x := ⟨_, rfl⟩
      obtain ⟨y, hy⟩ : ∃ y, G p1 = y := ⟨_, rfl⟩
      obtain ⟨z, hz⟩ : ∃ z, G p2 = z := ⟨_, rfl⟩
      have Hx := hid hx
      have Hy := hid hy
      have Hz := hid hz
      clear hx hy hz
      have HXY := hid (show V x ∧ V y from ⟨by rw [← Hx.out]; exact HVG.out _ (by omega), by rw [← Hy.out]; exact HVG.out _ (by omega)⟩)
      have HST := hid (fun (m pm : Nat) (u : Int) (hm : m = 2 * r + 1 ∨ m = 2 * r + 2) (hmh : m < hi) (hpm : pm = a + m) (hu : G pm = u) (hbig : ∀ k, k = 2 * r + 1 ∨ k = 2 * r + 2 → k < hi → ¬ R u (G (a + k))) (hc : ¬ c x u < 0) => show Hp R a hi lo G from by
        refine HI.out.1.stop fun k hk hkh hlt => ?_
        have hVu : V u := by rw [← hu]; exact HVG.out _ (by omega)
        have hVx : V x := by rw [← Hx.out]; exact HVG.out _ (by omega)
        have hne : x ≠ u := by
          intro e
          rw [← Hx.out, ← hu] at e
          have := HDG.out _ _ (by omega) (by omega) e
          omega
        have h1 := HT.out.nle hVx hVu hc hne
        have e1 : G (a + r) = x := by rw [← Hx.out]; congr 1 <;> omega
        rw [e1] at hlt
        exact hbig k hk hkh (HT.out.ord.tr h1 hlt))
      have HGO := hid (fun (m pm : Nat) (u : Int) (hm : m = 2 * r + 1 ∨ m = 2 * r + 2) (hmh : m < hi) (hpm : pm = a + m) (hu : G pm = u) (hbig : ∀ k, k = 2 * r + 1 ∨ k = 2 * r + 2 → k < hi → ¬ R u (G (a + k))) (hc : c x u < 0) => show Pm a (a + hi) F (swp2 pr pm G) ∧ HpB R a hi lo m (swp2 pr pm G) ∧ HpU R a hi lo m (swp2 pr pm G) from by
        have hVu : V u := by rw [← hu]; exact HVG.out _ (by omega)
        have hVx : V x := by rw [← Hx.out]; exact HVG.out _ (by omega)
        have h1 := (HT.out.lt hVx hVu).1 hc
        rw [← hpr, hpm]
        refine ⟨HP.out.sw (by omega) (by omega) (by omega) (by omega), HI.out.1.down HT.out hlr HI.out.2 hm hmh ?_ ?_⟩
        · rw [hpr, ← hpm, Hx.out, hu]; exact h1
        · rw [← hpm, hu]; exact hbig)
      by_cases h2 : c2 < hi
      · have gh2 : (c2 : Int) < (hi : Int) := by omega
        have g2 : (p2 : Int) < (n : Int) := by omega
        have HYZ := hid (show V y ∧ V z from ⟨HXY.out.2, by rw [← Hz.out]; exact HVG.out _ (by omega)⟩)
        have HNE := hid (show y ≠ z from by
          intro e
          rw [← Hy.out, ← Hz.out] at e
          have := HDG.out _ _ (by omega) (by omega) e
          omega)
        have E1 := hid (show G (a + (2 * r + 1)) = y from by rw [← Hy.out]; congr 1 <;> omega)
        have E2 := hid (show G (a + (2 * r + 2)) = z from by rw [← Hz.out]; congr 1 <;> omega)
        by_cases hyz : c y z < 0
        · have HLT := hid ((HT.out.lt HYZ.out.1 HYZ.out.2).1 hyz)
          have dyz : decide (c y z < 0) = true := decide_eq_true hyz
          clear hyz
          go_wp2_with fail
          refine region_all (fun W => RowF w0 W bk n G) mixed (by kernel_rfl) (HG.out.kp0 (Kp.refl No _).drew) ?_
          repeat ((first | ((with_reducible refine cl_val (v := ?_) ?_ ?_ ?_); rotate_left; (focus (go_simp; done)); (focus (intro w' hw; obtain ⟨c1, c2⟩ := And.intro (hw.cell (j := p1) (by omega)) (hw.cell (j := p2) (by omega)); rw [Hy.out] at c1; rw [Hz.out] at c2; go_simp; (try with_reducible rfl); done))) | ((with_reducible refine cl_skip ?_ ?_); (focus (first | (go_simp; done) | exact unwanted rfl rfl)))); simp only [Act.put, List.setIfInBounds_toArray, List.set_cons_zero, List.set_cons_succ])
          refine cl_call (v := .int .i64 (c y z)) (by first | rfl | go_simp) (fun w' hw => by first | (go_simp; exact HC.out.enters _ _) | exact HC.out.enters _ _) (fun w' hw => (HC.out.says _ hw.kp y z HYZ.out.1 HYZ.out.2).mono fun e w'' h => ⟨h.1, hw.kp0 h.2⟩) ?_
          simp only [Act.put, List.setIfInBounds_toArray, List.set_cons_zero, List.set_cons_succ]
          repeat ((first | ((with_reducible refine cl_val (v := ?_) ?_ ?_ ?_); rotate_left; (focus (go_simp; done)); (focus (intro w' hw; obtain ⟨c1, c2⟩ := And.intro (hw.cell (j := p1) (by omega)) (hw.cell (j := p2) (by omega)); rw [Hy.out] at c1; rw [Hz.out] at c2; go_simp; (try with_reducible rfl); done))) | ((with_reducible refine cl_skip ?_ ?_); (focus (first | (go_simp; done) | exact unwanted rfl rfl)))); simp only [Act.put, List.setIfInBounds_toArray, List.set_cons_zero, List.set_cons_succ])
          refine cl_nil fun w4 hw => ?_
          have HG4 := hid hw
          clear hw
          go_wp2_with fail
          have HBG := hid (show ∀ k, k = 2 * r + 1 ∨ k = 2 * r + 2 → k < hi → ¬ R z (G (a + k)) from (by rintro k (rfl | rfl) _; exact (by rw [E1.out]; exact fun h => HT.out.asym h HLT.out); exact (by rw [E2.out]; exact HT.out.irr _)))
          have HXU := hid (show V x ∧ V z from ⟨HXY.out.1, by rw [← Hz.out]; exact HVG.out _ (by omega)⟩)
          by_cases hgo : c x z < 0
          · have HN := hid (HGO.out c2 p2 z (by omega) (by omega) (by omega) Hz.out HBG.out hgo)
            have dgo : decide (c x z < 0) = true := decide_eq_true hgo
            clear hgo
            go_wp2_with fail
            refine region_all (fun W => RowF w0 W bk n G) mixed (by kernel_rfl) (HG4.out.kp0 (Kp.refl No _).drew) ?_
            repeat ((first | ((with_reducible refine cl_val (v := ?_) ?_ ?_ ?_); rotate_left; (focus (go_simp; done)); (focus (intro w' hw; obtain ⟨c1, c2⟩ := And.intro (hw.cell (j := pr) (by omega)) (hw.cell (j := p2) (by omega)); rw [Hx.out] at c1; rw [Hz.out] at c2; go_simp; (try with_reducible rfl); done))) | ((with_reducible refine cl_skip ?_ ?_); (focus (first | (go_simp; done) | exact unwanted rfl rfl)))); simp only [Act.put, List.setIfInBounds_toArray, List.set_cons_zero, List.set_cons_succ])
            refine cl_call (v := .int .i64 (c x z)) (by first | rfl | go_simp) (fun w' hw => by first | (go_simp; exact HC.out.enters _ _) | exact HC.out.enters _ _) (fun w' hw => (HC.out.says _ hw.kp x z HXU.out.1 HXU.out.2).mono fun e w'' h => ⟨h.1, hw.kp0 h.2⟩) ?_
            simp only [Act.put, List.setIfInBounds_toArray, List.set_cons_zero, List.set_cons_succ]
            repeat ((first | ((with_reducible refine cl_val (v := ?_) ?_ ?_ ?_); rotate_left; (focus (go_simp; done)); (focus (intro w' hw; obtain ⟨c1, c2⟩ := And.intro (hw.cell (j := pr) (by omega)) (hw.cell (j := p2) (by omega)); rw [Hx.out] at c1; rw [Hz.out] at c2; go_simp; (try with_reducible rfl); done))) | ((with_reducible refine cl_skip ?_ ?_); (focus (first | (go_simp; done) | exact unwanted rfl rfl)))); simp only [Act.put, List.setIfInBounds_toArray, List.set_cons_zero, List.set_cons_succ])
            refine cl_nil fun w5 hw => ?_
            have HG5 := hid hw
            clear hw
            go_wp2_with fail
            have cA := HG5.out.cell (j := pr) (by omega)
            have cB := HG5.out.cell (j := p2) (by omega)
            have fA := HG5.out.frozen pr
            have fB := HG5.out.frozen p2
            rw [Hx.out] at cA
            rw [Hz.out] at cB
            obtain ⟨uC, cC⟩ := HG5.out.c2 (x := pr) (y := p2) (by omega) (by omega) (.int .i64 z)
            have HG6 := hid ((HG5.out.swapq (x := pr) (y := p2) (by omega) (by omega)).kp0 (Kp.refl No _).drew)
            rw [Hx.out, Hz.out] at HG6
            go_wp2_with fail
            go_big_region_o
            clear cA cB cC fA fB
            generalize World.drew (World.setCell (World.setCell w5 ⟨bk, pr, none⟩ (.int .i64 z)) ⟨bk, p2, none⟩ (.int .i64 x)) = w6 at HG6 ⊢
            go_wp2_with fail
            go_roundw
            case rel => exact ⟨c2, _, by go_num, by omega, by omega, HG6, hid HN.out.1, hid HN.out.2⟩
            case measure => simp [vNum]; omega
          · have HN := hid (HST.out c2 p2 z (by omega) (by omega) (by omega) Hz.out HBG.out (by omega))
            have dgo : decide (c x z < 0) = false := decide_eq_false hgo
            clear hgo
            go_wp2_with fail
            refine region_all (fun W => RowF w0 W bk n G) mixed (by kernel_rfl) (HG4.out.kp0 (Kp.refl No _).drew) ?_
            repeat ((first | ((with_reducible refine cl_val (v := ?_) ?_ ?_ ?_); rotate_left; (focus (go_simp; done)); (focus (intro w' hw; obtain ⟨c1, c2⟩ := And.intro (hw.cell (j := pr) (by omega)) (hw.cell (j := p2) (by omega)); rw [Hx.out] at c1; rw [Hz.out] at c2; go_simp; (try with_reducible rfl); done))) | ((with_reducible refine cl_skip ?_ ?_); (focus (first | (go_simp; done) | exact unwanted rfl rfl)))); simp only [Act.put, List.setIfInBounds_toArray, List.set_cons_zero, List.set_cons_succ])
            refine cl_call (v := .int .i64 (c x z)) (by first | rfl | go_simp) (fun w' hw => by first | (go_simp; exact HC.out.enters _ _) | exact HC.out.enters _ _) (fun w' hw => (HC.out.says _ hw.kp x z HXU.out.1 HXU.out.2).mono fun e w'' h => ⟨h.1, hw.kp0 h.2⟩) ?_
            simp only [Act.put, List.setIfInBounds_toArray, List.set_cons_zero, List.set_cons_succ]
            repeat ((first | ((with_reducible refine cl_val (v := ?_) ?_ ?_ ?_); rotate_left; (focus (go_simp; done)); (focus (intro w' hw; obtain ⟨c1, c2⟩ := And.intro (hw.cell (j := pr) (by omega)) (hw.cell (j := p2) (by omega)); rw [Hx.out] at c1; rw [Hz.out] at c2; go_simp; (try with_reducible rfl); done))) | ((with_reducible refine cl_skip ?_ ?_); (focus (first | (go_simp; done) | exact unwanted rfl rfl)))); simp only [Act.put, List.setIfInBounds_toArray, List.set_cons_zero, List.set_cons_succ])
            refine cl_nil fun w5 hw => ?_
            have HG5 := hid hw
            clear hw
            go_wp2_with fail
            (try simp only [Exit.inBlock, Exit.then])
            refine bodyPost_ret (results_none rfl _ _ _) rfl ?_
            exact ⟨rfl, G, HG5.out, HP.out, HN.out⟩
        · have HLT := hid (HT.out.nle HYZ.out.1 HYZ.out.2 hyz HNE.out)
          have dyz : decide (c y z < 0) = false := decide_eq_false hyz
          clear hyz
          go_wp2_with fail
          refine region_all (fun W => RowF w0 W bk n G) mixed (by kernel_rfl) (HG.out.kp0 (Kp.refl No _).drew) ?_
          repeat ((first | ((with_reducible refine cl_val (v := ?_) ?_ ?_ ?_); rotate_left; (focus (go_simp; done)); (focus (intro w' hw; obtain ⟨c1, c2⟩ := And.intro (hw.cell (j := p1) (by omega)) (hw.cell (j := p2) (by omega)); rw [Hy.out] at c1; rw [Hz.out] at c2; go_simp; (try with_reducible rfl); done))) | ((with_reducible refine cl_skip ?_ ?_); (focus (first | (go_simp; done) | exact unwanted rfl rfl)))); simp only [Act.put, List.setIfInBounds_toArray, List.set_cons_zero, List.set_cons_succ])
          refine cl_call (v := .int .i64 (c y z)) (by first | rfl | go_simp) (fun w' hw => by first | (go_simp; exact HC.out.enters _ _) | exact HC.out.enters _ _) (fun w' hw => (HC.out.says _ hw.kp y z HYZ.out.1 HYZ.out.2).mono fun e w'' h => ⟨h.1, hw.kp0 h.2⟩) ?_
          simp only [Act.put, List.setIfInBounds_toArray, List.set_cons_zero, List.set_cons_succ]
          repeat ((first | ((with_reducible refine cl_val (v := ?_) ?_ ?_ ?_); rotate_left; (focus (go_simp; done)); (focus (intro w' hw; obtain ⟨c1, c2⟩ := And.intro (hw.cell (j := p1) (by omega)) (hw.cell (j := p2) (by omega)); rw [Hy.out] at c1; rw [Hz.out] at c2; go_simp; (try with_reducible rfl); done))) | ((with_reducible refine cl_skip ?_ ?_); (focus (first | (go_simp; done) | exact unwanted rfl rfl)))); simp only [Act.put, List.setIfInBounds_toArray, List.set_cons_zero, List.set_cons_succ])
          refine cl_nil fun w4 hw => ?_
          have HG4 := hid hw
          clear hw
          go_wp2_with fail
          have HBG := hid (show ∀ k, k = 2 * r + 1 ∨ k = 2 * r + 2 → k < hi → ¬ R y (G (a + k)) from (by rintro k (rfl | rfl) _; exact (by rw [E1.out]; exact HT.out.irr _); exact (by rw [E2.out]; exact fun h => HT.out.asym h HLT.out)))
          have HXU := hid (show V x ∧ V y from ⟨HXY.out.1, by rw [← Hy.out]; exact HVG.out _ (by omega)⟩)
          by_cases hgo : c x y < 0
          · have HN := hid (HGO.out c1 p1 y (by omega) (by omega) (by omega) Hy.out HBG.out hgo)
            have dgo : decide (c x y < 0) = true := decide_eq_true hgo
            clear hgo
            go_wp2_with fail
            refine region_all (fun W => RowF w0 W bk n G) mixed (by kernel_rfl) (HG4.out.kp0 (Kp.refl No _).drew) ?_
            repeat ((first | ((with_reducible refine cl_val (v := ?_) ?_ ?_ ?_); rotate_left; (focus (go_simp; done)); (focus (intro w' hw; obtain ⟨c1, c2⟩ := And.intro (hw.cell (j := pr) (by omega)) (hw.cell (j := p1) (by omega)); rw [Hx.out] at c1; rw [Hy.out] at c2; go_simp; (try with_reducible rfl); done))) | ((with_reducible refine cl_skip ?_ ?_); (focus (first | (go_simp; done) | exact unwanted rfl rfl)))); simp only [Act.put, List.setIfInBounds_toArray, List.set_cons_zero, List.set_cons_succ])
            refine cl_call (v := .int .i64 (c x y)) (by first | rfl | go_simp) (fun w' hw => by first | (go_simp; exact HC.out.enters _ _) | exact HC.out.enters _ _) (fun w' hw => (HC.out.says _ hw.kp x y HXU.out.1 HXU.out.2).mono fun e w'' h => ⟨h.1, hw.kp0 h.2⟩) ?_
            simp only [Act.put, List.setIfInBounds_toArray, List.set_cons_zero, List.set_cons_succ]
            repeat ((first | ((with_reducible refine cl_val (v := ?_) ?_ ?_ ?_); rotate_left; (focus (go_simp; done)); (focus (intro w' hw; obtain ⟨c1, c2⟩ := And.intro (hw.cell (j := pr) (by omega)) (hw.cell (j := p1) (by omega)); rw [Hx.out] at c1; rw [Hy.out] at c2; go_simp; (try with_reducible rfl); done))) | ((with_reducible refine cl_skip ?_ ?_); (focus (first | (go_simp; done) | exact unwanted rfl rfl)))); simp only [Act.put, List.setIfInBounds_toArray, List.set_cons_zero, List.set_cons_succ])
            refine cl_nil fun w5 hw => ?_
            have HG5 := hid hw
            clear hw
            go_wp2_with fail
            have cA := HG5.out.cell (j := pr) (by omega)
            have cB := HG5.out.cell (j := p1) (by omega)
            have fA := HG5.out.frozen pr
            have fB := HG5.out.frozen p1
            rw [Hx.out] at cA
            rw [Hy.out] at cB
            obtain ⟨uC, cC⟩ := HG5.out.c2 (x := pr) (y := p1) (by omega) (by omega) (.int .i64 y)
            have HG6 := hid ((HG5.out.swapq (x := pr) (y := p1) (by omega) (by omega)).kp0 (Kp.refl No _).drew)
            rw [Hx.out, Hy.out] at HG6
            go_wp2_with fail
            go_big_region_o
            clear cA cB cC fA fB
            generalize World.drew (World.setCell (World.setCell w5 ⟨bk, pr, none⟩ (.int .i64 y)) ⟨bk, p1, none⟩ (.int .i64 x)) = w6 at HG6 ⊢
            go_wp2_with fail
            go_roundw
            case rel => exact ⟨c1, _, by go_num, by omega, by omega, HG6, hid HN.out.1, hid HN.out.2⟩
            case measure => simp [vNum]; omega
          · have HN := hid (HST.out c1 p1 y (by omega) (by omega) (by omega) Hy.out HBG.out (by omega))
            have dgo : decide (c x y < 0) = false := decide_eq_false hgo
            clear hgo
            go_wp2_with fail
            refine region_all (fun W => RowF w0 W bk n G) mixed (by kernel_rfl) (HG4.out.kp0 (Kp.refl No _).drew) ?_
            repeat ((first | ((with_reducible refine cl_val (v := ?_) ?_ ?_ ?_); rotate_left; (focus (go_simp; done)); (focus (intro w' hw; obtain ⟨c1, c2⟩ := And.intro (hw.cell (j := pr) (by omega)) (hw.cell (j := p1) (by omega)); rw [Hx.out] at c1; rw [Hy.out] at c2; go_simp; (try with_reducible rfl); done))) | ((with_reducible refine cl_skip ?_ ?_); (focus (first | (go_simp; done) | exact unwanted rfl rfl)))); simp only [Act.put, List.setIfInBounds_toArray, List.set_cons_zero, List.set_cons_succ])
            refine cl_call (v := .int .i64 (c x y)) (by first | rfl | go_simp) (fun w' hw => by first | (go_simp; exact HC.out.enters _ _) | exact HC.out.enters _ _) (fun w' hw => (HC.out.says _ hw.kp x y HXU.out.1 HXU.out.2).mono fun e w'' h => ⟨h.1, hw.kp0 h.2⟩) ?_
            simp only [Act.put, List.setIfInBounds_toArray, List.set_cons_zero, List.set_cons_succ]
            repeat ((first | ((with_reducible refine cl_val (v := ?_) ?_ ?_ ?_); rotate_left; (focus (go_simp; done)); (focus (intro w' hw; obtain ⟨c1, c2⟩ := And.intro (hw.cell (j := pr) (by omega)) (hw.cell (j := p1) (by omega)); rw [Hx.out] at c1; rw [Hy.out] at c2; go_simp; (try with_reducible rfl); done))) | ((with_reducible refine cl_skip ?_ ?_); (focus (first | (go_simp; done) | exact unwanted rfl rfl)))); simp only [Act.put, List.setIfInBounds_toArray, List.set_cons_zero, List.set_cons_succ])
            refine cl_nil fun w5 hw => ?_
            have HG5 := hid hw
            clear hw
            go_wp2_with fail
            (try simp only [Exit.inBlock, Exit.then])
            refine bodyPost_ret (results_none rfl _ _ _) rfl ?_
            exact ⟨rfl, G, HG5.out, HP.out, HN.out⟩
      · have gh2 : ¬ (c2 : Int) < (hi : Int) := by omega
        have E1 := hid (show G (a + (2 * r + 1)) = y from by rw [← Hy.out]; congr 1 <;> omega)
        go_wp2_with fail
        go_big_region_o
        have HG4 := hid (HG.out.kp0 (Kp.refl No wr).drew)
        generalize World.drew wr = w4 at HG4 ⊢
        go_wp2_with fail
        have HBG := hid (show ∀ k, k = 2 * r + 1 ∨ k = 2 * r + 2 → k < hi → ¬ R y (G (a + k)) from (by rintro k (rfl | rfl) hk; exact (by rw [E1.out]; exact HT.out.irr _); exact (by omega)))
        have HXU := hid (show V x ∧ V y from ⟨HXY.out.1, by rw [← Hy.out]; exact HVG.out _ (by omega)⟩)
        by_cases hgo : c x y < 0
        · have HN := hid (HGO.out c1 p1 y (by omega) (by omega) (by omega) Hy.out HBG.out hgo)
          have dgo : decide (c x y < 0) = true := decide_eq_true hgo
          clear hgo
          go_wp2_with fail
          refine region_all (fun W => RowF w0 W bk n G) mixed (by kernel_rfl) (HG4.out.kp0 (Kp.refl No _).drew) ?_
          repeat ((first | ((with_reducible refine cl_val (v := ?_) ?_ ?_ ?_); rotate_left; (focus (go_simp; done)); (focus (intro w' hw; obtain ⟨c1, c2⟩ := And.intro (hw.cell (j := pr) (by omega)) (hw.cell (j := p1) (by omega)); rw [Hx.out] at c1; rw [Hy.out] at c2; go_simp; (try with_reducible rfl); done))) | ((with_reducible refine cl_skip ?_ ?_); (focus (first | (go_simp; done) | exact unwanted rfl rfl)))); simp only [Act.put, List.setIfInBounds_toArray, List.set_cons_zero, List.set_cons_succ])
          refine cl_call (v := .int .i64 (c x y)) (by first | rfl | go_simp) (fun w' hw => by first | (go_simp; exact HC.out.enters _ _) | exact HC.out.enters _ _) (fun w' hw => (HC.out.says _ hw.kp x y HXU.out.1 HXU.out.2).mono fun e w'' h => ⟨h.1, hw.kp0 h.2⟩) ?_
          simp only [Act.put, List.setIfInBounds_toArray, List.set_cons_zero, List.set_cons_succ]
          repeat ((first | ((with_reducible refine cl_val (v := ?_) ?_ ?_ ?_); rotate_left; (focus (go_simp; done)); (focus (intro w' hw; obtain ⟨c1, c2⟩ := And.intro (hw.cell (j := pr) (by omega)) (hw.cell (j := p1) (by omega)); rw [Hx.out] at c1; rw [Hy.out] at c2; go_simp; (try with_reducible rfl); done))) | ((with_reducible refine cl_skip ?_ ?_); (focus (first | (go_simp; done) | exact unwanted rfl rfl)))); simp only [Act.put, List.setIfInBounds_toArray, List.set_cons_zero, List.set_cons_succ])
          refine cl_nil fun w5 hw => ?_
          have HG5 := hid hw
          clear hw
          go_wp2_with fail
          have cA := HG5.out.cell (j := pr) (by omega)
          have cB := HG5.out.cell (j := p1) (by omega)
          have fA := HG5.out.frozen pr
          have fB := HG5.out.frozen p1
          rw [Hx.out] at cA
          rw [Hy.out] at cB
          obtain ⟨uC, cC⟩ := HG5.out.c2 (x := pr) (y := p1) (by omega) (by omega) (.int .i64 y)
          have HG6 := hid ((HG5.out.swapq (x := pr) (y := p1) (by omega) (by omega)).kp0 (Kp.refl No _).drew)
          rw [Hx.out, Hy.out] at HG6
          go_wp2_with fail
          go_big_region_o
          clear cA cB cC fA fB
          generalize World.drew (World.setCell (World.setCell w5 ⟨bk, pr, none⟩ (.int .i64 y)) ⟨bk, p1, none⟩ (.int .i64 x)) = w6 at HG6 ⊢
          go_wp2_with fail
          go_roundw
          case rel => exact ⟨c1, _, by go_num, by omega, by omega, HG6, hid HN.out.1, hid HN.out.2⟩
          case measure => simp [vNum]; omega
        · have HN := hid (HST.out c1 p1 y (by omega) (by omega) (by omega) Hy.out HBG.out (by omega))
          have dgo : decide (c x y < 0) = false := decide_eq_false hgo
          clear hgo
          go_wp2_with fail
          refine region_all (fun W => RowF w0 W bk n G) mixed (by kernel_rfl) (HG4.out.kp0 (Kp.refl No _).drew) ?_
          repeat ((first | ((with_reducible refine cl_val (v := ?_) ?_ ?_ ?_); rotate_left; (focus (go_simp; done)); (focus (intro w' hw; obtain ⟨c1, c2⟩ := And.intro (hw.cell (j := pr) (by omega)) (hw.cell (j := p1) (by omega)); rw [Hx.out] at c1; rw [Hy.out] at c2; go_simp; (try with_reducible rfl); done))) | ((with_reducible refine cl_skip ?_ ?_); (focus (first | (go_simp; done) | exact unwanted rfl rfl)))); simp only [Act.put, List.setIfInBounds_toArray, List.set_cons_zero, List.set_cons_succ])
          refine cl_call (v := .int .i64 (c x y)) (by first | rfl | go_simp) (fun w' hw => by first | (go_simp; exact HC.out.enters _ _) | exact HC.out.enters _ _) (fun w' hw => (HC.out.says _ hw.kp x y HXU.out.1 HXU.out.2).mono fun e w'' h => ⟨h.1, hw.kp0 h.2⟩) ?_
          simp only [Act.put, List.setIfInBounds_toArray, List.set_cons_zero, List.set_cons_succ]
          repeat ((first | ((with_reducible refine cl_val (v := ?_) ?_ ?_ ?_); rotate_left; (focus (go_simp; done)); (focus (intro w' hw; obtain ⟨c1, c2⟩ := And.intro (hw.cell (j := pr) (by omega)) (hw.cell (j := p1) (by omega)); rw [Hx.out] at c1; rw [Hy.out] at c2; go_simp; (try with_reducible rfl); done))) | ((with_reducible refine cl_skip ?_ ?_); (focus (first | (go_simp; done) | exact unwanted rfl rfl)))); simp only [Act.put, List.setIfInBounds_toArray, List.set_cons_zero, List.set_cons_succ])
          refine cl_nil fun w5 hw => ?_
          have HG5 := hid hw
          clear hw
          go_wp2_with fail
          (try simp only [Exit.inBlock, Exit.then])
          refine bodyPost_ret (results_none rfl _ _ _) rfl ?_
          exact ⟨rfl, G, HG5.out, HP.out, HN.out⟩
end
end Go.Proofs.Ytoeeighfjoplhaa
