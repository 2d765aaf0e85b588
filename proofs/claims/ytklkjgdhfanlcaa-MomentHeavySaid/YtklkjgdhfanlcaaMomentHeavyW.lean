/-
  The walk of MomentHeavy.
-/
import Derived.Test.YtklkjgdhfanlcaaMomE
import Derived.Deep.DeepCutAuto
namespace Go.Proofs.Ytklkjgdhfanlcaa
open Go.RowKit

/-- A member, a sum, and the sum with it. -/
structure Hv (a : World) (g0 g1 g2 : Nat) (c0 c1 c2 : Array Value) (w : World) : Prop where
  kept : Kp No a w
  one : Blk w g0 33 c0
  two : Blk w g1 27 c1
  three : Blk w g2 27 c2
section
variable {a w w' : World} {g0 g1 g2 : Nat} {c0 c1 c2 : Array Value}
theorem Hv.kp (h : Hv a g0 g1 g2 c0 c1 c2 w) (k : Kp No w w') : Hv a g0 g1 g2 c0 c1 c2 w' := ⟨h.kept.trans k, h.one.kp0 k, h.two.kp0 k, h.three.kp0 k⟩
end
/-- A member and a sum. -/
structure Hw (a : World) (g0 g1 : Nat) (x0 x1 x2 y0 y1 : Value) (w : World) : Prop where
  kept : Kp No a w
  one : Blk w g0 33 #[x0, x1, x2]
  two : Blk w g1 27 #[y0, y1]
section
variable {a w w' : World} {g0 g1 g : Nat} {x0 x1 x2 y0 y1 : Value}
theorem Hw.kp (h : Hw a g0 g1 x0 x1 x2 y0 y1 w) (k : Kp No w w') : Hw a g0 g1 x0 x1 x2 y0 y1 w' := ⟨h.kept.trans k, h.one.kp0 k, h.two.kp0 k⟩
theorem Hw.all (h : Hw a g0 g1 x0 x1 x2 y0 y1 w) : w.cell? ⟨g0, 0, none⟩ = some x0 ∧ w.cell? ⟨g0, 1, none⟩ = some x1 ∧ w.cell? ⟨g0, 2, none⟩ = some x2 ∧ w.cell? ⟨g1, 0, none⟩ = some y0 ∧ w.cell? ⟨g1, 1, none⟩ = some y1 ∧ Hw a g0 g1 x0 x1 x2 y0 y1 w :=
  ⟨h.one.cell 0, h.one.cell 1, h.one.cell 2, h.two.cell 0, h.two.cell 1, h⟩
theorem Hw.stepc (k : Kp No w w') (h : w.cell? ⟨g0, 0, none⟩ = some x0 ∧ w.cell? ⟨g0, 1, none⟩ = some x1 ∧ w.cell? ⟨g0, 2, none⟩ = some x2 ∧ w.cell? ⟨g1, 0, none⟩ = some y0 ∧ w.cell? ⟨g1, 1, none⟩ = some y1 ∧ Hw a g0 g1 x0 x1 x2 y0 y1 w) :
    w'.cell? ⟨g0, 0, none⟩ = some x0 ∧ w'.cell? ⟨g0, 1, none⟩ = some x1 ∧ w'.cell? ⟨g0, 2, none⟩ = some x2 ∧ w'.cell? ⟨g1, 0, none⟩ = some y0 ∧ w'.cell? ⟨g1, 1, none⟩ = some y1 ∧ Hw a g0 g1 x0 x1 x2 y0 y1 w' := (h.2.2.2.2.2.kp k).all
theorem Hw.putc (h : w.cell? ⟨g0, 0, none⟩ = some x0 ∧ w.cell? ⟨g0, 1, none⟩ = some x1 ∧ w.cell? ⟨g0, 2, none⟩ = some x2 ∧ w.cell? ⟨g1, 0, none⟩ = some y0 ∧ w.cell? ⟨g1, 1, none⟩ = some y1 ∧ Hw a g0 g1 x0 x1 x2 y0 y1 w) (n0 : g0 ≠ g) (n1 : g1 ≠ g) (hg : a.heap.size ≤ g) (u z : Value) :
    ((w.setCell ⟨g, 0, none⟩ u).setCell ⟨g, 1, none⟩ z).cell? ⟨g0, 0, none⟩ = some x0 ∧ ((w.setCell ⟨g, 0, none⟩ u).setCell ⟨g, 1, none⟩ z).cell? ⟨g0, 1, none⟩ = some x1 ∧ ((w.setCell ⟨g, 0, none⟩ u).setCell ⟨g, 1, none⟩ z).cell? ⟨g0, 2, none⟩ = some x2 ∧ ((w.setCell ⟨g, 0, none⟩ u).setCell ⟨g, 1, none⟩ z).cell? ⟨g1, 0, none⟩ = some y0 ∧ ((w.setCell ⟨g, 0, none⟩ u).setCell ⟨g, 1, none⟩ z).cell? ⟨g1, 1, none⟩ = some y1 ∧ Hw a g0 g1 x0 x1 x2 y0 y1 ((w.setCell ⟨g, 0, none⟩ u).setCell ⟨g, 1, none⟩ z) :=
  Hw.all ⟨kp_put h.2.2.2.2.2.kept hg, (h.2.2.2.2.2.one.kp (Kp.set1 _ _ _ _) n0).kp (Kp.set1 _ _ _ _) n0, (h.2.2.2.2.2.two.kp (Kp.set1 _ _ _ _) n1).kp (Kp.set1 _ _ _ _) n1⟩
end

theorem zero_sums {l : List Mem} (h : Pos l) (hz : Ws l = 0) : Ps l = 0 := by
  induction l with
  | nil => rfl
  | cons m l ih =>
    have h1 := owt_bd (h m (by simp))
    have h2 := (sums_bd (l := l) fun x hx => h x (by simp [hx])).1
    simp only [Ws] at hz
    have e : owt m.y = 0 := by omega
    simp only [Ps]
    rw [e, Int.zero_mul, ih (fun x hx => h x (by simp [hx])) (by omega)]
    rfl

/-- Where the mean goes. -/
structure Drawn (b v M N : Int) : Prop where
  up : M ≤ v → M ≤ N ∧ N ≤ v
  down : ¬ M ≤ v → N ≤ M ∧ v ≤ N
theorem drawn {b a p e d : Int} (ha : 0 < a) (he : 0 < e) : Drawn b (b + d) (mean b a p) (mean b (a + e) (p + e * d)) := by
  have hM : mean b a p = b + p / a := by unfold mean; rw [if_neg (by omega)]
  have hN : mean b (a + e) (p + e * d) = b + (p + e * d) / (a + e) := by unfold mean; rw [if_neg (by omega)]
  rw [hM, hN]
  obtain ⟨q, hq⟩ : ∃ q, p / a = q := ⟨_, rfl⟩
  obtain ⟨r, hr⟩ : ∃ r, (p + e * d) / (a + e) = r := ⟨_, rfl⟩
  have hae : 0 < a + e := by omega
  have q1 : q * a ≤ p := by rw [← hq]; exact Int.ediv_mul_le p (by omega)
  have q2 : p < (q + 1) * a := by rw [← hq]; exact Int.lt_ediv_add_one_mul_self p ha
  rw [hq, hr]
  have ge : ∀ t : Int, t * (a + e) ≤ p + e * d → t ≤ r := fun t h => by rw [← hr]; exact Int.le_ediv_of_mul_le hae h
  have lt : ∀ t : Int, p + e * d < (t + 1) * (a + e) → r ≤ t := fun t h => by
    have : r < t + 1 := by rw [← hr]; exact Int.ediv_lt_of_lt_mul hae h
    omega
  have c1 : e * d = d * e := Int.mul_comm _ _
  refine ⟨fun h => ?_, fun h => ?_⟩
  · have hqd : q ≤ d := by omega
    have m1 := Int.mul_le_mul_of_nonneg_right hqd (show 0 ≤ e by omega)
    have m2 := Int.mul_le_mul_of_nonneg_right (show q + 1 ≤ d + 1 by omega) (show 0 ≤ a by omega)
    have k1 : q * (a + e) = q * a + q * e := Int.mul_add _ _ _
    have k2 : (d + 1) * (a + e) = (d + 1) * a + (d + 1) * e := Int.mul_add _ _ _
    have k3 : (d + 1) * e = d * e + e := by rw [Int.add_mul, Int.one_mul]
    have g1 := ge q (by omega)
    have g2 := lt d (by omega)
    omega
  · have hqd : d < q := by omega
    have m1 := Int.mul_le_mul_of_nonneg_right (show d ≤ q by omega) (show 0 ≤ a by omega)
    have m2 := Int.mul_le_mul_of_nonneg_right (show d ≤ q by omega) (show 0 ≤ e by omega)
    have k1 : d * (a + e) = d * a + d * e := Int.mul_add _ _ _
    have k2 : (q + 1) * (a + e) = (q + 1) * a + (q + 1) * e := Int.mul_add _ _ _
    have k3 : (q + 1) * e = q * e + e := by rw [Int.add_mul, Int.one_mul]
    have g1 := ge d (by omega)
    have g2 := lt q (by omega)
    omega

set_option maxHeartbeats 2000000 in
theorem momentHeavy_walk (w : World) (n : Int) (u : Value) (x y : Int) (o : Bool) {xs : List Mem} (_ : I64 n) (hu : Rw 3 mc m0 w Anyb u xs ∧ Pos xs) (hy : 0 ≤ y) :
    Calls Try.prog 8 #[.int .i64 n, u, .agg #[.int .i32 x, .int .u32 y, .bool o]] w fun e w' => e = .returned (.bool true) ∧ Kp No w w' := by
  have HU := hid hu.1
  have HX := hid hu.2
  have HY := hid hy
  obtain ⟨hu1, _⟩ := hu
  obtain ⟨A, c, rfl, hc, hmx, _⟩ := hu1
  unfold maxLen at hmx
  have o2' := owt_bd hy
  have o3' := oby_bd x
  have o1' := one_bd (m := ⟨x, y, o⟩) hy
  dsimp only at o1'
  have HWG := hid (fun w' => wgt_any x y o w' hy)
  have HBY := hid (fun w' => by_any x y o w')
  obtain ⟨e, hew⟩ : ∃ n, owt y = n := ⟨_, rfl⟩
  obtain ⟨d, hdb⟩ : ∃ n, oby x = n := ⟨_, rfl⟩
  rw [hew] at o2' HWG o1'
  rw [hdb] at o3' HBY o1'
  clear hew hdb hy
  have A0 := hid (At.mk ((Kp.refl No w).alloc (.cells #[.int .i32 x, .int .u32 y, .bool o] 33)) (Blk.new w 33 #[.int .i32 x, .int .u32 y, .bool o]))
  go_enter Try.func8, Try.ntmps8
  go_wp2_with fail
  refine (awake_any _).mono ?_
  rintro e1 w1 ⟨rfl, k1⟩
  have A1 := hid (A0.out.kp k1)
  clear k1 A0
  by_cases hl : 30 < xs.length
  · have hb1 : decide ((30 : Int) < (xs.length : Int)) = true := by simp; omega
    go_wp2
    go_ret
    exact ⟨rfl, A1.out.kept⟩
  have hb1 : decide ((30 : Int) < (xs.length : Int)) = false := by simp; omega
  have c0 := A1.out.blk.cell 0
  have c1 := A1.out.blk.cell 1
  have c2 := A1.out.blk.cell 2
  have lt := A1.out.blk.lt
  simp at c0 c1 c2
  by_cases hz : e = 0
  · have hz1 : (e == 0) = true := by simp [hz]
    clear hz
    go_wp2_with fail
    refine (HWG.out _).mono ?_
    rintro e1 w2 ⟨rfl, k2⟩
    have A2 := hid (A1.out.kp k2)
    clear k2 c0 c1 c2 lt
    go_wp2_with fail
    go_ret
    exact ⟨rfl, A2.out.kept⟩
  have hz1 : (e == 0) = false := by simp [hz]
  obtain ⟨s0, s1, s2, s3⟩ := sums_bd HX.out
  have HZS := hid (zero_sums HX.out)
  obtain ⟨a, ha⟩ : ∃ a, Ws xs = a := ⟨_, rfl⟩
  obtain ⟨p, hp⟩ : ∃ p, Ps xs = p := ⟨_, rfl⟩
  obtain ⟨b, hb⟩ : ∃ b, bsd n = b := ⟨_, rfl⟩
  have nb := bsd_bd n
  rw [ha] at s0 s1 HZS
  rw [hp] at s2 s3 HZS
  rw [hb] at nb
  have HSUM := hid (fun w' => fun (h : Rw 3 mc m0 w' Anyb (.slice A xs.length c) xs) => summed_is (w := w') (b := b) h HX.out (by omega) (by omega) (by omega) ha hp)
  have HADD := hid (fun w' => add_is (w := w') (b := b) (a := a) (p := p) (v := b + d) (q := e) (d := d) (z := e * d) (a' := a + e) (p' := p + e * d) (by omega) rfl ⟨by omega, by omega⟩ rfl rfl ⟨by omega, by omega⟩ ⟨by omega, by omega⟩ ⟨by omega, by omega⟩ ⟨by omega, by omega⟩ ⟨by omega, by omega⟩ ⟨by omega, by omega⟩)
  have HW2 := hid (fun w' => weight_any (b := b) (a := a) (fl p) w' ⟨by omega, by omega⟩)
  have HM2 := hid (fun w' => mean_is (w := w') (b := b) (a := a) (p := p) rfl s0 ⟨by omega, by omega⟩ ⟨by omega, by omega⟩ (by omega) (by omega))
  have HN2 := hid (fun w' => mean_is (w := w') (b := b) (a := a + e) (p := p + e * d) rfl (by omega) ⟨by omega, by omega⟩ ⟨by omega, by omega⟩ (by omega) (by omega))
  have HDR := hid (fun (h : a ≠ 0) => drawn (b := b) (a := a) (p := p) (e := e) (d := d) (by omega) (by omega))
  have HZ := hid (fun (h : a = 0) => show mean b (a + e) (p + e * d) = b + d by
    have hp0 := HZS.out h
    subst h
    subst hp0
    unfold mean
    rw [if_neg (by omega), Int.zero_add, Int.zero_add, Int.mul_ediv_cancel_left _ hz])
  generalize p + e * d = p2 at HADD HN2 HDR HZ
  generalize a + e = a2 at HADD HN2 HDR HZ
  obtain ⟨M, hM⟩ : ∃ m, mean b a p = m := ⟨_, rfl⟩
  obtain ⟨N, hN⟩ : ∃ m, mean b a2 p2 = m := ⟨_, rfl⟩
  rw [hM] at HM2 HDR
  rw [hN] at HN2 HDR HZ
  have wr1 : IntKind.i64.wrap (b + d) = b + d := wrapI ⟨by omega, by omega⟩
  have HBS := hid hb
  clear ha hp hb hM hN s0 s1 s2 s3 nb o1' o2' o3' HZS hz
  go_wp2_with fail
  refine (HWG.out _).mono ?_
  rintro e1 w2 ⟨rfl, k2⟩
  have A2 := hid (A1.out.kp k2)
  clear k2 c0 c1 c2 lt A1
  go_wp2_with fail
  refine (based_any n _).mono ?_
  rintro e1 w2 ⟨rfl, rfl⟩
  rw [HBS.out]
  go_wp2_with fail
  refine (HSUM.out _ (HU.out.kp0 A2.out.kept)).mono ?_
  rintro e1 w3 ⟨rfl, k3⟩
  have A3 := hid (show Hw w w.heap.size w3.heap.size (.int .i32 x) (.int .u32 y) (.bool o) (.int .i64 b) (.complex .f64 (fl a) (fl p)) (w3.alloc (.cells #[.int .i64 b, .complex .f64 (fl a) (fl p)] 27)) from
    ⟨(A2.out.kp k3).kept.alloc _, (A2.out.kp k3).blk.kp0 ((Kp.refl No w3).alloc _), Blk.new w3 _ _⟩)
  have S3 := hid (show w.heap.size < w3.heap.size from (A2.out.kp k3).blk.lt)
  obtain ⟨c0, c1, c2, c3, c4, _⟩ := A3.out.all
  have l0 := A3.out.one.lt
  have l1 := A3.out.two.lt
  clear k3 A2
  go_wp2_with fail
  refine (HBY.out _).mono ?_
  rintro e1 w4 ⟨rfl, k4⟩
  have A4 := hid (A3.out.kp k4)
  clear k4 A3 c0 c1 c2 c3 c4 l0 l1
  have A5 := A4.out.kp (Kp.refl No _).drew
  have i1 := S3.out
  have i2 := A4.out.two.lt
  go_upto_region 7 with fail
  go_cut [11] (fun s wx => ∃ g : Nat, s = .pointer (some ⟨g, 0, none⟩) ∧ Hid (Hv w w.heap.size w3.heap.size g #[.int .i32 x, .int .u32 y, .bool o] #[.int .i64 b, .complex .f64 (fl a) (fl p)] #[.int .i64 b, .complex .f64 (fl a2) (fl p2)] wx))
  case first =>
    go_region_held3 (fun w' => w'.cell? ⟨w.heap.size, 0, none⟩ = some (.int .i32 x) ∧ w'.cell? ⟨w.heap.size, 1, none⟩ = some (.int .u32 y) ∧ w'.cell? ⟨w.heap.size, 2, none⟩ = some (.bool o) ∧ w'.cell? ⟨w3.heap.size, 0, none⟩ = some (.int .i64 b) ∧ w'.cell? ⟨w3.heap.size, 1, none⟩ = some (.complex .f64 (fl a) (fl p)) ∧
        Hw w w.heap.size w3.heap.size (.int .i32 x) (.int .u32 y) (.bool o) (.int .i64 b) (.complex .f64 (fl a) (fl p)) w')
      (first | exact A5.all | (refine Hw.stepc ((Kp.refl No _).alloc _) ?_; assumption) | (refine Hw.putc ?_ ?_ ?_ ?_ _ _ <;> first | assumption | omega) | (refine Hw.all ?_; refine Hw.kp ?_ ((Kp.refl No _).alloc _).drew; exact A4.out) | exact (((A5.kp k5).kp k6).kp ((Kp.refl No _).alloc _)).all | exact Hw.stepc (by assumption) (by assumption))
      (first
        | (go_at_call 14; (with_reducible refine (HWG.out _).mono ?_); rintro e1 w5 ⟨rfl, k5⟩; have z5 := k5.size; (try simp at z5))
        | (go_at_call 13; (with_reducible refine (HADD.out _).mono ?_); rintro e1 w6 ⟨rfl, k6⟩; have z6 := k6.size; (try simp at z6); (first
            | (have B6 := (((Blk.new w4 27 #[.int .i64 0, .complex .f64 0 0]).kp0 (Kp.refl No _).drew).kp0 k5).kp0 k6; obtain ⟨c7, c8, l8⟩ := B6.two; have f7 := B6.frozen 0; have f8 := B6.frozen 1)
            | (have B6 := (Blk.new w5 27 #[.int .i64 0, .complex .f64 0 0]).kp0 k6; obtain ⟨c7, c8, l8⟩ := B6.two; have f7 := B6.frozen 0; have f8 := B6.frozen 1)
            | skip)))
    all_goals (rename_i hh; have HH := hid hh.2.2.2.2.2; (first | (have T6 := hid (show Blk _ _ 27 #[.int .i64 b, .complex .f64 (fl a2) (fl p2)] from (B6.put 0 (.int .i64 b)).put 1 (.complex .f64 (fl a2) (fl p2)))) | (have T6 := hid (Blk.new w6 27 #[.int .i64 b, .complex .f64 (fl a2) (fl p2)]))); clear hh; go_wp2_with fail; go_meet; exact ⟨_, rfl, hid ⟨HH.out.kept, HH.out.one, HH.out.two, T6.out⟩⟩)
  case rest =>
    obtain ⟨g, rfl, HV⟩ := hcut
    clear A4 A5 i1 i2 S3
    obtain ⟨c3, c4, l1⟩ := HV.out.two.two
    obtain ⟨c5, c6, l2⟩ := HV.out.three.two
    go_wp2_with fail
    refine (HW2.out _).mono ?_
    rintro e1 w7 ⟨rfl, k7⟩
    have H7 := hid (HV.out.kp k7)
    clear k7 c3 c4 c5 c6 l1 l2 HV
    obtain ⟨c3, c4, l1⟩ := H7.out.two.two
    obtain ⟨c5, c6, l2⟩ := H7.out.three.two
    by_cases ha : a = 0
    · have ra : (a == 0) = true := by simp [ha]
      have HE := hid (HZ.out ha)
      have r1 : (b + d == b + d) = true := by simp
      clear ha
      go_wp2_with fail
      refine (HN2.out _).mono ?_
      rintro e1 w8 ⟨rfl, k8⟩
      rw [HE.out]
      have H8 := hid (H7.out.kp k8)
      clear k8 c3 c4 c5 c6 l1 l2 H7
      go_wp2_with fail
      go_ret
      exact ⟨rfl, H8.out.kept⟩
    · have ra : (a == 0) = false := by simp [ha]
      obtain ⟨up, down⟩ := HDR.out ha
      clear ha
      by_cases hu : M ≤ b + d
      · obtain ⟨v1, v2⟩ := up hu
        have d0 := decide_eq_true hu
        have d1 := decide_eq_true v1
        have d2 := decide_eq_true v2
        clear up down hu v1 v2
        go_wp2_with fail
        refine (HM2.out _).mono ?_
        rintro e1 w8 ⟨rfl, k8⟩
        have H8 := hid (H7.out.kp k8)
        clear k8 c3 c4 c5 c6 l1 l2 H7
        go_wp2_with fail
        refine region_class (fun w' => Hv w w.heap.size w3.heap.size g #[.int .i32 x, .int .u32 y, .bool o] #[.int .i64 b, .complex .f64 (fl a) (fl p)] #[.int .i64 b, .complex .f64 (fl a2) (fl p2)] w') 34 rfl (by kernel_rfl) (by kernel_rfl) (by kernel_rfl) (H8.out.kp (Kp.refl No _).drew) ?_
        simp only [List.take_succ_cons, List.take_zero]
        repeat ((first | ((with_reducible refine cl_val (v := ?_) ?_ ?_ ?_); rotate_left; (focus (go_simp; done)); (focus (intro w' hw; obtain ⟨⟨c3, c4, l1⟩, c5, c6, l2⟩ := And.intro hw.two.two hw.three.two; go_simp; (try with_reducible rfl); done))) | ((with_reducible refine cl_skip ?_ ?_); (focus (first | (go_simp; done) | exact unwanted rfl rfl)))); simp only [Act.put, List.setIfInBounds_toArray, List.set_cons_zero, List.set_cons_succ])
        refine cl_call (v := .int .i64 N) rfl (fun w' hw => by go_simp) (fun w' hw => (HN2.out w').mono fun e w'' ⟨he, hk⟩ => ⟨he, hw.kp hk⟩) ?_
        simp only [Act.put, List.setIfInBounds_toArray, List.set_cons_zero, List.set_cons_succ]
        repeat ((first | ((with_reducible refine cl_val (v := ?_) ?_ ?_ ?_); rotate_left; (focus (go_simp; done)); (focus (intro w' hw; obtain ⟨⟨c3, c4, l1⟩, c5, c6, l2⟩ := And.intro hw.two.two hw.three.two; go_simp; (try with_reducible rfl); done))) | ((with_reducible refine cl_skip ?_ ?_); (focus (first | (go_simp; done) | exact unwanted rfl rfl)))); simp only [Act.put, List.setIfInBounds_toArray, List.set_cons_zero, List.set_cons_succ])
        refine cl_call (v := .int .i64 M) rfl (fun w' hw => by go_simp) (fun w' hw => (HM2.out w').mono fun e w'' ⟨he, hk⟩ => ⟨he, hw.kp hk⟩) ?_
        simp only [Act.put, List.setIfInBounds_toArray, List.set_cons_zero, List.set_cons_succ]
        repeat ((first | ((with_reducible refine cl_val (v := ?_) ?_ ?_ ?_); rotate_left; (focus (go_simp; done)); (focus (intro w' hw; obtain ⟨⟨c3, c4, l1⟩, c5, c6, l2⟩ := And.intro hw.two.two hw.three.two; go_simp; (try with_reducible rfl); done))) | ((with_reducible refine cl_skip ?_ ?_); (focus (first | (go_simp; done) | exact unwanted rfl rfl)))); simp only [Act.put, List.setIfInBounds_toArray, List.set_cons_zero, List.set_cons_succ])
        refine cl_call (v := .int .i64 N) rfl (fun w' hw => by go_simp) (fun w' hw => (HN2.out w').mono fun e w'' ⟨he, hk⟩ => ⟨he, hw.kp hk⟩) ?_
        simp only [Act.put, List.setIfInBounds_toArray, List.set_cons_zero, List.set_cons_succ]
        repeat ((first | ((with_reducible refine cl_val (v := ?_) ?_ ?_ ?_); rotate_left; (focus (go_simp; done)); (focus (intro w' hw; obtain ⟨⟨c3, c4, l1⟩, c5, c6, l2⟩ := And.intro hw.two.two hw.three.two; go_simp; (try with_reducible rfl); done))) | ((with_reducible refine cl_skip ?_ ?_); (focus (first | (go_simp; done) | exact unwanted rfl rfl)))); simp only [Act.put, List.setIfInBounds_toArray, List.set_cons_zero, List.set_cons_succ])
        refine cl_nil fun w' hw => ?_
        have H9 := hid hw.kept
        clear hw
        go_wp2_with fail
        go_ret
        exact ⟨rfl, H9.out⟩
      · obtain ⟨v1, v2⟩ := down hu
        have d0 := decide_eq_false hu
        have d1 := decide_eq_true v1
        have d2 := decide_eq_true v2
        clear up down hu v1 v2
        go_wp2_with fail
        refine (HM2.out _).mono ?_
        rintro e1 w8 ⟨rfl, k8⟩
        have H8 := hid (H7.out.kp k8)
        clear k8 c3 c4 c5 c6 l1 l2 H7
        go_wp2_with fail
        refine region_class (fun w' => Hv w w.heap.size w3.heap.size g #[.int .i32 x, .int .u32 y, .bool o] #[.int .i64 b, .complex .f64 (fl a) (fl p)] #[.int .i64 b, .complex .f64 (fl a2) (fl p2)] w') 34 rfl (by kernel_rfl) (by kernel_rfl) (by kernel_rfl) (H8.out.kp (Kp.refl No _).drew) ?_
        simp only [List.take_succ_cons, List.take_zero]
        repeat ((first | ((with_reducible refine cl_val (v := ?_) ?_ ?_ ?_); rotate_left; (focus (go_simp; done)); (focus (intro w' hw; obtain ⟨⟨c3, c4, l1⟩, c5, c6, l2⟩ := And.intro hw.two.two hw.three.two; go_simp; (try with_reducible rfl); done))) | ((with_reducible refine cl_skip ?_ ?_); (focus (first | (go_simp; done) | exact unwanted rfl rfl)))); simp only [Act.put, List.setIfInBounds_toArray, List.set_cons_zero, List.set_cons_succ])
        refine cl_call (v := .int .i64 N) rfl (fun w' hw => by go_simp) (fun w' hw => (HN2.out w').mono fun e w'' ⟨he, hk⟩ => ⟨he, hw.kp hk⟩) ?_
        simp only [Act.put, List.setIfInBounds_toArray, List.set_cons_zero, List.set_cons_succ]
        repeat ((first | ((with_reducible refine cl_val (v := ?_) ?_ ?_ ?_); rotate_left; (focus (go_simp; done)); (focus (intro w' hw; obtain ⟨⟨c3, c4, l1⟩, c5, c6, l2⟩ := And.intro hw.two.two hw.three.two; go_simp; (try with_reducible rfl); done))) | ((with_reducible refine cl_skip ?_ ?_); (focus (first | (go_simp; done) | exact unwanted rfl rfl)))); simp only [Act.put, List.setIfInBounds_toArray, List.set_cons_zero, List.set_cons_succ])
        refine cl_call (v := .int .i64 M) rfl (fun w' hw => by go_simp) (fun w' hw => (HM2.out w').mono fun e w'' ⟨he, hk⟩ => ⟨he, hw.kp hk⟩) ?_
        simp only [Act.put, List.setIfInBounds_toArray, List.set_cons_zero, List.set_cons_succ]
        repeat ((first | ((with_reducible refine cl_val (v := ?_) ?_ ?_ ?_); rotate_left; (focus (go_simp; done)); (focus (intro w' hw; obtain ⟨⟨c3, c4, l1⟩, c5, c6, l2⟩ := And.intro hw.two.two hw.three.two; go_simp; (try with_reducible rfl); done))) | ((with_reducible refine cl_skip ?_ ?_); (focus (first | (go_simp; done) | exact unwanted rfl rfl)))); simp only [Act.put, List.setIfInBounds_toArray, List.set_cons_zero, List.set_cons_succ])
        refine cl_call (v := .int .i64 N) rfl (fun w' hw => by go_simp) (fun w' hw => (HN2.out w').mono fun e w'' ⟨he, hk⟩ => ⟨he, hw.kp hk⟩) ?_
        simp only [Act.put, List.setIfInBounds_toArray, List.set_cons_zero, List.set_cons_succ]
        repeat ((first | ((with_reducible refine cl_val (v := ?_) ?_ ?_ ?_); rotate_left; (focus (go_simp; done)); (focus (intro w' hw; obtain ⟨⟨c3, c4, l1⟩, c5, c6, l2⟩ := And.intro hw.two.two hw.three.two; go_simp; (try with_reducible rfl); done))) | ((with_reducible refine cl_skip ?_ ?_); (focus (first | (go_simp; done) | exact unwanted rfl rfl)))); simp only [Act.put, List.setIfInBounds_toArray, List.set_cons_zero, List.set_cons_succ])
        refine cl_nil fun w' hw => ?_
        have H9 := hid hw.kept
        clear hw
        go_wp2_with fail
        go_ret
        exact ⟨rfl, H9.out⟩
end Go.Proofs.Ytklkjgdhfanlcaa
