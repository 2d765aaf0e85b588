/-
  The walk of MomentPlays.
-/
import Derived.Test.YtklkjgdhfanlcaaMomE
import Derived.Deep.Cut
namespace Go.Proofs.Ytklkjgdhfanlcaa
open Go.RowKit

/-- A moment, and the document's, side by side. -/
structure Pl (a : World) (g p : Nat) (b x z x' z' : Int) (w : World) : Prop where
  kept : Kp No a w
  one : Blk w g 27 #[.int .i64 b, .complex .f64 (fl x) (fl z)]
  two : Blk w p 30 #[.int .i64 b, .int .i64 x', .int .i64 z']
section
variable {a w w' : World} {g p : Nat} {b x z x' z' : Int}
theorem Pl.kp (h : Pl a g p b x z x' z' w) (k : Kp No w w') : Pl a g p b x z x' z' w' := ⟨h.kept.trans k, h.one.kp0 k, h.two.kp0 k⟩
theorem Pl.all (h : Pl a g p b x z x' z' w) : w.cell? ⟨g, 0, none⟩ = some (.int .i64 b) ∧ w.cell? ⟨g, 1, none⟩ = some (.complex .f64 (fl x) (fl z)) ∧ w.cell? ⟨p, 0, none⟩ = some (.int .i64 b) ∧ w.cell? ⟨p, 1, none⟩ = some (.int .i64 x') ∧ w.cell? ⟨p, 2, none⟩ = some (.int .i64 z') ∧ g < w.heap.size ∧ p < w.heap.size :=
  ⟨h.one.cell 0, h.one.cell 1, h.two.cell 0, h.two.cell 1, h.two.cell 2, h.one.lt, h.two.lt⟩
theorem Pl.fz (h : Pl a g p b x z x' z' w) : w.frozen? ⟨g, 0, none⟩ = false ∧ w.frozen? ⟨g, 1, none⟩ = false ∧ w.frozen? ⟨p, 0, none⟩ = false ∧ w.frozen? ⟨p, 1, none⟩ = false ∧ w.frozen? ⟨p, 2, none⟩ = false :=
  ⟨h.one.frozen 0, h.one.frozen 1, h.two.frozen 0, h.two.frozen 1, h.two.frozen 2⟩
theorem Pl.put1 (h : Pl a g p b x z x' z' w) (hg : a.heap.size ≤ g) (hn : g < p) (u y : Int) : Pl a g p b u y x' z' ((w.setCell ⟨g, 0, none⟩ (.int .i64 b)).setCell ⟨g, 1, none⟩ (.complex .f64 (fl u) (fl y))) :=
  ⟨kp_put h.kept hg, (h.one.put 0 _).put 1 _, (h.two.kp (Kp.set1 g 0 _ _) (fun e => by have : p = g := e; omega)).kp (Kp.set1 g 1 _ _) (fun e => by have : p = g := e; omega)⟩
theorem Pl.put2 (h : Pl a g p b x z x' z' w) (hg : a.heap.size ≤ g) (hn : g < p) (u y : Int) : Pl a g p b x z u y (((w.setCell ⟨p, 0, none⟩ (.int .i64 b)).setCell ⟨p, 1, none⟩ (.int .i64 u)).setCell ⟨p, 2, none⟩ (.int .i64 y)) :=
  ⟨(kp_put h.kept (by omega)).setCell (p := ⟨p, 2, none⟩) (.inr (by show a.heap.size ≤ p; omega)) _, ((h.one.kp (Kp.set1 p 0 _ _) (fun e => by have : g = p := e; omega)).kp (Kp.set1 p 1 _ _) (fun e => by have : g = p := e; omega)).kp (Kp.set1 p 2 _ _) (fun e => by have : g = p := e; omega), ((h.two.put 0 _).put 1 _).put 2 _⟩
end

/-- Those that stay. -/
def stay (l : List Mem) : List Mem := l.filter fun m => !m.o
theorem stay_pos {l : List Mem} (h : Pos l) : Pos (stay l) := fun m hm => h m (List.mem_filter.1 hm).1
theorem stay_len (l : List Mem) : (stay l).length ≤ l.length := List.length_filter_le _ _
theorem stay_take {l : List Mem} {k : Nat} {m : Mem} (h : k < l.length) (he : l.getD k m0 = m) : stay (l.take (k + 1)) = stay (l.take k) ++ stay [m] := by
  rw [take_one (d := m0) h, he]
  simp [stay]
theorem stay_sums {l : List Mem} {k : Nat} {x y : Int} {q : Bool} (h : k < l.length) (he : l.getD k m0 = ⟨x, y, q⟩) :
    (q = true → Ws (stay (l.take (k + 1))) = Ws (stay (l.take k)) ∧ Ps (stay (l.take (k + 1))) = Ps (stay (l.take k))) ∧
    (q = false → Ws (stay (l.take (k + 1))) = Ws (stay (l.take k)) + owt y ∧ Ps (stay (l.take (k + 1))) = Ps (stay (l.take k)) + owt y * oby x) := by
  rw [stay_take h he, Ws_app, Ps_app]
  constructor <;> rintro rfl <;> simp [stay, Ws, Ps]
theorem stay_bd {l : List Mem} {k : Nat} (h : Pos l) (hl : l.length ≤ 60) : 0 ≤ Ws (stay (l.take k)) ∧ Ws (stay (l.take k)) ≤ 62914560 ∧ -65970697666560 ≤ Ps (stay (l.take k)) ∧ Ps (stay (l.take k)) ≤ 65970697666560 := by
  have h1 := sums_bd (stay_pos (h.take k))
  have h2 := stay_len (l.take k)
  have h3 := List.length_take_le' k l
  omega

theorem mul_bdp {a d : Int} (h0 : 0 ≤ a) (h1 : a ≤ 67108864) (h2 : -2097152 ≤ d) (h3 : d ≤ 2097152) : -140737488355328 ≤ a * d ∧ a * d ≤ 140737488355328 := by
  have e1 := Int.mul_le_mul_of_nonneg_left h3 h0
  have e2 := Int.mul_le_mul_of_nonneg_left h2 h0
  omega

set_option maxRecDepth 100000 in
set_option maxHeartbeats 8000000 in
theorem momentPlays_walk (w : World) (n : Int) (u : Value) (at1 : Int) {xs : List Mem} (_ : I64 n) (hu : Rw 3 mc m0 w Anyb u xs ∧ Pos xs) (_ : -2147483648 ≤ at1 ∧ at1 ≤ 2147483647) :
    Calls Try.prog 3 #[.int .i64 n, u, .int .i32 at1] w fun e w' => e = .returned (.bool true) ∧ Kp No w w' := by
  have HU := hid hu.1
  have HX := hid hu.2
  obtain ⟨hu1, _⟩ := hu
  obtain ⟨A, c, rfl, hc, hmx, _⟩ := hu1
  unfold maxLen at hmx
  by_cases hl : 60 < xs.length
  · have hb1 : decide ((60 : Int) < (xs.length : Int)) = true := by simp; omega
    go_enter Try.func3, Try.ntmps3
    go_wp2_with fail
    refine (awake_any _).mono ?_
    rintro e w1 ⟨rfl, k1⟩
    have K1 := hid k1
    clear k1
    go_wp2
    go_ret
    exact ⟨rfl, K1.out⟩
  · have hb1 : decide ((60 : Int) < (xs.length : Int)) = false := by simp; omega
    obtain ⟨b, hb⟩ : ∃ b, bsd n = b := ⟨_, rfl⟩
    have nb := bsd_bd n
    rw [hb] at nb
    have HBS := hid hb
    have HLEN := hid (show xs.length ≤ 60 by omega)
    have NA := oby_bd at1
    obtain ⟨ea, hea⟩ : ∃ e, oby at1 = e := ⟨_, rfl⟩
    have HEA := hid hea
    rw [hea] at NA
    have f9 : IntKind.i64.wrap (b + ea) = b + ea := wrapI ⟨by omega, by omega⟩
    clear hb hea
    go_enter Try.func3, Try.ntmps3
    go_wp2_with fail
    refine (awake_any _).mono ?_
    rintro e1 w1 ⟨rfl, k1⟩
    have K1 := hid k1
    clear k1
    go_wp2_with fail
    refine (based_any n _).mono ?_
    rintro e1 w1 ⟨rfl, rfl⟩
    rw [HBS.out]
    go_wp2_with fail
    refine (new_any b _).mono ?_
    rintro e1 w3 ⟨rfl, k3⟩
    have A3 := hid (show Pl w w3.heap.size (w3.heap.size + 1) b (Ws (stay (xs.take 0))) (Ps (stay (xs.take 0))) (Ws (stay (xs.take 0))) (Ps (stay (xs.take 0))) ((w3.alloc (.cells #[.int .i64 b, .complex .f64 (fl 0) (fl 0)] 27)).alloc (.cells #[.int .i64 b, .int .i64 0, .int .i64 0] 30)) from
      ⟨((K1.out.trans k3).alloc _).alloc _, (Blk.new w3 _ _).kp0 ((Kp.refl No _).alloc _), (Blk.new _ _ _).next (by simp)⟩)
    have HG := hid (show w.heap.size ≤ w3.heap.size from (K1.out.trans k3).size)
    clear k3 K1 hb1
    go_wp2_with fail
    go_loopw [11] (fun i wr => ∃ k : Nat, k ≤ xs.length ∧ i = .int .i64 k ∧ Hid (Pl w w3.heap.size (w3.heap.size + 1) b (Ws (stay (xs.take k))) (Ps (stay (xs.take k))) (Ws (stay (xs.take k))) (Ps (stay (xs.take k))) wr)) (fun i _ => xs.length - (intOf i).toNat)
    case atStart => exact ⟨0, Nat.zero_le _, rfl, A3⟩
    case round =>
      obtain ⟨k, hk, rfl, HH⟩ := hrel
      clear A3
      have s0 := stay_bd (k := k) HX.out HLEN.out
      obtain ⟨x0, hx0⟩ : ∃ n, Ws (stay (xs.take k)) = n := ⟨_, rfl⟩
      obtain ⟨z0, hz0⟩ : ∃ n, Ps (stay (xs.take k)) = n := ⟨_, rfl⟩
      by_cases hlt : k < xs.length
      · have hlt' : (k : Int) < (xs.length : Int) := by omega
        obtain ⟨b1, o1, rfl⟩ := HU.out.there (by omega)
        have hy := HX.out (xs.getD k m0) (by simp [List.getD, hlt])
        obtain ⟨⟨x, y, q⟩, he⟩ : ∃ m, xs.getD k m0 = m := ⟨_, rfl⟩
        have HS := hid (stay_sums hlt he)
        rw [he] at hy
        dsimp only at hy
        have HC := hid (fun (w' : World) (h : Kp No w w') => mem_cells HU.out hlt he h)
        have HY := hid hy
        have o1' := one_bd (m := ⟨x, y, q⟩) hy
        dsimp only at o1'
        have o2' := owt_bd hy
        have o3' := oby_bd x
        rw [hx0, hz0] at HH s0 HS
        obtain ⟨e, hew⟩ : ∃ n, owt y = n := ⟨_, rfl⟩
        obtain ⟨d, hdb⟩ : ∃ n, oby x = n := ⟨_, rfl⟩
        obtain ⟨ez, hez⟩ : ∃ n, e * d = n := ⟨_, rfl⟩
        rw [hew, hdb, hez] at o1' HS
        rw [hew] at o2'
        rw [hdb] at o3'
        obtain ⟨x1, hx1⟩ : ∃ n, x0 + e = n := ⟨_, rfl⟩
        obtain ⟨z1, hz1⟩ : ∃ n, z0 + ez = n := ⟨_, rfl⟩
        have n1 : 1 * e * d = ez := by rw [Int.one_mul, hez]
        have n2 : -1 * e * d = -ez := by rw [Int.neg_mul, Int.one_mul, Int.neg_mul, hez]
        have wr1 : IntKind.i64.wrap (b + d) = b + d := wrapI ⟨by omega, by omega⟩
        have HWG := hid (fun w' => wgt_any x y q w' hy)
        have HBY := hid (fun w' => by_any x y q w')
        rw [hew] at HWG
        rw [hdb] at HBY
        have HADD := hid (fun w' => add_is (w := w') (b := b) (a := x0) (p := z0) (v := b + d) (q := e) (d := d) (z := ez) (a' := x1) (p' := z1) (by omega) hez ⟨by omega, by omega⟩ hx1 hz1 ⟨by omega, by omega⟩ ⟨by omega, by omega⟩ ⟨by omega, by omega⟩ ⟨by omega, by omega⟩ ⟨by omega, by omega⟩ ⟨by omega, by omega⟩)
        have HTAK := hid (fun w' => take_is (w := w') (b := b) (a := x1) (p := z1) (v := b + d) (q := e) (d := d) (z := ez) (a' := x0) (p' := z0) (by omega) hez ⟨by omega, by omega⟩ (by omega) (by omega) ⟨by omega, by omega⟩ ⟨by omega, by omega⟩ ⟨by omega, by omega⟩ ⟨by omega, by omega⟩ ⟨by omega, by omega⟩ ⟨by omega, by omega⟩)
        have HRA := hid (fun w' => refadd_is (w := w') (b := b) (a := x0) (p := z0) (v := b + d) (q := e) (k := 1) (d := d) (a' := x1) (p' := z1) (by omega) ⟨by omega, by omega⟩ ⟨by omega, by omega⟩ (by rw [n1]; exact ⟨by omega, by omega⟩) (by omega) (by rw [n1]; exact hz1) ⟨by omega, by omega⟩ ⟨by omega, by omega⟩)
        have HRT := hid (fun w' => refadd_is (w := w') (b := b) (a := x1) (p := z1) (v := b + d) (q := e) (k := -1) (d := d) (a' := x0) (p' := z0) (by omega) ⟨by omega, by omega⟩ ⟨by omega, by omega⟩ (by rw [n2]; exact ⟨by omega, by omega⟩) (by omega) (by rw [n2]; omega) ⟨by omega, by omega⟩ ⟨by omega, by omega⟩)
        have HEND := hid (fun (w' : World) (a p : Int) (ha : a = x0 ∧ p = z0 ∨ a = x1 ∧ p = z1) => And.intro (same_any (w := w') (b := b) (a := a) (p := p) ⟨by omega, by omega⟩ ⟨by omega, by omega⟩) (And.intro (weight_any (b := b) (a := a) (fl p) w' ⟨by omega, by omega⟩)
          (And.intro (mean_is (w := w') (b := b) (a := a) (p := p) rfl (by omega) ⟨by omega, by omega⟩ ⟨by omega, by omega⟩ (by omega) (by omega)) (refmean_is (w := w') (b := b) (a := a) (p := p) rfl (by omega) ⟨by omega, by omega⟩ ⟨by omega, by omega⟩ (by omega) (by omega)))))
        have H01 := hid (And.intro hx1 hz1)
        have HX0 := hid (And.intro hx0 hz0)
        have F := hid (fun (w' : World) (x z x' z' : Int) (h : Pl w w3.heap.size (w3.heap.size + 1) b x z x' z' w') => And.intro h.all (HC.out w' h.kept))
        obtain ⟨⟨c0, c1, c2, c3, c4, lg, lp⟩, c5, c6, c7⟩ := F.out _ _ _ _ _ HH.out
        clear hy o1' o2' o3' he n1 n2 hx1 hz1 hx0 hz0 hew hdb hez s0 nb NA
        cases q
        · go_wp2_with fail
          refine (HBY.out _).mono ?_
          rintro e1 w5 ⟨rfl, k5⟩
          have H5 := hid (HH.out.kp k5)
          clear k5 c0 c1 c2 c3 c4 lg lp c5 c6 c7 HH
          go_wp2_with fail
          refine region_class (fun w' => Pl w w3.heap.size (w3.heap.size + 1) b x0 z0 x0 z0 w') 8 rfl (by kernel_rfl) (by kernel_rfl) (by kernel_rfl) (H5.out.kp (Kp.refl No _).drew) ?_
          simp only [List.take_succ_cons, List.take_zero]
          repeat ((first | ((with_reducible refine cl_val (v := ?_) ?_ ?_ ?_); rotate_left; (focus (go_simp; done)); (focus (intro w' hw; obtain ⟨⟨c0, c1, c2, c3, c4, lg, lp⟩, c5, c6, c7⟩ := F.out w' _ _ _ _ hw; go_simp; (try with_reducible rfl); done))) | ((with_reducible refine cl_skip ?_ ?_); (focus (first | (go_simp; done) | exact unwanted rfl rfl)))); simp only [Act.put, List.setIfInBounds_toArray, List.set_cons_zero, List.set_cons_succ])
          refine cl_call (v := .int .i64 e) rfl (fun w' hw => by go_simp) (fun w' hw => (HWG.out w').mono fun e w'' ⟨he, hk⟩ => ⟨he, hw.kp hk⟩) ?_
          simp only [Act.put, List.setIfInBounds_toArray, List.set_cons_zero, List.set_cons_succ]
          repeat ((first | ((with_reducible refine cl_val (v := ?_) ?_ ?_ ?_); rotate_left; (focus (go_simp; done)); (focus (intro w' hw; obtain ⟨⟨c0, c1, c2, c3, c4, lg, lp⟩, c5, c6, c7⟩ := F.out w' _ _ _ _ hw; go_simp; (try with_reducible rfl); done))) | ((with_reducible refine cl_skip ?_ ?_); (focus (first | (go_simp; done) | exact unwanted rfl rfl)))); simp only [Act.put, List.setIfInBounds_toArray, List.set_cons_zero, List.set_cons_succ])
          refine cl_call (v := .agg #[.int .i64 b, .complex .f64 (fl x1) (fl z1)]) rfl (fun w' hw => by go_simp) (fun w' hw => (HADD.out w').mono fun e w'' ⟨he, hk⟩ => ⟨he, hw.kp hk⟩) ?_
          simp only [Act.put, List.setIfInBounds_toArray, List.set_cons_zero, List.set_cons_succ]
          repeat ((first | ((with_reducible refine cl_val (v := ?_) ?_ ?_ ?_); rotate_left; (focus (go_simp; done)); (focus (intro w' hw; obtain ⟨⟨c0, c1, c2, c3, c4, lg, lp⟩, c5, c6, c7⟩ := F.out w' _ _ _ _ hw; go_simp; (try with_reducible rfl); done))) | ((with_reducible refine cl_skip ?_ ?_); (focus (first | (go_simp; done) | exact unwanted rfl rfl)))); simp only [Act.put, List.setIfInBounds_toArray, List.set_cons_zero, List.set_cons_succ])
          refine cl_nil fun w' hw => ?_
          have HQ := hid hw
          obtain ⟨c0, c1, c2, c3, c4, lg, lp⟩ := hw.all
          obtain ⟨f0, f1, f2, f3, f4⟩ := hw.fz
          clear hw H5
          go_wp2_with fail
          have H6 := hid (HQ.out.put1 HG.out (by omega) x1 z1)
          generalize (w'.setCell ⟨w3.heap.size, 0, none⟩ (.int .i64 b)).setCell ⟨w3.heap.size, 1, none⟩ (.complex .f64 (fl x1) (fl z1)) = wH6 at H6 ⊢
          clear HQ c0 c1 c2 c3 c4 lg lp f0 f1 f2 f3 f4
          refine region_class (fun w' => Pl w w3.heap.size (w3.heap.size + 1) b x1 z1 x0 z0 w') 8 rfl (by kernel_rfl) (by kernel_rfl) (by kernel_rfl) (H6.out.kp (Kp.refl No _).drew) ?_
          simp only [List.take_succ_cons, List.take_zero]
          repeat ((first | ((with_reducible refine cl_val (v := ?_) ?_ ?_ ?_); rotate_left; (focus (go_simp; done)); (focus (intro w' hw; obtain ⟨⟨c0, c1, c2, c3, c4, lg, lp⟩, c5, c6, c7⟩ := F.out w' _ _ _ _ hw; go_simp; (try with_reducible rfl); done))) | ((with_reducible refine cl_skip ?_ ?_); (focus (first | (go_simp; done) | exact unwanted rfl rfl)))); simp only [Act.put, List.setIfInBounds_toArray, List.set_cons_zero, List.set_cons_succ])
          refine cl_call (v := .int .i64 e) rfl (fun w' hw => by go_simp) (fun w' hw => (HWG.out w').mono fun e w'' ⟨he, hk⟩ => ⟨he, hw.kp hk⟩) ?_
          simp only [Act.put, List.setIfInBounds_toArray, List.set_cons_zero, List.set_cons_succ]
          repeat ((first | ((with_reducible refine cl_val (v := ?_) ?_ ?_ ?_); rotate_left; (focus (go_simp; done)); (focus (intro w' hw; obtain ⟨⟨c0, c1, c2, c3, c4, lg, lp⟩, c5, c6, c7⟩ := F.out w' _ _ _ _ hw; go_simp; (try with_reducible rfl); done))) | ((with_reducible refine cl_skip ?_ ?_); (focus (first | (go_simp; done) | exact unwanted rfl rfl)))); simp only [Act.put, List.setIfInBounds_toArray, List.set_cons_zero, List.set_cons_succ])
          refine cl_call (v := .agg #[.int .i64 b, .int .i64 x1, .int .i64 z1]) rfl (fun w' hw => by go_simp) (fun w' hw => (HRA.out w').mono fun e w'' ⟨he, hk⟩ => ⟨he, hw.kp hk⟩) ?_
          simp only [Act.put, List.setIfInBounds_toArray, List.set_cons_zero, List.set_cons_succ]
          repeat ((first | ((with_reducible refine cl_val (v := ?_) ?_ ?_ ?_); rotate_left; (focus (go_simp; done)); (focus (intro w' hw; obtain ⟨⟨c0, c1, c2, c3, c4, lg, lp⟩, c5, c6, c7⟩ := F.out w' _ _ _ _ hw; go_simp; (try with_reducible rfl); done))) | ((with_reducible refine cl_skip ?_ ?_); (focus (first | (go_simp; done) | exact unwanted rfl rfl)))); simp only [Act.put, List.setIfInBounds_toArray, List.set_cons_zero, List.set_cons_succ])
          refine cl_nil fun w' hw => ?_
          have HQ := hid hw
          obtain ⟨c0, c1, c2, c3, c4, lg, lp⟩ := hw.all
          obtain ⟨f0, f1, f2, f3, f4⟩ := hw.fz
          clear hw H6
          go_upto_region 13 with (fail)
          have H7 := hid (HQ.out.put2 HG.out (by omega) x1 z1)
          generalize ((w'.setCell ⟨w3.heap.size + 1, 0, none⟩ (.int .i64 b)).setCell ⟨w3.heap.size + 1, 1, none⟩ (.int .i64 x1)).setCell ⟨w3.heap.size + 1, 2, none⟩ (.int .i64 z1) = wH7 at H7 ⊢
          clear HQ c0 c1 c2 c3 c4 lg lp f0 f1 f2 f3 f4
          obtain ⟨⟨c0, c1, c2, c3, c4, lg, lp⟩, c5, c6, c7⟩ := F.out _ _ _ _ _ H7.out
          go_wp2_with fail
          clear c0 c1 c2 c3 c4 lg lp c5 c6 c7
          have HT := hid (fun w' => HEND.out w' x1 z1 (by simp))
          obtain ⟨m, hm⟩ : ∃ m, mean b x1 z1 = m := ⟨_, rfl⟩
          rw [hm] at HT
          have r1 : (x1 != x1) = false := by simp
          have r2 : (m != m) = false := by simp
          clear hm
          refine region_all (fun w' => Pl w w3.heap.size (w3.heap.size + 1) b x1 z1 x1 z1 w') (by kernel_rfl) (by kernel_rfl) (H7.out.kp (Kp.refl No _).drew) ?_
          repeat ((first | ((with_reducible refine cl_val (v := ?_) ?_ ?_ ?_); rotate_left; (focus (go_simp; done)); (focus (intro w' hw; obtain ⟨c0, c1, c2, c3, c4, lg, lp⟩ := hw.all; go_simp; (try with_reducible rfl); done))) | ((with_reducible refine cl_skip ?_ ?_); (focus (first | (go_simp; done) | exact unwanted rfl rfl)))); simp only [Act.put, List.setIfInBounds_toArray, List.set_cons_zero, List.set_cons_succ])
          refine cl_call (v := .bool true) rfl (fun w' hw => by go_simp) (fun w' hw => (HT.out w').1.mono fun e w'' ⟨he, hk⟩ => ⟨he, hw.kp hk⟩) ?_
          simp only [Act.put, List.setIfInBounds_toArray, List.set_cons_zero, List.set_cons_succ]
          repeat ((first | ((with_reducible refine cl_val (v := ?_) ?_ ?_ ?_); rotate_left; (focus (go_simp; done)); (focus (intro w' hw; obtain ⟨c0, c1, c2, c3, c4, lg, lp⟩ := hw.all; go_simp; (try with_reducible rfl); done))) | ((with_reducible refine cl_skip ?_ ?_); (focus (first | (go_simp; done) | exact unwanted rfl rfl)))); simp only [Act.put, List.setIfInBounds_toArray, List.set_cons_zero, List.set_cons_succ])
          refine cl_call (v := .int .i64 x1) rfl (fun w' hw => by go_simp) (fun w' hw => (HT.out w').2.1.mono fun e w'' ⟨he, hk⟩ => ⟨he, hw.kp hk⟩) ?_
          simp only [Act.put, List.setIfInBounds_toArray, List.set_cons_zero, List.set_cons_succ]
          repeat ((first | ((with_reducible refine cl_val (v := ?_) ?_ ?_ ?_); rotate_left; (focus (go_simp; done)); (focus (intro w' hw; obtain ⟨c0, c1, c2, c3, c4, lg, lp⟩ := hw.all; go_simp; (try with_reducible rfl); done))) | ((with_reducible refine cl_skip ?_ ?_); (focus (first | (go_simp; done) | exact unwanted rfl rfl)))); simp only [Act.put, List.setIfInBounds_toArray, List.set_cons_zero, List.set_cons_succ])
          refine cl_call (v := .int .i64 m) rfl (fun w' hw => by go_simp) (fun w' hw => (HT.out w').2.2.1.mono fun e w'' ⟨he, hk⟩ => ⟨he, hw.kp hk⟩) ?_
          simp only [Act.put, List.setIfInBounds_toArray, List.set_cons_zero, List.set_cons_succ]
          repeat ((first | ((with_reducible refine cl_val (v := ?_) ?_ ?_ ?_); rotate_left; (focus (go_simp; done)); (focus (intro w' hw; obtain ⟨c0, c1, c2, c3, c4, lg, lp⟩ := hw.all; go_simp; (try with_reducible rfl); done))) | ((with_reducible refine cl_skip ?_ ?_); (focus (first | (go_simp; done) | exact unwanted rfl rfl)))); simp only [Act.put, List.setIfInBounds_toArray, List.set_cons_zero, List.set_cons_succ])
          refine cl_call (v := .int .i64 m) rfl (fun w' hw => by go_simp) (fun w' hw => (HT.out w').2.2.2.mono fun e w'' ⟨he, hk⟩ => ⟨he, hw.kp hk⟩) ?_
          simp only [Act.put, List.setIfInBounds_toArray, List.set_cons_zero, List.set_cons_succ]
          repeat ((first | ((with_reducible refine cl_val (v := ?_) ?_ ?_ ?_); rotate_left; (focus (go_simp; done)); (focus (intro w' hw; obtain ⟨c0, c1, c2, c3, c4, lg, lp⟩ := hw.all; go_simp; (try with_reducible rfl); done))) | ((with_reducible refine cl_skip ?_ ?_); (focus (first | (go_simp; done) | exact unwanted rfl rfl)))); simp only [Act.put, List.setIfInBounds_toArray, List.set_cons_zero, List.set_cons_succ])
          refine cl_nil fun w' hw => ?_
          have H9 := hid hw
          clear hw H7
          go_wp2_with fail
          go_roundw
          case rel => exact ⟨k + 1, by omega, by go_num, hid (by rw [(HS.out.2 (by first | rfl | trivial)).1, (HS.out.2 (by first | rfl | trivial)).2, H01.out.1, H01.out.2]; exact H9.out)⟩
          case measure => simp [intOf]; omega
        · go_wp2_with fail
          refine (HBY.out _).mono ?_
          rintro e1 w5 ⟨rfl, k5⟩
          have H5 := hid (HH.out.kp k5)
          clear k5 c0 c1 c2 c3 c4 lg lp c5 c6 c7 HH
          go_wp2_with fail
          refine region_class (fun w' => Pl w w3.heap.size (w3.heap.size + 1) b x0 z0 x0 z0 w') 8 rfl (by kernel_rfl) (by kernel_rfl) (by kernel_rfl) (H5.out.kp (Kp.refl No _).drew) ?_
          simp only [List.take_succ_cons, List.take_zero]
          repeat ((first | ((with_reducible refine cl_val (v := ?_) ?_ ?_ ?_); rotate_left; (focus (go_simp; done)); (focus (intro w' hw; obtain ⟨⟨c0, c1, c2, c3, c4, lg, lp⟩, c5, c6, c7⟩ := F.out w' _ _ _ _ hw; go_simp; (try with_reducible rfl); done))) | ((with_reducible refine cl_skip ?_ ?_); (focus (first | (go_simp; done) | exact unwanted rfl rfl)))); simp only [Act.put, List.setIfInBounds_toArray, List.set_cons_zero, List.set_cons_succ])
          refine cl_call (v := .int .i64 e) rfl (fun w' hw => by go_simp) (fun w' hw => (HWG.out w').mono fun e w'' ⟨he, hk⟩ => ⟨he, hw.kp hk⟩) ?_
          simp only [Act.put, List.setIfInBounds_toArray, List.set_cons_zero, List.set_cons_succ]
          repeat ((first | ((with_reducible refine cl_val (v := ?_) ?_ ?_ ?_); rotate_left; (focus (go_simp; done)); (focus (intro w' hw; obtain ⟨⟨c0, c1, c2, c3, c4, lg, lp⟩, c5, c6, c7⟩ := F.out w' _ _ _ _ hw; go_simp; (try with_reducible rfl); done))) | ((with_reducible refine cl_skip ?_ ?_); (focus (first | (go_simp; done) | exact unwanted rfl rfl)))); simp only [Act.put, List.setIfInBounds_toArray, List.set_cons_zero, List.set_cons_succ])
          refine cl_call (v := .agg #[.int .i64 b, .complex .f64 (fl x1) (fl z1)]) rfl (fun w' hw => by go_simp) (fun w' hw => (HADD.out w').mono fun e w'' ⟨he, hk⟩ => ⟨he, hw.kp hk⟩) ?_
          simp only [Act.put, List.setIfInBounds_toArray, List.set_cons_zero, List.set_cons_succ]
          repeat ((first | ((with_reducible refine cl_val (v := ?_) ?_ ?_ ?_); rotate_left; (focus (go_simp; done)); (focus (intro w' hw; obtain ⟨⟨c0, c1, c2, c3, c4, lg, lp⟩, c5, c6, c7⟩ := F.out w' _ _ _ _ hw; go_simp; (try with_reducible rfl); done))) | ((with_reducible refine cl_skip ?_ ?_); (focus (first | (go_simp; done) | exact unwanted rfl rfl)))); simp only [Act.put, List.setIfInBounds_toArray, List.set_cons_zero, List.set_cons_succ])
          refine cl_nil fun w' hw => ?_
          have HQ := hid hw
          obtain ⟨c0, c1, c2, c3, c4, lg, lp⟩ := hw.all
          obtain ⟨f0, f1, f2, f3, f4⟩ := hw.fz
          clear hw H5
          go_wp2_with fail
          have H6 := hid (HQ.out.put1 HG.out (by omega) x1 z1)
          generalize (w'.setCell ⟨w3.heap.size, 0, none⟩ (.int .i64 b)).setCell ⟨w3.heap.size, 1, none⟩ (.complex .f64 (fl x1) (fl z1)) = wH6 at H6 ⊢
          clear HQ c0 c1 c2 c3 c4 lg lp f0 f1 f2 f3 f4
          refine region_class (fun w' => Pl w w3.heap.size (w3.heap.size + 1) b x1 z1 x0 z0 w') 8 rfl (by kernel_rfl) (by kernel_rfl) (by kernel_rfl) (H6.out.kp (Kp.refl No _).drew) ?_
          simp only [List.take_succ_cons, List.take_zero]
          repeat ((first | ((with_reducible refine cl_val (v := ?_) ?_ ?_ ?_); rotate_left; (focus (go_simp; done)); (focus (intro w' hw; obtain ⟨⟨c0, c1, c2, c3, c4, lg, lp⟩, c5, c6, c7⟩ := F.out w' _ _ _ _ hw; go_simp; (try with_reducible rfl); done))) | ((with_reducible refine cl_skip ?_ ?_); (focus (first | (go_simp; done) | exact unwanted rfl rfl)))); simp only [Act.put, List.setIfInBounds_toArray, List.set_cons_zero, List.set_cons_succ])
          refine cl_call (v := .int .i64 e) rfl (fun w' hw => by go_simp) (fun w' hw => (HWG.out w').mono fun e w'' ⟨he, hk⟩ => ⟨he, hw.kp hk⟩) ?_
          simp only [Act.put, List.setIfInBounds_toArray, List.set_cons_zero, List.set_cons_succ]
          repeat ((first | ((with_reducible refine cl_val (v := ?_) ?_ ?_ ?_); rotate_left; (focus (go_simp; done)); (focus (intro w' hw; obtain ⟨⟨c0, c1, c2, c3, c4, lg, lp⟩, c5, c6, c7⟩ := F.out w' _ _ _ _ hw; go_simp; (try with_reducible rfl); done))) | ((with_reducible refine cl_skip ?_ ?_); (focus (first | (go_simp; done) | exact unwanted rfl rfl)))); simp only [Act.put, List.setIfInBounds_toArray, List.set_cons_zero, List.set_cons_succ])
          refine cl_call (v := .agg #[.int .i64 b, .int .i64 x1, .int .i64 z1]) rfl (fun w' hw => by go_simp) (fun w' hw => (HRA.out w').mono fun e w'' ⟨he, hk⟩ => ⟨he, hw.kp hk⟩) ?_
          simp only [Act.put, List.setIfInBounds_toArray, List.set_cons_zero, List.set_cons_succ]
          repeat ((first | ((with_reducible refine cl_val (v := ?_) ?_ ?_ ?_); rotate_left; (focus (go_simp; done)); (focus (intro w' hw; obtain ⟨⟨c0, c1, c2, c3, c4, lg, lp⟩, c5, c6, c7⟩ := F.out w' _ _ _ _ hw; go_simp; (try with_reducible rfl); done))) | ((with_reducible refine cl_skip ?_ ?_); (focus (first | (go_simp; done) | exact unwanted rfl rfl)))); simp only [Act.put, List.setIfInBounds_toArray, List.set_cons_zero, List.set_cons_succ])
          refine cl_nil fun w' hw => ?_
          have HQ := hid hw
          obtain ⟨c0, c1, c2, c3, c4, lg, lp⟩ := hw.all
          obtain ⟨f0, f1, f2, f3, f4⟩ := hw.fz
          clear hw H6
          go_upto_region 13 with (fail)
          have H7 := hid (HQ.out.put2 HG.out (by omega) x1 z1)
          generalize ((w'.setCell ⟨w3.heap.size + 1, 0, none⟩ (.int .i64 b)).setCell ⟨w3.heap.size + 1, 1, none⟩ (.int .i64 x1)).setCell ⟨w3.heap.size + 1, 2, none⟩ (.int .i64 z1) = wH7 at H7 ⊢
          clear HQ c0 c1 c2 c3 c4 lg lp f0 f1 f2 f3 f4
          obtain ⟨⟨c0, c1, c2, c3, c4, lg, lp⟩, c5, c6, c7⟩ := F.out _ _ _ _ _ H7.out
          go_wp2_with fail
          clear c0 c1 c2 c3 c4 lg lp c5 c6 c7
          refine region_class (fun w' => Pl w w3.heap.size (w3.heap.size + 1) b x1 z1 x1 z1 w') 8 rfl (by kernel_rfl) (by kernel_rfl) (by kernel_rfl) (H7.out.kp (Kp.refl No _).drew) ?_
          simp only [List.take_succ_cons, List.take_zero]
          repeat ((first | ((with_reducible refine cl_val (v := ?_) ?_ ?_ ?_); rotate_left; (focus (go_simp; done)); (focus (intro w' hw; obtain ⟨⟨c0, c1, c2, c3, c4, lg, lp⟩, c5, c6, c7⟩ := F.out w' _ _ _ _ hw; go_simp; (try with_reducible rfl); done))) | ((with_reducible refine cl_skip ?_ ?_); (focus (first | (go_simp; done) | exact unwanted rfl rfl)))); simp only [Act.put, List.setIfInBounds_toArray, List.set_cons_zero, List.set_cons_succ])
          refine cl_call (v := .int .i64 e) rfl (fun w' hw => by go_simp) (fun w' hw => (HWG.out w').mono fun e w'' ⟨he, hk⟩ => ⟨he, hw.kp hk⟩) ?_
          simp only [Act.put, List.setIfInBounds_toArray, List.set_cons_zero, List.set_cons_succ]
          repeat ((first | ((with_reducible refine cl_val (v := ?_) ?_ ?_ ?_); rotate_left; (focus (go_simp; done)); (focus (intro w' hw; obtain ⟨⟨c0, c1, c2, c3, c4, lg, lp⟩, c5, c6, c7⟩ := F.out w' _ _ _ _ hw; go_simp; (try with_reducible rfl); done))) | ((with_reducible refine cl_skip ?_ ?_); (focus (first | (go_simp; done) | exact unwanted rfl rfl)))); simp only [Act.put, List.setIfInBounds_toArray, List.set_cons_zero, List.set_cons_succ])
          refine cl_call (v := .agg #[.int .i64 b, .complex .f64 (fl x0) (fl z0)]) rfl (fun w' hw => by go_simp) (fun w' hw => (HTAK.out w').mono fun e w'' ⟨he, hk⟩ => ⟨he, hw.kp hk⟩) ?_
          simp only [Act.put, List.setIfInBounds_toArray, List.set_cons_zero, List.set_cons_succ]
          repeat ((first | ((with_reducible refine cl_val (v := ?_) ?_ ?_ ?_); rotate_left; (focus (go_simp; done)); (focus (intro w' hw; obtain ⟨⟨c0, c1, c2, c3, c4, lg, lp⟩, c5, c6, c7⟩ := F.out w' _ _ _ _ hw; go_simp; (try with_reducible rfl); done))) | ((with_reducible refine cl_skip ?_ ?_); (focus (first | (go_simp; done) | exact unwanted rfl rfl)))); simp only [Act.put, List.setIfInBounds_toArray, List.set_cons_zero, List.set_cons_succ])
          refine cl_nil fun w' hw => ?_
          have HQ := hid hw
          obtain ⟨c0, c1, c2, c3, c4, lg, lp⟩ := hw.all
          obtain ⟨f0, f1, f2, f3, f4⟩ := hw.fz
          clear hw H7
          go_wp2_with fail
          have H7a := hid (HQ.out.put1 HG.out (by omega) x0 z0)
          generalize (w'.setCell ⟨w3.heap.size, 0, none⟩ (.int .i64 b)).setCell ⟨w3.heap.size, 1, none⟩ (.complex .f64 (fl x0) (fl z0)) = wH7a at H7a ⊢
          clear HQ c0 c1 c2 c3 c4 lg lp f0 f1 f2 f3 f4
          refine region_class (fun w' => Pl w w3.heap.size (w3.heap.size + 1) b x0 z0 x1 z1 w') 8 rfl (by kernel_rfl) (by kernel_rfl) (by kernel_rfl) (H7a.out.kp (Kp.refl No _).drew) ?_
          simp only [List.take_succ_cons, List.take_zero]
          repeat ((first | ((with_reducible refine cl_val (v := ?_) ?_ ?_ ?_); rotate_left; (focus (go_simp; done)); (focus (intro w' hw; obtain ⟨⟨c0, c1, c2, c3, c4, lg, lp⟩, c5, c6, c7⟩ := F.out w' _ _ _ _ hw; go_simp; (try with_reducible rfl); done))) | ((with_reducible refine cl_skip ?_ ?_); (focus (first | (go_simp; done) | exact unwanted rfl rfl)))); simp only [Act.put, List.setIfInBounds_toArray, List.set_cons_zero, List.set_cons_succ])
          refine cl_call (v := .int .i64 e) rfl (fun w' hw => by go_simp) (fun w' hw => (HWG.out w').mono fun e w'' ⟨he, hk⟩ => ⟨he, hw.kp hk⟩) ?_
          simp only [Act.put, List.setIfInBounds_toArray, List.set_cons_zero, List.set_cons_succ]
          repeat ((first | ((with_reducible refine cl_val (v := ?_) ?_ ?_ ?_); rotate_left; (focus (go_simp; done)); (focus (intro w' hw; obtain ⟨⟨c0, c1, c2, c3, c4, lg, lp⟩, c5, c6, c7⟩ := F.out w' _ _ _ _ hw; go_simp; (try with_reducible rfl); done))) | ((with_reducible refine cl_skip ?_ ?_); (focus (first | (go_simp; done) | exact unwanted rfl rfl)))); simp only [Act.put, List.setIfInBounds_toArray, List.set_cons_zero, List.set_cons_succ])
          refine cl_call (v := .agg #[.int .i64 b, .int .i64 x0, .int .i64 z0]) rfl (fun w' hw => by go_simp) (fun w' hw => (HRT.out w').mono fun e w'' ⟨he, hk⟩ => ⟨he, hw.kp hk⟩) ?_
          simp only [Act.put, List.setIfInBounds_toArray, List.set_cons_zero, List.set_cons_succ]
          repeat ((first | ((with_reducible refine cl_val (v := ?_) ?_ ?_ ?_); rotate_left; (focus (go_simp; done)); (focus (intro w' hw; obtain ⟨⟨c0, c1, c2, c3, c4, lg, lp⟩, c5, c6, c7⟩ := F.out w' _ _ _ _ hw; go_simp; (try with_reducible rfl); done))) | ((with_reducible refine cl_skip ?_ ?_); (focus (first | (go_simp; done) | exact unwanted rfl rfl)))); simp only [Act.put, List.setIfInBounds_toArray, List.set_cons_zero, List.set_cons_succ])
          refine cl_nil fun w' hw => ?_
          have HQ := hid hw
          obtain ⟨c0, c1, c2, c3, c4, lg, lp⟩ := hw.all
          obtain ⟨f0, f1, f2, f3, f4⟩ := hw.fz
          clear hw H7a
          go_wp2_with fail
          have H7b := hid (HQ.out.put2 HG.out (by omega) x0 z0)
          generalize ((w'.setCell ⟨w3.heap.size + 1, 0, none⟩ (.int .i64 b)).setCell ⟨w3.heap.size + 1, 1, none⟩ (.int .i64 x0)).setCell ⟨w3.heap.size + 1, 2, none⟩ (.int .i64 z0) = wH7b at H7b ⊢
          clear HQ c0 c1 c2 c3 c4 lg lp f0 f1 f2 f3 f4
          have HT := hid (fun w' => HEND.out w' x0 z0 (by simp))
          obtain ⟨m, hm⟩ : ∃ m, mean b x0 z0 = m := ⟨_, rfl⟩
          rw [hm] at HT
          have r1 : (x0 != x0) = false := by simp
          have r2 : (m != m) = false := by simp
          clear hm
          refine region_all (fun w' => Pl w w3.heap.size (w3.heap.size + 1) b x0 z0 x0 z0 w') (by kernel_rfl) (by kernel_rfl) (H7b.out.kp (Kp.refl No _).drew) ?_
          repeat ((first | ((with_reducible refine cl_val (v := ?_) ?_ ?_ ?_); rotate_left; (focus (go_simp; done)); (focus (intro w' hw; obtain ⟨c0, c1, c2, c3, c4, lg, lp⟩ := hw.all; go_simp; (try with_reducible rfl); done))) | ((with_reducible refine cl_skip ?_ ?_); (focus (first | (go_simp; done) | exact unwanted rfl rfl)))); simp only [Act.put, List.setIfInBounds_toArray, List.set_cons_zero, List.set_cons_succ])
          refine cl_call (v := .bool true) rfl (fun w' hw => by go_simp) (fun w' hw => (HT.out w').1.mono fun e w'' ⟨he, hk⟩ => ⟨he, hw.kp hk⟩) ?_
          simp only [Act.put, List.setIfInBounds_toArray, List.set_cons_zero, List.set_cons_succ]
          repeat ((first | ((with_reducible refine cl_val (v := ?_) ?_ ?_ ?_); rotate_left; (focus (go_simp; done)); (focus (intro w' hw; obtain ⟨c0, c1, c2, c3, c4, lg, lp⟩ := hw.all; go_simp; (try with_reducible rfl); done))) | ((with_reducible refine cl_skip ?_ ?_); (focus (first | (go_simp; done) | exact unwanted rfl rfl)))); simp only [Act.put, List.setIfInBounds_toArray, List.set_cons_zero, List.set_cons_succ])
          refine cl_call (v := .int .i64 x0) rfl (fun w' hw => by go_simp) (fun w' hw => (HT.out w').2.1.mono fun e w'' ⟨he, hk⟩ => ⟨he, hw.kp hk⟩) ?_
          simp only [Act.put, List.setIfInBounds_toArray, List.set_cons_zero, List.set_cons_succ]
          repeat ((first | ((with_reducible refine cl_val (v := ?_) ?_ ?_ ?_); rotate_left; (focus (go_simp; done)); (focus (intro w' hw; obtain ⟨c0, c1, c2, c3, c4, lg, lp⟩ := hw.all; go_simp; (try with_reducible rfl); done))) | ((with_reducible refine cl_skip ?_ ?_); (focus (first | (go_simp; done) | exact unwanted rfl rfl)))); simp only [Act.put, List.setIfInBounds_toArray, List.set_cons_zero, List.set_cons_succ])
          refine cl_call (v := .int .i64 m) rfl (fun w' hw => by go_simp) (fun w' hw => (HT.out w').2.2.1.mono fun e w'' ⟨he, hk⟩ => ⟨he, hw.kp hk⟩) ?_
          simp only [Act.put, List.setIfInBounds_toArray, List.set_cons_zero, List.set_cons_succ]
          repeat ((first | ((with_reducible refine cl_val (v := ?_) ?_ ?_ ?_); rotate_left; (focus (go_simp; done)); (focus (intro w' hw; obtain ⟨c0, c1, c2, c3, c4, lg, lp⟩ := hw.all; go_simp; (try with_reducible rfl); done))) | ((with_reducible refine cl_skip ?_ ?_); (focus (first | (go_simp; done) | exact unwanted rfl rfl)))); simp only [Act.put, List.setIfInBounds_toArray, List.set_cons_zero, List.set_cons_succ])
          refine cl_call (v := .int .i64 m) rfl (fun w' hw => by go_simp) (fun w' hw => (HT.out w').2.2.2.mono fun e w'' ⟨he, hk⟩ => ⟨he, hw.kp hk⟩) ?_
          simp only [Act.put, List.setIfInBounds_toArray, List.set_cons_zero, List.set_cons_succ]
          repeat ((first | ((with_reducible refine cl_val (v := ?_) ?_ ?_ ?_); rotate_left; (focus (go_simp; done)); (focus (intro w' hw; obtain ⟨c0, c1, c2, c3, c4, lg, lp⟩ := hw.all; go_simp; (try with_reducible rfl); done))) | ((with_reducible refine cl_skip ?_ ?_); (focus (first | (go_simp; done) | exact unwanted rfl rfl)))); simp only [Act.put, List.setIfInBounds_toArray, List.set_cons_zero, List.set_cons_succ])
          refine cl_nil fun w' hw => ?_
          have H9 := hid hw
          clear hw H7b
          go_wp2_with fail
          go_roundw
          case rel => exact ⟨k + 1, by omega, by go_num, hid (by rw [(HS.out.1 (by first | rfl | trivial)).1, (HS.out.1 (by first | rfl | trivial)).2]; exact H9.out)⟩
          case measure => simp [intOf]; omega
      · have hlt' : ¬ (k : Int) < (xs.length : Int) := by omega
        have hd := decide_eq_false hlt'
        rw [hx0, hz0] at HH s0
        have z1 := mul_bdp (a := x0) (d := -ea) s0.1 (by omega) (by omega) (by omega)
        have z2 := mul_bdp (a := x0) (d := ea) s0.1 (by omega) (by omega) (by omega)
        have z3 : x0 * -ea = -(x0 * ea) := Int.mul_neg _ _
        have HG1 := hid (fun w' => gap_is (w := w') (b := b) (a := x0) (p := z0) (v := b + ea) (d := -ea) (z := x0 * -ea) (g := z0 + x0 * -ea) (by omega) rfl rfl ⟨by omega, by omega⟩ ⟨by omega, by omega⟩ ⟨by omega, by omega⟩ ⟨by omega, by omega⟩ ⟨by omega, by omega⟩)
        have HG2 := hid (fun w' => refgap_is (w := w') (b := b) (a := x0) (p := z0) (v := b + ea) (d := ea) (z := x0 * ea) (g := z0 + x0 * -ea) (by omega) rfl (by omega) ⟨by omega, by omega⟩ ⟨by omega, by omega⟩ ⟨by omega, by omega⟩)
        have HM1 := hid (fun w' => mean_is (w := w') (b := b) (a := x0) (p := z0) rfl (by omega) ⟨by omega, by omega⟩ ⟨by omega, by omega⟩ (by omega) (by omega))
        have HM2 := hid (fun w' => refmean_is (w := w') (b := b) (a := x0) (p := z0) rfl (by omega) ⟨by omega, by omega⟩ ⟨by omega, by omega⟩ (by omega) (by omega))
        generalize z0 + x0 * -ea = g at HG1 HG2
        generalize mean b x0 z0 = m at HM1 HM2
        have r1 : (g == g) = true := by simp
        have r2 : (m == m) = true := by simp
        have HBY := hid (fun w' => by_any at1 0 false w')
        rw [HEA.out] at HBY
        clear z1 z2 z3 s0 hx0 hz0 nb NA
        go_wp2_with fail
        refine (HBY.out _).mono ?_
        rintro e1 w5 ⟨rfl, k5⟩
        have H5 := hid (HH.out.kp k5)
        clear k5 HH
        go_wp2_with fail
        refine region_class (fun w' => Pl w w3.heap.size (w3.heap.size + 1) b x0 z0 x0 z0 w') 17 rfl (by kernel_rfl) (by kernel_rfl) (by kernel_rfl) (H5.out.kp (Kp.refl No _).drew) ?_
        simp only [List.take_succ_cons, List.take_zero]
        repeat ((first | ((with_reducible refine cl_val (v := ?_) ?_ ?_ ?_); rotate_left; (focus (go_simp; done)); (focus (intro w' hw; obtain ⟨c0, c1, c2, c3, c4, lg, lp⟩ := hw.all; go_simp; (try with_reducible rfl); done))) | ((with_reducible refine cl_skip ?_ ?_); (focus (first | (go_simp; done) | exact unwanted rfl rfl)))); simp only [Act.put, List.setIfInBounds_toArray, List.set_cons_zero, List.set_cons_succ])
        refine cl_call (v := .int .i64 g) rfl (fun w' hw => by go_simp) (fun w' hw => (HG1.out w').mono fun e w'' ⟨he, hk⟩ => ⟨he, hw.kp hk⟩) ?_
        simp only [Act.put, List.setIfInBounds_toArray, List.set_cons_zero, List.set_cons_succ]
        repeat ((first | ((with_reducible refine cl_val (v := ?_) ?_ ?_ ?_); rotate_left; (focus (go_simp; done)); (focus (intro w' hw; obtain ⟨c0, c1, c2, c3, c4, lg, lp⟩ := hw.all; go_simp; (try with_reducible rfl); done))) | ((with_reducible refine cl_skip ?_ ?_); (focus (first | (go_simp; done) | exact unwanted rfl rfl)))); simp only [Act.put, List.setIfInBounds_toArray, List.set_cons_zero, List.set_cons_succ])
        refine cl_call (v := .int .i64 g) rfl (fun w' hw => by go_simp) (fun w' hw => (HG2.out w').mono fun e w'' ⟨he, hk⟩ => ⟨he, hw.kp hk⟩) ?_
        simp only [Act.put, List.setIfInBounds_toArray, List.set_cons_zero, List.set_cons_succ]
        repeat ((first | ((with_reducible refine cl_val (v := ?_) ?_ ?_ ?_); rotate_left; (focus (go_simp; done)); (focus (intro w' hw; obtain ⟨c0, c1, c2, c3, c4, lg, lp⟩ := hw.all; go_simp; (try with_reducible rfl); done))) | ((with_reducible refine cl_skip ?_ ?_); (focus (first | (go_simp; done) | exact unwanted rfl rfl)))); simp only [Act.put, List.setIfInBounds_toArray, List.set_cons_zero, List.set_cons_succ])
        refine cl_call (v := .int .i64 m) rfl (fun w' hw => by go_simp) (fun w' hw => (HM1.out w').mono fun e w'' ⟨he, hk⟩ => ⟨he, hw.kp hk⟩) ?_
        simp only [Act.put, List.setIfInBounds_toArray, List.set_cons_zero, List.set_cons_succ]
        repeat ((first | ((with_reducible refine cl_val (v := ?_) ?_ ?_ ?_); rotate_left; (focus (go_simp; done)); (focus (intro w' hw; obtain ⟨c0, c1, c2, c3, c4, lg, lp⟩ := hw.all; go_simp; (try with_reducible rfl); done))) | ((with_reducible refine cl_skip ?_ ?_); (focus (first | (go_simp; done) | exact unwanted rfl rfl)))); simp only [Act.put, List.setIfInBounds_toArray, List.set_cons_zero, List.set_cons_succ])
        refine cl_call (v := .int .i64 m) rfl (fun w' hw => by go_simp) (fun w' hw => (HM2.out w').mono fun e w'' ⟨he, hk⟩ => ⟨he, hw.kp hk⟩) ?_
        simp only [Act.put, List.setIfInBounds_toArray, List.set_cons_zero, List.set_cons_succ]
        repeat ((first | ((with_reducible refine cl_val (v := ?_) ?_ ?_ ?_); rotate_left; (focus (go_simp; done)); (focus (intro w' hw; obtain ⟨c0, c1, c2, c3, c4, lg, lp⟩ := hw.all; go_simp; (try with_reducible rfl); done))) | ((with_reducible refine cl_skip ?_ ?_); (focus (first | (go_simp; done) | exact unwanted rfl rfl)))); simp only [Act.put, List.setIfInBounds_toArray, List.set_cons_zero, List.set_cons_succ])
        refine cl_nil fun w' hw => ?_
        have H6 := hid hw.kept
        clear hw
        go_wp2_with fail
        go_ret
        exact ⟨rfl, H6.out⟩
end Go.Proofs.Ytklkjgdhfanlcaa
