/-
  The walk of MomentBack.
-/
import Derived.Test.YtklkjgdhfanlcaaMomE
import Derived.Test.YtklkjgdhfanlcaaOwn
namespace Go.Proofs.Ytklkjgdhfanlcaa
open Go.RowKit

theorem isOnes : Us Try.prog 22 33 3 12 (.agg #[.int .i32 0, .int .u32 0, .bool false]) := ⟨Try.underlying22, by kernel_rfl, by decide, by decide⟩
theorem mc_one (m : Mem) (i : Nat) : (mc m i).oneCell' = true := by
  match i with
  | 0 => rfl
  | 1 => rfl
  | _ + 2 => rfl
theorem Pos.app {l k : List Mem} (h : Pos l) (h' : Pos k) : Pos (l ++ k) := fun m hm => by
  rcases List.mem_append.1 hm with h1 | h1
  · exact h m h1
  · exact h' m h1

set_option maxHeartbeats 2000000 in
theorem momentBack_walk (w : World) (n : Int) (u v : Value) {xs ys : List Mem} (_ : I64 n) (hu : Rw 3 mc m0 w Anyb u xs ∧ Pos xs) (hv : Rw 3 mc m0 w Anyb v ys ∧ Pos ys) :
    Calls Try.prog 6 #[.int .i64 n, u, v] w fun e w' => e = .returned (.bool true) ∧ Kp No w w' := by
  have HU := hid hu.1
  have HX := hid hu.2
  have HV := hid hv.1
  have HY := hid hv.2
  obtain ⟨hu1, _⟩ := hu
  obtain ⟨hv1, _⟩ := hv
  obtain ⟨A, c, rfl, hc, hmx, _⟩ := hu1
  obtain ⟨A', c', rfl, hc', hmx', _⟩ := hv1
  unfold maxLen at hmx hmx'
  go_enter Try.func6, Try.ntmps6
  go_wp2_with fail
  refine (awake_any _).mono ?_
  rintro e w1 ⟨rfl, k1⟩
  have K1 := hid k1
  clear k1
  by_cases hl : 30 < xs.length
  · have hb1 : decide ((30 : Int) < (xs.length : Int)) = true := by simp; omega
    go_wp2
    go_ret
    exact ⟨rfl, K1.out⟩
  by_cases hl' : 30 < ys.length
  · have hb1 : decide ((30 : Int) < (xs.length : Int)) = false := by simp; omega
    have hb2 : decide ((30 : Int) < (ys.length : Int)) = true := by simp; omega
    go_wp2
    go_ret
    exact ⟨rfl, K1.out⟩
  have hb1 : decide ((30 : Int) < (xs.length : Int)) = false := by simp; omega
  have hb2 : decide ((30 : Int) < (ys.length : Int)) = false := by simp; omega
  obtain ⟨s0, s1, s2, s3⟩ := sums_bd HX.out
  obtain ⟨t0, t1, t2, t3⟩ := sums_bd HY.out
  obtain ⟨a, ha⟩ : ∃ a, Ws xs = a := ⟨_, rfl⟩
  obtain ⟨p, hp⟩ : ∃ p, Ps xs = p := ⟨_, rfl⟩
  obtain ⟨a', ha'⟩ : ∃ a, Ws ys = a := ⟨_, rfl⟩
  obtain ⟨p', hp'⟩ : ∃ p, Ps ys = p := ⟨_, rfl⟩
  obtain ⟨b, hb⟩ : ∃ b, bsd n = b := ⟨_, rfl⟩
  have nb := bsd_bd n
  rw [ha] at s0 s1
  rw [hp] at s2 s3
  rw [ha'] at t0 t1
  rw [hp'] at t2 t3
  rw [hb] at nb
  have HSUM := hid (fun w' => fun (h : Rw 3 mc m0 w' Anyb (.slice A xs.length c) xs) => summed_is (w := w') (b := b) h HX.out (by omega) (by omega) (by omega) ha hp)
  have HSUM2 := hid (fun (w' : World) (v' : Value) => fun (h : Rw 3 mc m0 w' Anyb v' (xs ++ ys)) => summed_is (w := w') (b := b) (a := a + a') (p := p + p') h (HX.out.app HY.out) (by rw [List.length_append]; omega) (by omega) (by omega) (by rw [Ws_app, ha, ha']) (by rw [Ps_app, hp, hp']))
  have q1 : (FloatKind.f64.format.order (fl a) (fl a) == some .eq) = true := (fl_eq ⟨by omega, by omega⟩ ⟨by omega, by omega⟩).trans (by simp)
  have q2 : (FloatKind.f64.format.order (fl p) (fl p) == some .eq) = true := (fl_eq ⟨by omega, by omega⟩ ⟨by omega, by omega⟩).trans (by simp)
  have r0 : (b == b) = true := by simp
  have HBS := hid hb
  have HAP := hid (And.intro ha' hp')
  have HLEN := hid (And.intro hl hl')
  clear ha hp ha' hp' hb
  go_wp2_with fail
  refine (based_any n _).mono ?_
  rintro e1 w1 ⟨rfl, rfl⟩
  rw [HBS.out]
  go_wp2_with (first
      | (at_builtin
         refine wp_apps isOnes mc_one rfl (.tmp 24) (.tmp 25) rfl (d := m0) (base := w1.heap.size) (xs := []) (ys := xs) (by exact Ow.mt _ _ _ _ _ (Nat.le_refl _)) (by exact (HU.out.kp0 K1.out).kp0 ((Kp.refl No w1).alloc _)) (by have := HLEN.out; simp only [List.length_nil]; omega) (by have := HLEN.out; simp only [List.length_nil, maxLen]; omega) (by simp) ?_
         intro v2 w2 o2 k2
         rw [List.nil_append] at o2
         have K2 := hid ((Kp.refl No w1).alloc (.cells #[] 33) |>.step k2 fun i hi h => by omega)
         have O2 := hid o2
         clear o2 k2)
      | (at_builtin
         refine wp_apps isOnes mc_one rfl (.tmp 26) (.tmp 27) rfl (d := m0) (base := w1.heap.size) (xs := xs) (ys := ys) (by exact O2.out) (by exact (HV.out.kp0 K1.out).kp0 K2.out) (by have := HLEN.out; omega) (by have := HLEN.out; simp only [maxLen]; omega) (by exact K2.out.size) ?_
         intro v3 w3 o3 k3
         have K3 := hid (K1.out.trans (K2.out.step k3 fun i hi h => by omega))
         have O3 := hid (o3.rw (d := m0))
         clear o3 k3 O2 K2)
      | fail)
  refine (HSUM2.out _ _ O3.out).mono ?_
  rintro e1 w4 ⟨rfl, k4⟩
  have A4 := hid (At.mk ((K3.out.trans k4).alloc (.cells #[.int .i64 b, .complex .f64 (fl (a + a')) (fl (p + p'))] 27)) (Blk.new w4 27 #[.int .i64 b, .complex .f64 (fl (a + a')) (fl (p + p'))]))
  have HG := hid (show w.heap.size ≤ w4.heap.size from (K3.out.trans k4).size)
  clear k4 K3 O3 HSUM2 K1 hb1 hb2
  go_wp2_with fail
  go_loopw [10] (fun i wr => ∃ k : Nat, k ≤ ys.length ∧ i = .int .i64 k ∧ Hid (At w w4.heap.size 27 #[.int .i64 b, .complex .f64 (fl (a + (a' - Ws (ys.take k)))) (fl (p + (p' - Ps (ys.take k))))] wr)) (fun i _ => ys.length - (intOf i).toNat)
  case atStart => exact ⟨0, Nat.zero_le _, rfl, hid (by have := A4.out; simp only [List.take_zero, Ws, Ps, Int.sub_zero]; exact this)⟩
  case round =>
    obtain ⟨k, hk, rfl, HH⟩ := hrel
    clear A4
    by_cases hlt : k < ys.length
    · have hlt' : (k : Int) < (ys.length : Int) := by omega
      obtain ⟨b1, o1, rfl⟩ := HV.out.there (by omega)
      have e1 := sums_take hlt
      have e2 := sums_bd (HY.out.take k)
      have e3 := sums_bd (HY.out.take (k + 1))
      have hy := HY.out (ys.getD k m0) (by simp [List.getD, hlt])
      obtain ⟨⟨x, y, q⟩, he⟩ : ∃ m, ys.getD k m0 = m := ⟨_, rfl⟩
      rw [he] at e1 hy
      dsimp only at e1 hy
      simp only [List.length_take] at e2 e3
      have o1' := one_bd (m := ⟨x, y, q⟩) hy
      dsimp only at o1'
      have o2' := owt_bd hy
      have o3' := oby_bd x
      have HC := hid (fun (w' : World) (h : Kp No w w') => mem_cells HV.out hlt he h)
      have HYY := hid hy
      obtain ⟨a1, ha1⟩ : ∃ n, a + (a' - Ws (ys.take k)) = n := ⟨_, rfl⟩
      obtain ⟨p1, hp1⟩ : ∃ n, p + (p' - Ps (ys.take k)) = n := ⟨_, rfl⟩
      obtain ⟨a2, ha2⟩ : ∃ n, a + (a' - Ws (ys.take (k + 1))) = n := ⟨_, rfl⟩
      obtain ⟨p2, hp2⟩ : ∃ n, p + (p' - Ps (ys.take (k + 1))) = n := ⟨_, rfl⟩
      rw [ha1, hp1] at HH
      have wr1 : IntKind.i64.wrap (b + oby x) = b + oby x := wrapI ⟨by omega, by omega⟩
      have HT := hid (fun w' => take_is (w := w') (b := b) (a := a1) (p := p1) (v := b + oby x) (q := owt y) (d := oby x) (z := owt y * oby x) (a' := a2) (p' := p2) (by omega) rfl ⟨by omega, by omega⟩ (by omega) (by omega) ⟨by omega, by omega⟩ ⟨by omega, by omega⟩ ⟨by omega, by omega⟩ ⟨by omega, by omega⟩ ⟨by omega, by omega⟩ ⟨by omega, by omega⟩)
      have H2 := hid (And.intro ha2 hp2)
      have F := hid (fun (w' : World) (h : At w w4.heap.size 27 #[.int .i64 b, .complex .f64 (fl a1) (fl p1)] w') => And.intro h.all (HC.out w' h.kept))
      clear e1 e2 e3 hy o1' o2' o3' ha1 hp1 ha2 hp2 HC he
      go_wp2_with fail
      refine region_class (fun w' => At w w4.heap.size 27 #[.int .i64 b, .complex .f64 (fl a1) (fl p1)] w') 14 rfl (by kernel_rfl) (by kernel_rfl) (by kernel_rfl) (HH.out.kp (Kp.refl No _).drew) ?_
      simp only [List.take_succ_cons, List.take_zero]
      repeat ((first | ((with_reducible refine cl_val (v := ?_) ?_ ?_ ?_); rotate_left; (focus (go_simp; done)); (focus (intro w' hw; obtain ⟨⟨c0, c1, _⟩, c4, c5, c6⟩ := F.out w' hw; go_simp; (try with_reducible rfl); done))) | ((with_reducible refine cl_skip ?_ ?_); (focus (first | (go_simp; done) | exact unwanted rfl rfl)))); simp only [Act.put, List.setIfInBounds_toArray, List.set_cons_zero, List.set_cons_succ])
      refine cl_call (v := .int .i64 (oby x)) rfl (fun w' hw => by go_simp) (fun w' hw => (by_any x y q w').mono fun e w'' ⟨he, hk⟩ => ⟨he, hw.kp hk⟩) ?_
      simp only [Act.put, List.setIfInBounds_toArray, List.set_cons_zero, List.set_cons_succ]
      repeat ((first | ((with_reducible refine cl_val (v := ?_) ?_ ?_ ?_); rotate_left; (focus (go_simp; done)); (focus (intro w' hw; obtain ⟨⟨c0, c1, _⟩, c4, c5, c6⟩ := F.out w' hw; go_simp; (try with_reducible rfl); done))) | ((with_reducible refine cl_skip ?_ ?_); (focus (first | (go_simp; done) | exact unwanted rfl rfl)))); simp only [Act.put, List.setIfInBounds_toArray, List.set_cons_zero, List.set_cons_succ])
      refine cl_call (v := .int .i64 (owt y)) rfl (fun w' hw => by go_simp) (fun w' hw => (wgt_any x y q w' HYY.out).mono fun e w'' ⟨he, hk⟩ => ⟨he, hw.kp hk⟩) ?_
      simp only [Act.put, List.setIfInBounds_toArray, List.set_cons_zero, List.set_cons_succ]
      repeat ((first | ((with_reducible refine cl_val (v := ?_) ?_ ?_ ?_); rotate_left; (focus (go_simp; done)); (focus (intro w' hw; obtain ⟨⟨c0, c1, _⟩, c4, c5, c6⟩ := F.out w' hw; go_simp; (try with_reducible rfl); done))) | ((with_reducible refine cl_skip ?_ ?_); (focus (first | (go_simp; done) | exact unwanted rfl rfl)))); simp only [Act.put, List.setIfInBounds_toArray, List.set_cons_zero, List.set_cons_succ])
      refine cl_call (v := .agg #[.int .i64 b, .complex .f64 (fl a2) (fl p2)]) rfl (fun w' hw => by go_simp) (fun w' hw => (HT.out w').mono fun e w'' ⟨he, hk⟩ => ⟨he, hw.kp hk⟩) ?_
      simp only [Act.put, List.setIfInBounds_toArray, List.set_cons_zero, List.set_cons_succ]
      repeat ((first | ((with_reducible refine cl_val (v := ?_) ?_ ?_ ?_); rotate_left; (focus (go_simp; done)); (focus (intro w' hw; obtain ⟨⟨c0, c1, _⟩, c4, c5, c6⟩ := F.out w' hw; go_simp; (try with_reducible rfl); done))) | ((with_reducible refine cl_skip ?_ ?_); (focus (first | (go_simp; done) | exact unwanted rfl rfl)))); simp only [Act.put, List.setIfInBounds_toArray, List.set_cons_zero, List.set_cons_succ])
      refine cl_nil fun w' hw => ?_
      have H5 := hid hw
      obtain ⟨c0, c1, _⟩ := hw.all
      have f0 := hw.blk.frozen 0
      have f1 := hw.blk.frozen 1
      have lt5 := hw.blk.lt
      clear hw
      go_wp2_with fail
      go_roundw
      case rel => exact ⟨k + 1, by omega, by go_num, hid (by rw [H2.out.1, H2.out.2]; exact H5.out.put2 HG.out _ _)⟩
      case measure => simp [intOf]; omega
    · have hlt' : ¬ (k : Int) < (ys.length : Int) := by omega
      have hd := decide_eq_false hlt'
      have ek : ys.take k = ys := List.take_of_length_le (by omega)
      rw [ek, HAP.out.1, HAP.out.2, Int.sub_self, Int.sub_self, Int.add_zero, Int.add_zero] at HH
      clear ek
      go_wp2_with fail
      refine region_class (fun w' => At w w4.heap.size 27 #[.int .i64 b, .complex .f64 (fl a) (fl p)] w') 16 rfl (by kernel_rfl) (by kernel_rfl) (by kernel_rfl) (HH.out.kp (Kp.refl No _).drew) ?_
      simp only [List.take_succ_cons, List.take_zero]
      repeat ((first | ((with_reducible refine cl_val (v := ?_) ?_ ?_ ?_); rotate_left; (focus (go_simp; done)); (focus (intro w' hw; obtain ⟨c0, c1, _⟩ := hw.all; go_simp; (try with_reducible rfl); done))) | ((with_reducible refine cl_skip ?_ ?_); (focus (first | (go_simp; done) | exact unwanted rfl rfl)))); simp only [Act.put, List.setIfInBounds_toArray, List.set_cons_zero, List.set_cons_succ])
      refine cl_call (v := .agg #[.int .i64 b, .complex .f64 (fl a) (fl p)]) rfl (fun w' hw => by go_simp) (fun w' hw => (HSUM.out w' (HU.out.kp0 hw.kept)).mono fun e w'' ⟨he, hk⟩ => ⟨he, hw.kp hk⟩) ?_
      simp only [Act.put, List.setIfInBounds_toArray, List.set_cons_zero, List.set_cons_succ]
      repeat ((first | ((with_reducible refine cl_val (v := ?_) ?_ ?_ ?_); rotate_left; (focus (go_simp; done)); (focus (intro w' hw; obtain ⟨c0, c1, _⟩ := hw.all; go_simp; (try with_reducible rfl); done))) | ((with_reducible refine cl_skip ?_ ?_); (focus (first | (go_simp; done) | exact unwanted rfl rfl)))); simp only [Act.put, List.setIfInBounds_toArray, List.set_cons_zero, List.set_cons_succ])
      refine cl_nil fun w' hw => ?_
      have H5 := hid hw.kept
      clear hw
      go_wp2_with fail
      go_ret
      exact ⟨rfl, H5.out⟩
end Go.Proofs.Ytklkjgdhfanlcaa
