/-
  The walk of MomentJoins.
-/
import Derived.Test.YtklkjgdhfanlcaaMomentBackW
import Derived.Laws.StructEq
namespace Go.Proofs.Ytklkjgdhfanlcaa
open Go.RowKit

@[go_sem] theorem run_equalIn_cplx {P : Program} (w : World) (d : Nat) (t : TypeId) (k k' : FloatKind) (a b c e : Nat) (h : P.underlying t = some (.complex k')) : (Op.equalIn (d + 1) t (.complex k a b) (.complex k c e)).run P w = .ok ((k.format.order a c == some .eq) && (k.format.order b e == some .eq)) w := by
  simp [Op.equalIn, run_underlying h, Op.floatEq]

theorem sums_rev (l : List Mem) : Ws l.reverse = Ws l ∧ Ps l.reverse = Ps l := by
  induction l with
  | nil => exact ⟨rfl, rfl⟩
  | cons m l ih =>
    rw [List.reverse_cons, Ws_app, Ps_app, ih.1, ih.2]
    simp only [Ws, Ps]
    omega
theorem Pos.rev {l : List Mem} (h : Pos l) : Pos l.reverse := fun m hm => h m (by simpa using hm)
theorem drop_one {α : Type} {l : List α} {r : Nat} {d : α} (h : r < l.length) : (l.drop r).reverse = (l.drop (r + 1)).reverse ++ [l.getD r d] := by
  rw [List.drop_eq_getElem_cons h, List.reverse_cons]
  simp [List.getD, h]
/-- A member that was just laid in a block of its own. -/
theorem one_row (w : World) (e : TypeId) (x y : Int) (q : Bool) : Rw 3 mc m0 (w.alloc (.cells #[.int .i32 x, .int .u32 y, .bool q] e)) Anyb (.slice (some ⟨w.heap.size, 0, none⟩) 1 1) [⟨x, y, q⟩] :=
  ⟨some ⟨w.heap.size, 0, none⟩, 1, rfl, by simp, by simp [maxLen], fun _ => ⟨w.heap.size, 0, rfl, by simp, trivial, fun j i hj hi => by
    have : j = 0 := by simpa using hj
    subst this
    match i, hi with
    | 0, _ => simp [mc]
    | 1, _ => simp [mc]
    | 2, _ => simp [mc]⟩⟩

set_option maxHeartbeats 4000000 in
theorem momentJoins_walk (w : World) (n : Int) (u v : Value) {xs ys : List Mem} (_ : I64 n) (hu : Rw 3 mc m0 w Anyb u xs ∧ Pos xs) (hv : Rw 3 mc m0 w Anyb v ys ∧ Pos ys) :
    Calls Try.prog 5 #[.int .i64 n, u, v] w fun e w' => e = .returned (.bool true) ∧ Kp No w w' := by
  have HU := hid hu.1
  have HX := hid hu.2
  have HV := hid hv.1
  have HY := hid hv.2
  obtain ⟨hu1, _⟩ := hu
  obtain ⟨hv1, _⟩ := hv
  obtain ⟨A, c, rfl, hc, hmx, _⟩ := hu1
  obtain ⟨A', c', rfl, hc', hmx', _⟩ := hv1
  unfold maxLen at hmx hmx'
  go_enter Try.func5, Try.ntmps5
  go_wp2_with fail
  refine (awake_any _).mono ?_
  rintro e w1 ⟨rfl, k1⟩
  have K1 := hid k1
  clear k1
  by_cases hl : 30 < xs.length
  · have hb1 : decide ((30 : Int) < (xs.length : Int)) = true := by simp; omega
    go_wp2
    go_ret
    exact ⟨rfl, K1.out⟩
  by_cases hl' : 30 < ys.length
  · have hb1 : decide ((30 : Int) < (xs.length : Int)) = false := by simp; omega
    have hb2 : decide ((30 : Int) < (ys.length : Int)) = true := by simp; omega
    go_wp2
    go_ret
    exact ⟨rfl, K1.out⟩
  have hb1 : decide ((30 : Int) < (xs.length : Int)) = false := by simp; omega
  have hb2 : decide ((30 : Int) < (ys.length : Int)) = false := by simp; omega
  obtain ⟨s0, s1, s2, s3⟩ := sums_bd HX.out
  obtain ⟨t0, t1, t2, t3⟩ := sums_bd HY.out
  obtain ⟨a, ha⟩ : ∃ a, Ws xs = a := ⟨_, rfl⟩
  obtain ⟨p, hp⟩ : ∃ p, Ps xs = p := ⟨_, rfl⟩
  obtain ⟨a', ha'⟩ : ∃ a, Ws ys = a := ⟨_, rfl⟩
  obtain ⟨p', hp'⟩ : ∃ p, Ps ys = p := ⟨_, rfl⟩
  obtain ⟨b, hb⟩ : ∃ b, bsd n = b := ⟨_, rfl⟩
  have nb := bsd_bd n
  rw [ha] at s0 s1
  rw [hp] at s2 s3
  rw [ha'] at t0 t1
  rw [hp'] at t2 t3
  rw [hb] at nb
  obtain ⟨aa, haa⟩ : ∃ n, a + a' = n := ⟨_, rfl⟩
  obtain ⟨pp, hpp⟩ : ∃ n, p + p' = n := ⟨_, rfl⟩
  have HSX := hid (fun w' => fun (h : Rw 3 mc m0 w' Anyb (.slice A xs.length c) xs) => summed_is (w := w') (b := b) h HX.out (by omega) (by omega) (by omega) ha hp)
  have HSY := hid (fun w' => fun (h : Rw 3 mc m0 w' Anyb (.slice A' ys.length c') ys) => summed_is (w := w') (b := b) h HY.out (by omega) (by omega) (by omega) ha' hp')
  have HS1 := hid (fun (w' : World) (v' : Value) => fun (h : Rw 3 mc m0 w' Anyb v' (xs ++ ys)) => summed_is (w := w') (b := b) (a := aa) (p := pp) h (HX.out.app HY.out) (by rw [List.length_append]; omega) (by omega) (by omega) (by rw [Ws_app, ha, ha', haa]) (by rw [Ps_app, hp, hp', hpp]))
  have HS2 := hid (fun (w' : World) (v' : Value) => fun (h : Rw 3 mc m0 w' Anyb v' (ys.reverse ++ xs)) => summed_is (w := w') (b := b) (a := aa) (p := pp) h (HY.out.rev.app HX.out) (by rw [List.length_append, List.length_reverse]; omega) (by omega) (by omega) (by rw [Ws_app, (sums_rev ys).1, ha, ha']; omega) (by rw [Ps_app, (sums_rev ys).2, hp, hp']; omega))
  have HJ1 := hid (fun w' => join_is (w := w') (b := b) (a := a) (p := p) (n := b) (c := a') (q := p') (d := 0) (z := 0) (q' := p') (a' := aa) (p' := pp) (by omega) (by omega) (by omega) haa hpp ⟨by omega, by omega⟩ ⟨by omega, by omega⟩ ⟨by omega, by omega⟩ ⟨by omega, by omega⟩ ⟨by omega, by omega⟩ ⟨by omega, by omega⟩ ⟨by omega, by omega⟩ ⟨by omega, by omega⟩ ⟨by omega, by omega⟩)
  have HJ2 := hid (fun w' => join_is (w := w') (b := b) (a := a') (p := p') (n := b) (c := a) (q := p) (d := 0) (z := 0) (q' := p) (a' := aa) (p' := pp) (by omega) (by omega) (by omega) (by omega) (by omega) ⟨by omega, by omega⟩ ⟨by omega, by omega⟩ ⟨by omega, by omega⟩ ⟨by omega, by omega⟩ ⟨by omega, by omega⟩ ⟨by omega, by omega⟩ ⟨by omega, by omega⟩ ⟨by omega, by omega⟩ ⟨by omega, by omega⟩)
  have q1 : (FloatKind.f64.format.order (fl aa) (fl aa) == some .eq) = true := (fl_eq ⟨by omega, by omega⟩ ⟨by omega, by omega⟩).trans (by simp)
  have q2 : (FloatKind.f64.format.order (fl pp) (fl pp) == some .eq) = true := (fl_eq ⟨by omega, by omega⟩ ⟨by omega, by omega⟩).trans (by simp)
  have r0 : (b == b) = true := by simp
  have HBS := hid hb
  have HLEN := hid (And.intro hl hl')
  clear ha hp ha' hp' hb haa hpp s0 s1 s2 s3 t0 t1 t2 t3
  go_wp2_with fail
  refine (based_any n _).mono ?_
  rintro e1 w1 ⟨rfl, rfl⟩
  rw [HBS.out]
  go_wp2_with fail
  go_loopw [9, 10] (fun t i wr => ∃ (r : Nat) (z : Int), r ≤ ys.length ∧ z = (r : Int) - 1 ∧ i = .int .i64 z ∧ Hid (Ow wr w1.heap.size 33 3 mc t (ys.drop r).reverse ∧ Kp No w wr ∧ w1.heap.size ≤ wr.heap.size)) (fun _ i _ => (intOf i + 1).toNat)
  case atStart => exact ⟨ys.length, (ys.length : Int) - 1, Nat.le_refl _, rfl, rfl, hid ⟨by rw [List.drop_length]; exact Ow.nil _ _ _ _ _, K1.out, Nat.le_refl _⟩⟩
  case round =>
    obtain ⟨r, z, hr, hz, rfl, HH⟩ := hrel
    cases r with
    | succ r =>
      obtain rfl : z = (r : Int) := by omega
      have hlt : r < ys.length := by omega
      obtain ⟨b1, o1, rfl⟩ := HV.out.there (by omega)
      obtain ⟨⟨x, y, q⟩, he⟩ : ∃ m, ys.getD r m0 = m := ⟨_, rfl⟩
      have HD := hid (drop_one (d := m0) hlt)
      rw [he] at HD
      obtain ⟨c4, c5, c6⟩ := mem_cells HV.out hlt he HH.out.2.1
      have ed : (List.drop (r + 1) ys).reverse.length = ys.length - (r + 1) := by simp
      have HED := hid ed
      obtain ⟨A2, c2, rfl⟩ := HH.out.1.formN ed
      clear ed he hz
      go_wp2_with (first
        | (at_builtin
           refine wp_apps isOnes mc_one rfl (.tmp 32) (.tmp 37) rfl (d := m0) (base := w1.heap.size) (xs := (List.drop (r + 1) ys).reverse) (ys := [⟨x, y, q⟩]) (by exact HH.out.1.kp0 ((Kp.refl No _).alloc _)) (by exact one_row _ _ _ _ _) (by have := HLEN.out; rw [HED.out]; simp only [List.length_singleton]; omega) (by have := HLEN.out; rw [HED.out]; simp only [List.length_singleton, maxLen]; omega) (by have := HH.out.2.2; simp; omega) ?_
           intro v3 w3 o3 k3
           rw [← HD.out] at o3
           have H3 := hid (And.intro o3 (And.intro ((HH.out.2.1.alloc (.cells #[.int .i32 x, .int .u32 y, .bool q] 33)).step k3 fun i hi h => by have := K1.out.size; omega) (show w1.heap.size ≤ w3.heap.size from (by have h1 := HH.out.2.2; have h2 := k3.size; simp at h2; omega))))
           clear o3 k3)
        | fail)
      go_roundw
      case rel => exact ⟨r, (r : Int) - 1, by omega, rfl, by go_num, H3⟩
      case measure => simp [intOf]
    | zero =>
      obtain rfl : z = -1 := by omega
      have O1 := hid HH.out.1
      have KW := hid HH.out.2.1
      rw [List.drop_zero] at O1
      obtain ⟨A2, c2, rfl⟩ := O1.out.formN (m := ys.length) (by simp)
      have HT := hid (O1.out.rw (d := m0))
      clear HH O1 hz hr K1
      rename_i wr
      go_wp2_with (first
        | (at_builtin
           refine wp_apps isOnes mc_one rfl (.tmp 40) (.tmp 41) rfl (d := m0) (base := wr.heap.size) (xs := []) (ys := xs) (by exact Ow.mt _ _ _ _ _ (Nat.le_refl _)) (by exact (HU.out.kp0 KW.out).kp0 ((Kp.refl No wr).alloc _)) (by have := HLEN.out; simp only [List.length_nil]; omega) (by have := HLEN.out; simp only [List.length_nil, maxLen]; omega) (by simp) ?_
           intro v2 w2 o2 k2
           rw [List.nil_append] at o2
           have K2 := hid ((Kp.refl No wr).alloc (.cells #[] 33) |>.step k2 fun i hi h => by omega)
           have O2 := hid o2
           clear o2 k2)
        | (at_builtin
           refine wp_apps isOnes mc_one rfl (.tmp 42) (.tmp 43) rfl (d := m0) (base := wr.heap.size) (xs := xs) (ys := ys) (by exact O2.out) (by exact (HV.out.kp0 KW.out).kp0 K2.out) (by have := HLEN.out; omega) (by have := HLEN.out; simp only [maxLen]; omega) (by exact K2.out.size) ?_
           intro v3 w3 o3 k3
           have K3 := hid (K2.out.step k3 fun i hi h => by omega)
           have O3 := hid (o3.rw (d := m0))
           clear o3 k3 O2 K2)
        | fail)
      refine (HS1.out _ _ O3.out).mono ?_
      rintro e1 w4 ⟨rfl, k4⟩
      have A4 := hid (At.mk (((KW.out.trans K3.out).trans k4).alloc (.cells #[.int .i64 b, .complex .f64 (fl aa) (fl pp)] 27)) (Blk.new w4 27 #[.int .i64 b, .complex .f64 (fl aa) (fl pp)]))
      have T4 := hid (((HT.out.kp0 K3.out).kp0 k4).kp0 ((Kp.refl No w4).alloc (.cells #[.int .i64 b, .complex .f64 (fl aa) (fl pp)] 27)))
      have E5 : ∃ w5, w4.alloc (.cells #[.int .i64 b, .complex .f64 (fl aa) (fl pp)] 27) = w5 := ⟨_, rfl⟩
      clear k4 K3 O3 HS1 hb1 hb2 KW HT
      go_wp2_with (first
        | (at_builtin
           refine wp_apps isOnes mc_one rfl (.tmp 47) (.tmp 48) rfl (d := m0) (base := w4.heap.size + 1) (xs := []) (ys := ys.reverse) (by exact Ow.mtH _ _ _ _ _ (H := w4.heap.size + 1) (by simp) (Nat.le_refl _)) (by exact T4.out.kp0 ((Kp.refl No _).alloc _)) (by have := HLEN.out; simp only [List.length_nil, List.length_reverse]; omega) (by have := HLEN.out; simp only [List.length_nil, List.length_reverse, maxLen]; omega) (by simp) ?_
           intro v2 w2 o2 k2
           rw [List.nil_append] at o2
           have A6 := hid (At.mk ((A4.out.kept.alloc (.cells #[] 33)).step k2 fun i hi h => by have := A4.out.kept.size; simp at this; omega) ((A4.out.blk.kp0 ((Kp.refl No _).alloc (.cells #[] 33))).kp k2 (by omega)))
           have S6 := hid (show w4.heap.size + 1 ≤ w2.heap.size from (by have := k2.size; simp at this; omega))
           have O2 := hid o2
           clear o2 k2)
        | (at_builtin
           refine wp_apps isOnes mc_one rfl (.tmp 49) (.tmp 50) rfl (d := m0) (base := w4.heap.size + 1) (xs := ys.reverse) (ys := xs) (by exact O2.out) (by exact HU.out.kp0 A6.out.kept) (by have := HLEN.out; simp only [List.length_reverse]; omega) (by have := HLEN.out; simp only [List.length_reverse, maxLen]; omega) (by exact S6.out) ?_
           intro v3 w3 o3 k3
           have A7 := hid (At.mk (A6.out.kept.step k3 fun i hi h => by have := A4.out.kept.size; simp at this; omega) (A6.out.blk.kp k3 (by omega)))
           have O3 := hid (o3.rw (d := m0))
           clear o3 k3 O2 A6 S6)
        | fail)
      refine (HS2.out _ _ O3.out).mono ?_
      rintro e1 w8 ⟨rfl, k8⟩
      have A8 := hid (At2.mk ((A7.out.kp k8).kept.alloc _) ((A7.out.kp k8).blk.kp0 ((Kp.refl No w8).alloc (.cells #[.int .i64 b, .complex .f64 (fl aa) (fl pp)] 27))) (Blk.new w8 27 #[.int .i64 b, .complex .f64 (fl aa) (fl pp)]))
      clear k8 A7 A4 O3 T4 E5
      go_wp2_with fail
      refine region_class (fun w' => At2 w 27 w4.heap.size w8.heap.size (.int .i64 b) (.complex .f64 (fl aa) (fl pp)) (.int .i64 b) (.complex .f64 (fl aa) (fl pp)) w') 28 rfl (by kernel_rfl) (by kernel_rfl) (by kernel_rfl) (A8.out.kp (Kp.refl No _).drew) ?_
      simp only [List.take_succ_cons, List.take_zero]
      repeat ((first | ((with_reducible refine cl_val (v := ?_) ?_ ?_ ?_); rotate_left; (focus (go_simp; done)); (focus (intro w' hw; obtain ⟨c0, c1, c2, c3, _⟩ := hw.all; go_simp; (try with_reducible rfl); done))) | ((with_reducible refine cl_skip ?_ ?_); (focus (first | (go_simp; done) | exact unwanted rfl rfl)))); simp only [Act.put, List.setIfInBounds_toArray, List.set_cons_zero, List.set_cons_succ])
      refine cl_call (v := .agg #[.int .i64 b, .complex .f64 (fl a) (fl p)]) rfl (fun w' hw => by go_simp) (fun w' hw => (HSX.out w' (HU.out.kp0 hw.kept)).mono fun e w'' ⟨he, hk⟩ => ⟨he, hw.kp hk⟩) ?_
      simp only [Act.put, List.setIfInBounds_toArray, List.set_cons_zero, List.set_cons_succ]
      repeat ((first | ((with_reducible refine cl_val (v := ?_) ?_ ?_ ?_); rotate_left; (focus (go_simp; done)); (focus (intro w' hw; obtain ⟨c0, c1, c2, c3, _⟩ := hw.all; go_simp; (try with_reducible rfl); done))) | ((with_reducible refine cl_skip ?_ ?_); (focus (first | (go_simp; done) | exact unwanted rfl rfl)))); simp only [Act.put, List.setIfInBounds_toArray, List.set_cons_zero, List.set_cons_succ])
      refine cl_call (v := .agg #[.int .i64 b, .complex .f64 (fl a') (fl p')]) rfl (fun w' hw => by go_simp) (fun w' hw => (HSY.out w' (HV.out.kp0 hw.kept)).mono fun e w'' ⟨he, hk⟩ => ⟨he, hw.kp hk⟩) ?_
      simp only [Act.put, List.setIfInBounds_toArray, List.set_cons_zero, List.set_cons_succ]
      repeat ((first | ((with_reducible refine cl_val (v := ?_) ?_ ?_ ?_); rotate_left; (focus (go_simp; done)); (focus (intro w' hw; obtain ⟨c0, c1, c2, c3, _⟩ := hw.all; go_simp; (try with_reducible rfl); done))) | ((with_reducible refine cl_skip ?_ ?_); (focus (first | (go_simp; done) | exact unwanted rfl rfl)))); simp only [Act.put, List.setIfInBounds_toArray, List.set_cons_zero, List.set_cons_succ])
      refine cl_call (v := .agg #[.int .i64 b, .complex .f64 (fl aa) (fl pp)]) rfl (fun w' hw => by go_simp) (fun w' hw => (HJ1.out w').mono fun e w'' ⟨he, hk⟩ => ⟨he, hw.kp hk⟩) ?_
      simp only [Act.put, List.setIfInBounds_toArray, List.set_cons_zero, List.set_cons_succ]
      repeat ((first | ((with_reducible refine cl_val (v := ?_) ?_ ?_ ?_); rotate_left; (focus (go_simp; done)); (focus (intro w' hw; obtain ⟨c0, c1, c2, c3, _⟩ := hw.all; go_simp; (try with_reducible rfl); done))) | ((with_reducible refine cl_skip ?_ ?_); (focus (first | (go_simp; done) | exact unwanted rfl rfl)))); simp only [Act.put, List.setIfInBounds_toArray, List.set_cons_zero, List.set_cons_succ])
      refine cl_call (v := .agg #[.int .i64 b, .complex .f64 (fl a') (fl p')]) rfl (fun w' hw => by go_simp) (fun w' hw => (HSY.out w' (HV.out.kp0 hw.kept)).mono fun e w'' ⟨he, hk⟩ => ⟨he, hw.kp hk⟩) ?_
      simp only [Act.put, List.setIfInBounds_toArray, List.set_cons_zero, List.set_cons_succ]
      repeat ((first | ((with_reducible refine cl_val (v := ?_) ?_ ?_ ?_); rotate_left; (focus (go_simp; done)); (focus (intro w' hw; obtain ⟨c0, c1, c2, c3, _⟩ := hw.all; go_simp; (try with_reducible rfl); done))) | ((with_reducible refine cl_skip ?_ ?_); (focus (first | (go_simp; done) | exact unwanted rfl rfl)))); simp only [Act.put, List.setIfInBounds_toArray, List.set_cons_zero, List.set_cons_succ])
      refine cl_call (v := .agg #[.int .i64 b, .complex .f64 (fl a) (fl p)]) rfl (fun w' hw => by go_simp) (fun w' hw => (HSX.out w' (HU.out.kp0 hw.kept)).mono fun e w'' ⟨he, hk⟩ => ⟨he, hw.kp hk⟩) ?_
      simp only [Act.put, List.setIfInBounds_toArray, List.set_cons_zero, List.set_cons_succ]
      repeat ((first | ((with_reducible refine cl_val (v := ?_) ?_ ?_ ?_); rotate_left; (focus (go_simp; done)); (focus (intro w' hw; obtain ⟨c0, c1, c2, c3, _⟩ := hw.all; go_simp; (try with_reducible rfl); done))) | ((with_reducible refine cl_skip ?_ ?_); (focus (first | (go_simp; done) | exact unwanted rfl rfl)))); simp only [Act.put, List.setIfInBounds_toArray, List.set_cons_zero, List.set_cons_succ])
      refine cl_call (v := .agg #[.int .i64 b, .complex .f64 (fl aa) (fl pp)]) rfl (fun w' hw => by go_simp) (fun w' hw => (HJ2.out w').mono fun e w'' ⟨he, hk⟩ => ⟨he, hw.kp hk⟩) ?_
      simp only [Act.put, List.setIfInBounds_toArray, List.set_cons_zero, List.set_cons_succ]
      repeat ((first | ((with_reducible refine cl_val (v := ?_) ?_ ?_ ?_); rotate_left; (focus (go_simp; done)); (focus (intro w' hw; obtain ⟨c0, c1, c2, c3, _⟩ := hw.all; go_simp; (try with_reducible rfl); done))) | ((with_reducible refine cl_skip ?_ ?_); (focus (first | (go_simp; done) | exact unwanted rfl rfl)))); simp only [Act.put, List.setIfInBounds_toArray, List.set_cons_zero, List.set_cons_succ])
      refine cl_nil fun w' hw => ?_
      have H5 := hid hw.kept
      clear hw
      go_wp2_with fail
      go_ret
      exact ⟨rfl, H5.out⟩
end Go.Proofs.Ytklkjgdhfanlcaa
