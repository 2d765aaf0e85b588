/-
  The walk of SlotsCrashes.
-/
import Derived.Test.YteficflfmbecbaaDoorSlV
namespace Go.Proofs.YteficflfmbecbaaDoor
open Go.RowKit

theorem isThat_eq {r : Nat × Bool × List Int} {x : Int} (h : x = (r.1 : Int)) : isThat r x r.2.1 r.2.2 = true := by rw [h]; exact isThat_self r
theorem isThat_gen (r : Nat × Bool × List Int) (x : Int) (hb : Bool) (xs : List Int) : ∃ q, isThat r x hb xs = q := ⟨_, rfl⟩
set_option maxHeartbeats 8000000 in
set_option maxRecDepth 100000 in
theorem slotsCrashes_walk (w : World) (v : Value) (o : Dop) (ca : Int) (vk : Value) (ht : Tab w) {os : List Dop} {keep : List Bool} (ho : Ops w Anyb v os) (hoo : OpOk w Anyb o) (hca : 0 ≤ ca ∧ ca ≤ 255) (hk : Sl Value.bool false w Anyb vk keep) (hsz : os.length * 72 ≤ 140737488351232) :
    Calls Tryd.prog 3 #[v, .agg #[dc o 0, dc o 1, dc o 2, dc o 3, dc o 4], .int .u8 ca, vk] w fun e w' => e = .returned (.bool true) ∧ Kp No w w' := by
  have HT := hid ht
  have HO := hid ho.below
  have HOO := hid (show OpOk w (fun i => i < w.heap.size) o from ⟨hoo.d, hoo.i, hoo.n, hoo.b.below, hoo.k.below⟩)
  have HOA := hid hoo
  have HKP := hid hk.below
  obtain ⟨V, vc, rfl, hvc, hvm, _⟩ := ho.rw
  obtain ⟨K, kc, rfl, hkc, hkm, _⟩ := hk
  unfold maxLen at hvm hkm
  have HSZ := hid hsz
  obtain ⟨no, hno⟩ : ∃ n, os.length = n := ⟨_, rfl⟩
  obtain ⟨nk, hnk⟩ : ∃ n, keep.length = n := ⟨_, rfl⟩
  rw [hno] at hvc HO ⊢
  rw [hnk] at hkc HKP ⊢
  obtain ⟨ci, rfl⟩ : ∃ i : Nat, ca = (i : Int) := ⟨ca.toNat, by omega⟩
  obtain ⟨cn, hcn⟩ : ∃ n, ci % 16 = n := ⟨_, rfl⟩
  have hmod : (ci : Int).tmod 16 = (cn : Int) := by rw [Int.tmod_eq_emod_of_nonneg (by omega)]; omega
  have hwc := wrapI (x := (cn : Int)) (by unfold I64; omega)
  obtain ⟨xd, xi, xn, xb, xbl, xk, xkl⟩ := o
  have HB := hid HOO.out.b
  obtain ⟨w0, hw0⟩ : ∃ w0, w.alloc (.cells #[.int .i64 xd, .int .i64 xi, .int .i64 xn, xb, xk] 26) = w0 := ⟨_, rfl⟩
  have K0 := hid ((Kp.refl No w).alloc (.cells #[.int .i64 xd, .int .i64 xi, .int .i64 xn, xb, xk] 26))
  have X0 := hid (Blk.new w 26 #[.int .i64 xd, .int .i64 xi, .int .i64 xn, xb, xk])
  rw [hw0] at K0 X0
  have HX := hid (show ∀ w', Kp No w0 w' → w'.cell? ⟨w.heap.size, 0, none⟩ = some (.int .i64 xd) ∧ w'.cell? ⟨w.heap.size, 1, none⟩ = some (.int .i64 xi) ∧ w'.cell? ⟨w.heap.size, 2, none⟩ = some (.int .i64 xn) ∧ w'.cell? ⟨w.heap.size, 3, none⟩ = some xb ∧ w'.cell? ⟨w.heap.size, 4, none⟩ = some xk from fun w' k =>
    ⟨(X0.out.kp0 k).cell 0, (X0.out.kp0 k).cell 1, (X0.out.kp0 k).cell 2, (X0.out.kp0 k).cell 3, (X0.out.kp0 k).cell 4⟩)
  have hw0s : w.heap.size < w0.heap.size := X0.out.lt
  clear ht ho hoo hno hnk hcn hsz
  unfold dc
  simp only
  go_enter Tryd.func3, Tryd.ntmps3
  go_upto_region 3 with (first
    | (go_at_call 8
       refine (awake_any w0 (HT.out.kp0 K0.out)).mono ?_
       rintro e w1 ⟨rfl, k1⟩
       have K1 := hid (K0.out.trans k1)
       have KX1 := hid k1
       obtain ⟨x0, x1, x2, x3, x4⟩ := HX.out _ k1
       clear k1 hw0)
    | (at_builtin
       refine wp_appo rfl (.tmp 23) (.tmp 24) rfl (base := w1.heap.size) (xs := [⟨xd, xi, xn, xb, xbl, xk, xkl⟩]) (ys := os) (by exact Ow.oneO w1 ⟨xd, xi, xn, xb, xbl, xk, xkl⟩) (by exact (HO.out.kp (K1.out.alloc _) fun _ _ h => h)) (by have := HSZ.out; simp only [List.length_cons, List.length_nil]; omega) (by simp) ?_
       intro v2 w2 o2 k2
       have K2 := hid (show Kp No w w2 from (K1.out.alloc (.cells #[.int .i64 xd, .int .i64 xi, .int .i64 xn, xb, xk] 26)).step k2 fun i hi h => by have := K1.out.size; omega)
       have KX2 := hid (show Kp No w0 w2 from (KX1.out.alloc (.cells #[.int .i64 xd, .int .i64 xi, .int .i64 xn, xb, xk] 26)).step k2 fun i hi h => by have := KX1.out.size; omega)
       have HOS := hid (show Ops w2 Anyb v2 ([⟨xd, xi, xn, xb, xbl, xk, xkl⟩] ++ os) from ⟨o2.rw, fun y hy => by
         rcases List.mem_append.1 hy with h | h
         · rw [List.mem_singleton.1 h]
           exact HOA.out.kp K2.out fun _ _ h => h
         · have := (HO.out.ok y h).kp K2.out fun _ _ h => h
           exact ⟨this.d, this.i, this.n, this.b.mono fun _ _ _ => trivial, by
             obtain ⟨A, c, e1, e2, e3, e4⟩ := this.k
             exact ⟨A, c, e1, e2, e3, fun h0 => by obtain ⟨b, o, f1, f2, _, f4⟩ := e4 h0; exact ⟨b, o, f1, f2, trivial, f4⟩⟩⟩⟩)
       clear o2 k2 x0 x1 x2 x3 x4)
    | (go_at_call 9
       refine (few_any HOS.out).mono ?_
       rintro e w3 ⟨q0, rfl, rfl, hq0⟩
       have HQ0 := hid hq0
       clear hq0))
  cases q0 with
  | false =>
    go_wp2
    go_ret
    exact ⟨rfl, K2.out⟩
  | true =>
  by_cases h50 : 50 < nk
  · have g50 : (50 : Int) < (nk : Int) := by omega
    go_wp2
    go_ret
    exact ⟨rfl, K2.out⟩
  have g50 : ¬ (50 : Int) < (nk : Int) := by omega
  have HFW := hid (show FewOk os from ⟨by have := (HQ0.out rfl).1; simp at this; omega, fun y hy => (HQ0.out rfl).2 y (by simp [hy])⟩)
  have hbl : xbl.length ≤ 400 := ((HQ0.out rfl).2 ⟨xd, xi, xn, xb, xbl, xk, xkl⟩ (by simp)).1
  go_upto_region 12 with (first
    | (go_at_call 10
       refine (walked_any (HT.out.kp0 K2.out) (HO.out.kp K2.out fun _ _ h => h) HFW.out).mono ?_
       rintro e w4 ⟨q, g, b, m, s, ⟨ra, rh, ri⟩, r', rfl, W4, hr20, hlo, k4⟩
       have HW4 := hid W4
       have K4 := hid (K2.out.trans k4)
       have KX4 := hid (KX2.out.trans k4)
       have hlo2 : w.heap.size < q ∧ w.heap.size < g ∧ w.heap.size < b ∧ w.heap.size < m := by have := KX2.out.size; omega
       simp only at hr20
       clear W4 k4 hlo)
    | (go_at_call 11
       refine (age_any (show Str _ q g b m 19 ra rh ri from HW4.out.st)).mono ?_
       rintro e w5 ⟨rfl, rfl⟩)
    | (go_at_call 12
       refine (image_any (show Str _ q g b m 19 ra rh ri from HW4.out.st)).mono ?_
       rintro e w6 ⟨u6, rfl, o6, k6⟩
       have HW6 := hid (HW4.out.kp0 k6)
       have hd5 := HW4.out.dk.lts
       have hq5 := (show Str _ q g b m 19 ra rh ri from HW4.out.st).lt
       have B6 := hid (o6.byt (P := Stn q g b m) fun i hi => ⟨by omega, by omega, by omega, by omega⟩)
       have K6 := hid (K4.out.trans k6)
       have KX6 := hid (KX4.out.trans k6)
       clear o6 k6)
    | (go_at_call 13
       refine (arm_any HW6.out.dk (cn : Int)).mono ?_
       rintro e w7 ⟨⟨x7, rfl⟩, k7, d7⟩
       have D7 := hid d7
       have S7 := hid (Sto.kpd HW6.out.st k7 fun i h => .inl h)
       have B7 := hid (B6.out.kp k7 fun i hi e => hi.2.1 e)
       have K7 := hid (K6.out.step k7 fun i hi e => by unfold Only at e; omega)
       have X7 := hid ((X0.out.kp0 KX6.out).kp k7 fun e => by unfold Only at e; omega)
       have x0 := X7.out.cell 0
       have x3 := X7.out.cell 3
       simp only [List.getElem?_toArray, List.getElem?_cons_zero, List.getElem?_cons_succ] at x0 x3
       have HBB := hid (HB.out.kp K7.out fun _ _ h => h)
       clear k7 d7))
  have hnk : (armedBy s (cn : Int)).k.length = 40 := HW6.out.kl
  have hwa := wrapI (x := (ra : Int) + 1) (by unfold I64; omega)
  by_cases hx2 : xd = 2
  · subst hx2
    cases rh with
    | false =>
      obtain ⟨hp1, hp2⟩ := HW6.out.aft_none (cn : Int) keep
      have HPK := hid hp1
      have HFN := hid hp2
      have HR := hid (show delR (armedBy s (cn : Int)) (ra, false, ri) = (8, armedBy s (cn : Int), (ra, false, ri)) from rfl)
      clear hp1 hp2
      go_wp2_with (first
        | (go_at_call 14
           refine (delete_any D7.out S7.out (HT.out.kp0 K7.out) (by rw [hnk]; omega)).mono ?_
           intro e w8 hc8
           obtain ⟨rfl, k8, d8, s8⟩ : e = .returned (.int .i64 (((8, armedBy s (cn : Int), (ra, false, ri)) : Int × Ds × (Nat × Bool × List Int))).1) ∧ Kp (SB q g b m) w7 w8 ∧ Dk w8 g b m (((8, armedBy s (cn : Int), (ra, false, ri)) : Int × Ds × (Nat × Bool × List Int))).2.1 ∧ Sto w8 q g b m 19 (((8, armedBy s (cn : Int), (ra, false, ri)) : Int × Ds × (Nat × Bool × List Int))).2.2 := by rw [← HR.out]; exact hc8
           clear hc8
           dsimp only at d8 s8 ⊢
           have D8 := hid d8
           have S8 := hid s8
           have B8 := hid (B7.out.kp k8 fun i hi e => by rcases e with e | e | e | e; exact hi.1 e; exact hi.2.1 e; exact hi.2.2.1 e; exact hi.2.2.2 e)
           have K8 := hid (K7.out.step k8 fun i hi e => by rcases e with e | e | e | e <;> omega)
           have X8 := hid (X7.out.kp k8 fun e => by rcases e with e | e | e | e <;> omega)
           have y0 := X8.out.cell 0
           have y3 := X8.out.cell 3
           simp only [List.getElem?_toArray, List.getElem?_cons_zero, List.getElem?_cons_succ] at y0 y3
           have HBB8 := hid (HBB.out.kp k8 fun i hi e => by rcases e with e | e | e | e <;> omega)
           have EV : (8 : Int) = 8 := rfl
           clear k8 d8 s8 x0 x3)
        | (go_at_call 16
           refine (lsame_any S8.out B8.out _ _).mono ?_
           rintro e w9 ⟨rfl, k9⟩
           rw [isThat_eq (r := (ra, false, ri)) (x := (ra : Int)) rfl]
           have D9 := hid (D8.out.kp0 k9)
           have B9 := hid (B8.out.kp0 k9)
           have K9 := hid (K8.out.trans k9)
           have X9 := hid (X8.out.kp0 k9)
           have HBB9 := hid (HBB8.out.kp0 k9)
           clear k9 S8 y0 y3)
        | (go_at_call 17
           refine (crash_any D9.out (HKP.out.kp K9.out fun _ _ _ h => h) (by omega)).mono ?_
           rintro e w10 ⟨⟨x10, rfl⟩, k10, d10⟩
           have D10 := hid d10
           have B10 := hid (B9.out.kp k10 fun i hi e => by rcases e with e | e | e; exact hi.2.1 e; exact hi.2.2.1 e; exact hi.2.2.2 e)
           have K10 := hid (K9.out.step k10 fun i hi e => by rcases e with e | e | e <;> omega)
           have X10 := hid (X9.out.kp k10 fun e => by rcases e with e | e | e <;> omega)
           have HBB10 := hid (HBB9.out.kp k10 fun i hi e => by rcases e with e | e | e <;> omega)
           clear k10 d10 D9)
        | (go_at_call 18
           refine (open_is D10.out (HT.out.kp0 K10.out) rfl (by rw [crashed_len, HPK.out]; omega)).mono ?_
           rintro e w11 ⟨q11, rfl, hq11, s11, k11⟩
           rw [crashed_len, HPK.out] at s11
           have e11 : opn (look (crashed (armedBy s (cn : Int)) keep)) ((40 - 2) / 2) = (ra, false, ri) := HFN.out
           rw [e11] at s11
           have S11 := hid s11
           have B11 := hid (B10.out.kp0 k11)
           have K11 := hid (K10.out.trans k11)
           have X11 := hid (X10.out.kp0 k11)
           have HBB11 := hid (HBB10.out.kp0 k11)
           clear s11 k11 e11 hq11)
        | (go_at_call 16
           refine (lsame_any S11.out B11.out (ra : Int) false).mono ?_
           rintro e w12 ⟨rfl, k12⟩
           rw [isThat_eq (r := (ra, false, ri)) (x := (ra : Int)) rfl]
           have S12 := hid (Sto.kp0 S11.out k12)
           have K12 := hid (K11.out.trans k12)
           have X12 := hid (X11.out.kp0 k12)
           have HBB12 := hid (HBB11.out.kp0 k12)
           have z0 := X12.out.cell 0
           have z3 := X12.out.cell 3
           simp only [List.getElem?_toArray, List.getElem?_cons_zero, List.getElem?_cons_succ] at z0 z3
           clear k12 S11 X11 HBB11)
        | (go_at_call 16
           refine (lsame_any S12.out HBB12.out ((ra : Int) + 1) true).mono ?_
           rintro e w13 ⟨rfl, k13⟩
           obtain ⟨qna, hqna⟩ := isThat_gen ((ra, false, ri)) ((ra : Int) + 1) true xbl
           rw [hqna]
           clear hqna
           have S13 := hid (Sto.kp0 S12.out k13)
           have K13 := hid (K12.out.trans k13)
           have u0 := (X12.out.kp0 k13).cell 0
           simp only [List.getElem?_toArray, List.getElem?_cons_zero] at u0
           clear k13 S12 X12 HBB12 z0 z3)
        | (go_at_call 16
           refine (lsame_any S13.out (Byt.nil _ Anyb) ((ra : Int) + 1) false).mono ?_
           rintro e w14 ⟨rfl, k14⟩
           obtain ⟨qnb, hqnb⟩ := isThat_gen ((ra, false, ri)) ((ra : Int) + 1) false []
           rw [hqnb]
           clear hqnb
           have K14 := hid (K13.out.trans k14)
           clear k14))
      all_goals
        go_ret
        exact ⟨by simp, K14.out⟩
    | true =>
      have haf := HW6.out.aft_del (cn : Int) (by simp only; omega) keep
      have hdr : delR (armedBy s (cn : Int)) (ra, true, ri) = (cod (sealD (armedBy s (cn : Int)) (ra + 1) false []).2, (sealD (armedBy s (cn : Int)) (ra + 1) false []).1, pick (sealD (armedBy s (cn : Int)) (ra + 1) false []).2 (ra + 1, false, []) (ra, true, ri)) := by
        unfold delR
        rw [if_neg (by simp), if_neg (by simp only; omega)]
      simp only at haf
      generalize sealD (armedBy s (cn : Int)) (ra + 1) false [] = p at haf hdr
      obtain ⟨pd, pb⟩ := p
      obtain ⟨hp1, ⟨hp2, hp3⟩ | ⟨hp2, hp3⟩ | ⟨hp2, hp3⟩⟩ := haf
      · simp only at hp2
        subst hp2
        have HPK := hid hp1
        have HFN := hid hp3
        have HR := hid (show _ = ((0, pd, (ra + 1, false, [])) : Int × Ds × (Nat × Bool × List Int)) from hdr)
        clear hp1 hp3 hdr
        go_wp2_with (first
          | (go_at_call 14
             refine (delete_any D7.out S7.out (HT.out.kp0 K7.out) (by rw [hnk]; omega)).mono ?_
             intro e w8 hc8
             obtain ⟨rfl, k8, d8, s8⟩ : e = .returned (.int .i64 (((0, pd, (ra + 1, false, [])) : Int × Ds × (Nat × Bool × List Int))).1) ∧ Kp (SB q g b m) w7 w8 ∧ Dk w8 g b m (((0, pd, (ra + 1, false, [])) : Int × Ds × (Nat × Bool × List Int))).2.1 ∧ Sto w8 q g b m 19 (((0, pd, (ra + 1, false, [])) : Int × Ds × (Nat × Bool × List Int))).2.2 := by rw [← HR.out]; exact hc8
             clear hc8
             dsimp only at d8 s8 ⊢
             have D8 := hid d8
             have S8 := hid s8
             have B8 := hid (B7.out.kp k8 fun i hi e => by rcases e with e | e | e | e; exact hi.1 e; exact hi.2.1 e; exact hi.2.2.1 e; exact hi.2.2.2 e)
             have K8 := hid (K7.out.step k8 fun i hi e => by rcases e with e | e | e | e <;> omega)
             have X8 := hid (X7.out.kp k8 fun e => by rcases e with e | e | e | e <;> omega)
             have y0 := X8.out.cell 0
             have y3 := X8.out.cell 3
             simp only [List.getElem?_toArray, List.getElem?_cons_zero, List.getElem?_cons_succ] at y0 y3
             have HBB8 := hid (HBB.out.kp k8 fun i hi e => by rcases e with e | e | e | e <;> omega)
             have EV : (0 : Int) = 0 := rfl
             have D9 := D8
             have B9 := B8
             have K9 := K8
             have X9 := X8
             have HBB9 := HBB8
             clear k8 d8 s8 x0 x3)
          | (go_at_call 17
             refine (crash_any D9.out (HKP.out.kp K9.out fun _ _ _ h => h) (by omega)).mono ?_
             rintro e w10 ⟨⟨x10, rfl⟩, k10, d10⟩
             have D10 := hid d10
             have B10 := hid (B9.out.kp k10 fun i hi e => by rcases e with e | e | e; exact hi.2.1 e; exact hi.2.2.1 e; exact hi.2.2.2 e)
             have K10 := hid (K9.out.step k10 fun i hi e => by rcases e with e | e | e <;> omega)
             have X10 := hid (X9.out.kp k10 fun e => by rcases e with e | e | e <;> omega)
             have HBB10 := hid (HBB9.out.kp k10 fun i hi e => by rcases e with e | e | e <;> omega)
             clear k10 d10 D9)
          | (go_at_call 18
             refine (open_is D10.out (HT.out.kp0 K10.out) rfl (by rw [crashed_len, HPK.out]; omega)).mono ?_
             rintro e w11 ⟨q11, rfl, hq11, s11, k11⟩
             rw [crashed_len, HPK.out] at s11
             have e11 : opn (look (crashed pd keep)) ((40 - 2) / 2) = (ra + 1, false, []) := HFN.out
             rw [e11] at s11
             have S11 := hid s11
             have B11 := hid (B10.out.kp0 k11)
             have K11 := hid (K10.out.trans k11)
             have X11 := hid (X10.out.kp0 k11)
             have HBB11 := hid (HBB10.out.kp0 k11)
             clear s11 k11 e11 hq11)
          | (go_at_call 16
             refine (lsame_any S11.out B11.out (ra : Int) true).mono ?_
             rintro e w12 ⟨rfl, k12⟩
             obtain ⟨qw, hqw⟩ := isThat_gen ((ra + 1, false, [])) (ra : Int) true ri
             rw [hqw]
             clear hqw
             have S12 := hid (Sto.kp0 S11.out k12)
             have K12 := hid (K11.out.trans k12)
             have X12 := hid (X11.out.kp0 k12)
             have HBB12 := hid (HBB11.out.kp0 k12)
             have z0 := X12.out.cell 0
             have z3 := X12.out.cell 3
             simp only [List.getElem?_toArray, List.getElem?_cons_zero, List.getElem?_cons_succ] at z0 z3
             clear k12 S11 X11 HBB11)
          | (go_at_call 16
             refine (lsame_any S12.out HBB12.out ((ra : Int) + 1) true).mono ?_
             rintro e w13 ⟨rfl, k13⟩
             obtain ⟨qna, hqna⟩ := isThat_gen ((ra + 1, false, [])) ((ra : Int) + 1) true xbl
             rw [hqna]
             clear hqna
             have S13 := hid (Sto.kp0 S12.out k13)
             have K13 := hid (K12.out.trans k13)
             have u0 := (X12.out.kp0 k13).cell 0
             simp only [List.getElem?_toArray, List.getElem?_cons_zero] at u0
             clear k13 S12 X12 HBB12 z0 z3)
          | (go_at_call 16
             refine (lsame_any S13.out (Byt.nil _ Anyb) ((ra : Int) + 1) false).mono ?_
             rintro e w14 ⟨rfl, k14⟩
             rw [isThat_eq (r := (ra + 1, false, [])) (x := ((ra : Int) + 1)) (by simp only; omega)]
             have K14 := hid (K13.out.trans k14)
             clear k14))
        all_goals
          go_ret
          exact ⟨by simp, K14.out⟩
      · simp only at hp2
        subst hp2
        have HPK := hid hp1
        have HFN := hid hp3
        have HR := hid (show _ = ((19, pd, (ra, true, ri)) : Int × Ds × (Nat × Bool × List Int)) from hdr)
        clear hp1 hp3 hdr
        go_wp2_with (first
          | (go_at_call 14
             refine (delete_any D7.out S7.out (HT.out.kp0 K7.out) (by rw [hnk]; omega)).mono ?_
             intro e w8 hc8
             obtain ⟨rfl, k8, d8, s8⟩ : e = .returned (.int .i64 (((19, pd, (ra, true, ri)) : Int × Ds × (Nat × Bool × List Int))).1) ∧ Kp (SB q g b m) w7 w8 ∧ Dk w8 g b m (((19, pd, (ra, true, ri)) : Int × Ds × (Nat × Bool × List Int))).2.1 ∧ Sto w8 q g b m 19 (((19, pd, (ra, true, ri)) : Int × Ds × (Nat × Bool × List Int))).2.2 := by rw [← HR.out]; exact hc8
             clear hc8
             dsimp only at d8 s8 ⊢
             have D8 := hid d8
             have S8 := hid s8
             have B8 := hid (B7.out.kp k8 fun i hi e => by rcases e with e | e | e | e; exact hi.1 e; exact hi.2.1 e; exact hi.2.2.1 e; exact hi.2.2.2 e)
             have K8 := hid (K7.out.step k8 fun i hi e => by rcases e with e | e | e | e <;> omega)
             have X8 := hid (X7.out.kp k8 fun e => by rcases e with e | e | e | e <;> omega)
             have y0 := X8.out.cell 0
             have y3 := X8.out.cell 3
             simp only [List.getElem?_toArray, List.getElem?_cons_zero, List.getElem?_cons_succ] at y0 y3
             have HBB8 := hid (HBB.out.kp k8 fun i hi e => by rcases e with e | e | e | e <;> omega)
             have EV : (19 : Int) = 19 := rfl
             clear k8 d8 s8 x0 x3)
          | (go_at_call 16
             refine (lsame_any S8.out B8.out _ _).mono ?_
             rintro e w9 ⟨rfl, k9⟩
             rw [isThat_eq (r := (ra, true, ri)) (x := (ra : Int)) rfl]
             have D9 := hid (D8.out.kp0 k9)
             have B9 := hid (B8.out.kp0 k9)
             have K9 := hid (K8.out.trans k9)
             have X9 := hid (X8.out.kp0 k9)
             have HBB9 := hid (HBB8.out.kp0 k9)
             clear k9 S8 y0 y3)
          | (go_at_call 17
             refine (crash_any D9.out (HKP.out.kp K9.out fun _ _ _ h => h) (by omega)).mono ?_
             rintro e w10 ⟨⟨x10, rfl⟩, k10, d10⟩
             have D10 := hid d10
             have B10 := hid (B9.out.kp k10 fun i hi e => by rcases e with e | e | e; exact hi.2.1 e; exact hi.2.2.1 e; exact hi.2.2.2 e)
             have K10 := hid (K9.out.step k10 fun i hi e => by rcases e with e | e | e <;> omega)
             have X10 := hid (X9.out.kp k10 fun e => by rcases e with e | e | e <;> omega)
             have HBB10 := hid (HBB9.out.kp k10 fun i hi e => by rcases e with e | e | e <;> omega)
             clear k10 d10 D9)
          | (go_at_call 18
             refine (open_is D10.out (HT.out.kp0 K10.out) rfl (by rw [crashed_len, HPK.out]; omega)).mono ?_
             rintro e w11 ⟨q11, rfl, hq11, s11, k11⟩
             rw [crashed_len, HPK.out] at s11
             have e11 : opn (look (crashed pd keep)) ((40 - 2) / 2) = (ra, true, ri) := HFN.out
             rw [e11] at s11
             have S11 := hid s11
             have B11 := hid (B10.out.kp0 k11)
             have K11 := hid (K10.out.trans k11)
             have X11 := hid (X10.out.kp0 k11)
             have HBB11 := hid (HBB10.out.kp0 k11)
             clear s11 k11 e11 hq11)
          | (go_at_call 16
             refine (lsame_any S11.out B11.out (ra : Int) true).mono ?_
             rintro e w12 ⟨rfl, k12⟩
             rw [isThat_eq (r := (ra, true, ri)) (x := (ra : Int)) rfl]
             have S12 := hid (Sto.kp0 S11.out k12)
             have K12 := hid (K11.out.trans k12)
             have X12 := hid (X11.out.kp0 k12)
             have HBB12 := hid (HBB11.out.kp0 k12)
             have z0 := X12.out.cell 0
             have z3 := X12.out.cell 3
             simp only [List.getElem?_toArray, List.getElem?_cons_zero, List.getElem?_cons_succ] at z0 z3
             clear k12 S11 X11 HBB11)
          | (go_at_call 16
             refine (lsame_any S12.out HBB12.out ((ra : Int) + 1) true).mono ?_
             rintro e w13 ⟨rfl, k13⟩
             obtain ⟨qna, hqna⟩ := isThat_gen ((ra, true, ri)) ((ra : Int) + 1) true xbl
             rw [hqna]
             clear hqna
             have S13 := hid (Sto.kp0 S12.out k13)
             have K13 := hid (K12.out.trans k13)
             have u0 := (X12.out.kp0 k13).cell 0
             simp only [List.getElem?_toArray, List.getElem?_cons_zero] at u0
             clear k13 S12 X12 HBB12 z0 z3)
          | (go_at_call 16
             refine (lsame_any S13.out (Byt.nil _ Anyb) ((ra : Int) + 1) false).mono ?_
             rintro e w14 ⟨rfl, k14⟩
             obtain ⟨qnb, hqnb⟩ := isThat_gen ((ra, true, ri)) ((ra : Int) + 1) false []
             rw [hqnb]
             clear hqnb
             have K14 := hid (K13.out.trans k14)
             clear k14))
        all_goals
          go_ret
          exact ⟨by simp, K14.out⟩
      · simp only at hp2
        subst hp2
        have HPK := hid hp1
        have HFN := hid hp3
        have HR := hid (show _ = ((19, pd, (ra, true, ri)) : Int × Ds × (Nat × Bool × List Int)) from hdr)
        clear hp1 hp3 hdr
        go_wp2_with (first
          | (go_at_call 14
             refine (delete_any D7.out S7.out (HT.out.kp0 K7.out) (by rw [hnk]; omega)).mono ?_
             intro e w8 hc8
             obtain ⟨rfl, k8, d8, s8⟩ : e = .returned (.int .i64 (((19, pd, (ra, true, ri)) : Int × Ds × (Nat × Bool × List Int))).1) ∧ Kp (SB q g b m) w7 w8 ∧ Dk w8 g b m (((19, pd, (ra, true, ri)) : Int × Ds × (Nat × Bool × List Int))).2.1 ∧ Sto w8 q g b m 19 (((19, pd, (ra, true, ri)) : Int × Ds × (Nat × Bool × List Int))).2.2 := by rw [← HR.out]; exact hc8
             clear hc8
             dsimp only at d8 s8 ⊢
             have D8 := hid d8
             have S8 := hid s8
             have B8 := hid (B7.out.kp k8 fun i hi e => by rcases e with e | e | e | e; exact hi.1 e; exact hi.2.1 e; exact hi.2.2.1 e; exact hi.2.2.2 e)
             have K8 := hid (K7.out.step k8 fun i hi e => by rcases e with e | e | e | e <;> omega)
             have X8 := hid (X7.out.kp k8 fun e => by rcases e with e | e | e | e <;> omega)
             have y0 := X8.out.cell 0
             have y3 := X8.out.cell 3
             simp only [List.getElem?_toArray, List.getElem?_cons_zero, List.getElem?_cons_succ] at y0 y3
             have HBB8 := hid (HBB.out.kp k8 fun i hi e => by rcases e with e | e | e | e <;> omega)
             have EV : (19 : Int) = 19 := rfl
             clear k8 d8 s8 x0 x3)
          | (go_at_call 16
             refine (lsame_any S8.out B8.out _ _).mono ?_
             rintro e w9 ⟨rfl, k9⟩
             rw [isThat_eq (r := (ra, true, ri)) (x := (ra : Int)) rfl]
             have D9 := hid (D8.out.kp0 k9)
             have B9 := hid (B8.out.kp0 k9)
             have K9 := hid (K8.out.trans k9)
             have X9 := hid (X8.out.kp0 k9)
             have HBB9 := hid (HBB8.out.kp0 k9)
             clear k9 S8 y0 y3)
          | (go_at_call 17
             refine (crash_any D9.out (HKP.out.kp K9.out fun _ _ _ h => h) (by omega)).mono ?_
             rintro e w10 ⟨⟨x10, rfl⟩, k10, d10⟩
             have D10 := hid d10
             have B10 := hid (B9.out.kp k10 fun i hi e => by rcases e with e | e | e; exact hi.2.1 e; exact hi.2.2.1 e; exact hi.2.2.2 e)
             have K10 := hid (K9.out.step k10 fun i hi e => by rcases e with e | e | e <;> omega)
             have X10 := hid (X9.out.kp k10 fun e => by rcases e with e | e | e <;> omega)
             have HBB10 := hid (HBB9.out.kp k10 fun i hi e => by rcases e with e | e | e <;> omega)
             clear k10 d10 D9)
          | (go_at_call 18
             refine (open_is D10.out (HT.out.kp0 K10.out) rfl (by rw [crashed_len, HPK.out]; omega)).mono ?_
             rintro e w11 ⟨q11, rfl, hq11, s11, k11⟩
             rw [crashed_len, HPK.out] at s11
             have e11 : opn (look (crashed pd keep)) ((40 - 2) / 2) = (ra + 1, false, []) := HFN.out
             rw [e11] at s11
             have S11 := hid s11
             have B11 := hid (B10.out.kp0 k11)
             have K11 := hid (K10.out.trans k11)
             have X11 := hid (X10.out.kp0 k11)
             have HBB11 := hid (HBB10.out.kp0 k11)
             clear s11 k11 e11 hq11)
          | (go_at_call 16
             refine (lsame_any S11.out B11.out (ra : Int) true).mono ?_
             rintro e w12 ⟨rfl, k12⟩
             obtain ⟨qw, hqw⟩ := isThat_gen ((ra + 1, false, [])) (ra : Int) true ri
             rw [hqw]
             clear hqw
             have S12 := hid (Sto.kp0 S11.out k12)
             have K12 := hid (K11.out.trans k12)
             have X12 := hid (X11.out.kp0 k12)
             have HBB12 := hid (HBB11.out.kp0 k12)
             have z0 := X12.out.cell 0
             have z3 := X12.out.cell 3
             simp only [List.getElem?_toArray, List.getElem?_cons_zero, List.getElem?_cons_succ] at z0 z3
             clear k12 S11 X11 HBB11)
          | (go_at_call 16
             refine (lsame_any S12.out HBB12.out ((ra : Int) + 1) true).mono ?_
             rintro e w13 ⟨rfl, k13⟩
             obtain ⟨qna, hqna⟩ := isThat_gen ((ra + 1, false, [])) ((ra : Int) + 1) true xbl
             rw [hqna]
             clear hqna
             have S13 := hid (Sto.kp0 S12.out k13)
             have K13 := hid (K12.out.trans k13)
             have u0 := (X12.out.kp0 k13).cell 0
             simp only [List.getElem?_toArray, List.getElem?_cons_zero] at u0
             clear k13 S12 X12 HBB12 z0 z3)
          | (go_at_call 16
             refine (lsame_any S13.out (Byt.nil _ Anyb) ((ra : Int) + 1) false).mono ?_
             rintro e w14 ⟨rfl, k14⟩
             rw [isThat_eq (r := (ra + 1, false, [])) (x := ((ra : Int) + 1)) (by simp only; omega)]
             have K14 := hid (K13.out.trans k14)
             clear k14))
        all_goals
          go_ret
          exact ⟨by simp, K14.out⟩
  · have nx2 : (xd == 2) = false := by simp [hx2]
    have haf := HW6.out.aft_com (I := xbl) (cn : Int) (by omega) (by simp only; omega) keep
    have hdr : comR (armedBy s (cn : Int)) 19 (ra, rh, ri) xbl = (cod (comD (armedBy s (cn : Int)) 19 (ra + 1) xbl).2, (comD (armedBy s (cn : Int)) 19 (ra + 1) xbl).1, pick (comD (armedBy s (cn : Int)) 19 (ra + 1) xbl).2 (ra + 1, true, xbl) (ra, rh, ri)) := by
      unfold comR
      rw [if_neg (by omega), if_neg (by simp only; omega)]
    simp only at haf
    generalize comD (armedBy s (cn : Int)) 19 (ra + 1) xbl = p at haf hdr
    clear hx2
    obtain ⟨pd, pb⟩ := p
    obtain ⟨hp1, ⟨hp2, hp3⟩ | ⟨hp2, hp3⟩ | ⟨hp2, hp3⟩⟩ := haf
    · simp only at hp2
      subst hp2
      have HPK := hid hp1
      have HFN := hid hp3
      have HR := hid (show _ = ((0, pd, (ra + 1, true, xbl)) : Int × Ds × (Nat × Bool × List Int)) from hdr)
      clear hp1 hp3 hdr
      go_wp2_with (first
        | (go_at_call 15
           refine (commit_any D7.out S7.out (HT.out.kp0 K7.out) (by rw [hnk]; omega) HBB.out (by omega) (HT.out.ne (by omega) (by omega) (by omega))).mono ?_
           intro e w8 hc8
           obtain ⟨rfl, k8, d8, s8⟩ : e = .returned (.int .i64 (((0, pd, (ra + 1, true, xbl)) : Int × Ds × (Nat × Bool × List Int))).1) ∧ Kp (SB q g b m) w7 w8 ∧ Dk w8 g b m (((0, pd, (ra + 1, true, xbl)) : Int × Ds × (Nat × Bool × List Int))).2.1 ∧ Sto w8 q g b m 19 (((0, pd, (ra + 1, true, xbl)) : Int × Ds × (Nat × Bool × List Int))).2.2 := by rw [← HR.out]; exact hc8
           clear hc8
           dsimp only at d8 s8 ⊢
           have D8 := hid d8
           have S8 := hid s8
           have B8 := hid (B7.out.kp k8 fun i hi e => by rcases e with e | e | e | e; exact hi.1 e; exact hi.2.1 e; exact hi.2.2.1 e; exact hi.2.2.2 e)
           have K8 := hid (K7.out.step k8 fun i hi e => by rcases e with e | e | e | e <;> omega)
           have X8 := hid (X7.out.kp k8 fun e => by rcases e with e | e | e | e <;> omega)
           have y0 := X8.out.cell 0
           have y3 := X8.out.cell 3
           simp only [List.getElem?_toArray, List.getElem?_cons_zero, List.getElem?_cons_succ] at y0 y3
           have HBB8 := hid (HBB.out.kp k8 fun i hi e => by rcases e with e | e | e | e <;> omega)
           have EV : (0 : Int) = 0 := rfl
           have D9 := D8
           have B9 := B8
           have K9 := K8
           have X9 := X8
           have HBB9 := HBB8
           clear k8 d8 s8 x0 x3)
        | (go_at_call 17
           refine (crash_any D9.out (HKP.out.kp K9.out fun _ _ _ h => h) (by omega)).mono ?_
           rintro e w10 ⟨⟨x10, rfl⟩, k10, d10⟩
           have D10 := hid d10
           have B10 := hid (B9.out.kp k10 fun i hi e => by rcases e with e | e | e; exact hi.2.1 e; exact hi.2.2.1 e; exact hi.2.2.2 e)
           have K10 := hid (K9.out.step k10 fun i hi e => by rcases e with e | e | e <;> omega)
           have X10 := hid (X9.out.kp k10 fun e => by rcases e with e | e | e <;> omega)
           have HBB10 := hid (HBB9.out.kp k10 fun i hi e => by rcases e with e | e | e <;> omega)
           clear k10 d10 D9)
        | (go_at_call 18
           refine (open_is D10.out (HT.out.kp0 K10.out) rfl (by rw [crashed_len, HPK.out]; omega)).mono ?_
           rintro e w11 ⟨q11, rfl, hq11, s11, k11⟩
           rw [crashed_len, HPK.out] at s11
           have e11 : opn (look (crashed pd keep)) ((40 - 2) / 2) = (ra + 1, true, xbl) := HFN.out
           rw [e11] at s11
           have S11 := hid s11
           have B11 := hid (B10.out.kp0 k11)
           have K11 := hid (K10.out.trans k11)
           have X11 := hid (X10.out.kp0 k11)
           have HBB11 := hid (HBB10.out.kp0 k11)
           clear s11 k11 e11 hq11)
        | (go_at_call 16
           refine (lsame_any S11.out B11.out (ra : Int) rh).mono ?_
           rintro e w12 ⟨rfl, k12⟩
           obtain ⟨qw, hqw⟩ := isThat_gen ((ra + 1, true, xbl)) (ra : Int) rh ri
           rw [hqw]
           clear hqw
           have S12 := hid (Sto.kp0 S11.out k12)
           have K12 := hid (K11.out.trans k12)
           have X12 := hid (X11.out.kp0 k12)
           have HBB12 := hid (HBB11.out.kp0 k12)
           have z0 := X12.out.cell 0
           have z3 := X12.out.cell 3
           simp only [List.getElem?_toArray, List.getElem?_cons_zero, List.getElem?_cons_succ] at z0 z3
           clear k12 S11 X11 HBB11)
        | (go_at_call 16
           refine (lsame_any S12.out HBB12.out ((ra : Int) + 1) true).mono ?_
           rintro e w13 ⟨rfl, k13⟩
           rw [isThat_eq (r := (ra + 1, true, xbl)) (x := ((ra : Int) + 1)) (by simp only; omega)]
           have S13 := hid (Sto.kp0 S12.out k13)
           have K13 := hid (K12.out.trans k13)
           have u0 := (X12.out.kp0 k13).cell 0
           simp only [List.getElem?_toArray, List.getElem?_cons_zero] at u0
           clear k13 S12 X12 HBB12 z0 z3))
      all_goals
        go_ret
        exact ⟨by simp, K13.out⟩
    · simp only at hp2
      subst hp2
      have HPK := hid hp1
      have HFN := hid hp3
      have HR := hid (show _ = ((19, pd, (ra, rh, ri)) : Int × Ds × (Nat × Bool × List Int)) from hdr)
      clear hp1 hp3 hdr
      go_wp2_with (first
        | (go_at_call 15
           refine (commit_any D7.out S7.out (HT.out.kp0 K7.out) (by rw [hnk]; omega) HBB.out (by omega) (HT.out.ne (by omega) (by omega) (by omega))).mono ?_
           intro e w8 hc8
           obtain ⟨rfl, k8, d8, s8⟩ : e = .returned (.int .i64 (((19, pd, (ra, rh, ri)) : Int × Ds × (Nat × Bool × List Int))).1) ∧ Kp (SB q g b m) w7 w8 ∧ Dk w8 g b m (((19, pd, (ra, rh, ri)) : Int × Ds × (Nat × Bool × List Int))).2.1 ∧ Sto w8 q g b m 19 (((19, pd, (ra, rh, ri)) : Int × Ds × (Nat × Bool × List Int))).2.2 := by rw [← HR.out]; exact hc8
           clear hc8
           dsimp only at d8 s8 ⊢
           have D8 := hid d8
           have S8 := hid s8
           have B8 := hid (B7.out.kp k8 fun i hi e => by rcases e with e | e | e | e; exact hi.1 e; exact hi.2.1 e; exact hi.2.2.1 e; exact hi.2.2.2 e)
           have K8 := hid (K7.out.step k8 fun i hi e => by rcases e with e | e | e | e <;> omega)
           have X8 := hid (X7.out.kp k8 fun e => by rcases e with e | e | e | e <;> omega)
           have y0 := X8.out.cell 0
           have y3 := X8.out.cell 3
           simp only [List.getElem?_toArray, List.getElem?_cons_zero, List.getElem?_cons_succ] at y0 y3
           have HBB8 := hid (HBB.out.kp k8 fun i hi e => by rcases e with e | e | e | e <;> omega)
           have EV : (19 : Int) = 19 := rfl
           clear k8 d8 s8 x0 x3)
        | (go_at_call 16
           refine (lsame_any S8.out B8.out _ _).mono ?_
           rintro e w9 ⟨rfl, k9⟩
           rw [isThat_eq (r := (ra, rh, ri)) (x := (ra : Int)) rfl]
           have D9 := hid (D8.out.kp0 k9)
           have B9 := hid (B8.out.kp0 k9)
           have K9 := hid (K8.out.trans k9)
           have X9 := hid (X8.out.kp0 k9)
           have HBB9 := hid (HBB8.out.kp0 k9)
           clear k9 S8 y0 y3)
        | (go_at_call 17
           refine (crash_any D9.out (HKP.out.kp K9.out fun _ _ _ h => h) (by omega)).mono ?_
           rintro e w10 ⟨⟨x10, rfl⟩, k10, d10⟩
           have D10 := hid d10
           have B10 := hid (B9.out.kp k10 fun i hi e => by rcases e with e | e | e; exact hi.2.1 e; exact hi.2.2.1 e; exact hi.2.2.2 e)
           have K10 := hid (K9.out.step k10 fun i hi e => by rcases e with e | e | e <;> omega)
           have X10 := hid (X9.out.kp k10 fun e => by rcases e with e | e | e <;> omega)
           have HBB10 := hid (HBB9.out.kp k10 fun i hi e => by rcases e with e | e | e <;> omega)
           clear k10 d10 D9)
        | (go_at_call 18
           refine (open_is D10.out (HT.out.kp0 K10.out) rfl (by rw [crashed_len, HPK.out]; omega)).mono ?_
           rintro e w11 ⟨q11, rfl, hq11, s11, k11⟩
           rw [crashed_len, HPK.out] at s11
           have e11 : opn (look (crashed pd keep)) ((40 - 2) / 2) = (ra, rh, ri) := HFN.out
           rw [e11] at s11
           have S11 := hid s11
           have B11 := hid (B10.out.kp0 k11)
           have K11 := hid (K10.out.trans k11)
           have X11 := hid (X10.out.kp0 k11)
           have HBB11 := hid (HBB10.out.kp0 k11)
           clear s11 k11 e11 hq11)
        | (go_at_call 16
           refine (lsame_any S11.out B11.out (ra : Int) rh).mono ?_
           rintro e w12 ⟨rfl, k12⟩
           rw [isThat_eq (r := (ra, rh, ri)) (x := (ra : Int)) rfl]
           have S12 := hid (Sto.kp0 S11.out k12)
           have K12 := hid (K11.out.trans k12)
           have X12 := hid (X11.out.kp0 k12)
           have HBB12 := hid (HBB11.out.kp0 k12)
           have z0 := X12.out.cell 0
           have z3 := X12.out.cell 3
           simp only [List.getElem?_toArray, List.getElem?_cons_zero, List.getElem?_cons_succ] at z0 z3
           clear k12 S11 X11 HBB11)
        | (go_at_call 16
           refine (lsame_any S12.out HBB12.out ((ra : Int) + 1) true).mono ?_
           rintro e w13 ⟨rfl, k13⟩
           obtain ⟨qna, hqna⟩ := isThat_gen ((ra, rh, ri)) ((ra : Int) + 1) true xbl
           rw [hqna]
           clear hqna
           have S13 := hid (Sto.kp0 S12.out k13)
           have K13 := hid (K12.out.trans k13)
           have u0 := (X12.out.kp0 k13).cell 0
           simp only [List.getElem?_toArray, List.getElem?_cons_zero] at u0
           clear k13 S12 X12 HBB12 z0 z3))
      all_goals
        go_ret
        exact ⟨by simp, K13.out⟩
    · simp only at hp2
      subst hp2
      have HPK := hid hp1
      have HFN := hid hp3
      have HR := hid (show _ = ((19, pd, (ra, rh, ri)) : Int × Ds × (Nat × Bool × List Int)) from hdr)
      clear hp1 hp3 hdr
      go_wp2_with (first
        | (go_at_call 15
           refine (commit_any D7.out S7.out (HT.out.kp0 K7.out) (by rw [hnk]; omega) HBB.out (by omega) (HT.out.ne (by omega) (by omega) (by omega))).mono ?_
           intro e w8 hc8
           obtain ⟨rfl, k8, d8, s8⟩ : e = .returned (.int .i64 (((19, pd, (ra, rh, ri)) : Int × Ds × (Nat × Bool × List Int))).1) ∧ Kp (SB q g b m) w7 w8 ∧ Dk w8 g b m (((19, pd, (ra, rh, ri)) : Int × Ds × (Nat × Bool × List Int))).2.1 ∧ Sto w8 q g b m 19 (((19, pd, (ra, rh, ri)) : Int × Ds × (Nat × Bool × List Int))).2.2 := by rw [← HR.out]; exact hc8
           clear hc8
           dsimp only at d8 s8 ⊢
           have D8 := hid d8
           have S8 := hid s8
           have B8 := hid (B7.out.kp k8 fun i hi e => by rcases e with e | e | e | e; exact hi.1 e; exact hi.2.1 e; exact hi.2.2.1 e; exact hi.2.2.2 e)
           have K8 := hid (K7.out.step k8 fun i hi e => by rcases e with e | e | e | e <;> omega)
           have X8 := hid (X7.out.kp k8 fun e => by rcases e with e | e | e | e <;> omega)
           have y0 := X8.out.cell 0
           have y3 := X8.out.cell 3
           simp only [List.getElem?_toArray, List.getElem?_cons_zero, List.getElem?_cons_succ] at y0 y3
           have HBB8 := hid (HBB.out.kp k8 fun i hi e => by rcases e with e | e | e | e <;> omega)
           have EV : (19 : Int) = 19 := rfl
           clear k8 d8 s8 x0 x3)
        | (go_at_call 16
           refine (lsame_any S8.out B8.out _ _).mono ?_
           rintro e w9 ⟨rfl, k9⟩
           rw [isThat_eq (r := (ra, rh, ri)) (x := (ra : Int)) rfl]
           have D9 := hid (D8.out.kp0 k9)
           have B9 := hid (B8.out.kp0 k9)
           have K9 := hid (K8.out.trans k9)
           have X9 := hid (X8.out.kp0 k9)
           have HBB9 := hid (HBB8.out.kp0 k9)
           clear k9 S8 y0 y3)
        | (go_at_call 17
           refine (crash_any D9.out (HKP.out.kp K9.out fun _ _ _ h => h) (by omega)).mono ?_
           rintro e w10 ⟨⟨x10, rfl⟩, k10, d10⟩
           have D10 := hid d10
           have B10 := hid (B9.out.kp k10 fun i hi e => by rcases e with e | e | e; exact hi.2.1 e; exact hi.2.2.1 e; exact hi.2.2.2 e)
           have K10 := hid (K9.out.step k10 fun i hi e => by rcases e with e | e | e <;> omega)
           have X10 := hid (X9.out.kp k10 fun e => by rcases e with e | e | e <;> omega)
           have HBB10 := hid (HBB9.out.kp k10 fun i hi e => by rcases e with e | e | e <;> omega)
           clear k10 d10 D9)
        | (go_at_call 18
           refine (open_is D10.out (HT.out.kp0 K10.out) rfl (by rw [crashed_len, HPK.out]; omega)).mono ?_
           rintro e w11 ⟨q11, rfl, hq11, s11, k11⟩
           rw [crashed_len, HPK.out] at s11
           have e11 : opn (look (crashed pd keep)) ((40 - 2) / 2) = (ra + 1, true, xbl) := HFN.out
           rw [e11] at s11
           have S11 := hid s11
           have B11 := hid (B10.out.kp0 k11)
           have K11 := hid (K10.out.trans k11)
           have X11 := hid (X10.out.kp0 k11)
           have HBB11 := hid (HBB10.out.kp0 k11)
           clear s11 k11 e11 hq11)
        | (go_at_call 16
           refine (lsame_any S11.out B11.out (ra : Int) rh).mono ?_
           rintro e w12 ⟨rfl, k12⟩
           obtain ⟨qw, hqw⟩ := isThat_gen ((ra + 1, true, xbl)) (ra : Int) rh ri
           rw [hqw]
           clear hqw
           have S12 := hid (Sto.kp0 S11.out k12)
           have K12 := hid (K11.out.trans k12)
           have X12 := hid (X11.out.kp0 k12)
           have HBB12 := hid (HBB11.out.kp0 k12)
           have z0 := X12.out.cell 0
           have z3 := X12.out.cell 3
           simp only [List.getElem?_toArray, List.getElem?_cons_zero, List.getElem?_cons_succ] at z0 z3
           clear k12 S11 X11 HBB11)
        | (go_at_call 16
           refine (lsame_any S12.out HBB12.out ((ra : Int) + 1) true).mono ?_
           rintro e w13 ⟨rfl, k13⟩
           rw [isThat_eq (r := (ra + 1, true, xbl)) (x := ((ra : Int) + 1)) (by simp only; omega)]
           have S13 := hid (Sto.kp0 S12.out k13)
           have K13 := hid (K12.out.trans k13)
           have u0 := (X12.out.kp0 k13).cell 0
           simp only [List.getElem?_toArray, List.getElem?_cons_zero] at u0
           clear k13 S12 X12 HBB12 z0 z3))
      all_goals
        go_ret
        exact ⟨by simp, K13.out⟩
end Go.Proofs.YteficflfmbecbaaDoor
