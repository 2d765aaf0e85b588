/-
  The walk of DiskLast.
-/
import Derived.Test.YtndbkpmfimpgnaaDLaw
import Derived.Test.YtndbkpmfimpgnaaZeros
namespace Go.Proofs.Ytndbkpmfimpgnaa
open Go.RowKit

set_option maxHeartbeats 4000000 in
set_option maxRecDepth 100000 in
theorem diskLast_walk (w : World) (v : Value) (at' : Int) (va vb : Value) (flush : Bool) {os : List Dop} {xa xb : List Int} (ho : Ops w Anyb v os) (hat : 0 ≤ at' ∧ at' ≤ 255) (hxa : Byt w Anyb va xa) (hxb : Byt w Anyb vb xb) :
    Calls Try.prog 6 #[v, .int .u8 at', va, vb, .bool flush] w fun e w' => e = .returned (.bool true) ∧ Kp No w w' := by
  have HO := hid ho.below
  have HA := hid hxa.below
  have HB := hid hxb.below
  have HX := hid hxb.bytes
  obtain ⟨A, ac, rfl, hac, ham, _⟩ := hxa
  obtain ⟨B, bc, rfl, hbc, hbm, _⟩ := hxb
  obtain ⟨V, vc, rfl, hvc, hvm, _⟩ := ho.rw
  unfold maxLen at ham hbm hvm
  obtain ⟨na, hna⟩ : ∃ n, xa.length = n := ⟨_, rfl⟩
  obtain ⟨nb, hnb⟩ : ∃ n, xb.length = n := ⟨_, rfl⟩
  have HNA := hid hna
  have HNB := hid hnb
  rw [hna] at hac ⊢
  rw [hnb] at hbc ⊢
  rw [hna] at HA
  rw [hnb] at HB
  generalize os.length = no at *
  obtain ⟨i, rfl⟩ : ∃ i : Nat, at' = (i : Int) := ⟨at'.toNat, by omega⟩
  obtain ⟨r, hr⟩ : ∃ r, i % 20 = r := ⟨_, rfl⟩
  have hmod : (i : Int).tmod 20 = (r : Int) := by rw [Int.tmod_eq_emod_of_nonneg (by omega)]; omega
  have hr20 : r < 20 := by omega
  have hwi := wrapI (x := (i : Int)) (by unfold I64; omega)
  clear hna hnb ho hr
  go_enter Try.func6, Try.ntmps6
  go_wp2_with fail
  refine (awake_any w).mono ?_
  rintro e w1 ⟨rfl, k1⟩
  have K1 := hid k1
  have HO1 := hid (HO.out.kp k1 fun _ _ h => h)
  clear k1
  go_wp2_with fail
  refine (few_any HO1.out).mono ?_
  rintro e w1 ⟨q, rfl, rfl⟩
  cases q with
  | false =>
    go_wp2
    go_ret
    exact ⟨rfl, K1.out⟩
  | true =>
  by_cases hla : 64 < na
  · have d1 : decide ((64 : Int) < (na : Int)) = true := by simp; omega
    go_wp2
    go_ret
    exact ⟨rfl, K1.out⟩
  have d1 : decide ((64 : Int) < (na : Int)) = false := by simp; omega
  by_cases hlb : 64 < nb
  · have d2 : decide ((64 : Int) < (nb : Int)) = true := by simp; omega
    go_wp2
    go_ret
    exact ⟨rfl, K1.out⟩
  have d2 : decide ((64 : Int) < (nb : Int)) = false := by simp; omega
  go_wp2_with fail
  refine (walked_any HO1.out).mono ?_
  rintro e w2 ⟨g, b, m, s0, rfl, D2, ha2, hk2, hg, hb, hm, k2⟩
  have K2 := hid (K1.out.trans k2)
  have hsz1 := K1.out.size
  have D2 := hid D2
  have HA2 := hid ha2
  have HK2 := hid hk2
  clear k2 ha2 hk2 HO1 d1 d2
  go_wp2_with fail
  refine (flush_is D2.out (off_on HA2.out)).mono ?_
  rintro e w3 ⟨rfl, k3, D3⟩
  have c3 : ∀ x, (flushed (calld s0)).c x = none := fun _ => rfl
  have a3 : (flushed (calld s0)).armed = false := HA2.out
  have n3 : (flushed (calld s0)).k.length = 20 := by show (kept (calld s0)).length = 20; rw [kept_len]; exact HK2.out
  generalize flushed (calld s0) = s1 at D3 c3 a3 n3
  have K3 := hid (show Kp No w w3 from K2.out.step k3 fun i hi e => by rcases e with e | e | e <;> omega)
  have D3 := hid D3
  have C3 := hid c3
  have A3 := hid a3
  have N3 := hid n3
  clear k3 c3 a3 n3 D2
  go_wp2_with fail
  refine (write_is D3.out (off_on A3.out) (by rw [N3.out]; exact hr20) (HA.out.kp K3.out fun _ _ h => h) (fun h => by have : g < w.heap.size := h; omega) (by rw [HNA.out]; omega)).mono ?_
  rintro e w4 ⟨rfl, k4, D4⟩
  have K4 := hid (show Kp No w w4 from K3.out.step k4 fun i hi e => by rcases e with e | e <;> omega)
  have D4 := hid D4
  clear k4 D3
  go_wp2_with fail
  refine (write_is D4.out (off_on A3.out) (by show r < s1.k.length; rw [N3.out]; exact hr20) (HB.out.kp K4.out fun _ _ h => h) (fun h => by have : g < w.heap.size := h; omega) (by rw [HNB.out]; omega)).mono ?_
  rintro e w5 ⟨rfl, k5, D5⟩
  have L5 := look_wrote (wrote s1 (r : Int) xa) r xb
  have a5 : (wrote (wrote s1 (r : Int) xa) (r : Int) xb).armed = false := A3.out
  have n5 : (wrote (wrote s1 (r : Int) xa) (r : Int) xb).k.length = 20 := N3.out
  have w5' : waits (wrote (wrote s1 (r : Int) xa) (r : Int) xb) = [(r : Int)] := waits_one (by rw [n5]; exact hr20) (by simp [wrote]) fun x hx => by simp [wrote, hx, C3.out]
  have r5 : cnt (wrote (wrote s1 (r : Int) xa) (r : Int) xb).c r = 0 := cnt_first fun j hj => by
    have : ¬ ((j : Int) = (r : Int)) := by omega
    simp [wrote, C3.out, this]
  have h5 : ((wrote (wrote s1 (r : Int) xa) (r : Int) xb).c (r : Int)).isSome = true := by simp [wrote]
  generalize wrote (wrote s1 (r : Int) xa) (r : Int) xb = s3 at D5 L5 a5 n5 w5' r5 h5
  have K5 := hid (show Kp No w w5 from K4.out.step k5 fun i hi e => by rcases e with e | e <;> omega)
  have D5 := hid D5
  have L5 := hid L5
  have A5 := hid a5
  have N5 := hid n5
  have W5 := hid w5'
  have R5 := hid r5
  have H5 := hid h5
  clear k5 a5 n5 w5' r5 h5 D4 HA
  go_wp2_with fail
  refine (waits_any D5.out).mono ?_
  rintro e w6 ⟨v6, rfl, ow6, k6⟩
  rw [W5.out] at ow6
  have SL6 := hid ow6.sl
  obtain ⟨A6, c6, rfl⟩ := ow6.formN (m := 1) rfl
  have K6 := hid (K5.out.trans k6)
  have D6 := hid (D5.out.kp0 k6)
  clear ow6 k6 D5
  go_wp2_with fail
  have k7 := (Kp.refl No w6).alloc (.cells #[.int .i64 (r : Int)] 3)
  refine (sameI_any _ _ _ _ _ (SL6.out.kp0 k7) (sl_int1 w6 Anyb 3 (r : Int) trivial)).mono ?_
  rintro e w7 ⟨rfl, n7, rfl⟩
  have K7 := hid ((K6.out.trans k7).trans (kp_drewN _ n7))
  have D7 := hid ((D6.out.kp0 k7).kp0 (kp_drewN _ n7))
  generalize (w6.alloc (.cells #[.int .i64 (r : Int)] 3)).drewN n7 = w7 at K7 D7 ⊢
  rw [decide_eq_true (rfl : [(r : Int)] = [(r : Int)])]
  clear k7 SL6 D6
  cases flush with
  | false =>
    have FX := hid (show look (crashed s3 [true]) r = pad xb by rw [look_crashed [true] (by rw [N5.out]; exact hr20), H5.out, R5.out, if_pos ⟨rfl, rfl⟩, L5.out])
    have NX := hid N5.out
    have DX := hid D7.out
    have KX := hid K7.out
    clear D7 K7
    go_wp2_with fail
    have lx := DX.out.lts
    have kA := (Kp.refl No w7).alloc (.cells #[.bool true] 4)
    refine (crash_any (P := fun i => i ≠ m) (keep := [true]) (DX.out.kp0 kA) (sl_one w7 _ _ true (by omega)) (fun h => h rfl)).mono ?_
    rintro e w9 ⟨⟨v9, rfl⟩, k9, D9⟩
    have e9 : off (crashed s3 [true]) = false := rfl
    have n9 : (crashed s3 [true]).k.length = 20 := by rw [crashed_len, NX.out]
    have F9 := FX.out
    generalize crashed s3 [true] = s9 at D9 F9 e9 n9
    have K9 := hid (show Kp No w w9 from (KX.out.trans kA).step k9 fun i hi e => by rcases e with e | e | e <;> omega)
    have D9 := hid D9
    have N9 := hid n9
    have F9 := hid F9
    clear kA k9 n9 DX FX
    go_wp2_with fail
    refine (read_is D9.out (i := r) (by rw [N9.out]; exact hr20) e9).mono ?_
    rintro e w10 ⟨v10, rfl, ⟨q10, rfl, hq10, hq10', B10⟩, k10⟩
    rw [F9.out] at B10
    have B10 := hid B10
    have K10 := hid (K9.out.trans k10)
    have HB10 := hid (HB.out.kp K10.out fun _ _ h => h)
    obtain ⟨z, hz⟩ : ∃ z, 64 - nb = z := ⟨_, rfl⟩
    have hsub : IntKind.i64.wrap (64 - (nb : Int)) = (z : Int) := by rw [wrapI (by unfold I64; omega)]; omega
    have HZ := hid (show ([] ++ xb) ++ List.replicate z 0 = pad xb by unfold pad; rw [HNB.out, hz, List.nil_append])
    have hb1 : w10.heap.size ≤ (w10.alloc (.cells #[] 5)).heap.size := by simp
    have hl1 : ([] : List Int).length + xb.length ≤ 140737488355328 := by rw [HNB.out, List.length_nil]; omega
    have hl2 : ([] ++ xb).length + z ≤ 140737488355328 := by rw [List.nil_append, HNB.out]; omega
    clear k10 hz D9
    go_wp2_with (first
      | (refine wp_app (base := w10.heap.size) (xs := []) (ys := xb) isU8 rfl (.tmp 87) (.tmp 88) rfl (Own.mt w10 5) (HB10.out.kp ((Kp.refl No w10).alloc _) fun _ _ h => h) hl1 hb1 ?_; intro v11 w11 o11 k11; obtain ⟨A11, c11, rfl⟩ := o11.formN (n := nb) (by rw [List.nil_append, HNB.out]))
      | (refine wp_appz (base := w10.heap.size) (xs := [] ++ xb) (k := z) isU8 Try.underlying3 rfl (.tmp 89) (.tmp 92) rfl rfl rfl o11 hl2 (Nat.le_trans hb1 k11.size) ?_; intro v12 w12 o12 k12))
    rw [HZ.out] at o12
    have kx := ((Kp.refl (fun k => w10.heap.size ≤ k) w10).alloc (.cells #[] 5)).trans (k11.trans k12)
    have B12 := hid (B10.out.kp kx fun e => by have : w10.heap.size ≤ q10 := e; omega)
    have K12 := hid (show Kp No w w12 from K10.out.step kx fun i hi e => by have := K10.out.size; omega)
    have O12 := hid o12
    obtain ⟨A12, c12, rfl⟩ := o12.formN (n := 64) (pad_len (by rw [HNB.out]; omega))
    clear kx k11 o11 k12 o12 HB10
    go_wp2_with fail
    refine (same_any _ _ (pad xb) (pad xb) _ (blk_byt Anyb B12.out (pad_sec (by rw [HNB.out]; omega) HX.out) trivial) (O12.out.byt (fun _ _ => trivial))).mono ?_
    rintro e w13 ⟨rfl, n13, rfl⟩
    rw [decide_eq_true (rfl : pad xb = pad xb)]
    have K13 := hid (K12.out.trans (kp_drewN _ n13))
    clear B12 O12
    go_wp2
    go_ret
    exact ⟨rfl, K13.out⟩
  | true =>
    go_wp2_with fail
    refine (flush_is D7.out (off_on A5.out)).mono ?_
    rintro e w8 ⟨rfl, k8, D8⟩
    have FX := hid (show look (crashed (flushed (calld s3)) [true]) r = pad xb by
      rw [look_crashed [true] (by show r < (kept (calld s3)).length; rw [kept_len]; show r < s3.k.length; rw [N5.out]; exact hr20)]
      rw [if_neg (by simp [flushed])]
      have := kept_at (calld s3) (j := r) (by show r < s3.k.length; rw [N5.out]; exact hr20)
      exact this.trans L5.out)
    have NX := hid (show (flushed (calld s3)).k.length = 20 by show (kept (calld s3)).length = 20; rw [kept_len]; exact N5.out)
    generalize flushed (calld s3) = s8 at D8 FX NX
    have l7 := D7.out.lts
    have KX := hid (show Kp No w w8 from K7.out.step k8 fun i hi e => by rcases e with e | e | e <;> omega)
    have DX := hid D8
    clear k8 D8 D7 K7
    go_wp2_with fail
    have lx := DX.out.lts
    have kA := (Kp.refl No w8).alloc (.cells #[.bool true] 4)
    refine (crash_any (P := fun i => i ≠ m) (keep := [true]) (DX.out.kp0 kA) (sl_one w8 _ _ true (by omega)) (fun h => h rfl)).mono ?_
    rintro e w9 ⟨⟨v9, rfl⟩, k9, D9⟩
    have e9 : off (crashed s8 [true]) = false := rfl
    have n9 : (crashed s8 [true]).k.length = 20 := by rw [crashed_len, NX.out]
    have F9 := FX.out
    generalize crashed s8 [true] = s9 at D9 F9 e9 n9
    have K9 := hid (show Kp No w w9 from (KX.out.trans kA).step k9 fun i hi e => by rcases e with e | e | e <;> omega)
    have D9 := hid D9
    have N9 := hid n9
    have F9 := hid F9
    clear kA k9 n9 DX FX
    go_wp2_with fail
    refine (read_is D9.out (i := r) (by rw [N9.out]; exact hr20) e9).mono ?_
    rintro e w10 ⟨v10, rfl, ⟨q10, rfl, hq10, hq10', B10⟩, k10⟩
    rw [F9.out] at B10
    have B10 := hid B10
    have K10 := hid (K9.out.trans k10)
    have HB10 := hid (HB.out.kp K10.out fun _ _ h => h)
    obtain ⟨z, hz⟩ : ∃ z, 64 - nb = z := ⟨_, rfl⟩
    have hsub : IntKind.i64.wrap (64 - (nb : Int)) = (z : Int) := by rw [wrapI (by unfold I64; omega)]; omega
    have HZ := hid (show ([] ++ xb) ++ List.replicate z 0 = pad xb by unfold pad; rw [HNB.out, hz, List.nil_append])
    have hb1 : w10.heap.size ≤ (w10.alloc (.cells #[] 5)).heap.size := by simp
    have hl1 : ([] : List Int).length + xb.length ≤ 140737488355328 := by rw [HNB.out, List.length_nil]; omega
    have hl2 : ([] ++ xb).length + z ≤ 140737488355328 := by rw [List.nil_append, HNB.out]; omega
    clear k10 hz D9
    go_wp2_with (first
      | (refine wp_app (base := w10.heap.size) (xs := []) (ys := xb) isU8 rfl (.tmp 87) (.tmp 88) rfl (Own.mt w10 5) (HB10.out.kp ((Kp.refl No w10).alloc _) fun _ _ h => h) hl1 hb1 ?_; intro v11 w11 o11 k11; obtain ⟨A11, c11, rfl⟩ := o11.formN (n := nb) (by rw [List.nil_append, HNB.out]))
      | (refine wp_appz (base := w10.heap.size) (xs := [] ++ xb) (k := z) isU8 Try.underlying3 rfl (.tmp 89) (.tmp 92) rfl rfl rfl o11 hl2 (Nat.le_trans hb1 k11.size) ?_; intro v12 w12 o12 k12))
    rw [HZ.out] at o12
    have kx := ((Kp.refl (fun k => w10.heap.size ≤ k) w10).alloc (.cells #[] 5)).trans (k11.trans k12)
    have B12 := hid (B10.out.kp kx fun e => by have : w10.heap.size ≤ q10 := e; omega)
    have K12 := hid (show Kp No w w12 from K10.out.step kx fun i hi e => by have := K10.out.size; omega)
    have O12 := hid o12
    obtain ⟨A12, c12, rfl⟩ := o12.formN (n := 64) (pad_len (by rw [HNB.out]; omega))
    clear kx k11 o11 k12 o12 HB10
    go_wp2_with fail
    refine (same_any _ _ (pad xb) (pad xb) _ (blk_byt Anyb B12.out (pad_sec (by rw [HNB.out]; omega) HX.out) trivial) (O12.out.byt (fun _ _ => trivial))).mono ?_
    rintro e w13 ⟨rfl, n13, rfl⟩
    rw [decide_eq_true (rfl : pad xb = pad xb)]
    have K13 := hid (K12.out.trans (kp_drewN _ n13))
    clear B12 O12
    go_wp2
    go_ret
    exact ⟨rfl, K13.out⟩
end Go.Proofs.Ytndbkpmfimpgnaa
