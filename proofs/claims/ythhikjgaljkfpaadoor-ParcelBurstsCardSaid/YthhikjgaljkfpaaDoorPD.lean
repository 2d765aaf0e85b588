/-
  Contract of the program's Pack.
-/
import Derived.Test.YthhikjgaljkfpaaDoorPC
import Derived.Test.YthhikjgaljkfpaaDoorStill
namespace Go.Proofs.YthhikjgaljkfpaaDoor
open Go.RowKit

section
variable {w w' : World} {P S T : Nat → Prop} {v u : Value} {ss : List Sv}
theorem all_long : ((ss.map sn).all fun s => decide (s.body.length ≤ 65535)) = !(ss.any long) := by
  induction ss with
  | nil => rfl
  | cons s l ih =>
    rw [List.map_cons, List.all_cons, List.any_cons, ih, Bool.not_or]
    congr 1
    unfold long sn
    rw [← decide_not]
    apply decide_eq_decide.2
    simp only
    omega
theorem Tab.lt (h : Tab w) : 0 < w.heap.size := World.block_lt_of_cell? w _ (h 0 (by omega))

theorem pack_no (h : Ps w P v ss) {x : Int} (hx : wrong (ss.map sn) = x) (h0 : x ≠ 0) :
    Calls Tryd.prog 11 #[v] w fun e w' => e = .returned (.tuple #[.slice none 0 0, .int .i64 x]) ∧ Kp No w w' := by
  obtain ⟨n, hn⟩ : ∃ n, ss.length = n := ⟨_, rfl⟩
  obtain ⟨A, c, rfl, hc, hm⟩ := h.form hn
  have HO := hid h
  unfold wrong at hx
  rw [List.length_map, hn, all_long] at hx
  by_cases h16 : 16 < n
  · rw [if_pos h16] at hx
    subst hx
    have g16 : (16 : Int) < (n : Int) := by omega
    clear hn h h0
    go_enter Tryd.func11, Tryd.ntmps11
    go_wp2
    go_ret2
    exact ⟨rfl, Kp.refl _ _⟩
  rw [if_neg h16] at hx
  have g16 : ¬ (16 : Int) < (n : Int) := by omega
  cases hr : risen 0 (ss.map sn) with
  | false =>
    rw [if_pos hr] at hx
    subst hx
    have HR := hid hr
    clear hn h h0 hr
    go_enter Tryd.func11, Tryd.ntmps11
    go_wp2_with (first
      | (go_at_call 19
         refine (rise_any HO.out).mono ?_
         rintro e w1 ⟨rfl, k1⟩
         rw [HR.out]
         have K1 := hid k1
         clear k1))
    go_ret2
    exact ⟨rfl, K1.out⟩
  | true =>
    rw [if_neg (by rw [hr]; decide)] at hx
    cases hl : ss.any long with
    | false => rw [hl] at hx; simp at hx; omega
    | true =>
      rw [hl, if_pos (by decide)] at hx
      subst hx
      have HR := hid hr
      have HL := hid hl
      clear hn h h0 hr hl
      go_enter Tryd.func11, Tryd.ntmps11
      go_wp2_with (first
        | (go_at_call 19
           refine (rise_any HO.out).mono ?_
           rintro e w1 ⟨rfl, k1⟩
           rw [HR.out]
           have K1 := hid k1
           clear k1)
        | (go_at_call 20
           refine (contains_any (HO.out.kp0 K1.out)).mono ?_
           rintro e w2 ⟨rfl, k2⟩
           rw [HL.out]
           have K2 := hid (K1.out.trans k2)
           clear k2))
      go_ret2
      exact ⟨rfl, K2.out⟩

set_option maxHeartbeats 1000000 in
theorem pack_is (ht : Tab w) (h : Ps w P v ss) (hC : Can (ss.map sn)) : Calls Tryd.prog 11 #[v] w (PackPost ss w) := by
  obtain ⟨n, hn⟩ : ∃ n, ss.length = n := ⟨_, rfl⟩
  have h16 : n ≤ 16 := by have := hC.len; simpa [hn] using this
  have g16 : ¬ (16 : Int) < (n : Int) := by omega
  obtain ⟨A, c, rfl, hc, hm⟩ := h.form hn
  have HN := hid hn
  have HO := hid h
  have HC := hid hC
  have HX := hid ((can_iff _).2 hC)
  have HR := hid hC.rise
  have HTb := hid ht
  have HL := hid (show (ss.map sn).length = n by simpa using hn)
  have HLo := hid (show ss.any long = false by
    have h1 := all_long (ss := ss)
    have h2 : ((ss.map sn).all fun s => decide (s.body.length ≤ 65535)) = true := List.all_eq_true.2 fun s hs => decide_eq_true (hC.long s hs)
    rw [h2] at h1
    simpa using h1.symm)
  have u64n : IntKind.u64.wrap (n : Int) = (n : Int) := by rw [u64w]; omega
  have HDn := hid (show dg (n : Int) 1 = [(n : Int)] by rw [dg, dg, show (n : Int) % 256 = (n : Int) by omega])
  clear hn h hC ht
  go_enter Tryd.func11, Tryd.ntmps11
  go_wp2_with (first
    | (go_at_call 19
       refine (rise_any HO.out).mono ?_
       rintro e w1 ⟨rfl, k1⟩
       rw [HR.out]
       have K1 := hid k1
       clear k1)
    | (go_at_call 20
       refine (contains_any (HO.out.kp0 K1.out)).mono ?_
       rintro e w2 ⟨rfl, k2⟩
       rw [HLo.out]
       have K2 := hid (K1.out.trans k2)
       have kc := Lib.run_convert_bytes_const (P := Tryd.prog) w2 25 5 #[.int .u8 68, .int .u8 80, .int .u8 90, .int .u8 49] 4 4 Tryd.underlying25 Tryd.underlying5
       clear k2)
    | (go_at_call 23
       refine (put_any (S := Anyb) _ [68, 80, 90, 49] _ 1 _ (lit_byt (P := Anyb) w2 5 (4, 5) trivial [68, 80, 90, 49] (by decide) (by simp)) (by omega) (by simp)).mono ?_
       rintro e w3 ⟨u3, rfl, o3, k3⟩
       rw [show hw 1 = 1 from rfl, HDn.out] at o3
       have K3 := hid ((K2.out.alloc (.cells #[.int .u8 68, .int .u8 80, .int .u8 90, .int .u8 49] 5 (4, 5))).trans k3)
       have O3 := hid (show Own w3 w.heap.size 5 u3 (hdr n) from o3.lower ((K2.out.alloc (.cells #[.int .u8 68, .int .u8 80, .int .u8 90, .int .u8 49] 5 (4, 5))).size))
       have T3 := hid (HTb.out.kp0 K3.out)
       clear o3 k3 kc)
    | (go_at_call 22
       refine (seal_any (base := w.heap.size) T3.out O3.out K3.out.size (by simp [hdr])).mono ?_
       rintro e w4 ⟨u4, rfl, o4, k4⟩
       have K4 := hid (K3.out.step k4 fun i hi h => by omega)
       have O4 := hid o4
       clear o4 k4))
  have HH := hid (show hdr n ++ ck4 (hdr n) = hdr n ++ ck4 (hdr n) ++ tabl ((ss.map sn).take 0) by simp [tabl])
  have H9 := hid (show (hdr n ++ ck4 (hdr n)).length = 9 by rw [List.length_append, ck4_len]; rfl)
  go_loopw [4, 29] (fun v i w' => ∃ k : Nat, k ≤ n ∧ i = .int .i64 (k : Int) ∧ Own w' w.heap.size 5 v (hdr n ++ ck4 (hdr n) ++ tabl ((ss.map sn).take k)) ∧ Kp No w w') (fun _ i _ => n - (intOf i).toNat)
  case atStart => exact ⟨0, Nat.zero_le _, rfl, by rw [← HH.out]; exact O4.out, K4.out⟩
  case round =>
    obtain ⟨k, hk, rfl, hown, hkp⟩ := hrel
    clear HH K1 K2 K3 K4 O3 O4 T3
    by_cases hkn : k < n
    · have HK := hid (show k < ss.length by rw [HN.out]; exact hkn)
      obtain ⟨x, hx⟩ : ∃ x, (ss.getD k sv0).k = x := ⟨_, rfl⟩
      obtain ⟨nb, hnb⟩ : ∃ nb, (ss.getD k sv0).bl.length = nb := ⟨_, rfl⟩
      obtain ⟨b, o, rfl, ok, c0, c1⟩ := (HO.out.kp0 hkp).at' (k := k) HK.out
      obtain ⟨B, bc, hb, hbc, hbm⟩ := ok.form hnb
      have hcan := can_at HC.out HK.out
      have HT := hid (tabl_snoc HK.out)
      have HTL := hid (tabl_to HC.out k)
      rw [hx, hnb] at hcan HT
      rw [hx] at c0
      rw [hb] at c1
      obtain ⟨bl, hbl⟩ : ∃ bl, (ss.getD k sv0).bl = bl := ⟨_, rfl⟩
      have HBd := hid ok.b
      rw [hb, hbl] at HBd
      rw [hbl] at HT
      obtain ⟨q, hq⟩ : ∃ q, ck bl = q := ⟨_, rfl⟩
      have hql := ck_lt bl
      rw [hq] at hql
      have HQ := hid hq
      have hki : (k : Int) < (n : Int) := by omega
      have hsum := wrapI (x := (k : Int) + 1) (by unfold I64; omega)
      have HW0 := hid hown
      have HXr := hid hcan
      have HTB := hid (HTb.out.kp0 hkp)
      have HQL := hid hql
      have HLen := hid (show (hdr n ++ ck4 (hdr n) ++ tabl ((ss.map sn).take k)).length ≤ 100000000 by rw [List.length_append, H9.out]; have := HTL.out; omega)
      clear hnb hx hb ok hbl hq hown hcan hql hbc hbm
      go_upto_region 11 with fail
      have B1 := Blk.new wr 42 #[.int .i64 x, .slice B nb bc]
      have K1 := (Kp.refl No wr).alloc (.cells #[.int .i64 x, .slice B nb bc] 42)
      have KW := hid (hkp.trans K1)
      have OW := hid (HW0.out.alloc (.cells #[.int .i64 x, .slice B nb bc] 42))
      have BW := hid (HBd.out.kp0 K1)
      have TW := hid (HTB.out.kp0 K1)
      have b0 := B1.cell 0
      have b1 := B1.cell 1
      clear K1 c0 c1
      have hg0 : w.heap.size ≤ wr.heap.size := HW0.out |> fun _ => hkp.size
      generalize wr.alloc (.cells #[.int .i64 x, .slice B nb bc] 42) = W at B1 KW OW BW TW b0 b1 ⊢
      generalize wr.heap.size = G at B1 b0 b1 hg0 ⊢
      have hb0 : W.cell? ⟨G, 0, none⟩ = some (.int .i64 x) := b0
      have hb1 : W.cell? ⟨G, 1, none⟩ = some (.slice B nb bc) := b1
      clear b0 b1 B1 hkp HBd HW0 HTB
      have h0 : W.drew.cell? ⟨G, 0, none⟩ = some (.int .i64 x) := hb0
      have h1 : W.drew.cell? ⟨G, 1, none⟩ = some (.slice B nb bc) := hb1
      have KD := hid KW.out.drew
      have OD := hid (OW.out.kp (Kp.refl No _).drew fun _ _ h => h)
      have BD := hid (BW.out.kp0 (Kp.refl No _).drew)
      have TD := hid (TW.out.kp0 (Kp.refl No _).drew)
      refine region_tail 10 (by kernel_rfl) (by kernel_rfl) ?_
      simp only [List.take_succ_cons, List.take_zero, List.drop_succ_cons, List.drop_zero]
      clear hb0 hb1 KW OW BW TW
      generalize W.drew = W1 at h0 h1 KD OD BD TD ⊢
      repeat still_step
      have HOF := flp (of_any (S := P) (.slice B nb bc) bl W1 BD.out TD.out)
      rw [HQ.out] at HOF
      still_call HOF
      clear HOF
      repeat still_step
      refine wpStill_nil ?_
      clear h0 h1
      go_upto_region 12 with (first
        | (go_at_call 25
           refine (rowput_any (base := w.heap.size) OD.out KD.out.size HLen.out (by have := HXr.out; omega) (by have := HXr.out; omega) HQL.out).mono ?_
           rintro e w6 ⟨u6, rfl, o6, k6⟩
           have O6 := hid o6
           have K6 := hid (KD.out.step k6 fun i hi h => by omega)
           clear o6 k6))
      go_wp2
      go_roundw
      case rel =>
        refine ⟨k + 1, by omega, by go_num, ?_, K6.out⟩
        have e4 : ck4 bl = dg (q : Int) 4 := by rw [ck4, HQ.out]
        rw [HT.out, e4, ← List.append_assoc]
        exact O6.out
      case measure => simp [intOf]; omega
    · have hkk : k = n := by omega
      subst hkk
      clear hk hkn
      have hfr : hdr k ++ ck4 (hdr k) ++ tabl ((ss.map sn).take k) = front (ss.map sn) := by
        rw [List.take_of_length_le (by rw [HL.out]; exact Nat.le_refl _)]
        unfold front
        rw [HL.out]
      rw [hfr] at hown
      have HFL := hid (show (front (ss.map sn)).length = 9 + 7 * k by rw [front_len, HL.out])
      have HW1 := hid hown
      have HK1 := hid hkp
      have TD := hid (HTb.out.kp0 hkp)
      clear hfr hown hkp
      go_wp2_with (first
        | (go_at_call 22
           refine (seal_any (base := w.heap.size) TD.out HW1.out HK1.out.size (by rw [HFL.out]; omega)).mono ?_
           rintro e w4 ⟨u4, rfl, o4, k4⟩
           have HK5 := hid (HK1.out.step k4 fun i hi h => by omega)
           have HW5 := hid o4
           clear o4 k4))
      have HGL := hid (show (front (ss.map sn) ++ ck4 (front (ss.map sn))).length = 13 + 7 * k by rw [List.length_append, HFL.out, ck4_len]; omega)
      have HH0 := hid (show front (ss.map sn) ++ ck4 (front (ss.map sn)) = front (ss.map sn) ++ ck4 (front (ss.map sn)) ++ bods ((ss.map sn).take 0) by simp [bods])
      go_loopw [4, 49] (fun v i w' => ∃ j : Nat, j ≤ k ∧ i = .int .i64 (j : Int) ∧ Own w' w.heap.size 5 v (front (ss.map sn) ++ ck4 (front (ss.map sn)) ++ bods ((ss.map sn).take j)) ∧ Kp No w w') (fun _ i _ => k - (intOf i).toNat)
      case atStart => exact ⟨0, Nat.zero_le _, rfl, by rw [← HH0.out]; exact HW5.out, HK5.out⟩
      case round =>
        obtain ⟨j, hj, rfl, hown, hkp⟩ := hrel
        clear HH0 HW5 HK5 HW1 HK1 TD
        by_cases hjk : j < k
        · have HJ := hid (show j < ss.length by rw [HN.out]; exact hjk)
          obtain ⟨x, hx⟩ : ∃ x, (ss.getD j sv0).k = x := ⟨_, rfl⟩
          obtain ⟨b, o, rfl, ok, c0, c1⟩ := (HO.out.kp0 hkp).at' (k := j) HJ.out
          obtain ⟨B, bc, hb, hbc, hbm⟩ := ok.form rfl
          have hcan := can_at HC.out HJ.out
          have HT := hid (bods_snoc HJ.out)
          have HBL := hid (bods_to HC.out j)
          have HBd := hid ok.b
          have HV0 := hid hown
          have HK0 := hid hkp
          obtain ⟨bl, hbl⟩ : ∃ bl, (ss.getD j sv0).bl = bl := ⟨_, rfl⟩
          rw [hx] at c0
          rw [hbl] at HBd HT hb hbc hcan
          rw [hb] at c1 HBd
          have hn3 := hcan.2.2
          have hki : (j : Int) < (k : Int) := by omega
          have hsum := wrapI (x := (j : Int) + 1) (by unfold I64; omega)
          clear hb hbl ok hown hkp hcan hx
          go_wp2_with (first
            | (at_builtin
               refine wp_app isU8 rfl (.tmp 53) (.tmp 55) rfl (base := w.heap.size) (xs := front (ss.map sn) ++ ck4 (front (ss.map sn)) ++ bods ((ss.map sn).take j)) (ys := bl) (by exact HV0.out.alloc _) (by exact HBd.out.kp0 ((Kp.refl No _).alloc _)) (by rw [List.length_append, HGL.out]; have := HBL.out; omega) (by exact (HK0.out.alloc _).size) ?_
               intro v6 w6 own6 k6
               have HV6 := hid own6
               have HK6 := hid ((HK0.out.alloc _).step k6 fun i hi h => by omega)
               clear own6 k6))
          go_roundw
          case rel =>
            refine ⟨j + 1, by omega, by go_num, ?_, HK6.out⟩
            rw [HT.out, ← List.append_assoc]
            exact HV6.out
          case measure => simp [intOf]; omega
        · have hjj : j = k := by omega
          subst hjj
          have himg : front (ss.map sn) ++ ck4 (front (ss.map sn)) ++ bods ((ss.map sn).take j) = image (ss.map sn) := by
            rw [List.take_of_length_le (by rw [HL.out]; exact Nat.le_refl _)]
            rfl
          rw [himg] at hown
          clear himg
          go_wp2
          go_ret2
          exact ⟨_, rfl, hown, hkp⟩
end
end Go.Proofs.YthhikjgaljkfpaaDoor
