/-
  PD PE PF PG PH PAwake PLaw: texts laid into one.
-/
import Derived.Test.YtggmdgdgljlddaaGreatDoorPC
import Derived.Test.YtggmdgdgljlddaaGreatDoorStill
import Derived.Deep.RegionHeld3

/-
  Contract of the program's Pack.
-/
namespace Go.Proofs.YtggmdgdgljlddaaGreatDoor
open Go.RowKit

section
variable {w w' : World} {P S T : Nat → Prop} {v u : Value} {ss : List Sv}
theorem all_long : ((ss.map sn).all fun s => decide (s.body.length ≤ 65535)) = !(ss.any long) := by
  induction ss with
  | nil => rfl
  | cons s l ih =>
    rw [List.map_cons, List.all_cons, List.any_cons, ih, Bool.not_or]
    congr 1
    unfold long sn
    rw [← decide_not]
    apply decide_eq_decide.2
    simp only
    omega
theorem Tab.lt (h : Tab w) : 0 < w.heap.size := World.block_lt_of_cell? w _ (h 0 (by omega))

theorem pack_no (h : Ps w P v ss) {x : Int} (hx : wrong (ss.map sn) = x) (h0 : x ≠ 0) :
    Calls Tryz.prog 14 #[v] w fun e w' => e = .returned (.tuple #[.slice none 0 0, .int .i64 x]) ∧ Kp No w w' := by
  obtain ⟨n, hn⟩ : ∃ n, ss.length = n := ⟨_, rfl⟩
  obtain ⟨A, c, rfl, hc, hm⟩ := h.form hn
  have HO := hid h
  unfold wrong at hx
  rw [List.length_map, hn, all_long] at hx
  by_cases h16 : 16 < n
  · rw [if_pos h16] at hx
    subst hx
    have g16 : (16 : Int) < (n : Int) := by omega
    clear hn h h0
    go_enter Tryz.func14, Tryz.ntmps14
    go_wp2
    go_ret2
    exact ⟨rfl, Kp.refl _ _⟩
  rw [if_neg h16] at hx
  have g16 : ¬ (16 : Int) < (n : Int) := by omega
  cases hr : risen 0 (ss.map sn) with
  | false =>
    rw [if_pos hr] at hx
    subst hx
    have HR := hid hr
    clear hn h h0 hr
    go_enter Tryz.func14, Tryz.ntmps14
    go_wp2_with (first
      | (go_at_call 28
         refine (rise_any HO.out).mono ?_
         rintro e w1 ⟨rfl, k1⟩
         rw [HR.out]
         have K1 := hid k1
         clear k1))
    go_ret2
    exact ⟨rfl, K1.out⟩
  | true =>
    rw [if_neg (by rw [hr]; decide)] at hx
    cases hl : ss.any long with
    | false => rw [hl] at hx; simp at hx; omega
    | true =>
      rw [hl, if_pos (by decide)] at hx
      subst hx
      have HR := hid hr
      have HL := hid hl
      clear hn h h0 hr hl
      go_enter Tryz.func14, Tryz.ntmps14
      go_wp2_with (first
        | (go_at_call 28
           refine (rise_any HO.out).mono ?_
           rintro e w1 ⟨rfl, k1⟩
           rw [HR.out]
           have K1 := hid k1
           clear k1)
        | (go_at_call 29
           refine (contains_any (HO.out.kp0 K1.out)).mono ?_
           rintro e w2 ⟨rfl, k2⟩
           rw [HL.out]
           have K2 := hid (K1.out.trans k2)
           clear k2))
      go_ret2
      exact ⟨rfl, K2.out⟩

set_option maxRecDepth 100000 in
set_option maxHeartbeats 1000000 in
theorem pack_is (ht : Tab w) (h : Ps w P v ss) (hC : Can (ss.map sn)) : Calls Tryz.prog 14 #[v] w (PackPost ss w) := by
  obtain ⟨n, hn⟩ : ∃ n, ss.length = n := ⟨_, rfl⟩
  have h16 : n ≤ 16 := by have := hC.len; simpa [hn] using this
  have g16 : ¬ (16 : Int) < (n : Int) := by omega
  obtain ⟨A, c, rfl, hc, hm⟩ := h.form hn
  have HN := hid hn
  have HO := hid h
  have HC := hid hC
  have HX := hid ((can_iff _).2 hC)
  have HR := hid hC.rise
  have HTb := hid ht
  have HL := hid (show (ss.map sn).length = n by simpa using hn)
  have HLo := hid (show ss.any long = false by
    have h1 := all_long (ss := ss)
    have h2 : ((ss.map sn).all fun s => decide (s.body.length ≤ 65535)) = true := List.all_eq_true.2 fun s hs => decide_eq_true (hC.long s hs)
    rw [h2] at h1
    simpa using h1.symm)
  have u64n : IntKind.u64.wrap (n : Int) = (n : Int) := by rw [u64w]; omega
  have HDn := hid (show dg (n : Int) 1 = [(n : Int)] by rw [dg, dg, show (n : Int) % 256 = (n : Int) by omega])
  clear hn h hC ht
  go_enter Tryz.func14, Tryz.ntmps14
  go_wp2_with (first
    | (go_at_call 28
       refine (rise_any HO.out).mono ?_
       rintro e w1 ⟨rfl, k1⟩
       rw [HR.out]
       have K1 := hid k1
       clear k1)
    | (go_at_call 29
       refine (contains_any (HO.out.kp0 K1.out)).mono ?_
       rintro e w2 ⟨rfl, k2⟩
       rw [HLo.out]
       have K2 := hid (K1.out.trans k2)
       have kc := Lib.run_convert_bytes_const (P := Tryz.prog) w2 28 5 #[.int .u8 68, .int .u8 80, .int .u8 90, .int .u8 49] 4 4 Tryz.underlying28 Tryz.underlying5
       clear k2)
    | (go_at_call 32
       refine (put_any (S := Anyb) _ [68, 80, 90, 49] _ 1 _ (lit_byt (P := Anyb) w2 5 (4, 5) trivial [68, 80, 90, 49] (by decide) (by simp)) (by omega) (by simp)).mono ?_
       rintro e w3 ⟨u3, rfl, o3, k3⟩
       rw [show hw 1 = 1 from rfl, HDn.out] at o3
       have K3 := hid ((K2.out.alloc (.cells #[.int .u8 68, .int .u8 80, .int .u8 90, .int .u8 49] 5 (4, 5))).trans k3)
       have O3 := hid (show Own w3 w.heap.size 5 u3 (hdr n) from o3.lower ((K2.out.alloc (.cells #[.int .u8 68, .int .u8 80, .int .u8 90, .int .u8 49] 5 (4, 5))).size))
       have T3 := hid (HTb.out.kp0 K3.out)
       clear o3 k3 kc)
    | (go_at_call 31
       refine (seal_any (base := w.heap.size) T3.out O3.out K3.out.size (by simp [hdr])).mono ?_
       rintro e w4 ⟨u4, rfl, o4, k4⟩
       have K4 := hid (K3.out.step k4 fun i hi h => by omega)
       have O4 := hid o4
       clear o4 k4))
  have HH := hid (show hdr n ++ ck4 (hdr n) = hdr n ++ ck4 (hdr n) ++ tabl ((ss.map sn).take 0) by simp [tabl])
  have H9 := hid (show (hdr n ++ ck4 (hdr n)).length = 9 by rw [List.length_append, ck4_len]; rfl)
  go_loopw [4, 29] (fun v i w' => ∃ k : Nat, k ≤ n ∧ i = .int .i64 (k : Int) ∧ Own w' w.heap.size 5 v (hdr n ++ ck4 (hdr n) ++ tabl ((ss.map sn).take k)) ∧ Kp No w w') (fun _ i _ => n - (intOf i).toNat)
  case atStart => exact ⟨0, Nat.zero_le _, rfl, by rw [← HH.out]; exact O4.out, K4.out⟩
  case round =>
    obtain ⟨k, hk, rfl, hown, hkp⟩ := hrel
    clear HH K1 K2 K3 K4 O3 O4 T3
    by_cases hkn : k < n
    · have HK := hid (show k < ss.length by rw [HN.out]; exact hkn)
      obtain ⟨x, hx⟩ : ∃ x, (ss.getD k sv0).k = x := ⟨_, rfl⟩
      obtain ⟨nb, hnb⟩ : ∃ nb, (ss.getD k sv0).bl.length = nb := ⟨_, rfl⟩
      obtain ⟨b, o, rfl, ok, c0, c1⟩ := (HO.out.kp0 hkp).at' (k := k) HK.out
      obtain ⟨B, bc, hb, hbc, hbm⟩ := ok.form hnb
      have hcan := can_at HC.out HK.out
      have HT := hid (tabl_snoc HK.out)
      have HTL := hid (tabl_to HC.out k)
      rw [hx, hnb] at hcan HT
      rw [hx] at c0
      rw [hb] at c1
      obtain ⟨bl, hbl⟩ : ∃ bl, (ss.getD k sv0).bl = bl := ⟨_, rfl⟩
      have HBd := hid ok.b
      rw [hb, hbl] at HBd
      rw [hbl] at HT
      obtain ⟨q, hq⟩ : ∃ q, ck bl = q := ⟨_, rfl⟩
      have hql := ck_lt bl
      rw [hq] at hql
      have HQ := hid hq
      have hki : (k : Int) < (n : Int) := by omega
      have hsum := wrapI (x := (k : Int) + 1) (by unfold I64; omega)
      have HW0 := hid hown
      have HXr := hid hcan
      have HTB := hid (HTb.out.kp0 hkp)
      have HQL := hid hql
      have HLen := hid (show (hdr n ++ ck4 (hdr n) ++ tabl ((ss.map sn).take k)).length ≤ 100000000 by rw [List.length_append, H9.out]; have := HTL.out; omega)
      clear hnb hx hb ok hbl hq hown hcan hql hbc hbm
      go_upto_region 11 with fail
      have B1 := Blk.new wr 36 #[.int .i64 x, .slice B nb bc]
      have K1 := (Kp.refl No wr).alloc (.cells #[.int .i64 x, .slice B nb bc] 36)
      have KW := hid (hkp.trans K1)
      have OW := hid (HW0.out.alloc (.cells #[.int .i64 x, .slice B nb bc] 36))
      have BW := hid (HBd.out.kp0 K1)
      have TW := hid (HTB.out.kp0 K1)
      have b0 := B1.cell 0
      have b1 := B1.cell 1
      clear K1 c0 c1
      have hg0 : w.heap.size ≤ wr.heap.size := HW0.out |> fun _ => hkp.size
      generalize wr.alloc (.cells #[.int .i64 x, .slice B nb bc] 36) = W at B1 KW OW BW TW b0 b1 ⊢
      generalize wr.heap.size = G at B1 b0 b1 hg0 ⊢
      have hb0 : W.cell? ⟨G, 0, none⟩ = some (.int .i64 x) := b0
      have hb1 : W.cell? ⟨G, 1, none⟩ = some (.slice B nb bc) := b1
      clear b0 b1 B1 hkp HBd HW0 HTB
      have h0 : W.drew.cell? ⟨G, 0, none⟩ = some (.int .i64 x) := hb0
      have h1 : W.drew.cell? ⟨G, 1, none⟩ = some (.slice B nb bc) := hb1
      have KD := hid KW.out.drew
      have OD := hid (OW.out.kp (Kp.refl No _).drew fun _ _ h => h)
      have BD := hid (BW.out.kp0 (Kp.refl No _).drew)
      have TD := hid (TW.out.kp0 (Kp.refl No _).drew)
      refine region_tail 10 (by kernel_rfl) (by kernel_rfl) ?_
      simp only [List.take_succ_cons, List.take_zero, List.drop_succ_cons, List.drop_zero]
      clear hb0 hb1 KW OW BW TW
      generalize W.drew = W1 at h0 h1 KD OD BD TD ⊢
      repeat still_step
      have HOF := flp (of_any (S := P) (.slice B nb bc) bl W1 BD.out TD.out)
      rw [HQ.out] at HOF
      still_call HOF
      clear HOF
      repeat still_step
      refine wpStill_nil ?_
      clear h0 h1
      go_upto_region 12 with (first
        | (go_at_call 34
           refine (rowput_any (base := w.heap.size) OD.out KD.out.size HLen.out (by have := HXr.out; omega) (by have := HXr.out; omega) HQL.out).mono ?_
           rintro e w6 ⟨u6, rfl, o6, k6⟩
           have O6 := hid o6
           have K6 := hid (KD.out.step k6 fun i hi h => by omega)
           clear o6 k6))
      go_wp2
      go_roundw
      case rel =>
        refine ⟨k + 1, by omega, by go_num, ?_, K6.out⟩
        have e4 : ck4 bl = dg (q : Int) 4 := by rw [ck4, HQ.out]
        rw [HT.out, e4, ← List.append_assoc]
        exact O6.out
      case measure => simp [intOf]; omega
    · have hkk : k = n := by omega
      subst hkk
      clear hk hkn
      have hfr : hdr k ++ ck4 (hdr k) ++ tabl ((ss.map sn).take k) = front (ss.map sn) := by
        rw [List.take_of_length_le (by rw [HL.out]; exact Nat.le_refl _)]
        unfold front
        rw [HL.out]
      rw [hfr] at hown
      have HFL := hid (show (front (ss.map sn)).length = 9 + 7 * k by rw [front_len, HL.out])
      have HW1 := hid hown
      have HK1 := hid hkp
      have TD := hid (HTb.out.kp0 hkp)
      clear hfr hown hkp
      go_wp2_with (first
        | (go_at_call 31
           refine (seal_any (base := w.heap.size) TD.out HW1.out HK1.out.size (by rw [HFL.out]; omega)).mono ?_
           rintro e w4 ⟨u4, rfl, o4, k4⟩
           have HK5 := hid (HK1.out.step k4 fun i hi h => by omega)
           have HW5 := hid o4
           clear o4 k4))
      have HGL := hid (show (front (ss.map sn) ++ ck4 (front (ss.map sn))).length = 13 + 7 * k by rw [List.length_append, HFL.out, ck4_len]; omega)
      have HH0 := hid (show front (ss.map sn) ++ ck4 (front (ss.map sn)) = front (ss.map sn) ++ ck4 (front (ss.map sn)) ++ bods ((ss.map sn).take 0) by simp [bods])
      go_loopw [4, 49] (fun v i w' => ∃ j : Nat, j ≤ k ∧ i = .int .i64 (j : Int) ∧ Own w' w.heap.size 5 v (front (ss.map sn) ++ ck4 (front (ss.map sn)) ++ bods ((ss.map sn).take j)) ∧ Kp No w w') (fun _ i _ => k - (intOf i).toNat)
      case atStart => exact ⟨0, Nat.zero_le _, rfl, by rw [← HH0.out]; exact HW5.out, HK5.out⟩
      case round =>
        obtain ⟨j, hj, rfl, hown, hkp⟩ := hrel
        clear HH0 HW5 HK5 HW1 HK1 TD
        by_cases hjk : j < k
        · have HJ := hid (show j < ss.length by rw [HN.out]; exact hjk)
          obtain ⟨x, hx⟩ : ∃ x, (ss.getD j sv0).k = x := ⟨_, rfl⟩
          obtain ⟨b, o, rfl, ok, c0, c1⟩ := (HO.out.kp0 hkp).at' (k := j) HJ.out
          obtain ⟨B, bc, hb, hbc, hbm⟩ := ok.form rfl
          have hcan := can_at HC.out HJ.out
          have HT := hid (bods_snoc HJ.out)
          have HBL := hid (bods_to HC.out j)
          have HBd := hid ok.b
          have HV0 := hid hown
          have HK0 := hid hkp
          obtain ⟨bl, hbl⟩ : ∃ bl, (ss.getD j sv0).bl = bl := ⟨_, rfl⟩
          rw [hx] at c0
          rw [hbl] at HBd HT hb hbc hcan
          rw [hb] at c1 HBd
          have hn3 := hcan.2.2
          have hki : (j : Int) < (k : Int) := by omega
          have hsum := wrapI (x := (j : Int) + 1) (by unfold I64; omega)
          clear hb hbl ok hown hkp hcan hx
          go_wp2_with (first
            | (at_builtin
               refine wp_app isU8 rfl (.tmp 53) (.tmp 55) rfl (base := w.heap.size) (xs := front (ss.map sn) ++ ck4 (front (ss.map sn)) ++ bods ((ss.map sn).take j)) (ys := bl) (by exact HV0.out.alloc _) (by exact HBd.out.kp0 ((Kp.refl No _).alloc _)) (by rw [List.length_append, HGL.out]; have := HBL.out; omega) (by exact (HK0.out.alloc _).size) ?_
               intro v6 w6 own6 k6
               have HV6 := hid own6
               have HK6 := hid ((HK0.out.alloc _).step k6 fun i hi h => by omega)
               clear own6 k6))
          go_roundw
          case rel =>
            refine ⟨j + 1, by omega, by go_num, ?_, HK6.out⟩
            rw [HT.out, ← List.append_assoc]
            exact HV6.out
          case measure => simp [intOf]; omega
        · have hjj : j = k := by omega
          subst hjj
          have himg : front (ss.map sn) ++ ck4 (front (ss.map sn)) ++ bods ((ss.map sn).take j) = image (ss.map sn) := by
            rw [List.take_of_length_le (by rw [HL.out]; exact Nat.le_refl _)]
            rfl
          rw [himg] at hown
          clear himg
          go_wp2
          go_ret2
          exact ⟨_, rfl, hown, hkp⟩
end
end Go.Proofs.YtggmdgdgljlddaaGreatDoor

/-
  Contracts of the program's readHead and readTable.
-/
namespace Go.Proofs.YtggmdgdgljlddaaGreatDoor
open Go.RowKit

/-- What the head tells: how many, or what is wrong. -/
def hd (b : List Int) : Int × Int :=
  if b.length < 9 then (0, 2) else
  if b.take 4 ≠ [68, 80, 90, 49] then (0, 20) else
  if (b.drop 5).take 4 ≠ ck4 (b.take 5) then (0, 4) else
  if 16 < b.getD 4 0 then (0, 7) else (b.getD 4 0, 0)

section
variable {w w' : World} {P S T : Nat → Prop} {v u : Value} {xs : List Int}
theorem readhead_any (ht : Tab w) (h : Byt w S v xs) : Calls Tryz.prog 57 #[v] w fun e w' => e = .returned (.tuple #[.int .i64 (hd xs).1, .int .i64 (hd xs).2]) ∧ Kp No w w' := by
  obtain ⟨n, hn⟩ : ∃ n, xs.length = n := ⟨_, rfl⟩
  have HN := hid hn
  have HO := hid h
  have HT := hid ht
  have hbs := hid (show Bs xs from h.bytes)
  obtain ⟨A, c, rfl, hc, hm, _, hr⟩ := h
  unfold maxLen at hm
  rw [hn] at hc hr HO ⊢
  clear hn ht
  by_cases h9 : n < 9
  · have g9 : (n : Int) < 9 := by omega
    have HU := hid (show hd xs = (0, 2) by unfold hd; rw [if_pos (by rw [HN.out]; exact h9)])
    clear hr
    go_enter Tryz.func57, Tryz.ntmps57
    go_wp2
    go_ret2
    rw [HU.out]
    exact ⟨rfl, Kp.refl _ _⟩
  have g9 : ¬ (n : Int) < 9 := by omega
  have hu9 := hid (show ¬ xs.length < 9 by rw [HN.out]; exact h9)
  obtain ⟨b, o, rfl, hb, hS, hcell⟩ := hr (by omega)
  have HP := hid (prefix_any (u := .slice (some ⟨w.heap.size, 0, none⟩) 4 4) (ys := [68, 80, 90, 49]) (HO.out.kp0 ((Kp.refl No w).alloc (.cells #[.int .u8 68, .int .u8 80, .int .u8 90, .int .u8 49] 5 (4, 5)))) (lit_byt (P := Anyb) w 5 (4, 5) trivial [68, 80, 90, 49] (by decide) (by simp)) (by simp) (by rw [HN.out]; simp; omega))
  have kc := Lib.run_convert_bytes_const (P := Tryz.prog) w 28 5 #[.int .u8 68, .int .u8 80, .int .u8 90, .int .u8 49] 4 4 Tryz.underlying28 Tryz.underlying5
  have K0 := hid ((Kp.refl No w).alloc (.cells #[.int .u8 68, .int .u8 80, .int .u8 90, .int .u8 49] 5 (4, 5)))
  clear hr hcell
  by_cases hmag : xs.take 4 = [68, 80, 90, 49]
  · have HMG := hid (decide_eq_true hmag)
    have hm4 := hid (show ¬ xs.take 4 ≠ [68, 80, 90, 49] from fun h => h hmag)
    have HSL := hid (sealed_any (m := 5) (HT.out.kp0 K0.out) (HO.out.kp0 K0.out) (by omega) (by rw [HN.out]; omega))
    clear hmag
    cases hq : decide ((xs.drop 5).take 4 = ck4 (xs.take 5)) with
    | false =>
      have HQ := hid hq
      have HU := hid (show hd xs = (0, 4) by unfold hd; rw [if_neg hu9.out, if_neg hm4.out, if_pos (of_decide_eq_false hq)])
      clear hq
      go_enter Tryz.func57, Tryz.ntmps57
      go_wp2_with (first
        | (go_at_call 95
           refine HP.out.mono ?_
           rintro e w1 ⟨rfl, rfl⟩
           rw [show ([68, 80, 90, 49] : List Int).length = 4 from rfl, HMG.out])
        | (go_at_call 96
           refine HSL.out.mono ?_
           rintro e w2 ⟨rfl, k2⟩
           rw [HQ.out]
           have K2 := hid (K0.out.trans k2)
           clear k2))
      go_ret2
      rw [HU.out]
      exact ⟨rfl, K2.out⟩
    | true =>
      have HQ := hid hq
      have hck := hid (show ¬ (xs.drop 5).take 4 ≠ ck4 (xs.take 5) from fun h => h (of_decide_eq_true hq))
      have HB4 := hid (HO.out.part (i := 4) (m := 1) (by rw [HN.out]; omega))
      have h1 := take_one (xs := xs.drop 4) (by simp; rw [HN.out]; omega)
      have hx : (xs.drop 4).getD 0 0 = xs.getD 4 0 := by simp [List.getD]
      have H1 := nx_ok (xs := (xs.drop 4).take 1) (m := 1) (by simp; rw [HN.out]; omega)
      have hl1 : ((xs.drop 4).take 1).length = 1 := by simp; rw [HN.out]; omega
      have g4 := getD_rg hbs.out 4
      obtain ⟨ys, hys⟩ : ∃ ys, (xs.drop 4).take 1 = ys := ⟨_, rfl⟩
      rw [hys] at HB4 h1 H1 hl1
      have HNM := hid (show num (nxP ys 0 ((1 : Nat) : Int)) = xs.getD 4 0 by rw [H1.1, List.take_of_length_le (by omega), h1, hx])
      have HL1 := hid hl1
      obtain ⟨m, hm0⟩ : ∃ m : Int, xs.getD 4 0 = m := ⟨_, rfl⟩
      rw [hm0] at HNM g4
      have HM := hid hm0
      have w1 : IntKind.i64.wrap m = m := wrapI (by unfold I64; omega)
      have a1 : ¬ c - 4 = 0 := by omega
      have a2 : ¬ c ≤ 4 := by omega
      have a3 : (5 : Int) ≤ (c : Int) := by omega
      have a4 : (4 : Int) ≤ (c : Int) := by omega
      clear hq h1 hx H1 hl1 hys hm0
      by_cases h16 : 16 < m
      · have HU := hid (show hd xs = (0, 7) by unfold hd; rw [if_neg hu9.out, if_neg hm4.out, if_neg hck.out, if_pos (by rw [HM.out]; exact h16)])
        go_enter Tryz.func57, Tryz.ntmps57
        go_wp2_with (first
          | (go_at_call 95
             refine HP.out.mono ?_
             rintro e w1 ⟨rfl, rfl⟩
             rw [show ([68, 80, 90, 49] : List Int).length = 4 from rfl, HMG.out])
          | (go_at_call 96
             refine HSL.out.mono ?_
             rintro e w2 ⟨rfl, k2⟩
             rw [HQ.out]
             have K2 := hid (K0.out.trans k2)
             clear k2 kc)
          | (go_at_call 61
             refine (new_any _ ys _ (HB4.out.kp0 K2.out) (by have := HL1.out; omega)).mono ?_
             rintro e w3 ⟨g, rfl, hg, r1, k1⟩
             have R1 := hid r1
             have K3 := hid (K2.out.trans k1)
             have HG := hid (Nat.le_trans K2.out.size hg)
             clear r1 k1 hg)
          | (go_at_call 97
             refine (take_any g ys 0 1 _ R1.out).mono ?_
             rintro e w4 ⟨rfl, r2, k2⟩
             rw [show hw 1 = 1 from rfl, HNM.out]
             have K4 := hid (K3.out.step k2 fun i hi h => by have := HG.out; unfold Only at h; omega)
             clear r2 k2))
        go_ret2
        rw [HU.out]
        exact ⟨rfl, K4.out⟩
      · have HU := hid (show hd xs = (m, 0) by unfold hd; rw [if_neg hu9.out, if_neg hm4.out, if_neg hck.out, if_neg (by rw [HM.out]; exact h16), HM.out])
        go_enter Tryz.func57, Tryz.ntmps57
        go_wp2_with (first
          | (go_at_call 95
             refine HP.out.mono ?_
             rintro e w1 ⟨rfl, rfl⟩
             rw [show ([68, 80, 90, 49] : List Int).length = 4 from rfl, HMG.out])
          | (go_at_call 96
             refine HSL.out.mono ?_
             rintro e w2 ⟨rfl, k2⟩
             rw [HQ.out]
             have K2 := hid (K0.out.trans k2)
             clear k2 kc)
          | (go_at_call 61
             refine (new_any _ ys _ (HB4.out.kp0 K2.out) (by have := HL1.out; omega)).mono ?_
             rintro e w3 ⟨g, rfl, hg, r1, k1⟩
             have R1 := hid r1
             have K3 := hid (K2.out.trans k1)
             have HG := hid (Nat.le_trans K2.out.size hg)
             clear r1 k1 hg)
          | (go_at_call 97
             refine (take_any g ys 0 1 _ R1.out).mono ?_
             rintro e w4 ⟨rfl, r2, k2⟩
             rw [show hw 1 = 1 from rfl, HNM.out]
             have K4 := hid (K3.out.step k2 fun i hi h => by have := HG.out; unfold Only at h; omega)
             clear r2 k2))
        go_ret2
        rw [HU.out]
        exact ⟨rfl, K4.out⟩
  · have HMG := hid (decide_eq_false hmag)
    have HU := hid (show hd xs = (0, 20) by unfold hd; rw [if_neg hu9.out, if_pos hmag])
    clear hmag
    go_enter Tryz.func57, Tryz.ntmps57
    go_wp2_with (first
      | (go_at_call 95
         refine HP.out.mono ?_
         rintro e w1 ⟨rfl, rfl⟩
         rw [show ([68, 80, 90, 49] : List Int).length = 4 from rfl, HMG.out]))
    go_ret2
    rw [HU.out]
    exact ⟨rfl, K0.out⟩
end
end Go.Proofs.YtggmdgdgljlddaaGreatDoor

/-
  Contract of the program's readTable.
-/
namespace Go.Proofs.YtggmdgdgljlddaaGreatDoor
open Go.RowKit

theorem infoRow : (Tryz.prog.info? 72).map (fun i => (i.zero, i.size, i.bytes)) = some (some (.agg #[.int .i64 0, .int .i64 0, .int .u32 0]), 3, 24) := by kernel_rfl
theorem usRow : Us Tryz.prog 88 72 3 24 (.agg #[.int .i64 0, .int .i64 0, .int .u32 0]) := ⟨by kernel_rfl, infoRow, by kernel_rfl, by omega⟩
theorem enRd_at (xs : List Int) {m i : Nat} (hi : i < m) : enRd (((xs.drop 9).take (7 * m)).drop (7 * i)) = entAt xs i := by
  have hg : ∀ j, j < 7 → (((xs.drop 9).take (7 * m)).drop (7 * i)).getD j 0 = xs.getD (9 + (7 * i + j)) 0 := fun j hj => by
    rw [List.getD_eq_getElem?_getD, List.getD_eq_getElem?_getD, List.getElem?_drop, List.getElem?_take_of_lt (by omega), List.getElem?_drop]
  unfold enRd entAt
  rw [hg 0 (by omega), hg 1 (by omega), hg 2 (by omega), show 9 + (7 * i + 0) = 9 + 7 * i by omega, show 9 + (7 * i + 1) = 10 + 7 * i by omega, show 9 + (7 * i + 2) = 11 + 7 * i by omega]
  congr 1
  rw [List.drop_drop, List.drop_take, List.take_take, List.drop_drop, show 9 + (7 * i + 3) = 12 + 7 * i by omega, show min 4 (7 * m - (7 * i + 3)) = 4 by omega]

section
variable {w w' : World} {P S T : Nat → Prop} {v u : Value} {xs : List Int}
/-- Of a row that is being laid: what lies in a cell that is still to be written. -/
theorem Fil.old {α : Type} {n : Nat} {f : α → Nat → Value} {d : α} {t : TypeId} {g m : Nat} {ys : List α} (h : Fil n f d t w g m ys) {j i : Nat} (hj : j < m) (hi : i < n) : ∃ u, w.cell? ⟨g, j * n + i, none⟩ = some u ∧ w.frozen? ⟨g, j * n + i, none⟩ = false := by
  obtain ⟨h1, h2⟩ := h.there hj hi
  obtain ⟨u, hu⟩ := Option.isSome_iff_exists.1 h1
  exact ⟨u, hu, h2⟩

/-- What the table tells. -/
def TabPost (xs : List Int) (m : Nat) (S : Nat → Prop) (w : World) (e : Ending) (w' : World) : Prop :=
  Kp No w w' ∧ ((xs.length < 13 + 7 * m ∧ e = .returned (.tuple #[.slice none 0 0, .slice none 0 0, .int .i64 2])) ∨
    (¬ xs.length < 13 + 7 * m ∧ (xs.drop (9 + 7 * m)).take 4 ≠ ck4 (xs.take (9 + 7 * m)) ∧ e = .returned (.tuple #[.slice none 0 0, .slice none 0 0, .int .i64 4])) ∨
    (¬ xs.length < 13 + 7 * m ∧ (xs.drop (9 + 7 * m)).take 4 = ck4 (xs.take (9 + 7 * m)) ∧ ∃ u r, e = .returned (.tuple #[u, r, .int .i64 0]) ∧ Rw 3 rc en0 w' Anyb u (ents xs m) ∧ Byt w' S r (xs.drop (13 + 7 * m))))

set_option maxRecDepth 100000 in
set_option maxHeartbeats 1000000 in
theorem readtable_any {m : Nat} (ht : Tab w) (h : Byt w S v xs) (h9 : 9 ≤ xs.length) (h16 : m ≤ 16) : Calls Tryz.prog 58 #[v, .int .i64 (m : Int)] w (TabPost xs m S w) := by
  obtain ⟨n, hn⟩ : ∃ n, xs.length = n := ⟨_, rfl⟩
  have HN := hid hn
  have HO := hid h
  have HT := hid ht
  have hbs := hid (show Bs xs from h.bytes)
  obtain ⟨A, c, rfl, hc, hm, _, hr⟩ := h
  unfold maxLen at hm
  rw [hn] at h9 hc hr HO ⊢
  clear hn ht
  have e1 := wrapI (x := (m : Int) * 7) (by unfold I64; omega)
  have e2 := wrapI (x := 9 + (m : Int) * 7) (by unfold I64; omega)
  have e3 := wrapI (x := 9 + (m : Int) * 7 + 4) (by unfold I64; omega)
  by_cases hsh : n < 13 + 7 * m
  · have g1 : (n : Int) < 9 + (m : Int) * 7 + 4 := by omega
    have HX := hid (show xs.length < 13 + 7 * m by rw [HN.out]; exact hsh)
    clear hr
    go_enter Tryz.func58, Tryz.ntmps58
    go_wp2
    go_ret3
    exact ⟨Kp.refl _ _, .inl ⟨HX.out, rfl⟩⟩
  have g1 : ¬ (n : Int) < 9 + (m : Int) * 7 + 4 := by omega
  have HX := hid (show ¬ xs.length < 13 + 7 * m by rw [HN.out]; exact hsh)
  obtain ⟨b, o, rfl, hb, hS, hcell⟩ := hr (by omega)
  obtain ⟨E, hE⟩ : ∃ E : Nat, 9 + 7 * m = E := ⟨_, rfl⟩
  have hEI : 9 + (m : Int) * 7 = (E : Int) := by omega
  have HEM := hid hE
  rw [hEI] at e2 e3 g1
  have HSL := hid (sealed_any (m := E) HT.out HO.out (by omega) (by rw [HN.out]; omega))
  clear hr hcell
  cases hq : decide ((xs.drop E).take 4 = ck4 (xs.take E)) with
  | false =>
    have HQ := hid hq
    have HU := hid (show (xs.drop (9 + 7 * m)).take 4 ≠ ck4 (xs.take (9 + 7 * m)) by rw [hE]; exact of_decide_eq_false hq)
    clear hq hE
    go_enter Tryz.func58, Tryz.ntmps58
    go_wp2_with (first
      | (go_at_call 96
         refine HSL.out.mono ?_
         rintro e w2 ⟨rfl, k2⟩
         rw [HQ.out]
         have K2 := hid k2
         clear k2))
    go_ret3
    exact ⟨K2.out, .inr (.inl ⟨HX.out, HU.out, rfl⟩)⟩
  | true =>
    have HQ := hid hq
    have HU := hid (show (xs.drop (9 + 7 * m)).take 4 = ck4 (xs.take (9 + 7 * m)) by rw [hE]; exact of_decide_eq_true hq)
    have HBT := hid (HO.out.part (i := 9) (m := 7 * m) (by rw [HN.out]; omega))
    obtain ⟨ys, hys⟩ : ∃ ys, (xs.drop 9).take (7 * m) = ys := ⟨_, rfl⟩
    have HYL := hid (show ys.length = 7 * m by rw [← hys]; simp; rw [HN.out]; omega)
    have HYB := hid (show Bs ys by rw [← hys]; exact fun y hy => hbs.out y (List.mem_of_mem_drop (List.mem_of_mem_take hy)))
    rw [hys] at HBT
    have HY := hid hys
    have a1 : (9 : Int) ≤ (E : Int) := by omega
    have a2 : (E : Int) ≤ (c : Int) := by omega
    have a3 : E - 9 = 7 * m := by omega
    have a4 : ¬ c - 9 = 0 := by omega
    have a5 : ¬ c ≤ 9 := by omega
    clear hq hys hE
    go_enter Tryz.func58, Tryz.ntmps58
    go_upto_region 7 with (first
      | (go_at_call 96
         refine HSL.out.mono ?_
         rintro e w2 ⟨rfl, k2⟩
         rw [HQ.out]
         have K2 := hid k2
         clear k2)
      | (go_at_call 61
         refine (new_any _ ys _ (HBT.out.kp0 K2.out) (by have := HYL.out; omega)).mono ?_
         rintro e w3 ⟨g, rfl, hg, r1, k1⟩
         have R1 := hid r1
         have K3 := hid (K2.out.trans k1)
         have HG := hid (Nat.le_trans K2.out.size hg)
         clear r1 k1 hg))
    have hgl := R1.out.lt
    have hw3 := K3.out.size
    clear a1 a2 a3 a4 a5 e1 e2
    go_wp2_with (first
      | (refine wp_rowm (f := rc) en0 usRow rfl _ _ rfl (m := m) rfl rfl (by omega) (by omega) ?_
         intro w4 fl4 k4 hz4
         have R4 := hid (R1.out.kp k4 fun _ _ h => h)
         have F4 := hid fl4
         have K4 := hid (K3.out.trans k4)
         clear fl4 k4))
    clear R1
    generalize w3.heap.size = R at F4 hgl hw3 hz4 ⊢
    have HYE := hid (show ys.drop (7 * 0) = ys from rfl)
    go_loopw [33] (fun i w' => ∃ k : Nat, k ≤ m ∧ i = .int .i64 (k : Int) ∧ Hid (Fil 3 rc en0 72 w' R m (ents xs k) ∧ Rd w' g (ys.drop (7 * k)) 0 ∧ Kp No w w')) (fun i _ => m - (intOf i).toNat)
    case atStart => exact ⟨0, Nat.zero_le _, rfl, hid ⟨F4.out, by rw [HYE.out]; exact R4.out, K4.out⟩⟩
    case round =>
      obtain ⟨k, hk, rfl, HT⟩ := hrel
      clear K2 K3 K4 R4 F4
      by_cases hkm : k < m
      · have hki : (k : Int) < (m : Int) := by omega
        have hsum := wrapI (x := (k : Int) + 1) (by unfold I64; omega)
        have hL7 := hid (show 7 ≤ (ys.drop (7 * k)).length by rw [List.length_drop, HYL.out]; omega)
        have hB7 := hid (show Bs (ys.drop (7 * k)) from fun y hy => HYB.out y (List.mem_of_mem_drop hy))
        have hen : enRd (ys.drop (7 * k)) = entAt xs k := by rw [← HY.out]; exact enRd_at xs hkm
        obtain ⟨q0, h0⟩ : ∃ q, rc (entAt xs k) 0 = .int .i64 q := ⟨_, rfl⟩
        obtain ⟨q1, h1⟩ : ∃ q, rc (entAt xs k) 1 = .int .i64 q := ⟨_, rfl⟩
        obtain ⟨q2, h2⟩ : ∃ q, rc (entAt xs k) 2 = .int .u32 q := ⟨_, rfl⟩
        have HE := hid (show (.agg #[rc (enRd (ys.drop (7 * k))) 0, rc (enRd (ys.drop (7 * k))) 1, rc (enRd (ys.drop (7 * k))) 2] : Value) = .agg #[.int .i64 q0, .int .i64 q1, .int .u32 q2] by rw [hen, h0, h1, h2])
        have HV := hid (show [(.int .i64 q0 : Value), .int .i64 q1, .int .u32 q2] = (List.range 3).map (rc (entAt xs k)) by rw [← h0, ← h1, ← h2]; rfl)
        have HKM := hid hkm
        have HLE := hid (show (ents xs k).length = k by simp [ents])
        clear hen h0 h1 h2
        go_wp2_with (first
          | (go_at_call 98
             refine (takerow_any HT.out.2.1 hB7.out hL7.out).mono ?_
             rintro e w5 ⟨rfl, r5, k5⟩
             rw [HE.out]
             rw [List.drop_drop] at r5
             have F5 := hid (HT.out.1.kp k5 (by unfold Only; omega))
             have R5 := hid r5
             have K5 := hid (HT.out.2.2.step k5 fun i hi h => by have := HG.out; unfold Only at h; omega)
             obtain ⟨v0, c0, f0⟩ := F5.out.old (j := k) (i := 0) HKM.out (by omega)
             obtain ⟨v1, c1, f1⟩ := F5.out.old (j := k) (i := 1) HKM.out (by omega)
             obtain ⟨v2, c2, f2⟩ := F5.out.old (j := k) (i := 2) HKM.out (by omega)
             simp only [Nat.add_zero] at c0 f0
             clear r5 k5))
        have F6 := hid (F5.out.snoc (entAt xs k) (by rw [HLE.out]; exact HKM.out) _ HV.out)
        have K6 := hid (Kp.fill (S := Only R) (a := w5) (g := R) (.inl rfl) [(.int .i64 q0 : Value), .int .i64 q1, .int .u32 q2] (k * 3) w5 (Kp.refl _ _))
        rw [HLE.out, ← ents_snoc] at F6
        have hgR := hid hgl
        have hwR := hid hw3
        clear c0 c1 c2 f0 f1 f2
        go_roundw
        case rel =>
          refine ⟨k + 1, by omega, by go_num, hid ⟨F6.out, ?_, K5.out.step K6.out fun i hi h => by have := hwR.out; unfold Only at h; omega⟩⟩
          rw [show 7 * (k + 1) = 7 * k + 7 by omega]
          exact R5.out.kpg K6.out fun i hi h => by have := hgR.out; unfold Only at h; omega
        case measure => simp [intOf]; omega
      · have hkk : k = m := by omega
        subst hkk
        have HLE := hid (show (ents xs k).length = k by simp [ents])
        have HRW := hid (HT.out.1.rw HLE.out (by unfold maxLen; omega) (P := Anyb) trivial)
        have HKW := hid HT.out.2.2
        have HBd := hid (HO.out.kp0 HT.out.2.2)
        have HXE := hid (show E + 4 = 13 + 7 * k by omega)
        have b1 : ((E : Int) + 4).toNat = E + 4 := by omega
        have b2 : (E : Int) + 4 ≤ (n : Int) := by omega
        have b3 : (0 : Int) ≤ (E : Int) + 4 := by omega
        clear HT
        by_cases hcE : c = E + 4
        · have b4 : c - (E + 4) = 0 := by omega
          have b5 : n - (E + 4) = 0 := by omega
          have b6 : c ≤ E + 4 := by omega
          have HXL := hid (show xs.drop (13 + 7 * k) = [] by rw [List.drop_eq_nil_iff, HN.out]; omega)
          go_wp2
          go_quiet (fail)
          go_wp2
          go_ret3
          exact ⟨HKW.out.drewN _, .inr (.inr ⟨HX.out, HU.out, _, _, rfl, HRW.out.kp0 ((Kp.refl No _).drewN _), by rw [HXL.out]; exact Byt.empty _ _ _ _ (by unfold maxLen; omega)⟩)⟩
        · have b4 : ¬ c - (E + 4) = 0 := by omega
          have b6 : ¬ c ≤ E + 4 := by omega
          go_wp2
          go_quiet (fail)
          go_wp2
          go_ret3
          have hp := (HBd.out.part (i := E + 4) (m := n - (E + 4)) (by rw [HN.out]; omega)).kp0 ((Kp.refl No _).drewN nq)
          rw [List.take_of_length_le (by rw [List.length_drop, HN.out]; omega)] at hp
          exact ⟨HKW.out.drewN _, .inr (.inr ⟨HX.out, HU.out, _, _, rfl, HRW.out.kp0 ((Kp.refl No _).drewN _), by rw [← HXE.out]; exact hp⟩)⟩
end
end Go.Proofs.YtggmdgdgljlddaaGreatDoor

/-
  Contract of the program's readBodies.
-/
namespace Go.Proofs.YtggmdgdgljlddaaGreatDoor
open Go.RowKit

theorem risen_kinds_eq : ∀ (ss : List Sv) (es : List En) (last : Int), 0 ≤ last → ss.map Sv.k = es.map En.k → (∀ s ∈ ss, s.k ≤ 255) → risen last (ss.map sn) = kinds last es
  | [], [], _, _, _, _ => rfl
  | [], _ :: _, _, _, h, _ => by simp at h
  | _ :: _, [], _, _, h, _ => by simp at h
  | s :: ss, e :: es, last, h0, h, hb => by
    simp only [List.map_cons, List.cons.injEq] at h
    have hs := hb s (List.mem_cons_self ..)
    rw [List.map_cons, risen, kinds]
    have e1 : (sn s).kind = s.k := rfl
    rw [e1, ← h.1]
    by_cases hl : last < s.k
    · rw [decide_eq_true (show 1 ≤ s.k by omega), decide_eq_true hs, decide_eq_true hl, Bool.true_and, Bool.true_and]
      rw [risen_kinds_eq ss es s.k (by omega) h.2 fun x hx => hb x (List.mem_cons_of_mem _ hx)]
    · rw [decide_eq_false hl, Bool.and_false, Bool.false_and, Bool.false_and]
/-- The bytes that are read as a body. -/
def bodAt (xs : List Int) (m j : Nat) : List Int := ((xs.drop (13 + 7 * m)).drop (total (ents xs j))).take (entAt xs j).n
/-- How far the reader is. -/
def RdSt (xs : List Int) (m k : Nat) (ss : List Sv) (rest : List Int) (e : Int) : Prop :=
  (e = 0 ∧ total (ents xs k) ≤ (xs.drop (13 + 7 * m)).length ∧ rest = (xs.drop (13 + 7 * m)).drop (total (ents xs k)) ∧ ∀ j, j < k → (ss.getD j sv0).bl = bodAt xs m j) ∨
  (e = 2 ∧ (xs.drop (13 + 7 * m)).length < total (ents xs k))
theorem RdSt.step {xs : List Int} {m k : Nat} {ss : List Sv} {rest : List Int} {e : Int} (h : RdSt xs m k ss rest e) (hl : ss.length = k) (s : Sv) (hb : s.bl = nxP rest e ((entAt xs k).n : Int)) :
    RdSt xs m (k + 1) (ss ++ [s]) (nxR rest e ((entAt xs k).n : Int)) (nxE rest e ((entAt xs k).n : Int)) := by
  have ht : total (ents xs (k + 1)) = total (ents xs k) + (entAt xs k).n := by rw [ents_snoc, total_snoc]
  rcases h with ⟨rfl, h1, rfl, h3⟩ | ⟨rfl, h1⟩
  · by_cases hn : (entAt xs k).n ≤ ((xs.drop (13 + 7 * m)).drop (total (ents xs k))).length
    · obtain ⟨e1, e2, e3⟩ := nx_ok hn
      rw [List.length_drop] at hn
      refine .inl ⟨e3, by omega, ?_, fun j hj => ?_⟩
      · rw [e2, List.drop_drop, ht]
      · by_cases hjk : j < k
        · rw [← h3 j hjk]
          simp [List.getD, List.getElem?_append_left (show j < ss.length by omega)]
        · obtain rfl : j = k := by omega
          subst hl
          rw [List.getD_eq_getElem?_getD, List.getElem?_concat_length, Option.getD_some, hb, e1]
          rfl
    · rw [List.length_drop] at hn
      refine .inr ⟨?_, by omega⟩
      unfold nxE
      rw [if_pos rfl, if_neg (by omega), if_pos (by rw [List.length_drop]; omega)]
  · refine .inr ⟨?_, by omega⟩
    unfold nxE
    rw [if_neg (by omega)]
theorem nxR_len (xs : List Int) (e m : Int) : (nxR xs e m).length ≤ xs.length := by
  unfold nxR
  split
  · rw [List.length_drop]; omega
  · exact Nat.le_refl _

section
variable {w w' : World} {P S T : Nat → Prop} {v u : Value} {xs : List Int}
theorem Blk.all3 {X : Nat} {t : TypeId} {a b c : Value} (h : Blk w X t #[a, b, c]) : w.cell? ⟨X, 0, none⟩ = some a ∧ w.cell? ⟨X, 1, none⟩ = some b ∧ Blk w X t #[a, b, c] := ⟨h.cell 0, h.cell 1, h⟩
theorem Blk.stepc3 {X g : Nat} {t : TypeId} {a b c : Value} (k : Kp (Only g) w w') (hn : X ≠ g) (h : w.cell? ⟨X, 0, none⟩ = some a ∧ w.cell? ⟨X, 1, none⟩ = some b ∧ Blk w X t #[a, b, c]) : w'.cell? ⟨X, 0, none⟩ = some a ∧ w'.cell? ⟨X, 1, none⟩ = some b ∧ Blk w' X t #[a, b, c] := (h.2.2.kp k hn).all3
theorem Blk.putc3 {X g i j : Nat} {t : TypeId} {a b c : Value} (hn : X ≠ g) (x y : Value) (h : w.cell? ⟨X, 0, none⟩ = some a ∧ w.cell? ⟨X, 1, none⟩ = some b ∧ Blk w X t #[a, b, c]) :
    ((w.setCell ⟨g, i, none⟩ x).setCell ⟨g, j, none⟩ y).cell? ⟨X, 0, none⟩ = some a ∧ ((w.setCell ⟨g, i, none⟩ x).setCell ⟨g, j, none⟩ y).cell? ⟨X, 1, none⟩ = some b ∧ Blk ((w.setCell ⟨g, i, none⟩ x).setCell ⟨g, j, none⟩ y) X t #[a, b, c] :=
  (h.2.2.kp (((Kp.refl (Only g) w).setCell (p := ⟨g, i, none⟩) (.inl rfl) x).setCell (p := ⟨g, j, none⟩) (.inl rfl) y) hn).all3

theorem Rw.three {A : Option Addr} {n c k : Nat} {es : List En} (h : Rw 3 rc en0 w P (.slice A n c) es) (hk : k < es.length) : ∃ b o, A = some ⟨b, o, none⟩ ∧ w.cell? ⟨b, o + k * 3, none⟩ = some (.int .i64 (es.getD k en0).k) ∧ w.cell? ⟨b, o + k * 3 + 1, none⟩ = some (.int .i64 ((es.getD k en0).n : Int)) ∧ w.cell? ⟨b, o + k * 3 + 2, none⟩ = some (.int .u32 (num (es.getD k en0).c)) := by
  obtain ⟨A', c', he, _, _, h3⟩ := h
  injection he with e1 e2 e3
  subst e1
  obtain ⟨b, o, e, _, _, g3⟩ := h3 (by omega)
  refine ⟨b, o, e, ?_, ?_, ?_⟩
  · have := g3 k 0 hk (by omega)
    rwa [Nat.add_zero] at this
  · have := g3 k 1 hk (by omega)
    rwa [← Nat.add_assoc] at this
  · have := g3 k 2 hk (by omega)
    rwa [← Nat.add_assoc] at this
theorem ents_getD {m k : Nat} (h : k < m) : (ents xs m).getD k en0 = entAt xs k := by
  unfold ents
  rw [List.getD_eq_getElem?_getD, List.getElem?_map, List.getElem?_range h]
  rfl

theorem kinds_top {m : Nat} {ss : List Sv} (hb : Bs xs) (h : ss.map Sv.k = (ents xs m).map En.k) : ∀ s ∈ ss, s.k ≤ 255 := fun s hs => by
  have h1 : s.k ∈ ss.map Sv.k := List.mem_map.2 ⟨s, hs, rfl⟩
  rw [h] at h1
  obtain ⟨e, he, h2⟩ := List.mem_map.1 h1
  unfold ents at he
  obtain ⟨i, _, rfl⟩ := List.mem_map.1 he
  have := getD_rg hb (9 + 7 * i)
  rw [← h2]
  exact this.2

theorem unpRest_is {m : Nat} (h1 : ¬ kinds 0 (ents xs m) = false) (h2 : ¬ xs.length - (13 + 7 * m) < total (ents xs m)) (h3 : ¬ total (ents xs m) < xs.length - (13 + 7 * m)) :
    (bodU (ents xs m) (xs.drop (13 + 7 * m)) = none → unpRest xs m = (4, [])) ∧ ∀ l, bodU (ents xs m) (xs.drop (13 + 7 * m)) = some l → unpRest xs m = (0, l) := by
  unfold unpRest
  rw [if_neg h1, if_neg h2, if_neg h3]
  exact ⟨fun h => by rw [h], fun l h => by rw [h]⟩

def BodPost (xs : List Int) (m : Nat) (w : World) (e : Ending) (w' : World) : Prop :=
  ∃ u ss, e = .returned (.tuple #[u, .int .i64 (unpRest xs m).1]) ∧ ss.map sn = (unpRest xs m).2 ∧ Ps w' (fun i => w.heap.size ≤ i) u ss ∧ Kp No w w'
theorem BodPost.bad {m : Nat} {x : Int} (h : unpRest xs m = (x, [])) (k : Kp No w w') : BodPost xs m w (.returned (.tuple #[.slice none 0 0, .int .i64 x])) w' :=
  ⟨.slice none 0 0, [], by rw [h], by rw [h]; rfl, ⟨Rw.nil _ _ _ _ _, fun s hs => by simp at hs⟩, k⟩

set_option maxRecDepth 100000 in
set_option maxHeartbeats 2000000 in
theorem readbodies_any {m : Nat} (ht : Tab w) (hbs : Bs xs) (hr : Rw 3 rc en0 w P v (ents xs m)) (hb : Byt w S u (xs.drop (13 + 7 * m))) (h16 : m ≤ 16) (hlen : 13 + 7 * m ≤ xs.length) (hl : xs.length ≤ 100000) :
    Calls Tryz.prog 59 #[v, u] w (BodPost xs m w) := by
  have HT := hid ht
  have HBS := hid hbs
  have HR := hid hr
  have HB := hid hb
  have HLN := hid hlen
  have HLX := hid hl
  have hel : (ents xs m).length = m := by simp [ents]
  have HRL := hid (show (xs.drop (13 + 7 * m)).length ≤ 100000 by simp; omega)
  obtain ⟨A, c, rfl, hc, hm, _⟩ := hr
  rw [hel] at hc HR ⊢
  unfold maxLen at hm
  obtain ⟨A', c', rfl, hrest⟩ := hb
  clear hrest
  have HEL := hid hel
  have HRL0 := HRL
  generalize (xs.drop (13 + 7 * m)).length = rl at HB HRL ⊢
  clear ht hbs hlen hl hel
  go_enter Tryz.func59, Tryz.ntmps59
  go_wp2_with (first
    | (go_at_call 61
       refine (new_any _ (xs.drop (13 + 7 * m)) _ HB.out (by have := HLX.out; simp; omega)).mono ?_
       rintro e w1 ⟨g, rfl, hg, r1, k1⟩
       have hgl := r1.lt
       have R1 := hid r1
       have K1 := hid k1
       have hw1 := k1.size
       clear r1 k1)
    | (refine wp_rowm (f := pc) sv0 usSec rfl _ _ rfl (m := m) rfl rfl (by omega) (by omega) ?_
       intro w2 fl2 k2 hz2
       have R2 := hid (R1.out.kp k2 fun _ _ h => h)
       have F2 := hid fl2
       have K2 := hid (K1.out.trans k2)
       clear fl2 k2))
  clear R1
  generalize w1.heap.size = L at F2 hgl hw1 hz2 ⊢
  have H0 := hid (show RdSt xs m 0 [] (xs.drop (13 + 7 * m)) 0 from .inl ⟨rfl, Nat.zero_le _, rfl, fun j hj => by omega⟩)
  go_loopw [20] (fun i w' => ∃ k : Nat, k ≤ m ∧ i = .int .i64 (k : Int) ∧ Hid (∃ ss rest e, Fil 2 pc sv0 36 w' L m ss ∧ Rd w' g rest e ∧ Kp No w w' ∧ L < w'.heap.size ∧ ss.map Sv.k = (ents xs k).map En.k ∧ (∀ s ∈ ss, SvOk w' (fun i => w.heap.size ≤ i ∧ i ≠ g ∧ i ≠ L) s) ∧ RdSt xs m k ss rest e ∧ rest.length ≤ 100000)) (fun i _ => m - (intOf i).toNat)
  case atStart => exact ⟨0, Nat.zero_le _, rfl, hid ⟨[], _, 0, F2.out, R2.out, K2.out, by omega, rfl, fun s hs => by simp at hs, H0.out, HRL0.out⟩⟩
  case round =>
    obtain ⟨k, hk, rfl, HI⟩ := hrel
    clear K1 K2 R2 F2 H0
    obtain ⟨ss, rest, e, fil, rd, kp, hL, hks, hok, hst, hrl⟩ := HI.out
    by_cases hkm : k < m
    · have hki : (k : Int) < (m : Int) := by omega
      have hsum := wrapI (x := (k : Int) + 1) (by unfold I64; omega)
      obtain ⟨b, o, rfl, c0, c1, c2⟩ := (HR.out.kp0 kp).three (k := k) (by rw [HEL.out]; exact hkm)
      rw [ents_getD hkm] at c0 c1 c2
      obtain ⟨q0, hq0⟩ : ∃ q, (entAt xs k).k = q := ⟨_, rfl⟩
      obtain ⟨q1, hq1⟩ : ∃ q, (entAt xs k).n = q := ⟨_, rfl⟩
      obtain ⟨q2, hq2⟩ : ∃ q, num (entAt xs k).c = q := ⟨_, rfl⟩
      rw [hq0] at c0
      rw [hq1] at c1
      rw [hq2] at c2
      have hq0r := getD_rg HBS.out (9 + 7 * k)
      have HQ0 := hid (show I64 q0 by rw [← hq0]; unfold I64 entAt; simp only; omega)
      have HSL := hid (show ss.length = k by have := congrArg List.length hks; simpa [ents] using this)
      have FF := hid fil
      have RR := hid rd
      have KK := hid kp
      have HOK := hid hok
      have HKS := hid hks
      have HST := hid hst
      have HRE := hid hrl
      have HE0 := hid hq0
      have HE1 := hid hq1
      clear fil rd kp hks hok hst hrl hq0 hq1 hq2 hq0r HI hz2
      go_upto_region 6 with fail
      have KA := (Kp.refl No wr).alloc (.cells #[.int .i64 q0, .int .i64 (q1 : Int), .int .u32 q2] 72)
      have B1 := Blk.new wr 72 #[.int .i64 q0, .int .i64 (q1 : Int), .int .u32 q2]
      have F1 := FF.out.kp0 KA
      have R1 := RR.out.kp KA fun _ _ h => h
      have K1 := KK.out.trans KA
      have O1 := hid (fun s hs => (HOK.out s hs).kp KA fun _ _ h => h)
      have hxl : L < wr.heap.size := hL
      generalize wr.alloc (.cells #[.int .i64 q0, .int .i64 (q1 : Int), .int .u32 q2] 72) = W at KA B1 F1 R1 K1 O1 ⊢
      generalize wr.heap.size = X at B1 hxl hL ⊢
      have BD := hid (B1.kp0 (Kp.refl No W).drew)
      have FD := hid (F1.kp0 (Kp.refl No W).drew)
      have RD := hid (R1.kp (Kp.refl No W).drew fun _ _ h => h)
      have KD := hid K1.drew
      have OD := hid (fun s hs => (O1.out s hs).kp (Kp.refl No W).drew fun _ _ h => h)
      have hXW : X < W.drew.heap.size := BD.out.lt
      have hgX : X ≠ g := by omega
      have hLX : X ≠ L := by omega
      have HKM := hid hkm
      have hLL : L < W.drew.heap.size := by omega
      clear KA B1 F1 R1 K1 O1 FF RR KK HOK c0 c1 c2
      go_region_held3 (fun w' => w'.cell? ⟨X, 0, none⟩ = some (.int .i64 q0) ∧ w'.cell? ⟨X, 1, none⟩ = some (.int .i64 (q1 : Int)) ∧ Blk w' X 72 #[.int .i64 q0, .int .i64 (q1 : Int), .int .u32 q2])
        (first | exact BD.out.all3 | exact Blk.stepc3 (by assumption) (by assumption) (by assumption) | exact Blk.putc3 (by assumption) _ _ (by assumption))
        (first | (go_at_call 99; refine (part_any g rest e (q1 : Int) _ RD.out HRE.out).mono ?_; rintro r w5 ⟨u5, rfl, o5, r5, k5⟩; obtain ⟨A5, c5, rfl⟩ := o5.form; have F5 := hid (FD.out.kp k5 (by unfold Only; omega)); obtain ⟨v0, c0, f0⟩ := F5.out.old (j := k) (i := 0) HKM.out (by omega); obtain ⟨v1, c1, f1⟩ := F5.out.old (j := k) (i := 1) HKM.out (by omega); simp only [Nat.add_zero] at c0 f0; have O5 := hid o5; have R5 := hid r5; have K5 := hid k5; clear o5 r5))
      have F6 := F5.out.snoc (Sv.mk q0 A5 c5 (nxP rest e (q1 : Int))) (by rw [HSL.out]; exact HKM.out) [(.int .i64 q0 : Value), .slice A5 (nxP rest e (q1 : Int)).length c5] rfl
      have K6 := hid (Kp.fill (S := Only L) (a := w5) (g := L) (.inl rfl) [(.int .i64 q0 : Value), .slice A5 (nxP rest e (q1 : Int)).length c5] (k * 2) w5 (Kp.refl _ _))
      rw [HSL.out] at F6
      have HF6 := hid F6
      have hwW := hid (show w.heap.size ≤ W.drew.heap.size from KD.out.size)
      have hgw := hid hg
      have hgL := hid hgl
      have hwL := hid hw1
      have hLW := hid hLL
      have SN := hid (show SvOk w5 (fun i => w.heap.size ≤ i ∧ i ≠ g ∧ i ≠ L) (Sv.mk q0 A5 c5 (nxP rest e (q1 : Int))) from ⟨HQ0.out, O5.out.byt fun i hi => ⟨by have := hwW.out; omega, by have := hgL.out; have := hLW.out; omega, by have := hLW.out; omega⟩⟩)
      have HK6 := hid (show Kp No w (w5.setCells L (k * 2) [(.int .i64 q0 : Value), .slice A5 (nxP rest e (q1 : Int)).length c5]) from (KD.out.step K5.out fun i hi h => by have := hgw.out; unfold Only at h; omega).step K6.out fun i hi h => by have := hwL.out; unfold Only at h; omega)
      have HR6 := hid (show Rd (w5.setCells L (k * 2) [(.int .i64 q0 : Value), .slice A5 (nxP rest e (q1 : Int)).length c5]) g (nxR rest e (q1 : Int)) (nxE rest e (q1 : Int)) from R5.out.kpg K6.out fun i hi h => by have := hgL.out; unfold Only at h; omega)
      have HS6 := hid (show ∀ s ∈ ss ++ [(Sv.mk q0 A5 c5 (nxP rest e (q1 : Int)))], SvOk (w5.setCells L (k * 2) [(.int .i64 q0 : Value), .slice A5 (nxP rest e (q1 : Int)).length c5]) (fun i => w.heap.size ≤ i ∧ i ≠ g ∧ i ≠ L) s from fun s hs => by
        rcases List.mem_append.1 hs with h | h
        · exact ((OD.out s h).kp K5.out fun i hi h => hi.2.1 h).kp K6.out fun i hi h => hi.2.2 h
        · rw [List.mem_singleton.1 h]
          exact SN.out.kp K6.out fun i hi h => hi.2.2 h)
      have HM6 := hid (show (ss ++ [(Sv.mk q0 A5 c5 (nxP rest e (q1 : Int)))]).map Sv.k = (ents xs (k + 1)).map En.k by
        rw [List.map_append, HKS.out, ents_snoc, List.map_append, List.map_singleton, List.map_singleton, HE0.out])
      have HT6 := hid (HST.out.step HSL.out (Sv.mk q0 A5 c5 (nxP rest e (q1 : Int))) (by rw [HE1.out]))
      rw [HE1.out] at HT6
      have HL6 := hid (Nat.le_trans (nxR_len rest e (q1 : Int)) HRE.out)
      clear c0 c1 f0 f1 F6
      go_upto_region 7 with fail
      go_wp2
      go_roundw
      case rel => exact ⟨k + 1, by omega, by go_num, hid ⟨_, _, _, HF6.out, HR6.out, HK6.out, HF6.out.lt, HM6.out, HS6.out, HT6.out, HL6.out⟩⟩
      case measure => simp [intOf]; omega
    · have hkk : k = m := by omega
      subst hkk
      clear HI hkm hk
      have hsl : ss.length = k := by have := congrArg List.length hks; simpa [ents] using this
      have HSL := hid hsl
      have HPs := hid (show Ps wr (fun i => w.heap.size ≤ i) (.slice (some ⟨L, 0, none⟩) k k) ss from ⟨fil.rw hsl (by unfold maxLen; omega) hw1, fun s hs => ⟨(hok s hs).k, (hok s hs).b.mono fun i _ h => h.1⟩⟩)
      have HRK := hid (risen_kinds_eq ss (ents xs k) 0 (Int.le_refl 0) hks (kinds_top HBS.out hks))
      have RR := hid rd
      have KK := hid kp
      have HKS := hid hks
      have HST := hid hst
      clear fil rd kp hks hok hst hrl hsl hL hz2
      cases hkd : kinds 0 (ents xs k) with
      | false =>
        have HKD := hid (HRK.out.trans hkd)
        have HU := hid (show unpRest xs k = (21, []) by unfold unpRest; rw [if_pos hkd])
        clear hkd
        go_wp2_with (first
          | (go_at_call 28
             refine (rise_any HPs.out).mono ?_
             rintro r w8 ⟨rfl, k8⟩
             rw [HKD.out]
             have K8 := hid (KK.out.trans k8)
             clear k8))
        go_ret2
        exact BodPost.bad HU.out K8.out
      | true =>
        have HKD := hid (HRK.out.trans hkd)
        have HK0 := hid (show ¬ kinds 0 (ents xs k) = false by rw [hkd]; decide)
        clear hkd
        rcases HST.out with ⟨rfl, h1, h2, h3⟩ | ⟨rfl, h1⟩
        · have h2l : rest.length = (xs.drop (13 + 7 * k)).length - total (ents xs k) := by rw [h2, List.length_drop]
          rw [List.length_drop] at h1 h2l
          by_cases hz : rest.length = 0
          · have HE0 := hid (show enE rest.length 0 = 0 by unfold enE; rw [if_pos rfl, if_pos hz])
            have H3 := hid h3
            have HUS := hid (unpRest_is HK0.out (by omega) (by omega))
            clear h1 h2 h2l h3 hz HST
            go_wp2_with (first
              | (go_at_call 28
                 refine (rise_any HPs.out).mono ?_
                 rintro r w8 ⟨rfl, k8⟩
                 rw [HKD.out]
                 have K8 := hid (KK.out.trans k8)
                 have R8 := hid (RR.out.kp k8 fun _ _ h => h)
                 have P8 := hid (HPs.out.kp0 k8)
                 clear k8)
              | (go_at_call 100
                 refine (end_any g rest 0 _ R8.out).mono ?_
                 rintro r w9 ⟨rfl, rfl⟩
                 rw [HE0.out]))
            have HB0 := hid (show bodU (ents xs 0) (xs.drop (13 + 7 * k)) = some ((ss.map sn).take 0) from rfl)
            go_loopw [46] (fun i w' => ∃ j : Nat, j ≤ k ∧ i = .int .i64 (j : Int) ∧ Hid (Kp No w8 w' ∧ bodU (ents xs j) (xs.drop (13 + 7 * k)) = some ((ss.map sn).take j))) (fun i _ => k - (intOf i).toNat)
            case atStart => exact ⟨0, Nat.zero_le _, rfl, hid ⟨Kp.refl _ _, HB0.out⟩⟩
            case round =>
              obtain ⟨j, hj, rfl, HJ⟩ := hrel
              by_cases hjk : j < k
              · have hki : (j : Int) < (k : Int) := by omega
                have hsum := wrapI (x := (j : Int) + 1) (by unfold I64; omega)
                have HJK := hid (show j < ss.length by rw [HSL.out]; exact hjk)
                obtain ⟨b, o, rfl, c0, c1, c2⟩ := (HR.out.kp0 (K8.out.trans HJ.out.1)).three (k := j) (by rw [HEL.out]; exact hjk)
                rw [ents_getD hjk] at c0 c1 c2
                obtain ⟨b', o', he, ok, d0, d1⟩ := (P8.out.kp0 HJ.out.1).at' (k := j) HJK.out
                cases he
                rw [Nat.zero_add] at d0 d1
                obtain ⟨nb, hnb⟩ : ∃ nb, (ss.getD j sv0).bl.length = nb := ⟨_, rfl⟩
                obtain ⟨B, bc, hbv, _, _⟩ := ok.form hnb
                have HBd := hid ok.b
                rw [hbv] at d1 HBd
                obtain ⟨q0, hq0⟩ : ∃ q, (entAt xs j).k = q := ⟨_, rfl⟩
                obtain ⟨q1, hq1⟩ : ∃ q, (entAt xs j).n = q := ⟨_, rfl⟩
                obtain ⟨z, hz⟩ : ∃ q, num (entAt xs j).c = q := ⟨_, rfl⟩
                obtain ⟨bl, hbl⟩ : ∃ q, (ss.getD j sv0).bl = q := ⟨_, rfl⟩
                obtain ⟨kd, hkd⟩ : ∃ q, (ss.getD j sv0).k = q := ⟨_, rfl⟩
                obtain ⟨q, hq⟩ : ∃ q, ck bl = q := ⟨_, rfl⟩
                have hcb : Bs (entAt xs j).c := fun y hy => HBS.out y (List.mem_of_mem_drop (List.mem_of_mem_take hy))
                have hc4 : (entAt xs j).c.length = 4 := by have := HLN.out; unfold entAt; simp; omega
                have hcw := ck_word (xs := bl) hcb hc4
                have hbat : bodAt xs k j = bl := by rw [← H3.out j hjk, hbl]
                have hkj : q0 = kd := by
                  have h1 : (ss.map Sv.k)[j]? = some kd := by rw [List.getElem?_map, List.getElem?_eq_getElem HJK.out, ← hkd]; simp [List.getD, HJK.out]
                  rw [HKS.out, List.getElem?_map] at h1
                  have h2 : (ents xs k)[j]? = some (entAt xs j) := by unfold ents; rw [List.getElem?_map, List.getElem?_range hjk]; rfl
                  rw [h2] at h1
                  rw [← hq0]
                  simpa using h1
                rw [hz, hq] at hcw
                rw [hq0] at c0
                rw [hq1] at c1
                rw [hz] at c2
                rw [hkd] at d0
                rw [hbl] at HBd
                have HQ := hid hq
                have HTJ := hid (HT.out.kp0 (K8.out.trans HJ.out.1))
                have HSN := hid (bodU_snoc (entAt xs j) (ents xs j) (xs.drop (13 + 7 * k)))
                have HBA := hid hbat
                have HQ0 := hid hq0
                have HKJ := hid hkj
                have HTK := hid (take_sn HJK.out)
                have HSB := hid (show sn (ss.getD j sv0) = ⟨kd, bl⟩ by unfold sn; rw [hkd, hbl])
                have HCW := hid hcw
                clear ok hnb hbv hq0 hq1 hz hbl hkd hq hcb hc4 hcw hbat hkj
                go_upto_region 16 with fail
                have KA := (Kp.refl No wr).alloc (.cells #[.int .i64 q0, .int .i64 (q1 : Int), .int .u32 z] 72)
                have B1 := Blk.new wr 72 #[.int .i64 q0, .int .i64 (q1 : Int), .int .u32 z]
                have d1' := (KA.cell (p := ⟨L, j * 2 + 1, none⟩) (World.block_lt_of_cell? wr _ d1) (fun h => h)).trans d1
                have K1 := hid (HJ.out.1.trans KA)
                have B2 := hid (HBd.out.kp0 KA)
                have T2 := hid (HTJ.out.kp0 KA)
                generalize wr.alloc (.cells #[.int .i64 q0, .int .i64 (q1 : Int), .int .u32 z] 72) = W at KA B1 d1' K1 B2 T2 ⊢
                generalize wr.heap.size = X at B1 ⊢
                have e1 : W.drew.cell? ⟨L, j * 2 + 1, none⟩ = some (.slice B nb bc) := d1'
                have e2 : W.drew.cell? ⟨X, 2, none⟩ = some (.int .u32 z) := B1.cell 2
                have KD := hid K1.out.drew
                have BD := hid (B2.out.kp0 (Kp.refl No _).drew)
                have TD := hid (T2.out.kp0 (Kp.refl No _).drew)
                refine region_still (by kernel_rfl) (by kernel_rfl) ?_
                clear KA B1 d1' K1 B2 T2 d0 d1 c0 c1 c2
                generalize W.drew = W1 at e1 e2 KD BD TD ⊢
                repeat still_step
                have HOF := flp (of_any (.slice B nb bc) bl W1 BD.out TD.out)
                rw [HQ.out] at HOF
                still_call HOF
                clear HOF
                by_cases hzq : z = (q : Int)
                · have hne : ((q : Int) != z) = false := by rw [bne_eq_false_iff_eq]; exact hzq.symm
                  have HBJ := hid (show bodU (ents xs (j + 1)) (xs.drop (13 + 7 * k)) = some ((ss.map sn).take (j + 1)) by
                    rw [ents_snoc, HSN.out, HJ.out.2, Option.bind_some, if_pos, HTK.out, HSB.out, HQ0.out, HKJ.out]
                    · have := HBA.out
                      unfold bodAt at this
                      rw [this]
                    · have := HBA.out
                      unfold bodAt at this
                      rw [this]
                      exact (HCW.out.1 hzq).symm)
                  clear hzq
                  repeat still_step
                  refine wpStill_nil ?_
                  clear e1 e2
                  go_wp2
                  go_roundw
                  case rel => exact ⟨j + 1, by omega, by go_num, hid ⟨KD.out, HBJ.out⟩⟩
                  case measure => simp [intOf]; omega
                · have hne : ((q : Int) != z) = true := by rw [bne_iff_ne]; exact fun h => hzq h.symm
                  have HBJ := hid (show unpRest xs k = (4, []) by
                    refine HUS.out.1 (bodU_up (k := j + 1) ?_ (by omega))
                    rw [ents_snoc, HSN.out, HJ.out.2, Option.bind_some, if_neg]
                    have := HBA.out
                    unfold bodAt at this
                    rw [this]
                    exact fun h => hzq (HCW.out.2 h.symm))
                  clear hzq
                  repeat still_step
                  refine wpStill_nil ?_
                  clear e1 e2
                  go_wp2
                  go_ret2
                  exact BodPost.bad HBJ.out (K8.out.trans KD.out)
              · have hjj : j = k := by omega
                subst hjj
                have HBJ := hid (show unpRest xs j = (0, ss.map sn) by
                  refine HUS.out.2 _ ?_
                  rw [HJ.out.2, List.take_of_length_le (by rw [List.length_map, HSL.out]; exact Nat.le_refl _)])
                go_wp2
                go_ret2
                exact ⟨_, ss, by rw [HBJ.out]; rfl, by rw [HBJ.out], P8.out.kp0 HJ.out.1, K8.out.trans HJ.out.1⟩
          · have HE0 := hid (show enE rest.length 0 = 3 by unfold enE; rw [if_pos rfl, if_neg hz])
            have HU := hid (show unpRest xs k = (3, []) by
              unfold unpRest
              rw [if_neg HK0.out, if_neg (by omega), if_pos (by omega)])
            clear h1 h2 h2l h3 hz HST
            go_wp2_with (first
              | (go_at_call 28
                 refine (rise_any HPs.out).mono ?_
                 rintro r w8 ⟨rfl, k8⟩
                 rw [HKD.out]
                 have K8 := hid (KK.out.trans k8)
                 have R8 := hid (RR.out.kp k8 fun _ _ h => h)
                 clear k8)
              | (go_at_call 100
                 refine (end_any g rest 0 _ R8.out).mono ?_
                 rintro r w9 ⟨rfl, rfl⟩
                 rw [HE0.out]))
            go_ret2
            exact BodPost.bad HU.out K8.out
        · have HE0 := hid (show enE rest.length 2 = 2 by unfold enE; rw [if_neg (by omega)])
          have HU := hid (show unpRest xs k = (2, []) by
            rw [List.length_drop] at h1
            unfold unpRest
            rw [if_neg HK0.out, if_pos h1])
          clear h1 HST
          go_wp2_with (first
            | (go_at_call 28
               refine (rise_any HPs.out).mono ?_
               rintro r w8 ⟨rfl, k8⟩
               rw [HKD.out]
               have K8 := hid (KK.out.trans k8)
               have R8 := hid (RR.out.kp k8 fun _ _ h => h)
               clear k8)
            | (go_at_call 100
               refine (end_any g rest 2 _ R8.out).mono ?_
               rintro r w9 ⟨rfl, rfl⟩
               rw [HE0.out]))
          go_ret2
          exact BodPost.bad HU.out K8.out
end
end Go.Proofs.YtggmdgdgljlddaaGreatDoor

/-
  Contracts of the program's Unpack, and of the chapter's example.
-/
namespace Go.Proofs.YtggmdgdgljlddaaGreatDoor
open Go.RowKit

theorem unp_bad {xs : List Int} {x : Int} (h : (hd xs).2 = x) (h0 : x ≠ 0) : unp xs = (x, []) := by
  subst h
  unfold hd at h0 ⊢
  unfold unp
  by_cases h1 : xs.length < 9
  · rw [if_pos h1, if_pos h1]
  rw [if_neg h1] at h0
  rw [if_neg h1, if_neg h1]
  by_cases h2 : xs.take 4 ≠ [68, 80, 90, 49]
  · rw [if_pos h2, if_pos h2]
  rw [if_neg h2] at h0
  rw [if_neg h2, if_neg h2]
  by_cases h3 : (xs.drop 5).take 4 ≠ ck4 (xs.take 5)
  · rw [if_pos h3, if_pos h3]
  rw [if_neg h3] at h0
  rw [if_neg h3, if_neg h3]
  by_cases h4 : 16 < xs.getD 4 0
  · rw [if_pos h4, if_pos h4]
  rw [if_neg h4] at h0
  exact absurd rfl h0
theorem unp_good {xs : List Int} (hb : Bs xs) (h : (hd xs).2 = 0) : ∃ m : Nat, (hd xs).1 = (m : Int) ∧ m ≤ 16 ∧ 9 ≤ xs.length ∧
    unp xs = if xs.length < 13 + 7 * m then (2, []) else if (xs.drop (9 + 7 * m)).take 4 ≠ ck4 (xs.take (9 + 7 * m)) then (4, []) else unpRest xs m := by
  have g4 := getD_rg hb 4
  unfold hd at h ⊢
  unfold unp
  by_cases h1 : xs.length < 9
  · rw [if_pos h1] at h; simp at h
  rw [if_neg h1] at h
  rw [if_neg h1, if_neg h1]
  by_cases h2 : xs.take 4 ≠ [68, 80, 90, 49]
  · rw [if_pos h2] at h; simp at h
  rw [if_neg h2] at h
  rw [if_neg h2, if_neg h2]
  by_cases h3 : (xs.drop 5).take 4 ≠ ck4 (xs.take 5)
  · rw [if_pos h3] at h; simp at h
  rw [if_neg h3] at h
  rw [if_neg h3, if_neg h3]
  by_cases h4 : 16 < xs.getD 4 0
  · rw [if_pos h4] at h; simp at h
  rw [if_neg h4, if_neg h4]
  exact ⟨(xs.getD 4 0).toNat, by simp only; omega, by omega, by omega, rfl⟩

section
variable {w w' : World} {P S T : Nat → Prop} {v u : Value} {xs : List Int}
/-- What is unpacked, by the program: sections of its own. -/
def UPost (xs : List Int) (w : World) (e : Ending) (w' : World) : Prop :=
  ∃ u ss, e = .returned (.tuple #[u, .int .i64 (unp xs).1]) ∧ ss.map sn = (unp xs).2 ∧ Ps w' (fun i => w.heap.size ≤ i) u ss ∧ Kp No w w'
theorem UPost.bad {x : Int} (h : unp xs = (x, [])) (k : Kp No w w') : UPost xs w (.returned (.tuple #[.slice none 0 0, .int .i64 x])) w' :=
  ⟨.slice none 0 0, [], by rw [h], by rw [h]; rfl, ⟨Rw.nil _ _ _ _ _, fun s hs => by simp at hs⟩, k⟩
theorem Rw.up {α : Type} {n : Nat} {f : α → Nat → Value} {d : α} {Q : Nat → Prop} {ys : List α} (h : Rw n f d w P v ys) (hq : ∀ i, P i → Q i) : Rw n f d w Q v ys := by
  obtain ⟨A, c, rfl, hc, hm, hr⟩ := h
  refine ⟨A, c, rfl, hc, hm, fun h0 => ?_⟩
  obtain ⟨b, o, e, h1, h2, h3⟩ := hr h0
  exact ⟨b, o, e, h1, hq b h2, h3⟩
theorem Ps.up {Q : Nat → Prop} {ss : List Sv} (h : Ps w P v ss) (hq : ∀ i, P i → Q i) : Ps w Q v ss := ⟨h.rw.up hq, fun s hs => ⟨(h.ok s hs).k, (h.ok s hs).b.mono fun i _ hi => hq i hi⟩⟩

set_option maxRecDepth 100000 in
theorem unpack_any (ht : Tab w) (h : Byt w S v xs) (hl : xs.length ≤ 100000) : Calls Tryz.prog 21 #[v] w (UPost xs w) := by
  have HT := hid ht
  have HO := hid h
  have HL := hid hl
  have HB := hid (show Bs xs from h.bytes)
  obtain ⟨A, c, rfl, hrest⟩ := h
  obtain ⟨n, hn⟩ : ∃ n, xs.length = n := ⟨_, rfl⟩
  rw [hn] at HO ⊢
  clear hrest ht hl
  obtain ⟨a, ha⟩ : ∃ a, (hd xs).1 = a := ⟨_, rfl⟩
  obtain ⟨x, hx⟩ : ∃ a, (hd xs).2 = a := ⟨_, rfl⟩
  have HA := hid ha
  have HX := hid hx
  by_cases hx0 : x = 0
  · subst hx0
    obtain ⟨m, h1, h2, h3, h4⟩ := unp_good HB.out hx
    have ham : a = (m : Int) := by rw [← ha, h1]
    subst ham
    have H2 := hid h2
    have H3 := hid h3
    have H4 := hid h4
    clear ha hx h1 h2 h3 h4 hn
    go_enter Tryz.func21, Tryz.ntmps21
    go_upto_region 4 with (first
      | (go_at_call 57
         refine (readhead_any HT.out HO.out).mono ?_
         rintro e w1 ⟨rfl, k1⟩
         rw [HA.out, HX.out]
         have K1 := hid k1
         clear k1))
    go_wp2_with fail
    refine (readtable_any (m := m) (HT.out.kp0 K1.out) (HO.out.kp0 K1.out) H3.out H2.out).mono ?_
    rintro e w2 ⟨k2, ⟨g1, rfl⟩ | ⟨g1, g2, rfl⟩ | ⟨g1, g2, u, r, rfl, hu, hr⟩⟩
    · have HU := hid (show unp xs = (2, []) by rw [H4.out, if_pos g1])
      have K2 := hid (K1.out.trans k2)
      clear g1 k2
      go_wp2
      go_ret2
      exact UPost.bad HU.out K2.out
    · have HU := hid (show unp xs = (4, []) by rw [H4.out, if_neg g1, if_pos g2])
      have K2 := hid (K1.out.trans k2)
      clear g1 g2 k2
      go_wp2
      go_ret2
      exact UPost.bad HU.out K2.out
    · have HU := hid (show unp xs = unpRest xs m by rw [H4.out, if_neg g1, if_neg (fun h => h g2)])
      have K2 := hid (K1.out.trans k2)
      have G1 := hid g1
      have HUR := hid hu
      have HRR := hid hr
      clear g1 g2 k2 hu hr
      go_wp2_with (first
        | (go_at_call 59
           refine (readbodies_any (HT.out.kp0 K2.out) HB.out HUR.out HRR.out H2.out (by have := G1.out; omega) HL.out).mono ?_
           rintro e w3 ⟨u3, ss, rfl, hs, hp, k3⟩
           have HS := hid hs
           have HP := hid hp
           have K3 := hid k3
           clear hs hp k3))
      go_ret2
      exact ⟨u3, ss, by rw [HU.out]; rfl, by rw [HU.out]; exact HS.out, HP.out.up fun i hi => Nat.le_trans K2.out.size hi, K2.out.trans K3.out⟩
  · have hne : (x != 0) = true := by rw [bne_iff_ne]; exact hx0
    have HU := hid (unp_bad hx hx0)
    clear ha hx hx0 hn
    go_enter Tryz.func21, Tryz.ntmps21
    go_wp2_with (first
      | (go_at_call 57
         refine (readhead_any HT.out HO.out).mono ?_
         rintro e w1 ⟨rfl, k1⟩
         rw [HA.out, HX.out]
         have K1 := hid k1
         clear k1))
    go_ret2
    exact UPost.bad HU.out K1.out
end
end Go.Proofs.YtggmdgdgljlddaaGreatDoor

/-
  Contract of the chapter's example.
-/
namespace Go.Proofs.YtggmdgdgljlddaaGreatDoor
open Go.RowKit

def onl1 : List Sn := [⟨3, [7]⟩]
theorem can_nil : Can [] := ⟨by simp, rfl, fun s hs => by simp at hs⟩
theorem can_onl : Can onl1 := ⟨by decide, by decide, fun s hs => by
  rw [List.mem_singleton.1 hs]
  decide⟩
theorem image_nil : (image []).length = 13 ∧ (image []).getD 3 0 = 49 ∧ (image []).getD 4 0 = 0 := by
  refine ⟨by rw [image_len]; rfl, ?_, ?_⟩
  · unfold image front; rw [List.append_assoc, List.append_assoc, List.append_assoc]; rfl
  · unfold image front; rw [List.append_assoc, List.append_assoc, List.append_assoc]; rfl
theorem image_onl : (image onl1).length = 21 := by rw [image_len]; rfl

section
variable {w w' : World} {P S T : Nat → Prop} {v u : Value} {xs : List Int}
/-- Where bytes lie. -/
theorem Byt.spot {n : Nat} (h : Byt w P v xs) (hn : xs.length = n) (h0 : 0 < n) : ∃ b o c, v = .slice (some ⟨b, o, none⟩) n c ∧ n ≤ c ∧ c ≤ 9223372036854775807 ∧ ∀ j, j < n → w.cell? ⟨b, o + j, none⟩ = some (.int .u8 (xs.getD j 0)) := by
  subst hn
  obtain ⟨A, c, rfl, hc, hm, _, hr⟩ := h
  unfold maxLen at hm
  obtain ⟨b, o, rfl, _, _, hcell⟩ := hr h0
  exact ⟨b, o, c, rfl, hc, by omega, hcell⟩

end
end Go.Proofs.YtggmdgdgljlddaaGreatDoor

/-
  What the laws ask of Pack and Unpack, in one form.
-/
namespace Go.Proofs.YtggmdgdgljlddaaGreatDoor
open Go.RowKit

section
variable {w w' : World} {P S T : Nat → Prop} {v u : Value} {xs : List Int} {ss : List Sv}
/-- What is packed: bytes of the call's own, or what is wrong. -/
def PkPost (ss : List Sv) (w : World) (e : Ending) (w' : World) : Prop :=
  Kp No w w' ∧ ((Can (ss.map sn) ∧ ∃ u, e = .returned (.tuple #[u, .int .i64 0]) ∧ Own w' w.heap.size 5 u (image (ss.map sn))) ∨
    (∃ x : Int, wrong (ss.map sn) = x ∧ x ≠ 0 ∧ e = .returned (.tuple #[.slice none 0 0, .int .i64 x])))
theorem pack_any (ht : Tab w) (h : Ps w P v ss) : Calls Tryz.prog 14 #[v] w (PkPost ss w) := by
  by_cases hw : wrong (ss.map sn) = 0
  · have hC := (can_iff _).1 hw
    exact (pack_is ht h hC).mono fun e w' ⟨u, he, ho, hk⟩ => ⟨hk, .inl ⟨hC, u, he, ho⟩⟩
  · exact (pack_no h rfl hw).mono fun e w' ⟨he, hk⟩ => ⟨hk, .inr ⟨_, rfl, hw, he⟩⟩
theorem refpack_any (h : Ps w P v ss) : Calls Tryz.prog 20 #[v] w (PkPost ss w) := by
  by_cases hw : wrong (ss.map sn) = 0
  · have hC := (can_iff _).1 hw
    exact (rpack_is h hC).mono fun e w' ⟨u, he, ho, hk⟩ => ⟨hk, .inl ⟨hC, u, he, ho⟩⟩
  · exact (rpack_no h rfl hw).mono fun e w' ⟨he, n, hk⟩ => ⟨by rw [hk]; exact (Kp.refl No w).drewN n, .inr ⟨_, rfl, hw, he⟩⟩
theorem Can.no {l : List Sn} (h : Can l) {x : Int} (hw : wrong l = x) (h0 : x ≠ 0) : False := h0 (by rw [← hw]; exact (can_iff l).2 h)
/-- An image is short where its sections are of a size that is looked at. -/
theorem small_image (hS : Small ss) (hC : Can (ss.map sn)) : (image (ss.map sn)).length ≤ 1725 := by
  have h1 : ∀ l : List Sv, (∀ s ∈ l, s.bl.length ≤ 100) → ((l.map sn).map fun s => s.body.length).sum ≤ 100 * l.length := by
    intro l
    induction l with
    | nil => simp
    | cons s l ih =>
      intro h
      have h1 := h s (List.mem_cons_self ..)
      have h2 := ih fun x hx => h x (List.mem_cons_of_mem _ hx)
      simp only [List.map_cons, List.sum_cons, List.length_cons]
      have h3 : (sn s).body.length = s.bl.length := rfl
      omega
  have h2 := h1 ss fun s hs => by
    rcases hS.2 s hs with h | h
    · exact h
    · have := hC.long (sn s) (List.mem_map.2 ⟨s, hs, rfl⟩)
      have h3 : (sn s).body.length = s.bl.length := rfl
      omega
  have h3 := hC.len
  rw [image_len]
  rw [List.length_map] at h3 ⊢
  omega
theorem UnpPost.ps {u : Value} (how : Ow w' w.heap.size 36 2 pc u ss) (hok : ∀ s ∈ ss, SvOk w' S s) : Ps w' Anyb u ss := ⟨how.rw, fun s hs => ⟨(hok s hs).k, (hok s hs).b.mono fun _ _ _ => trivial⟩⟩
end
end Go.Proofs.YtggmdgdgljlddaaGreatDoor
