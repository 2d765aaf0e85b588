/-
  The walk of SlotsPlays.
-/
import Derived.Test.YtgfkbkonelphaaaGreatDoorRdX
import Derived.Deep.CutBlock
import Derived.Deep.RegionHeld3
namespace Go.Proofs.YtgfkbkonelphaaaGreatDoor
open Go.RowKit

set_option maxHeartbeats 8000000 in
set_option maxRecDepth 100000 in
theorem slotsPlays_walk (w : World) (v : Value) (sec : Int) (ht : Tab w) {os : List Dop} (ho : Ops w Anyb v os) (hsec : 0 ≤ sec ∧ sec ≤ 255) :
    Calls Tryz.prog 3 #[.int .u8 sec, v] w fun e w' => e = .returned (.bool true) ∧ Kp No w w' := by
  have HT := hid ht
  have HO := hid ho.below
  obtain ⟨V, vc, rfl, hvc, hvm, _⟩ := ho.rw
  unfold maxLen at hvm
  obtain ⟨N, hN⟩ : ∃ N, os.length = N := ⟨_, rfl⟩
  have HN := hid hN
  rw [hN] at hvc HO ⊢
  obtain ⟨sn, rfl⟩ : ∃ i : Nat, sec = (i : Int) := ⟨sec.toNat, by omega⟩
  obtain ⟨n, hn⟩ : ∃ n, sn % 41 = n := ⟨_, rfl⟩
  have hmn : (sn : Int).tmod 41 = (n : Int) := by rw [Int.tmod_eq_emod_of_nonneg (by omega)]; omega
  have hn41 : n < 41 := by omega
  have hwn8 : IntKind.u8.wrap (n : Int) = (n : Int) := by rw [IntKind.wrap_u8]; omega
  have hwn := wrapI (x := (n : Int)) (by unfold I64; omega)
  clear ht ho hN hn
  go_enter Tryz.func3, Tryz.ntmps3
  go_upto_region 3 with (first
    | (go_at_call 4
       refine (awake_any w HT.out).mono ?_
       rintro e w1 ⟨rfl, k1⟩
       have K1 := hid k1
       have HO1 := hid (HO.out.kp k1 fun _ _ h => h)
       clear k1)
    | (go_at_call 5
       refine (few_any HO1.out).mono ?_
       rintro e w2 ⟨q0, rfl, rfl, hq0⟩
       have HQ0 := hid hq0
       clear hq0))
  cases q0 with
  | false =>
    go_wp2
    go_ret
    exact ⟨rfl, K1.out⟩
  | true =>
  have hn20 : N ≤ 20 := by have := (HQ0.out rfl).1; rw [HN.out] at this; exact this
  have HF := hid (show ∀ k, k < N → (os.getD k dop0).bl.length ≤ 400 from fun k hk => by
    have : k < os.length := by rw [HN.out]; exact hk
    rw [show os.getD k dop0 = os[k] by simp [List.getD, this]]
    exact ((HQ0.out rfl).2 _ (List.getElem_mem this)).1)
  clear HO1 HQ0
  go_upto_region 10 with (first
    | (go_at_call 6
       refine (newd_any (n : Int) _).mono ?_
       rintro e w3 ⟨g, b, m, rfl, D3, k3, hg, hb, hm⟩
       rw [show (dhold (n : Int) 512).toNat = n by unfold dhold; omega] at D3
       have HD3 := hid (show Dk w3 g b m (dsN n) from D3)
       have K3 := hid (K1.out.trans k3)
       have hlo : w.heap.size ≤ g ∧ w.heap.size ≤ b ∧ w.heap.size ≤ m := by have := K1.out.size; omega
       clear D3 k3 hg hb hm)
    | (go_at_call 7
       refine (rnew_any n (by omega) w3).mono ?_
       rintro e w4 ⟨g2, v0, v1, v2, vs, rfl, hg2, ni, k4⟩
       have NI4 := hid ni
       have HD4 := hid (HD3.out.kp0 k4)
       have K4 := hid (K3.out.trans k4)
       have HG2 := hid hg2
       clear ni k4 hg2))
  have LT3 := hid HD3.out.lts
  by_cases h0 : n = 0
  · subst h0
    have hv0 : v0 = .slice none 0 0 ∨ ∃ gg c, v0 = .slice (some ⟨gg, 0, none⟩) 0 c := by
      rcases NI4.out.ra.2 with ⟨h, _⟩ | ⟨gg, cap, cur, h, _⟩
      · exact .inl h
      · rw [NI4.out.len] at h
        exact .inr ⟨gg, cap, h⟩
    have d0 := NI4.out.hd.cell 0
    have hd0 : (dsN 0).k.length = 0 := by simp [dsN]
    rcases hv0 with rfl | ⟨gg, c, rfl⟩
    · go_wp2_with (first
        | (go_at_call 8
           refine (open_no HD4.out (by rw [hd0]; omega)).mono ?_
           rintro e w4 ⟨rfl, rfl⟩)
        | (go_at_call 9
           refine (ropen_nil d0).mono ?_
           rintro e w4 ⟨rfl, rfl⟩))
      go_ret
      exact ⟨rfl, K4.out⟩
    · go_wp2_with (first
        | (go_at_call 8
           refine (open_no HD4.out (by rw [hd0]; omega)).mono ?_
           rintro e w4 ⟨rfl, rfl⟩)
        | (go_at_call 9
           refine (ropen_nil d0).mono ?_
           rintro e w4 ⟨rfl, rfl⟩))
      go_ret
      exact ⟨rfl, K4.out⟩
  have hpos : 0 < n := by omega
  obtain ⟨kb, wb, ib, hrd, hkb, hwb, hib⟩ := NI4.out.rdk (Z := fun i => i = g ∨ i = b ∨ i = m) HG2.out hpos (by omega) (fun i hi e => by have := LT3.out; rcases e with e | e | e <;> omega)
  have RD4 := hid hrd
  clear hrd NI4 HD3
  by_cases h4 : n < 4
  · have hd0 : (dsN n).k.length = n := by simp [dsN]
    go_wp2_with (first
      | (go_at_call 8
         refine (open_no HD4.out (by rw [hd0]; exact h4)).mono ?_
         rintro e w4 ⟨rfl, rfl⟩)
      | (go_at_call 9
         refine (ropen_few RD4.out h4).mono ?_
         rintro e w4 ⟨rfl, rfl⟩))
    go_ret
    exact ⟨rfl, K4.out⟩
  have h4' : 4 ≤ n := by omega
  obtain ⟨hh, hhe⟩ : ∃ hh, (n - 2) / 2 = hh := ⟨_, rfl⟩
  have HHH := hid hhe
  clear hhe h4 h0
  go_upto_region 16 with (first
    | (go_at_call 8
       refine (open_is HD4.out (HT.out.kp0 K4.out) rfl (by simp [dsN]; omega)).mono ?_
       rintro e w5 ⟨q, rfl, hq5, s5, k5⟩
       have S5 := hid s5
       have RD5 := hid (RD4.out.more k5 hq5)
       have D5 := hid (HD4.out.kp0 k5)
       have K5 := hid (K4.out.trans k5)
       have LQ5 := hid (show w.heap.size ≤ q from Nat.le_trans K4.out.size hq5)
       have LT5 := hid (show g < w5.heap.size ∧ b < w5.heap.size ∧ m < w5.heap.size from D5.out.lts)
       have LS5 := hid (show q < w5.heap.size from (show Str w5 q g b m _ _ _ _ from s5).lt)
       clear s5 k5 hq5)
    | (go_at_call 9
       refine (ropen_is RD5.out rfl h4' (fun j hj e => by have := LT5.out; have := LS5.out; rcases e with (e | e | e) | e <;> omega)).mono ?_
       rintro e w6 ⟨q2, rfl, hq6, rd6, rs6, k6⟩
       have P6 := hid (show PI w.heap.size w6 (.pointer (some ⟨q, 0, none⟩)) (.pointer (some ⟨q2, 0, none⟩)) g b m hh g2 kb wb ib n from by
         rw [HHH.out] at rs6
         have hS := Sto.kp0 S5.out k6
         rw [show ((dsN n).k.length - 2) / 2 = hh by simpa [dsN] using HHH.out] at hS
         obtain ⟨_, l5, _⟩ := rs6.hd
         have hl6 := l5.lt
         have e1 := LT5.out
         have e2 := LS5.out
         have e3 := LQ5.out
         have e4 := k6.size
         have e5 := K5.out.size
         refine ⟨_, _, _, _, _, rfl, rfl, D5.out.kp0 k6, hS, rd6, rs6, fun i hi => ?_, fun j hj e => ?_, h4', HHH.out, fun e => ?_, fun i hi => ?_, fun i hi => ?_⟩
         · rcases hi with rfl | hi
           · exact .inl (.inr rfl)
           · exact .inl (.inl hi)
         · rcases e with ((e | e | e) | e) | e <;> omega
         · rcases e with e | e | e | e <;> omega
         · rcases hi with rfl | rfl | rfl | rfl <;> omega
         · rcases hi with (rfl | rfl | rfl | rfl) | rfl
           · have := HG2.out; have := K3.out.size; omega
           · have := K3.out.size; omega
           · have := K3.out.size; omega
           · have := K3.out.size; omega
           · omega)
       have K6 := hid (K5.out.trans k6)
       clear rd6 rs6 k6 hq6))
  clear S5 RD5 D5 K5 LQ5 LT5 LS5 HD4 K4 RD4 LT3 K3 K1
  go_wp2_with fail
  go_loopw [10, 12, 14] (fun vs vx i wr => ∃ k : Nat, k ≤ N ∧ i = .int .i64 (k : Int) ∧ Hid (PI w.heap.size wr vs vx g b m hh g2 kb wb ib n) ∧ Hid (Kp No w wr)) (fun _ _ i _ => N - (intOf i).toNat)
  case atStart => exact ⟨0, Nat.zero_le _, rfl, P6, K6⟩
  case round =>
    obtain ⟨k, hk, rfl, HPI, KP⟩ := hrel
    clear P6 K6
    obtain ⟨Z, q, q2, s, ⟨ra, rh, ri⟩, rfl, rfl, hP⟩ := HPI.out
    have PR := hid hP
    clear hP HPI
    by_cases hkn : k < N
    · have hkN : (k : Int) < (N : Int) := by omega
      have hwk := wrapI (x := (k : Int) + 1) (by unfold I64; omega)
      have HOw := HO.out.kp KP.out fun _ _ h => h
      obtain ⟨b0, o0, rfl, ok, hcell⟩ := HOw.at' (k := k) (by rw [HN.out]; exact hkn)
      have hb4 := HF.out k hkn
      generalize os.getD k dop0 = x at ok hcell hb4
      have c0 := hcell 0 (by omega)
      have c1 := hcell 1 (by omega)
      have c2 := hcell 2 (by omega)
      have c3 := hcell 3 (by omega)
      have c4 := hcell 4 (by omega)
      simp only [dc, Nat.add_zero] at c0 c1 c2 c3 c4
      obtain ⟨xd, xi, xn, xb, xbl, xk, xkl⟩ := x
      simp only at c0 c1 c2 c3 c4 hb4
      have okb : Byt wr (fun i => i < w.heap.size) xb xbl := ok.b
      have okk : Sl Value.bool false wr (fun i => i < w.heap.size) xk xkl := ok.k
      clear ok hcell HOw HF
      obtain ⟨bA, bc, rfl, hbc, hbm, _, _⟩ := id okb
      obtain ⟨kA, kc, rfl, _, _, _⟩ := id okk
      have OKB := hid okb
      have OKK := hid okk
      clear okb okk
      have LT1 := PR.out.lt1
      have LT2 := PR.out.lt2
      have PA := hid (PR.out.kp0 ((Kp.refl No wr).alloc (.cells #[.int .i64 xd, .int .i64 xi, .int .i64 xn, .slice bA xbl.length bc, .slice kA xkl.length kc] 39)))
      have KA := hid (KP.out.alloc (.cells #[.int .i64 xd, .int .i64 xi, .int .i64 xn, .slice bA xbl.length bc, .slice kA xkl.length kc] 39))
      have BA := hid (OKB.out.kp0 ((Kp.refl No wr).alloc (.cells #[.int .i64 xd, .int .i64 xi, .int .i64 xn, .slice bA xbl.length bc, .slice kA xkl.length kc] 39)))
      have CA := hid (OKK.out.kp ((Kp.refl No wr).alloc (.cells #[.int .i64 xd, .int .i64 xi, .int .i64 xn, .slice bA xbl.length bc, .slice kA xkl.length kc] 39)) fun _ _ _ h => h)
      have HB := hid (Blk.new wr 39 #[.int .i64 xd, .int .i64 xi, .int .i64 xn, .slice bA xbl.length bc, .slice kA xkl.length kc])
      go_upto_block 2 with fail
      generalize wr.alloc (.cells #[.int .i64 xd, .int .i64 xi, .int .i64 xn, .slice bA xbl.length bc, .slice kA xkl.length kc] 39) = wA at PA KA BA CA HB ⊢
      generalize wr.heap.size = ob at LT1 LT2 HB ⊢
      have HC := hid (show ∀ w', Kp (fun i => i ≠ ob) wA w' → w'.cell? ⟨ob, 0, none⟩ = some (.int .i64 xd) ∧ w'.cell? ⟨ob, 1, none⟩ = some (.int .i64 xi) ∧ w'.cell? ⟨ob, 2, none⟩ = some (.int .i64 xn) ∧ w'.cell? ⟨ob, 3, none⟩ = some (.slice bA xbl.length bc) ∧ w'.cell? ⟨ob, 4, none⟩ = some (.slice kA xkl.length kc) from fun w' k =>
        have hb := HB.out.kp k fun e => e rfl
        ⟨hb.cell 0, hb.cell 1, hb.cell 2, hb.cell 3, hb.cell 4⟩)
      have T1 := hid (show ∀ i, SB q g b m i → i ≠ ob from fun i e => Nat.ne_of_lt (LT1 i e))
      have T2 := hid (show ∀ i, RB g2 kb wb ib i ∨ i = q2 → i ≠ ob from fun i e => Nat.ne_of_lt (LT2 i e))
      have NBA := hid (Kp.refl (fun i => i ≠ ob) wA)
      clear LT1 LT2 HB PR OKB OKK c0 c1 c2 c3 c4
      obtain ⟨c0, c1, c2, c3, c4⟩ := HC.out _ NBA.out
      have HLo := hid hlo
      go_cut [10, 12, 16, 17, 18, 19, 20, 21] from 60 to 185 (fun vs vx va vb _ _ _ _ wx => ∃ cd : Int, va = .int .i64 cd ∧ vb = .int .i64 cd ∧ Hid (PI w.heap.size wx vs vx g b m hh g2 kb wb ib n) ∧ Hid (Kp No w wx))
      case first =>
        clear KP
        by_cases h1 : xd = 1
        · subst h1
          obtain ⟨⟨cd, s', r'⟩, hR⟩ : ∃ p, comR s hh (ra, rh, ri) xbl = p := ⟨_, rfl⟩
          have HR := hid hR
          clear hR

          go_wp2_with (first
            | (go_at_call 10
               refine (commit_any (a := ra) (has := rh) (img := ri) PA.out.dk PA.out.st (HT.out.kp0 KA.out) PA.out.two BA.out (by omega) (HT.out.ne HLo.out.1 HLo.out.2.1 HLo.out.2.2)).mono ?_
               intro e w3 hc
               rw [HR.out] at hc
               obtain ⟨rfl, k3, d3, s3⟩ := hc
               have P3 := hid (PA.out.prog k3 d3 s3)
               clear d3 s3
               have K3 := hid (KA.out.step k3 fun i hi e => by have := PA.out.lo1 i e; omega)
               have N3 := hid (NBA.out.trans (k3.mono fun i _ e => T1.out i e))
               have B3 := hid (BA.out.kp k3 fun i hi e => by have := PA.out.lo1 i e; omega)
               have C3 := hid (CA.out.kp k3 fun i _ hi e => by have := PA.out.lo1 i e; omega)
               clear k3 c0 c1 c2 c3 c4
               obtain ⟨c0, c1, c2, c3, c4⟩ := HC.out _ N3.out)
            | (go_at_call 11
               refine (rcommit_any (a := ra) (has := rh) (img := ri) P3.out.rd P3.out.rs h4' P3.out.z2 B3.out (fun i hi e => by have := P3.out.lo2 i hi; omega) (by omega)).mono ?_
               intro e w4 hc
               rw [HHH.out, HR.out] at hc
               obtain ⟨rfl, k4, d4, s4⟩ := hc
               have P4 := hid (P3.out.doc k4 d4 s4)
               clear d4 s4
               have K4 := hid (K3.out.step k4 fun i hi e => by have := P3.out.lo2 i e; omega)
               have N4 := hid (N3.out.trans (k4.mono fun i _ e => T2.out i e))
               clear k4 c0 c1 c2 c3 c4
               obtain ⟨c0, c1, c2, c3, c4⟩ := HC.out _ N4.out))

          go_meet
          exact ⟨cd, rfl, rfl, hid ⟨_, _, _, _, _, rfl, rfl, P4.out⟩, K4⟩
        have n1 : (xd == 1) = false := by simp [h1]
        by_cases h2 : xd = 2
        · subst h2
          obtain ⟨⟨cd, s', r'⟩, hR⟩ : ∃ p, delR s (ra, rh, ri) = p := ⟨_, rfl⟩
          have HR := hid hR
          clear hR

          go_wp2_with (first
            | (go_at_call 12
               refine (delete_any (a := ra) (has := rh) (img := ri) PA.out.dk PA.out.st (HT.out.kp0 KA.out) (by have := PA.out.two; omega)).mono ?_
               intro e w3 hc
               rw [HR.out] at hc
               obtain ⟨rfl, k3, d3, s3⟩ := hc
               have P3 := hid (PA.out.prog k3 d3 s3)
               clear d3 s3
               have K3 := hid (KA.out.step k3 fun i hi e => by have := PA.out.lo1 i e; omega)
               have N3 := hid (NBA.out.trans (k3.mono fun i _ e => T1.out i e))
               have B3 := hid (BA.out.kp k3 fun i hi e => by have := PA.out.lo1 i e; omega)
               have C3 := hid (CA.out.kp k3 fun i _ hi e => by have := PA.out.lo1 i e; omega)
               clear k3 c0 c1 c2 c3 c4
               obtain ⟨c0, c1, c2, c3, c4⟩ := HC.out _ N3.out)
            | (go_at_call 13
               refine (rdelete_any (a := ra) (has := rh) (img := ri) P3.out.rd P3.out.rs h4' P3.out.z2).mono ?_
               intro e w4 hc
               rw [HR.out] at hc
               obtain ⟨rfl, k4, d4, s4⟩ := hc
               have P4 := hid (P3.out.doc k4 d4 s4)
               clear d4 s4
               have K4 := hid (K3.out.step k4 fun i hi e => by have := P3.out.lo2 i e; omega)
               have N4 := hid (N3.out.trans (k4.mono fun i _ e => T2.out i e))
               clear k4 c0 c1 c2 c3 c4
               obtain ⟨c0, c1, c2, c3, c4⟩ := HC.out _ N4.out))

          go_meet
          exact ⟨cd, rfl, rfl, hid ⟨_, _, _, _, _, rfl, rfl, P4.out⟩, K4⟩
        have n2 : (xd == 2) = false := by simp [h2]
        by_cases h3 : xd = 3
        · subst h3
          go_wp2_with (first
            | (go_at_call 14
               refine (arm_any PA.out.dk xn).mono ?_
               rintro e w3 ⟨⟨v3, rfl⟩, k3', d3⟩
               have k3 : Kp (SB q g b m) wA w3 := k3'.mono fun i _ e => .inr (.inl e)
               have P3 := hid (PA.out.prog k3 d3 (show Sto w3 q g b m hh (ra, rh, ri) from Str.kpd PA.out.st k3' fun i e => .inl e))
               clear d3 k3'
               have K3 := hid (KA.out.step k3 fun i hi e => by have := PA.out.lo1 i e; omega)
               have N3 := hid (NBA.out.trans (k3.mono fun i _ e => T1.out i e))
               have B3 := hid (BA.out.kp k3 fun i hi e => by have := PA.out.lo1 i e; omega)
               have C3 := hid (CA.out.kp k3 fun i _ hi e => by have := PA.out.lo1 i e; omega)
               clear k3 c0 c1 c2 c3 c4
               obtain ⟨c0, c1, c2, c3, c4⟩ := HC.out _ N3.out)
            | (go_at_call 15
               refine (rarm_any P3.out.rd xn).mono ?_
               rintro e w4 ⟨⟨v4, rfl⟩, k4', d4⟩
               have k4 : Kp (fun i => RB g2 kb wb ib i ∨ i = q2) w3 w4 := k4'.mono fun i _ e => .inl (.inl e)
               have P4 := hid (P3.out.doc (r2' := (ra, rh, ri)) k4 d4 (P3.out.rs.kpd (k4'.mono fun i _ e => .inl e)))
               clear d4 k4'
               have K4 := hid (K3.out.step k4 fun i hi e => by have := P3.out.lo2 i e; omega)
               have N4 := hid (N3.out.trans (k4.mono fun i _ e => T2.out i e))
               clear k4 c0 c1 c2 c3 c4
               obtain ⟨c0, c1, c2, c3, c4⟩ := HC.out _ N4.out))

          go_meet
          exact ⟨0, rfl, rfl, hid ⟨_, _, _, _, _, rfl, rfl, P4.out⟩, K4⟩
        have n3 : (xd == 3) = false := by simp [h3]
        by_cases h4 : xd = 4
        · subst h4
          go_upto_region 39 with (first
            | (go_at_call 16
               refine (crash_any PA.out.dk CA.out (fun e => by have := PA.out.lo1 m (.inr (.inr (.inr rfl))); omega)).mono ?_
               rintro e w3 ⟨⟨v3, rfl⟩, k3', d3⟩
               have k3 : Kp (SB q g b m) wA w3 := k3'.mono fun i _ e => .inr e
               have P3 := hid (PA.out.prog k3 d3 (show Sto w3 q g b m hh (ra, rh, ri) from Str.kpd PA.out.st k3' fun i e => e))
               clear d3 k3'
               have K3 := hid (KA.out.step k3 fun i hi e => by have := PA.out.lo1 i e; omega)
               have N3 := hid (NBA.out.trans (k3.mono fun i _ e => T1.out i e))
               have B3 := hid (BA.out.kp k3 fun i hi e => by have := PA.out.lo1 i e; omega)
               have C3 := hid (CA.out.kp k3 fun i _ hi e => by have := PA.out.lo1 i e; omega)
               clear k3 c0 c1 c2 c3 c4
               obtain ⟨c0, c1, c2, c3, c4⟩ := HC.out _ N3.out)
            | (go_at_call 17
               refine (rcrash_any P3.out.rd C3.out (fun i hi e => by have := P3.out.lo2 i (.inl hi); omega)).mono ?_
               rintro e w4 ⟨⟨v4, rfl⟩, k4', d4⟩
               have k4 : Kp (fun i => RB g2 kb wb ib i ∨ i = q2) w3 w4 := k4'.mono fun i _ e => .inl e
               have P4 := hid (P3.out.doc (r2' := (ra, rh, ri)) k4 d4 (P3.out.rs.kpd (k4'.mono fun i _ e => e)))
               clear d4 k4'
               have K4 := hid (K3.out.step k4 fun i hi e => by have := P3.out.lo2 i e; omega)
               have N4 := hid (N3.out.trans (k4.mono fun i _ e => T2.out i e))
               clear k4 c0 c1 c2 c3 c4
               obtain ⟨c0, c1, c2, c3, c4⟩ := HC.out _ N4.out))

          have HOFF := hid (show off (crashed s xkl) = false from off_on rfl)

          go_wp2_with (first
            | (go_at_call 8
               refine (open_is P4.out.dk (HT.out.kp0 K4.out) HOFF.out (by have := P4.out.rd.len; omega)).mono ?_
               rintro e w5 ⟨q5, rfl, hq5, s5, k5⟩
               rw [show ((crashed s xkl).k.length - 2) / 2 = hh by rw [P4.out.rd.len]; exact HHH.out] at s5
               have P5 := hid (P4.out.reo1 K4.out.size hq5 k5 s5)
               have K5 := hid (K4.out.trans k5)
               clear s5 k5 hq5)
            | (go_at_call 9
               refine (ropen_is P5.out.rd HOFF.out h4' P5.out.z2).mono ?_
               rintro e w6 ⟨q6, rfl, hq6, d6, s6, k6⟩
               rw [HHH.out] at s6
               have P6 := hid (P5.out.reo2 K5.out.size hq6 k6 d6 s6)
               have K6 := hid (K5.out.trans k6)
               clear d6 s6 k6 hq6))
          go_meet
          exact ⟨0, rfl, rfl, hid ⟨_, _, _, _, _, rfl, rfl, P6.out⟩, K6⟩
        have n4 : (xd == 4) = false := by simp [h4]
        by_cases h5 : xd = 5
        · subst h5
          go_upto_region 39 with (first
            | (go_at_call 18
               refine (rotU_any (n := n) PA.out.dk PA.out.rd.len xi xn).mono ?_
               rintro e w3 ⟨⟨v3, rfl⟩, k3', d3⟩
               have k3 : Kp (SB q g b m) wA w3 := k3'.mono fun i _ e => .inr (.inr (.inl e))
               have P3 := hid (PA.out.prog k3 d3 (show Sto w3 q g b m hh (ra, rh, ri) from Str.kpd PA.out.st k3' fun i e => .inr (.inl e)))
               clear d3 k3'
               have K3 := hid (KA.out.step k3 fun i hi e => by have := PA.out.lo1 i e; omega)
               have N3 := hid (NBA.out.trans (k3.mono fun i _ e => T1.out i e))
               have B3 := hid (BA.out.kp k3 fun i hi e => by have := PA.out.lo1 i e; omega)
               have C3 := hid (CA.out.kp k3 fun i _ hi e => by have := PA.out.lo1 i e; omega)
               clear k3 c0 c1 c2 c3 c4
               obtain ⟨c0, c1, c2, c3, c4⟩ := HC.out _ N3.out)
            | (go_at_call 19
               refine (rrotU_any P3.out.rd P3.out.z2 xi xn).mono ?_
               rintro e w4 ⟨⟨v4, rfl⟩, k4', d4⟩
               have k4 : Kp (fun i => RB g2 kb wb ib i ∨ i = q2) w3 w4 := k4'.mono fun i _ e => .inl e
               have P4 := hid (P3.out.doc (r2' := (ra, rh, ri)) k4 d4 (P3.out.rs.kpd (k4'.mono fun i _ e => e)))
               clear d4 k4'
               have K4 := hid (K3.out.step k4 fun i hi e => by have := P3.out.lo2 i e; omega)
               have N4 := hid (N3.out.trans (k4.mono fun i _ e => T2.out i e))
               clear k4 c0 c1 c2 c3 c4
               obtain ⟨c0, c1, c2, c3, c4⟩ := HC.out _ N4.out))

          obtain ⟨s4, hs4⟩ : ∃ s4, rotU n s xi xn = s4 := ⟨_, rfl⟩
          rw [hs4] at P4
          clear hs4
          obtain ⟨oo, hoff⟩ : ∃ oo, off s4 = oo := ⟨_, rfl⟩
          have HOFF := hid hoff
          clear hoff
          cases oo with
          | false =>
            go_wp2_with (first
              | (go_at_call 8
                 refine (open_is P4.out.dk (HT.out.kp0 K4.out) HOFF.out (by have := P4.out.rd.len; omega)).mono ?_
                 rintro e w5 ⟨q5, rfl, hq5, s5, k5⟩
                 rw [show (s4.k.length - 2) / 2 = hh by rw [P4.out.rd.len]; exact HHH.out] at s5
                 have P5 := hid (P4.out.reo1 K4.out.size hq5 k5 s5)
                 have K5 := hid (K4.out.trans k5)
                 clear s5 k5 hq5)
              | (go_at_call 9
                 refine (ropen_is P5.out.rd HOFF.out h4' P5.out.z2).mono ?_
                 rintro e w6 ⟨q6, rfl, hq6, d6, s6, k6⟩
                 rw [HHH.out] at s6
                 have P6 := hid (P5.out.reo2 K5.out.size hq6 k6 d6 s6)
                 have K6 := hid (K5.out.trans k6)
                 clear d6 s6 k6 hq6))
            go_meet
            exact ⟨0, rfl, rfl, hid ⟨_, _, _, _, _, rfl, rfl, P6.out⟩, K6⟩
          | true =>
            go_wp2_with (first
              | (go_at_call 8
                 refine (open_off P4.out.dk HOFF.out (by have := P4.out.rd.len; omega)).mono ?_
                 rintro e w5 ⟨rfl, k5⟩
                 have P5 := hid (P4.out.kp0 k5)
                 have K5 := hid (K4.out.trans k5)
                 clear k5)
              | (go_at_call 9
                 refine (ropen_off P5.out.rd HOFF.out h4').mono ?_
                 rintro e w6 ⟨rfl, k6⟩
                 have P6 := hid (P5.out.kp0 k6)
                 have K6 := hid (K5.out.trans k6)
                 clear k6))
            go_meet
            exact ⟨0, rfl, rfl, hid ⟨_, _, _, _, _, rfl, rfl, P6.out⟩, K6⟩
        have n5 : (xd == 5) = false := by simp [h5]
        clear h1 h2 h3 h4 h5
        go_wp2
        go_meet
        exact ⟨0, rfl, rfl, hid ⟨_, _, _, _, _, rfl, rfl, PA.out⟩, KA⟩
      case rest =>
        obtain ⟨cd, rfl, rfl, HPI, KW⟩ := hcut
        clear PA KA BA CA HC T1 T2 NBA KP c0 c1 c2 c3 c4
        obtain ⟨Z', q', q2', s', ⟨ra', rh', ri'⟩, rfl, rfl, hP⟩ := HPI.out
        obtain ⟨iv, hbs, hyi⟩ := hP.rs.hd
        obtain ⟨ck', _, _, _, _, _, _, _, _, hck, _⟩ := hP.rd.cells
        have ecd : (cd != cd) = false := by simp
        have hh20 : hh ≤ 20 := by have := HHH.out; omega
        have hw64 := wrapI (x := 64 * (hh : Int)) (by unfold I64; omega)
        have hne1 : (((64 * hh : Nat) : Int) != 64 * (hh : Int)) = false := by simp
        have hne2 : (64 * (hh : Int) != 64 * (hh : Int)) = false := by simp
        have A3 := PJ.stepc (Kp.refl No wc).drew (hP.all (hbs.cell 3) hyi hck)
        have HP3 := hid A3.2.2.2.2.2
        have HY3 := hid A3.2.2.2.2.1
        have KD := hid KW.out.drew
        simp only at A3
        clear hP hbs hyi hck HPI KW HLo
        go_wp2_with fail
        go_region_held3 (fun w' => w'.cell? ⟨q2', 1, none⟩ = some (.int .i64 (ra' : Int)) ∧ w'.cell? ⟨q2', 2, none⟩ = some (.bool rh') ∧ w'.cell? ⟨q2', 3, none⟩ = some iv ∧ w'.cell? ⟨g2, 0, none⟩ = some (.slice (some ⟨kb, 0, none⟩) n ck') ∧ Byt w' (Nq Z' g2 kb wb ib) iv ri' ∧ PJ Z' w.heap.size w' q' g b m hh q2' g2 kb wb ib n s' (ra', rh', ri') s' (ra', rh', ri'))
          (first | exact A3 | exact PJ.stepd k11 A3 | exact PJ.stepd k12 (PJ.stepd k11 A3) | exact PJ.stepd k13 (PJ.stepd k12 (PJ.stepd k11 A3)))
          (first
            | (go_at_call 20; refine (lsame_any (r := (ra', rh', ri')) HP3.out.st HY3.out _ _).mono ?_; rintro e w11 ⟨rfl, k11⟩; rw [isThat_self]; have P11 := hid (HP3.out.kp0 k11); have K11 := hid (KD.out.trans k11))
            | (go_at_call 21; refine (room_any (show Str _ q' g b m hh ra' rh' ri' from P11.out.st)).mono ?_; rintro e w11 ⟨rfl, rfl⟩)
            | (go_at_call 22; refine (rhalf_any P11.out.rd h4').mono ?_; rintro e w11 ⟨rfl, rfl⟩; rw [HHH.out])
            | (go_at_call 24; refine (kept_any P11.out.dk).mono ?_; rintro e w12 ⟨v12, rfl, ks12, k12⟩; have KS12 := hid ks12.kr; have P12 := hid (P11.out.kp0 k12); have K12 := hid (K11.out.trans k12); clear ks12)
            | (go_at_call 23; refine (sameR_any KS12.out P12.out.rd).mono ?_; rintro e w13 ⟨rfl, n13, rfl⟩; have k13 := (Kp.refl No w12).drewN n13; have K13 := hid (K12.out.trans k13)))
        have P13 := hid (P12.out.kp0 k13)
        go_wp2_with fail
        go_roundw
        case rel => exact ⟨k + 1, by omega, by go_num, hid ⟨_, _, _, _, _, rfl, rfl, P13.out⟩, K13⟩
        case measure => simp [intOf]; omega
    · go_wp2
      go_ret
      exact ⟨rfl, KP.out⟩
end Go.Proofs.YtgfkbkonelphaaaGreatDoor
