/-
  The walk of LoadEven.
-/
import Derived.Test.YtoeeighfjoplhaaLoEv
namespace Go.Proofs.Ytoeeighfjoplhaa
open Go.RowKit
/-- What becomes of a seat when moves are made. -/
theorem Mvs.at2 {on : Nat} {ss s : List St} {m : Nat} (h : Mvs on ss m s) (i : Nat) : (s.getD i st0).cs = (ss.getD i st0).cs ∧ ((s.getD i st0).core = (ss.getD i st0).core ∨ (s.getD i st0).core ∈ cl on 64) := by
  induction h with
  | none => exact ⟨rfl, .inl rfl⟩
  | @next m s p t _ h1 ih =>
    have hp := h1.pl
    refine ⟨by rw [mvS_cs hp]; exact ih.1, ?_⟩
    by_cases e : i = p
    · subst e
      rw [mvS_at hp]
      exact .inr (mem_cl.2 ⟨t, h1.t64, rfl, h1.ton⟩)
    · rw [mvS_ne e]
      exact ih.2
/-- The seats that the law lays, of the first k places. -/
def bl (xs bs : List Int) (k : Nat) : List St := (List.range k).map fun i : Nat => ⟨(i : Int) + 1, xs.getD ((bs.getD i 0).toNat % xs.length) 0, 18446744073709551615⟩
theorem bl_len (xs bs : List Int) (k : Nat) : (bl xs bs k).length = k := by simp [bl]
theorem bl_succ (xs bs : List Int) (k : Nat) : bl xs bs (k + 1) = bl xs bs k ++ [⟨(k : Int) + 1, xs.getD ((bs.getD k 0).toNat % xs.length) 0, 18446744073709551615⟩] := by
  unfold bl
  rw [List.range_succ, List.map_append]
  rfl
theorem bl_at (xs bs : List Int) {k i : Nat} (h : i < k) : (bl xs bs k).getD i st0 = ⟨(i : Int) + 1, xs.getD ((bs.getD i 0).toNat % xs.length) 0, 18446744073709551615⟩ := by
  simp [bl, List.getD, h]
theorem getD_in {xs : List Int} {j : Nat} (h : j < xs.length) : xs.getD j 0 ∈ xs := by
  rw [List.getD_eq_getElem?_getD, List.getElem?_eq_getElem h]
  exact List.getElem_mem h
theorem seat_row (w : World) (e : TypeId) (x y : Int) (z : Nat) : Rw 3 sc st0 (w.alloc (.cells #[.int .i64 x, .int .i64 y, .int .u64 (z : Int)] e)) Anyb (.slice (some ⟨w.heap.size, 0, none⟩) 1 1) [⟨x, y, z⟩] :=
  ⟨some ⟨w.heap.size, 0, none⟩, 1, rfl, by simp, by simp [maxLen], fun _ => ⟨w.heap.size, 0, rfl, by simp, trivial, fun j i hj hi => by
    have : j = 0 := by simpa using hj
    subst this
    match i, hi with
    | 0, _ => simp [sc]
    | 1, _ => simp [sc]
    | 2, _ => simp [sc]⟩⟩
/-- What is true of the seats behind Settle. -/
structure Evn (on N : Nat) (l : List St) : Prop where
  len : l.length = N
  sum : sumL (cn l N) (cl on 64) = N
  ev : ∀ x ∈ cl on 64, ∀ y ∈ cl on 64, cn l N x ≤ cn l N y + 1
  le : ∀ x, cn l N x ≤ N
theorem evn_of {on N m : Nat} {ss l : List St} (hl : ss.length = N) (hc : ∀ i, i < N → (ss.getD i st0).core ∈ cl on 64 ∧ (ss.getD i st0).cs = 18446744073709551615) (hm : Mvs on ss m l) (h0 : Mv0 on l) : Evn on N l := by
  have h1 : l.length = N := hm.len.trans hl
  have h2 : ∀ i, i < N → (l.getD i st0).core ∈ cl on 64 := fun i hi => by
    rcases (hm.at2 i).2 with e | e
    · rw [e]; exact (hc i hi).1
    · exact e
  refine ⟨h1, sumL_cn N (by omega) h2, fun x hx y hy => ?_, fun x => by unfold cn; exact plcs_len _ _ _⟩
  obtain ⟨a, ha, rfl, hao⟩ := mem_cl.1 hx
  obtain ⟨b, hb, rfl, hbo⟩ := mem_cl.1 hy
  have := even_any h0 (fun i hi g hg => by
    rw [(hm.at2 i).1, (hc i (by omega)).2]
    rw [show (18446744073709551615 : Nat) = 2 ^ 64 - 1 by decide, Nat.testBit_two_pow_sub_one]
    simpa using hg) ha hb hao hbo
  rw [← cn_cnt, ← cn_cnt, h1] at this
  exact this
set_option maxRecDepth 100000 in
set_option maxHeartbeats 4000000 in
theorem loadEven_walk (w : World) (v : Value) (s : Int) {bs : List Int} (hb : Byt w Anyb v bs) (hs : 0 ≤ s ∧ s ≤ 18446744073709551615) :
    Calls Try.prog 7 #[v, .int .u64 s] w fun e w' => e = .returned (.bool true) ∧ Kp No w w' := by
  obtain ⟨s, rfl⟩ : ∃ k : Nat, s = (k : Int) := ⟨s.toNat, by omega⟩
  have HS := hid (show U64 s from show s < 18446744073709551616 by omega)
  have HB := hid hb
  obtain ⟨A, c, rfl, _⟩ := id hb
  clear hb hs
  go_enter Try.func7, Try.ntmps7
  go_upto_region 2 with (go_at_call 9; refine (awake_any _).mono ?_; rintro e w1 ⟨rfl, k1⟩; have K1 := hid k1; clear k1)
  obtain ⟨N, hN⟩ : ∃ N, bs.length = N := ⟨_, rfl⟩
  obtain ⟨n, hn⟩ : ∃ n, (cl s 64).length = n := ⟨_, rfl⟩
  have HNb := hid hN
  have HNn := hid hn
  rw [hN]
  go_upto_region 3 with (go_at_call 23; refine (rall_any HS.out).mono ?_; rw [HNn.out]; rintro e w2 ⟨b, cc, rfl, r2, g2, k2⟩; unfold gsl; have R2 := hid r2; have G2 := hid g2; have K2 := hid (K1.out.trans k2); clear r2 g2 k2)
  clear hN hn
  by_cases h1 : (40 : Int) < (N : Int)
  · go_wp2_with fail
    go_ret
    exact ⟨rfl, K2.out⟩
  by_cases h2 : n = 0
  · subst h2
    go_wp2_with fail
    go_ret
    exact ⟨rfl, K2.out⟩
  have gn0 : ((n : Int) == 0) = false := by simp; omega
  obtain ⟨q, hq⟩ : ∃ q, b = some q := by
    cases b with
    | none => have := R2.out.none_nil.1; omega
    | some q => exact ⟨q, rfl⟩
  subst hq
  have hga : ga (some q) = some ⟨q, 0, none⟩ := rfl
  rw [hga]
  have HN := hid (show N ≤ 40 by omega)
  have Hn := hid (show 0 < n by omega)
  have Hn64 := hid (show n ≤ 64 from by have := cl_len s 64; have := HNn.out; omega)
  clear K1
  go_wp2_with fail
  clear h1 h2
  obtain ⟨base, hbase⟩ : ∃ q, w2.heap.size = q := ⟨_, rfl⟩
  have HBS := hid hbase
  clear hbase
  go_loopw [7, 8] (fun u v wr => ∃ (k : Nat) (D : Option Addr) (d : Nat), u = .slice D k d ∧ v = .int .i64 (k : Int) ∧ k ≤ N ∧ Hid (Ow wr base 38 3 sc (.slice D k d) (bl (cl s 64) bs k)) ∧ Hid (Kp No w2 wr)) (fun _ v _ => N - (vNum v).toNat)
  case atStart => exact ⟨0, none, 0, rfl, rfl, Nat.zero_le _, hid (Ow.nil _ _ _ _ _), hid (Kp.refl _ _)⟩
  case round =>
    obtain ⟨k, D, d, rfl, rfl, hk, HO, HK⟩ := hrel
    have hN := HN.out
    have wk := wrapI (x := (k : Int) + 1) (by unfold I64; omega)
    by_cases hlt : k < N
    · have glt : (k : Int) < (N : Int) := by omega
      obtain ⟨A', c', e0, _, _, hz, hr⟩ := HB.out.kp0 (K2.out.trans HK.out)
      injection e0 with e1 e2 e3
      subst e1 e3
      obtain ⟨ba, oa, rfl, hba, _, hcell⟩ := hr (by have := HNb.out; omega)
      have q0 := hcell k (by have := HNb.out; omega)
      have hz := hz _ (getD_in (xs := bs) (j := k) (by have := HNb.out; omega))
      have HSC := hid (bl_succ (cl s 64) bs k)
      obtain ⟨z, hzz⟩ : ∃ z, bs.getD k 0 = z := ⟨_, rfl⟩
      rw [hzz] at q0 hz HSC
      obtain ⟨z, rfl⟩ : ∃ z' : Nat, z = (z' : Int) := ⟨z.toNat, by omega⟩
      rw [HNn.out, Int.toNat_natCast] at HSC
      have hjn : z % n < n := Nat.mod_lt _ Hn.out
      have hrem : ((z : Nat) : Int).tmod (n : Int) = ((z % n : Nat) : Int) := rfl
      have q1 := (R2.out.kp0 HK.out).cell (j := z % n) (by rw [HNn.out]; exact hjn)
      obtain ⟨j, hj⟩ : ∃ j, z % n = j := ⟨_, rfl⟩
      rw [hj] at hjn hrem q1 HSC
      obtain ⟨x, hx⟩ : ∃ x, (cl s 64).getD j 0 = x := ⟨_, rfl⟩
      rw [hx] at q1 HSC
      have gjn : (j : Int) < (n : Int) := by omega
      have wz := wrapI (x := (z : Int)) (by unfold I64; omega)
      have wj := wrapI (x := (j : Int)) (by unfold I64; have := Hn64.out; omega)
      clear hzz hj hx hcell hr hz
      go_wp2_with (refine wp_apps usS (fun x i => sc_one x i) rfl (.tmp 34) (.tmp 49) rfl (f := sc) (d := st0) (base := base) (xs := bl (cl s 64) bs k) (ys := [⟨(k : Int) + 1, x, 18446744073709551615⟩]) (Pb := Anyb) (by exact HO.out.kp0 ((Kp.refl No _).alloc _)) (by exact seat_row _ _ _ _ 18446744073709551615) (by rw [bl_len]; simp only [List.length_singleton]; omega) (by rw [bl_len]; simp only [List.length_singleton, maxLen]; omega) (by rw [World.size_alloc]; have := HK.out.size; have := HBS.out; omega) ?_
                   intro v6 w6 o6 k6
                   obtain ⟨D6, d6, e6⟩ : ∃ A d, v6 = .slice A (k + 1) d := by
                     obtain ⟨A, d, e, _⟩ := o6.rw (d := st0)
                     exact ⟨A, d, by rw [e, List.length_append, bl_len]; rfl⟩
                   subst e6
                   have O6 := hid o6
                   have K6 := hid ((HK.out.trans ((Kp.refl No _).alloc (.cells #[.int .i64 ((k : Int) + 1), .int .i64 x, .int .u64 18446744073709551615] 38))).step k6 fun i hi e => by have := HBS.out; omega)
                   clear o6 k6)
      go_roundw
      case rel => exact ⟨k + 1, D6, d6, rfl, by go_num, by omega, hid (by rw [HSC.out]; exact O6.out), K6⟩
      case measure => simp [vNum] <;> omega
    · obtain rfl : k = N := by omega
      have glt : ¬ (k : Int) < (k : Int) := by omega
      have HRW := hid (HO.out.rw (d := st0))
      have HLN := hid (bl_len (cl s 64) bs k)
      have HCC := hid (show ∀ i, i < k → ((bl (cl s 64) bs k).getD i st0).core ∈ cl s 64 ∧ ((bl (cl s 64) bs k).getD i st0).cs = 18446744073709551615 from fun i hi => by
        rw [bl_at _ _ hi]
        exact ⟨getD_in (Nat.mod_lt _ (by have := HNn.out; have := Hn.out; omega)), rfl⟩)
      have HCS := hid (csAt_ok (ss := bl (cl s 64) bs k) fun t ht => by
        obtain ⟨i, _, rfl⟩ := List.mem_map.1 ht
        exact (show (18446744073709551615 : Nat) < 18446744073709551616 by decide))
      generalize bl (cl s 64) bs k = ss at HRW HLN HCC HCS
      clear HO
      go_upto_region 11 with (go_at_call 18; refine (settle_any HRW.out (by rw [HLN.out]; exact hN) HS.out HCS.out).mono ?_; rintro e w3 ⟨B, d3, m, l, rfl, hrw, hmv, hm0, k3⟩; rw [HLN.out] at hrw ⊢; have K3 := hid (HK.out.trans k3); have HL := hid hrw; have HE := hid (evn_of HLN.out HCC.out hmv hm0); clear k3 hrw hmv hm0)
      clear HRW HLN HCC HCS HK wk glt hlt hk
      go_wp2_with fail
      go_loopw [11, 12, 13, 14] (fun u11 u12 u13 u14 wr => ∃ (i a b t : Nat), u11 = .int .i64 (a : Int) ∧ u12 = .int .i64 (b : Int) ∧ u13 = .int .i64 (t : Int) ∧ u14 = .int .i64 (i : Int) ∧ i ≤ n ∧ Hid (t = sumL (cn l k) ((cl s 64).take i)) ∧ Hid ((i = 0 ∧ a = k ∧ b = 0) ∨ ∃ f g : Nat, f < n ∧ g < n ∧ a = cn l k ((cl s 64).getD f 0) ∧ b = cn l k ((cl s 64).getD g 0)) ∧ Hid (Kp No w2 wr) ∧ Hid (Kp No w3 wr)) (fun _ _ _ v _ => n - (vNum v).toNat)
      case atStart => exact ⟨0, k, 0, 0, rfl, rfl, rfl, rfl, Nat.zero_le _, hid rfl, hid (.inl ⟨rfl, rfl, rfl⟩), K3, hid (Kp.refl _ _)⟩
      case round =>
        obtain ⟨i, a, b, t, rfl, rfl, rfl, rfl, hi, HT, HM, HK, HK3⟩ := hrel
        clear K3
        have hn64 := Hn64.out
        have wi := wrapI (x := (i : Int) + 1) (by unfold I64; omega)
        by_cases hlt : i < n
        · have glt : (i : Int) < (n : Int) := by omega
          obtain ⟨j, hj64, hjx, hjo⟩ := mem_cl.1 (getD_in (xs := cl s 64) (j := i) (by have := HNn.out; omega))
          have q1 := (R2.out.kp0 HK.out).cell (j := i) (by have := HNn.out; omega)
          have hcc := HE.out.le ((cl s 64).getD i 0)
          have htk := take_snoc (cl s 64) i (by have := HNn.out; omega)
          have hts : sumL (cn l k) ((cl s 64).take (i + 1)) = t + cn l k ((cl s 64).getD i 0) := by
            rw [htk, sumL_app, ← HT.out]; rfl
          have hle : t + cn l k ((cl s 64).getD i 0) ≤ k := by
            have h1 := sumL_app (cn l k) ((cl s 64).take (i + 1)) ((cl s 64).drop (i + 1))
            rw [List.take_append_drop, HE.out.sum, hts] at h1
            omega
          have HG := hid (show ∃ x : Nat, cn l k ((cl s 64).getD i 0) = x ∧ x = cnt l j from ⟨_, rfl, by rw [hjx, ← cn_cnt, HE.out.len]⟩)
          obtain ⟨x, hx, hxj⟩ := HG.out
          have HX := hid hx
          have HLD := hid (fun (W : World) (kk : Kp No w2 W) (kl : Kp No w3 W) => rload_any (k := j) (HL.out.kp0 kl) (show l.length ≤ 1000000 by have := HE.out.len; omega))
          rw [hx] at hcc hts hle
          rw [← hxj] at HLD
          rw [hjx] at q1
          have HTS := hid hts
          have wt := wrapI (x := (t : Int) + (x : Int)) (by unfold I64; omega)
          clear hx hxj hjx htk hts HG
          have hN40 := HN.out
          go_wp2_with (go_at_call 24; refine (HLD.out _ HK.out HK3.out).mono ?_; rintro e w5 ⟨rfl, k5⟩; have K5 := hid (HK.out.trans k5); have K53 := hid (HK3.out.trans k5); clear k5)
          go_roundw
          case rel =>
            refine ⟨i + 1, min a x, max b x, t + x, congrArg (Value.int .i64) (by omega), congrArg (Value.int .i64) (by omega), by go_num, by go_num, by omega, hid HTS.out.symm, hid (.inr ?_), K5, K53⟩
            have hX := HX.out
            rcases HM.out with ⟨_, ha, hb0⟩ | ⟨f, g, hf, hg, ha, hb0⟩
            · exact ⟨i, i, hlt, hlt, by rw [hX]; omega, by rw [hX]; omega⟩
            · by_cases c1 : x < a
              · by_cases c2 : b < x
                · exact ⟨i, i, hlt, hlt, by rw [hX]; omega, by rw [hX]; omega⟩
                · exact ⟨i, g, hlt, hg, by rw [hX]; omega, by rw [← hb0]; omega⟩
              · by_cases c2 : b < x
                · exact ⟨f, i, hf, hlt, by rw [← ha]; omega, by rw [hX]; omega⟩
                · exact ⟨f, g, hf, hg, by rw [← ha]; omega, by rw [← hb0]; omega⟩
          case measure => simp [vNum] <;> omega
        · obtain rfl : i = n := by omega
          have glt : ¬ (i : Int) < (i : Int) := by omega
          have hba : b ≤ a + 1 := by
            rcases HM.out with ⟨h, _⟩ | ⟨f, g, hf, hg, ha, hb0⟩
            · have := Hn.out; omega
            · rw [ha, hb0]
              have := HNn.out
              exact HE.out.ev _ (getD_in (by omega)) _ (getD_in (by omega))
          have hbk : b ≤ k ∧ a ≤ k := by
            rcases HM.out with ⟨_, ha, hb0⟩ | ⟨f, g, hf, hg, ha, hb0⟩
            · omega
            · rw [ha, hb0]
              exact ⟨HE.out.le _, HE.out.le _⟩
          obtain rfl : t = k := by
            rw [HT.out, List.take_of_length_le (by have := HNn.out; omega), HE.out.sum]
          have hN40 := HN.out
          have wba := wrapI (x := (b : Int) - (a : Int)) (by unfold I64; omega)
          have gba : (b : Int) - (a : Int) ≤ 1 := by omega
          have gtt : ((t : Int) == (t : Int)) = true := by simp
          go_wp2_with fail
          go_ret
          exact ⟨rfl, K2.out.trans HK.out⟩
end Go.Proofs.Ytoeeighfjoplhaa
