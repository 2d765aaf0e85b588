/-
  The walk of ParcelSizes.
-/
import Derived.Test.YthhikjgaljkfpaaDoorPLaw
namespace Go.Proofs.YthhikjgaljkfpaaDoor
open Go.RowKit

/-- How many bytes so far. -/
def szTo (ss : List Sv) (k : Nat) : Nat := 13 + 7 * ss.length + (((ss.map sn).take k).map fun s => s.body.length).sum
theorem szTo_succ {ss : List Sv} {k : Nat} (h : k < ss.length) : szTo ss (k + 1) = szTo ss k + (ss.getD k sv0).bl.length := by
  unfold szTo
  rw [take_sn h, List.map_append, List.sum_append]
  simp [sn]
  omega
theorem szTo_all {ss : List Sv} : szTo ss ss.length = (image (ss.map sn)).length := by
  unfold szTo
  rw [image_len, List.take_of_length_le (by simp), List.length_map]
theorem szTo_bd {ss : List Sv} (h : Can (ss.map sn)) (k : Nat) : szTo ss k ≤ 1100000 := by
  have h1 := bods_to h k
  rw [bods_len] at h1
  have h2 := h.len
  rw [List.length_map] at h2
  unfold szTo
  omega

set_option maxHeartbeats 2000000 in
theorem parcelSizes_walk (w : World) (v u : Value) {ss tt : List Sv} (ht : Tab w) (hv : Ps w Anyb v ss) (hu : Ps w Anyb u tt) :
    Calls Tryd.prog 7 #[v, u] w fun e w' => e = .returned (.bool true) ∧ Kp No w w' := by
  have HT := hid ht
  have HO := hid hv
  have HV := hid hu
  obtain ⟨n, hn⟩ : ∃ n, ss.length = n := ⟨_, rfl⟩
  obtain ⟨A, c, rfl, hcn, hcm⟩ := hv.form hn
  have HN := hid hn
  clear ht hv hu hn
  go_enter Tryd.func7, Tryd.ntmps7
  go_upto_region 2 with (first
    | (go_at_call 9
       refine (pawake_any HT.out).mono ?_
       rintro e w1 ⟨rfl, k1⟩
       have K1 := hid k1
       clear k1))
  go_wp2_with fail
  refine (few_any (HO.out.kp0 K1.out)).mono ?_
  rintro e w2 ⟨q, rfl, rfl, _⟩
  go_wp2_with fail
  refine (few_any (HV.out.kp0 K1.out)).mono ?_
  rintro e w3 ⟨q', rfl, rfl, _⟩
  cases q with
  | false =>
    go_wp2
    go_ret
    exact ⟨rfl, K1.out⟩
  | true =>
    cases q' with
    | false =>
      go_wp2
      go_ret
      exact ⟨rfl, K1.out⟩
    | true =>
      go_wp2_with fail
      refine (pack_any (HT.out.kp0 K1.out) (HO.out.kp0 K1.out)).mono ?_
      rintro e w4 ⟨k4, ⟨hC, u4, rfl, o4⟩ | ⟨y, h1, h2, rfl⟩⟩
      · have K4 := hid (K1.out.trans k4)
        have B4 := hid (o4.byt (P := Anyb) fun _ _ => trivial)
        have HC := hid hC
        have h16 : n ≤ 16 := by have := hC.len; rw [List.length_map, HN.out] at this; exact this
        obtain ⟨ln, hln⟩ : ∃ ln, (image (ss.map sn)).length = ln := ⟨_, rfl⟩
        have HLN := hid hln
        obtain ⟨A4, c4, rfl⟩ := o4.formN hln
        have hlb : ln ≤ 1100000 := by rw [← hln, ← szTo_all]; exact szTo_bd hC _
        clear hC o4 k4 hln
        go_wp2_with fail
        refine (pack_any (HT.out.kp0 K4.out) (HV.out.kp0 K4.out)).mono ?_
        rintro e w5 ⟨k5, hpk⟩
        have hpk : ∃ (u5 : Value) (ys : List Int) (y : Int), e = .returned (.tuple #[u5, .int .i64 y]) ∧ Byt w5 Anyb u5 ys ∧ ((Can (tt.map sn) ∧ ys = image (tt.map sn) ∧ y = 0) ∨ y ≠ 0) := by
          rcases hpk with ⟨hC, u, he, ho⟩ | ⟨y, h1, h2, he⟩
          · exact ⟨u, _, 0, he, ho.byt fun _ _ => trivial, .inl ⟨hC, rfl, rfl⟩⟩
          · exact ⟨_, [], y, he, Byt.nil _ _, .inr h2⟩
        obtain ⟨u5, ys, y, rfl, hb5, hc5⟩ := hpk
        have HB5 := hid hb5
        have HC5 := hid hc5
        have B45 := hid (B4.out.kp0 k5)
        have K5 := hid (K4.out.trans k5)
        clear hb5 hc5 k5
        have a1 := wrapI (x := 7 * (n : Int)) (by unfold I64; omega)
        have a2 := wrapI (x := 13 + 7 * (n : Int)) (by unfold I64; omega)
        have H0 := hid (show 13 + 7 * (n : Int) = ((szTo ss 0 : Nat) : Int) by unfold szTo; rw [HN.out]; simp)
        go_wp2_with fail
        clear a1 a2
        go_loop [12, 13] (fun s i => ∃ k : Nat, k ≤ n ∧ i = .int .i64 (k : Int) ∧ s = .int .i64 ((szTo ss k : Nat) : Int)) (fun _ i => n - (intOf i).toNat)
        case atStart => exact ⟨0, Nat.zero_le _, rfl, by rw [← H0.out]⟩
        case round =>
          obtain ⟨k, hk, rfl, rfl⟩ := hrel
          by_cases hkn : k < n
          · have HK := hid (show k < ss.length by rw [HN.out]; exact hkn)
            obtain ⟨b, o, rfl, ok, c0, c1⟩ := (HO.out.kp0 K5.out).at' (k := k) HK.out
            obtain ⟨nb, hnb⟩ : ∃ nb, (ss.getD k sv0).bl.length = nb := ⟨_, rfl⟩
            obtain ⟨B, bc, hbv, _, _⟩ := ok.form hnb
            rw [hbv] at c1
            have hsz := szTo_succ HK.out
            have hb1 := szTo_bd HC.out (k + 1)
            rw [hnb] at hsz
            have HSZ := hid hsz
            obtain ⟨z, hz⟩ : ∃ z, szTo ss k = z := ⟨_, rfl⟩
            rw [hz] at hsz HSZ ⊢
            have hki : (k : Int) < (n : Int) := by omega
            have hsum := wrapI (x := (k : Int) + 1) (by unfold I64; omega)
            have hsum2 := wrapI (x := (z : Int) + (nb : Int)) (by unfold I64; omega)
            clear ok hnb hbv c0 hsz hb1 hz
            go_wp2
            go_round
            case rel => exact ⟨k + 1, by omega, by go_num, by rw [HSZ.out]; rfl⟩
            case measure => simp [intOf]; omega
          · have hkk : k = n := by omega
            subst hkk
            have hz : szTo ss k = ln := by rw [← HLN.out, ← szTo_all, HN.out]
            rw [hz]
            have hll : ((ln : Int) == (ln : Int)) = true := by simp
            clear hz
            rcases HC5.out with ⟨hC2, rfl, rfl⟩ | hy
            · have HIF := hid (show decide (image (ss.map sn) = image (tt.map sn)) = decide (ss.map sn = tt.map sn) from decide_eq_decide.2 ⟨image_inj HC.out hC2, fun h => by rw [h]⟩)
              clear hC2 HC5
              obtain ⟨q, hq⟩ : ∃ q, decide (ss.map sn = tt.map sn) = q := ⟨_, rfl⟩
              have HQ := hid hq
              have hqq : (q == q) = true := by simp
              clear hq
              go_wp2_with fail
              refine (same_bool (q := q) B45.out HB5.out (by rw [HIF.out, HQ.out])).mono ?_
              rintro e w6 ⟨rfl, n6, rfl⟩
              have K6 := hid (K5.out.drewN n6)
              generalize w5.drewN n6 = w6 at K6 ⊢
              go_wp2_with fail
              refine (ssame_any (HO.out.kp0 K6.out) (HV.out.kp0 K6.out)).mono ?_
              rintro e w7 ⟨rfl, n7, rfl⟩
              rw [HQ.out]
              have K7 := hid (K6.out.drewN n7)
              go_wp2
              go_ret
              exact ⟨rfl, K7.out⟩
            · have hne : (y != 0) = true := by rw [bne_iff_ne]; exact hy
              clear HC5
              go_wp2
              go_ret
              exact ⟨rfl, K5.out⟩
      · have K4 := hid (K1.out.trans k4)
        have hne0 : (y != 0) = true := by rw [bne_iff_ne]; exact h2
        clear h1 h2 k4
        go_wp2_with fail
        refine (pack_any (HT.out.kp0 K4.out) (HV.out.kp0 K4.out)).mono ?_
        rintro e w5 ⟨k5, ⟨hC, u5, rfl, o5⟩ | ⟨y5, h1, h2, rfl⟩⟩
        · have K5 := hid (K4.out.trans k5)
          clear hC o5 k5
          go_wp2
          go_ret
          exact ⟨rfl, K5.out⟩
        · have K5 := hid (K4.out.trans k5)
          clear h1 h2 k5
          go_wp2
          go_ret
          exact ⟨rfl, K5.out⟩
end Go.Proofs.YthhikjgaljkfpaaDoor
