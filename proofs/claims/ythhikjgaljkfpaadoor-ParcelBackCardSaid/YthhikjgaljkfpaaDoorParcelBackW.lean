/-
  The walk of ParcelBack.
-/
import Derived.Test.YthhikjgaljkfpaaDoorPLaw
namespace Go.Proofs.YthhikjgaljkfpaaDoor
open Go.RowKit

theorem unp_err {xs : List Int} (h : (unp xs).1 ≠ 0) : (unp xs).2 = [] := by
  unfold unp at h ⊢
  split; · rfl
  split; · rfl
  split; · rfl
  split; · rfl
  simp only at h ⊢
  split; · rfl
  split; · rfl
  split; · rfl
  split; · rfl
  split; · rfl
  rename_i h1 h2 h3 h4 h5 h6 h7 h8 h9
  rw [if_neg h1, if_neg h2, if_neg h3, if_neg h4, if_neg h5, if_neg h6, if_neg h7, if_neg h8, if_neg h9] at h
  split
  · rfl
  · rename_i l hb
    rw [hb] at h
    exact absurd rfl h

set_option maxHeartbeats 2000000 in
theorem parcelBack_walk (w : World) (v u : Value) {ss : List Sv} {xs : List Int} (ht : Tab w) (hv : Ps w Anyb v ss) (hu : Byt w Anyb u xs) :
    Calls Tryd.prog 5 #[v, u] w fun e w' => e = .returned (.bool true) ∧ Kp No w w' := by
  have HT := hid ht
  have HO := hid hv
  have HB := hid hu
  obtain ⟨n, hn⟩ : ∃ n, xs.length = n := ⟨_, rfl⟩
  have HN := hid hn
  have HBS := hid (show Bs xs from hu.bytes)
  obtain ⟨A, c, rfl, hrest⟩ := hu
  rw [hn] at HB ⊢
  clear ht hv hrest hn
  go_enter Tryd.func5, Tryd.ntmps5
  go_upto_region 2 with (first
    | (go_at_call 9
       refine (pawake_any HT.out).mono ?_
       rintro e w1 ⟨rfl, k1⟩
       have K1 := hid k1
       clear k1))
  go_wp2_with fail
  refine (few_any (HO.out.kp0 K1.out)).mono ?_
  rintro e w2 ⟨q, rfl, rfl, hq⟩
  have HQ := hid hq
  clear hq
  cases q with
  | false =>
    go_wp2
    go_ret
    exact ⟨rfl, K1.out⟩
  | true =>
    have HSM := hid (HQ.out rfl)
    by_cases h6 : 600 < n
    · have g6 : (600 : Int) < (n : Int) := by omega
      go_wp2
      go_ret
      exact ⟨rfl, K1.out⟩
    have g6 : ¬ (600 : Int) < (n : Int) := by omega
    have H6 := hid (show xs.length ≤ 100000 by rw [HN.out]; omega)
    clear h6
    go_wp2_with fail
    refine (pack_any (HT.out.kp0 K1.out) (HO.out.kp0 K1.out)).mono ?_
    rintro e w3 ⟨k3, ⟨hC, u3, rfl, o3⟩ | ⟨y, h1, h2, rfl⟩⟩
    · have K3 := hid (K1.out.trans k3)
      have B3 := hid (o3.byt (P := Anyb) fun _ _ => trivial)
      have HC := hid hC
      clear hC o3 k3
      go_wp2_with fail
      refine (unpack_any (HT.out.kp0 K3.out) B3.out (by have := small_image HSM.out HC.out; omega)).mono ?_
      rintro e w4 ⟨u4, tt, rfl, hs, hp, k4⟩
      rw [unp_image HC.out] at hs
      rw [unp_image HC.out]
      have HS := hid hs
      have HP := hid hp
      have K4 := hid (K3.out.trans k4)
      clear hs hp k4
      go_wp2_with fail
      refine (ssame_any HP.out (HO.out.kp0 K4.out)).mono ?_
      rintro e w5 ⟨rfl, n5, rfl⟩
      rw [decide_eq_true HS.out]
      have K5 := hid (K4.out.drewN n5)
      generalize w4.drewN n5 = w5 at K5 ⊢
      obtain ⟨x, hx⟩ : ∃ x, (unp xs).1 = x := ⟨_, rfl⟩
      have HX := hid hx
      clear hx
      by_cases hx0 : x = 0
      · subst hx0
        go_wp2_with fail
        refine (unpack_any (HT.out.kp0 K5.out) (HB.out.kp0 K5.out) H6.out).mono ?_
        rintro e w6 ⟨u6, tt6, rfl, hs, hp, k6⟩
        rw [HX.out]
        have hun : unp xs = (0, (unp xs).2) := Prod.ext HX.out rfl
        obtain ⟨hC6, him⟩ := unp_zero HBS.out hun
        rw [← hs] at hC6 him
        have HC6 := hid hC6
        have HIM := hid him
        have HP6 := hid hp
        have K6 := hid (K5.out.trans k6)
        have HB6 := hid (HB.out.kp0 (K5.out.trans k6))
        clear hs hp k6 hC6 him hun
        go_wp2_with fail
        refine (pack_any (HT.out.kp0 K6.out) HP6.out).mono ?_
        rintro e w7 ⟨k7, ⟨hC, u7, rfl, o7⟩ | ⟨y7, h1, h2, rfl⟩⟩
        · have K7 := hid (K6.out.trans k7)
          have B7 := hid (o7.byt (P := Anyb) fun _ _ => trivial)
          have B6 := hid (HB6.out.kp0 k7)
          clear hC o7 k7
          go_wp2_with fail
          refine (same_bool (q := true) B7.out B6.out (decide_eq_true HIM.out)).mono ?_
          rintro e w8 ⟨rfl, n8, rfl⟩
          have K8 := hid (K7.out.drewN n8)
          go_wp2
          go_ret
          exact ⟨rfl, K8.out⟩
        · exact (HC6.out.no h1 h2).elim
      · have hne : (x != 0) = true := by rw [bne_iff_ne]; exact hx0
        have HUE := hid (unp_err (xs := xs) (by rw [HX.out]; exact hx0))
        clear hx0
        go_wp2_with fail
        refine (unpack_any (HT.out.kp0 K5.out) (HB.out.kp0 K5.out) H6.out).mono ?_
        rintro e w6 ⟨u6, tt6, rfl, hs, hp, k6⟩
        rw [HX.out]
        rw [HUE.out] at hs
        obtain ⟨A6, c6, rfl, _, _⟩ := hp.form (n := 0) (by have := congrArg List.length hs; simpa using this)
        have K6 := hid (K5.out.trans k6)
        clear hs hp k6
        go_wp2
        go_ret
        exact ⟨rfl, K6.out⟩
    · have K5 := hid (K1.out.trans k3)
      have hne0 : (y == 0) = false := by rw [beq_eq_false_iff_ne]; exact h2
      clear h1 h2 k3
      obtain ⟨x, hx⟩ : ∃ x, (unp xs).1 = x := ⟨_, rfl⟩
      have HX := hid hx
      clear hx
      by_cases hx0 : x = 0
      · subst hx0
        go_wp2_with fail
        refine (unpack_any (HT.out.kp0 K5.out) (HB.out.kp0 K5.out) H6.out).mono ?_
        rintro e w6 ⟨u6, tt6, rfl, hs, hp, k6⟩
        rw [HX.out]
        have hun : unp xs = (0, (unp xs).2) := Prod.ext HX.out rfl
        obtain ⟨hC6, him⟩ := unp_zero HBS.out hun
        rw [← hs] at hC6 him
        have HC6 := hid hC6
        have HIM := hid him
        have HP6 := hid hp
        have K6 := hid (K5.out.trans k6)
        have HB6 := hid (HB.out.kp0 (K5.out.trans k6))
        clear hs hp k6 hC6 him hun
        go_wp2_with fail
        refine (pack_any (HT.out.kp0 K6.out) HP6.out).mono ?_
        rintro e w7 ⟨k7, ⟨hC, u7, rfl, o7⟩ | ⟨y7, h1, h2, rfl⟩⟩
        · have K7 := hid (K6.out.trans k7)
          have B7 := hid (o7.byt (P := Anyb) fun _ _ => trivial)
          have B6 := hid (HB6.out.kp0 k7)
          clear hC o7 k7
          go_wp2_with fail
          refine (same_bool (q := true) B7.out B6.out (decide_eq_true HIM.out)).mono ?_
          rintro e w8 ⟨rfl, n8, rfl⟩
          have K8 := hid (K7.out.drewN n8)
          go_wp2
          go_ret
          exact ⟨rfl, K8.out⟩
        · exact (HC6.out.no h1 h2).elim
      · have hne : (x != 0) = true := by rw [bne_iff_ne]; exact hx0
        have HUE := hid (unp_err (xs := xs) (by rw [HX.out]; exact hx0))
        clear hx0
        go_wp2_with fail
        refine (unpack_any (HT.out.kp0 K5.out) (HB.out.kp0 K5.out) H6.out).mono ?_
        rintro e w6 ⟨u6, tt6, rfl, hs, hp, k6⟩
        rw [HX.out]
        rw [HUE.out] at hs
        obtain ⟨A6, c6, rfl, _, _⟩ := hp.form (n := 0) (by have := congrArg List.length hs; simpa using this)
        have K6 := hid (K5.out.trans k6)
        clear hs hp k6
        go_wp2
        go_ret
        exact ⟨rfl, K6.out⟩
end Go.Proofs.YthhikjgaljkfpaaDoor
