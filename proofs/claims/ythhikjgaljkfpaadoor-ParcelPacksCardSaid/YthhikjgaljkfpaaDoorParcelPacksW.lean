/-
  The walk of ParcelPacks.
-/
import Derived.Test.YthhikjgaljkfpaaDoorPLaw
namespace Go.Proofs.YthhikjgaljkfpaaDoor
open Go.RowKit

set_option maxHeartbeats 1000000 in
theorem parcelPacks_walk (w : World) (v : Value) (x : Int) {ss : List Sv} (ht : Tab w) (hv : Ps w Anyb v ss) (_ : -9223372036854775808 ≤ x ∧ x ≤ 9223372036854775807) (hl : ∀ s ∈ ss, s.bl.length ≤ 140737488355328) :
    Calls Tryd.prog 3 #[v, .int .i64 x] w fun e w' => e = .returned (.bool true) ∧ Kp No w w' := by
  have HT := hid ht
  have HO := hid hv
  have HL := hid hl
  clear ht hv hl
  go_enter Tryd.func3, Tryd.ntmps3
  go_upto_region 2 with (first
    | (go_at_call 9
       refine (pawake_any HT.out).mono ?_
       rintro e w1 ⟨rfl, k1⟩
       have K1 := hid k1
       clear k1))
  go_wp2_with fail
  refine (few_any (HO.out.kp0 K1.out)).mono ?_
  rintro e w2 ⟨q, rfl, rfl, _⟩
  cases q with
  | false =>
    go_wp2
    go_ret
    exact ⟨rfl, K1.out⟩
  | true =>
    go_wp2_with fail
    refine (pack_any (HT.out.kp0 K1.out) (HO.out.kp0 K1.out)).mono ?_
    rintro e w3 ⟨k3, hpa⟩
    have K3 := hid (K1.out.trans k3)
    have hpk : ∃ (u3 : Value) (ys : List Int) (y : Int), e = .returned (.tuple #[u3, .int .i64 y]) ∧ Byt w3 Anyb u3 ys ∧ ((Can (ss.map sn) ∧ ys = image (ss.map sn) ∧ y = 0) ∨ (wrong (ss.map sn) = y ∧ y ≠ 0 ∧ ys = [])) := by
      rcases hpa with ⟨hC, u, he, ho⟩ | ⟨y, h1, h2, he⟩
      · exact ⟨u, _, 0, he, ho.byt fun _ _ => trivial, .inl ⟨hC, rfl, rfl⟩⟩
      · exact ⟨_, [], y, he, Byt.nil _ _, .inr ⟨h1, h2, rfl⟩⟩
    clear hpa
    obtain ⟨u3, ys, y, rfl, hb3, hc3⟩ := hpk
    have HB3 := hid hb3
    have HC3 := hid hc3
    clear hb3 hc3 k3
    go_wp2_with fail
    refine (refpack_any (HO.out.kp0 K3.out)).mono ?_
    rintro e w4 ⟨k4, hpb⟩
    have hpk : ∃ u4, e = .returned (.tuple #[u4, .int .i64 y]) ∧ Byt w4 Anyb u4 ys := by
      rcases HC3.out with ⟨hC, rfl, rfl⟩ | ⟨h1, h2, rfl⟩
      · rcases hpb with ⟨_, u, he, ho⟩ | ⟨y', h1, h2, he⟩
        · exact ⟨u, he, ho.byt fun _ _ => trivial⟩
        · exact (hC.no h1 h2).elim
      · rcases hpb with ⟨hC, _⟩ | ⟨y', h1', h2', he⟩
        · exact (hC.no h1 h2).elim
        · obtain rfl : y' = y := by rw [← h1', h1]
          exact ⟨_, he, Byt.nil _ _⟩
    clear hpb
    obtain ⟨u4, rfl, hb4⟩ := hpk
    have HB4 := hid hb4
    have HB34 := hid (HB3.out.kp0 k4)
    have K4 := hid (K3.out.trans k4)
    have hyy : (y == y) = true := by simp
    clear hb4 k4 HC3 HB3 K3
    go_wp2_with fail
    refine (find_any (HO.out.kp0 K4.out) x HL.out).mono ?_
    rintro e w5 ⟨k5, hfa⟩
    have HB35 := hid (HB34.out.kp0 k5)
    have HB45 := hid (HB4.out.kp0 k5)
    have K5 := hid (K4.out.trans k5)
    have hf : ∃ (u5 : Value) (zs : List Int) (q : Bool), e = .returned (.tuple #[u5, .bool q]) ∧ Byt w5 Anyb u5 zs ∧ ((find (ss.map sn) x = some zs ∧ q = true) ∨ (find (ss.map sn) x = none ∧ q = false ∧ zs = [])) := by
      rcases hfa with ⟨u, z, he, ho, hf⟩ | ⟨he, hf⟩
      · exact ⟨u, z, true, he, ho.byt fun _ _ => trivial, .inl ⟨hf, rfl⟩⟩
      · exact ⟨_, [], false, he, Byt.nil _ _, .inr ⟨hf, rfl, rfl⟩⟩
    clear hfa
    obtain ⟨u5, zs, q, rfl, hb5, hc5⟩ := hf
    have HB5 := hid hb5
    have HC5 := hid hc5
    clear hb5 hc5 k5 HB34 HB4 K4
    go_wp2_with fail
    refine (reffind_any (HO.out.kp0 K5.out) x).mono ?_
    rintro e w6 ⟨rfl, hfb⟩
    have hf : ∃ u6, e = .returned (.tuple #[u6, .bool q]) ∧ Byt w6 Anyb u6 zs := by
      rcases HC5.out with ⟨h1, rfl⟩ | ⟨h1, rfl, rfl⟩
      · rcases hfb with ⟨u, z, he, ho, hf⟩ | ⟨he, hf⟩
        · rw [h1] at hf
          cases hf
          exact ⟨u, he, ho⟩
        · rw [h1] at hf
          cases hf
      · rcases hfb with ⟨u, z, he, ho, hf⟩ | ⟨he, hf⟩
        · rw [h1] at hf
          cases hf
        · exact ⟨_, he, Byt.nil _ _⟩
    clear hfb
    obtain ⟨u6, rfl, hb6⟩ := hf
    have HB6 := hid hb6
    have hqq : (q == q) = true := by simp
    clear hb6 HC5
    go_wp2_with fail
    refine (same_bool (q := true) HB35.out HB45.out (decide_eq_true rfl)).mono ?_
    rintro e w7 ⟨rfl, n7, rfl⟩
    have HB57 := hid (HB5.out.kp0 ((Kp.refl No w6).drewN n7))
    have HB67 := hid (HB6.out.kp0 ((Kp.refl No w6).drewN n7))
    have K7 := hid (K5.out.drewN n7)
    generalize w6.drewN n7 = w7 at HB57 HB67 K7 ⊢
    clear HB5 HB6 HB35 HB45
    go_wp2_with fail
    refine (same_bool (q := true) HB57.out HB67.out (decide_eq_true rfl)).mono ?_
    rintro e w8 ⟨rfl, n8, rfl⟩
    have K8 := hid (K7.out.drewN n8)
    cases q with
    | false =>
      go_wp2
      go_ret
      exact ⟨rfl, K8.out⟩
    | true =>
      go_wp2
      go_ret
      exact ⟨rfl, K8.out⟩
end Go.Proofs.YthhikjgaljkfpaaDoor
