/-
  The walk of ParcelFinds.
-/
import Derived.Test.YthhikjgaljkfpaaDoorPLaw
namespace Go.Proofs.YthhikjgaljkfpaaDoor
open Go.RowKit

def anyTo (ss : List Sv) (x : Int) (k : Nat) : Bool := (ss.take k).any fun s => s.k == x
theorem anyTo_succ {ss : List Sv} {x : Int} {k : Nat} (h : k < ss.length) : anyTo ss x (k + 1) = (anyTo ss x k || (ss.getD k sv0).k == x) := by
  unfold anyTo
  rw [List.take_add_one, List.any_append]
  simp [List.getD, h]
theorem anyTo_all {ss : List Sv} {x : Int} : anyTo ss x ss.length = (find (ss.map sn) x).isSome := by
  unfold anyTo
  rw [List.take_of_length_le (Nat.le_refl _)]
  cases hf : find (ss.map sn) x with
  | none =>
    rw [Option.isSome_none, List.any_eq_false]
    intro s hs h
    have h2 : (sn s).kind = x := by
      have h3 : s.k = x := by simpa using h
      exact h3
    exact (find_none.1 hf) (sn s) (List.mem_map.2 ⟨s, hs, rfl⟩) h2
  | some y =>
    rw [Option.isSome_some, List.any_eq_true]
    have hn : ¬ find (ss.map sn) x = none := by rw [hf]; simp
    rw [find_none] at hn
    have : ∃ s ∈ ss.map sn, s.kind = x := Classical.byContradiction fun hc => hn fun s hs hk => hc ⟨s, hs, hk⟩
    obtain ⟨s, hs, hk⟩ := this
    obtain ⟨t, ht, rfl⟩ := List.mem_map.1 hs
    exact ⟨t, ht, by simpa [sn] using hk⟩

set_option maxHeartbeats 2000000 in
theorem parcelFinds_walk (w : World) (v : Value) (x : Int) {ss : List Sv} (ht : Tab w) (hv : Ps w Anyb v ss) (_ : -9223372036854775808 ≤ x ∧ x ≤ 9223372036854775807) :
    Calls Tryd.prog 8 #[v, .int .i64 x] w fun e w' => e = .returned (.bool true) ∧ Kp No w w' := by
  have HT := hid ht
  have HO := hid hv
  obtain ⟨n, hn⟩ : ∃ n, ss.length = n := ⟨_, rfl⟩
  obtain ⟨A, c, rfl, hcn, hcm⟩ := hv.form hn
  have HN := hid hn
  clear ht hv hn
  go_enter Tryd.func8, Tryd.ntmps8
  go_upto_region 2 with (first
    | (go_at_call 9
       refine (pawake_any HT.out).mono ?_
       rintro e w1 ⟨rfl, k1⟩
       have K1 := hid k1
       clear k1))
  go_wp2_with fail
  refine (few_any (HO.out.kp0 K1.out)).mono ?_
  rintro e w2 ⟨q, rfl, rfl, hq⟩
  have HQ := hid hq
  clear hq
  go_wp2_with fail
  refine (pack_any (HT.out.kp0 K1.out) (HO.out.kp0 K1.out)).mono ?_
  rintro e w3 ⟨k3, ⟨hC, u3, rfl, o3⟩ | ⟨y, h1, h2, rfl⟩⟩
  · have K3 := hid (K1.out.trans k3)
    have B3 := hid (o3.byt (P := Anyb) fun _ _ => trivial)
    have HC := hid hC
    clear hC o3 k3
    cases q with
    | false =>
      go_wp2
      go_ret
      exact ⟨rfl, K3.out⟩
    | true =>
      have HSM := hid (HQ.out rfl)
      go_wp2_with fail
      refine (unpack_any (HT.out.kp0 K3.out) B3.out (by have := small_image HSM.out HC.out; omega)).mono ?_
      rintro e w4 ⟨u4, tt, rfl, hs, hp, k4⟩
      rw [unp_image HC.out] at hs
      rw [unp_image HC.out]
      have HS := hid hs
      have HP := hid hp
      have K4 := hid (K3.out.trans k4)
      have HLT := hid (show ∀ s ∈ tt, s.bl.length ≤ 140737488355328 from fun s hs' => by
        have h1 : sn s ∈ ss.map sn := by
          have hs : tt.map sn = ss.map sn := hs
          rw [← hs]; exact List.mem_map.2 ⟨s, hs', rfl⟩
        have := HC.out.long _ h1
        have h2 : (sn s).body = s.bl := rfl
        rw [h2] at this
        omega)
      have HFM := hid (fun k (hk : k < ss.length) => find_mem HC.out.rise (sn (ss.getD k sv0)) (List.mem_map.2 ⟨_, by simp [List.getD, hk], rfl⟩))
      clear hs hp k4
      go_wp2_with fail
      have HA0 := hid (show anyTo ss x 0 = false from rfl)
      go_loopw [11, 12] (fun a i w' => ∃ k : Nat, k ≤ n ∧ i = .int .i64 (k : Int) ∧ a = .bool (anyTo ss x k) ∧ Kp No w4 w') (fun _ i _ => n - (intOf i).toNat)
      case atStart => exact ⟨0, Nat.zero_le _, rfl, by rw [HA0.out], Kp.refl _ _⟩
      case round =>
        obtain ⟨k, hk, rfl, rfl, hkp⟩ := hrel
        have HK4 := hid hkp
        have KW := hid (K4.out.trans hkp)
        clear hkp
        by_cases hkn : k < n
        · have HK := hid (show k < ss.length by rw [HN.out]; exact hkn)
          obtain ⟨b, o, rfl, ok, c0, c1⟩ := (HO.out.kp0 KW.out).at' (k := k) HK.out
          have hfm := HFM.out k HK.out
          obtain ⟨y, hy⟩ : ∃ y, (ss.getD k sv0).k = y := ⟨_, rfl⟩
          have hsk : (sn (ss.getD k sv0)).kind = y := hy
          have hsb : (sn (ss.getD k sv0)).body = (ss.getD k sv0).bl := rfl
          rw [hsk, hsb] at hfm
          obtain ⟨bl, hbl⟩ : ∃ bl, (ss.getD k sv0).bl = bl := ⟨_, rfl⟩
          obtain ⟨bv, hbv⟩ : ∃ bv, (ss.getD k sv0).bv = bv := ⟨_, rfl⟩
          have HBd := hid ok.b
          rw [hbl] at hfm HBd
          rw [hbv] at c1 HBd
          rw [hy] at c0
          have HFK := hid (show find (tt.map sn) y = some bl by rw [HS.out]; exact hfm)
          obtain ⟨a, ha⟩ : ∃ a, anyTo ss x k = a := ⟨_, rfl⟩
          have hst := anyTo_succ (x := x) HK.out
          rw [ha, hy] at hst
          have HST := hid hst
          rw [ha]
          have hki : (k : Int) < (n : Int) := by omega
          have hsum := wrapI (x := (k : Int) + 1) (by unfold I64; omega)
          have hlb := World.block_lt_of_cell? wr _ c0
          have CK := hid (show ∀ w', Kp No wr w' → w'.cell? ⟨b, o + k * 2, none⟩ = some (.int .i64 y) ∧ w'.cell? ⟨b, o + k * 2 + 1, none⟩ = some bv from fun w' kk => ⟨(kk.cell (p := ⟨b, o + k * 2, none⟩) hlb fun h => h).trans c0, (kk.cell (p := ⟨b, o + k * 2 + 1, none⟩) hlb fun h => h).trans c1⟩)
          clear ok hy hbl hbv hfm hst ha hsk hsb hlb
          go_wp2_with fail
          refine (find_any (HP.out.kp0 HK4.out) y HLT.out).mono ?_
          rintro e w5 ⟨k5, ⟨u5, z, rfl, o5, hf⟩ | ⟨rfl, hf⟩⟩
          · obtain rfl : z = bl := by rw [HFK.out] at hf; exact (Option.some.inj hf).symm
            obtain ⟨d0, d1⟩ := CK.out _ k5
            have B5 := hid (o5.byt (P := Anyb) fun _ _ => trivial)
            have BB := hid (HBd.out.kp0 k5)
            have K5 := hid (HK4.out.trans k5)
            have HK5 := hid k5
            clear hf o5 k5 c0 c1
            go_wp2_with fail
            refine (same_bool (q := true) B5.out BB.out (decide_eq_true rfl)).mono ?_
            rintro e w6 ⟨rfl, n6, rfl⟩
            obtain ⟨e0, e1⟩ := CK.out _ (HK5.out.drewN n6)
            have K6 := hid (K5.out.drewN n6)
            generalize w5.drewN n6 = w6 at K6 e0 e1 ⊢
            clear d0 d1
            obtain ⟨r, hr⟩ : ∃ r, (y == x) = r := ⟨_, rfl⟩
            rw [hr] at HST
            cases a with
            | true =>
              go_wp2
              go_roundw
              case rel => exact ⟨k + 1, by omega, by go_num, by rw [HST.out]; rfl, K6.out⟩
              case measure => simp [intOf]; omega
            | false =>
              go_wp2
              go_roundw
              case rel => exact ⟨k + 1, by omega, by go_num, by rw [HST.out]; rfl, K6.out⟩
              case measure => simp [intOf]; omega
          · rw [HFK.out] at hf
            cases hf
        · have hkk : k = n := by omega
          subst hkk
          have HAA := hid (show anyTo ss x k = (find (ss.map sn) x).isSome by rw [← HN.out]; exact anyTo_all)
          obtain ⟨a, ha⟩ : ∃ a, anyTo ss x k = a := ⟨_, rfl⟩
          rw [ha] at HAA ⊢
          clear ha
          have haa : (a == a) = true := by simp
          go_wp2_with fail
          refine (find_any (HP.out.kp0 HK4.out) x HLT.out).mono ?_
          rintro e w5 ⟨k5, hf⟩
          have hf : ∃ u5, e = .returned (.tuple #[u5, .bool a]) := by
            rw [HS.out] at hf
            rcases hf with ⟨u5, z, he, _, hf⟩ | ⟨he, hf⟩
            · have h1 := HAA.out
              rw [hf] at h1
              exact ⟨u5, by rw [he, h1]; rfl⟩
            · have h1 := HAA.out
              rw [hf] at h1
              exact ⟨_, by rw [he, h1]; rfl⟩
          obtain ⟨u5, rfl⟩ := hf
          have K5 := hid (KW.out.trans k5)
          clear k5
          go_wp2
          go_ret
          exact ⟨rfl, K5.out⟩
  · have K3 := hid (K1.out.trans k3)
    have hne0 : (y != 0) = true := by rw [bne_iff_ne]; exact h2
    clear h1 h2 k3
    cases q with
    | false =>
      go_wp2
      go_ret
      exact ⟨rfl, K3.out⟩
    | true =>
      go_wp2
      go_ret
      exact ⟨rfl, K3.out⟩
end Go.Proofs.YthhikjgaljkfpaaDoor
