/-
  The walk of CrcThree.
-/
import Derived.Test.YtjcjepeailemcaaDoorCrcC
import Derived.Test.YtjcjepeailemcaaDoorArgs
import Derived.Test.YtjcjepeailemcaaDoorStore
import Derived.BigRegion
namespace Go.Proofs.YtjcjepeailemcaaDoor
open Go.RowKit

theorem of_is {S : Nat → Prop} {v : Value} {xs : List Int} {w : World} {r : Nat} (hv : Byt w S v xs) (ht : Tab w) (hr : ck xs = r) :
    Calls Tryd.prog 11 #[v] w fun e w' => e = .returned (.int .u32 (r : Int)) ∧ w' = w :=
  (of_any v xs w hv ht).mono fun _ _ ⟨h1, h2⟩ => ⟨by rw [h1, hr], h2.symm⟩

theorem three_bd {a b c : Int} (ha : 0 ≤ a ∧ a ≤ 255) (hb : 0 ≤ b ∧ b ≤ 255) (hc : 0 ≤ c ∧ c ≤ 255) : 0 ≤ three a b c ∧ three a b c ≤ 255 := by
  have h1 : a.toNat ^^^ b.toNat < 256 := Nat.xor_lt_two_pow (n := 8) (by omega) (by omega)
  have h2 : a.toNat ^^^ b.toNat ^^^ c.toNat < 256 := Nat.xor_lt_two_pow (n := 8) h1 (by omega)
  unfold three
  omega
theorem three_bits {a b c : Int} (ha : 0 ≤ a ∧ a ≤ 255) (hb : 0 ≤ b ∧ b ≤ 255) (hc : 0 ≤ c ∧ c ≤ 255) : bits .xor .u8 (bits .xor .u8 a b) c = three a b c := by
  have h1 : a.toNat ^^^ b.toNat < 256 := Nat.xor_lt_two_pow (n := 8) (by omega) (by omega)
  rw [u8_xor a b ha.1 (by omega) hb.1 (by omega), u8_xor _ c (by omega) (by omega) hc.1 (by omega), Int.toNat_natCast]
  rfl
/-- What the loop keeps: the bytes so far. -/
def Three (xs ys us : List Int) (k : Nat) (zs : List Int) : Prop := zs.length = xs.length ∧ ∀ j, j < k → zs.getD j 0 = three (xs.getD j 0) (ys.getD j 0) (us.getD j 0)
theorem Three.step {xs ys us zs : List Int} {k : Nat} (h : Three xs ys us k zs) (hk : k < xs.length) : Three xs ys us (k + 1) (zs.set k (three (xs.getD k 0) (ys.getD k 0) (us.getD k 0))) := by
  refine ⟨by rw [List.length_set]; exact h.1, fun j hj => ?_⟩
  by_cases e : j = k
  · subst e
    have : j < zs.length := by rw [h.1]; exact hk
    simp [List.getD, this]
  · have := h.2 j (by omega)
    rw [← this]
    simp [List.getD, List.getElem?_set_ne (Ne.symm e)]
theorem getD_take {ys : List Int} {n j : Nat} (h : j < n) : (ys.take n).getD j 0 = ys.getD j 0 := by simp [List.getD, h]
theorem Three.done {xs ys us zs : List Int} {k : Nat} (h : Three xs ys us k zs) (hk : ¬ k < xs.length) (hy : xs.length ≤ ys.length) (hu : xs.length ≤ us.length) (bx : ∀ x ∈ xs, 0 ≤ x ∧ x ≤ 255) (by' : ∀ x ∈ ys, 0 ≤ x ∧ x ≤ 255) (bu : ∀ x ∈ us, 0 ≤ x ∧ x ≤ 255) (bz : ∀ x ∈ zs, 0 ≤ x ∧ x ≤ 255) :
    ck zs = ck xs ^^^ ck (ys.take xs.length) ^^^ ck (us.take xs.length) :=
  ck_three xs _ _ zs (by simp; omega) (by simp; omega) h.1 bx (fun x hx => by' x (List.mem_of_mem_take hx)) (fun x hx => bu x (List.mem_of_mem_take hx)) (fun j hj => by rw [getD_take hj, getD_take hj]; exact h.2 j (by omega)) bz

theorem crcThree_walk (w : World) (v u t : Value) {xs ys us : List Int} (ht : Tab w) (hv : Byt w Anyb v xs) (hu : Byt w Anyb u ys) (ht' : Byt w Anyb t us) :
    Calls Tryd.prog 9 #[v, u, t] w fun e w' => e = .returned (.bool true) ∧ Kp No w w' := by
  have HV := hid hv
  have HU := hid hu
  have HS := hid ht'
  have HT := hid ht
  obtain ⟨A, cp, rfl, hcp, hm, _, _⟩ := hv
  obtain ⟨A', cp', rfl, hcp', hm', _, _⟩ := hu
  obtain ⟨A'', cp'', rfl, hcp'', hm'', _, _⟩ := ht'
  unfold maxLen at hm hm' hm''
  clear ht
  go_enter Tryd.func9, Tryd.ntmps9
  go_wp2_with fail
  refine (awake_any _ HT.out).mono ?_
  rintro e w1 ⟨rfl, k1⟩
  have V1 := hid (HV.out.kp0 k1).below
  have U1 := hid (HU.out.kp0 k1).below
  have S1 := hid (HS.out.kp0 k1).below
  have T1 := hid (HT.out.kp0 k1)
  have K1 := hid k1
  clear HV HU HS HT k1
  by_cases hbig : 200 < xs.length
  · go_wp2
    go_ret
    exact ⟨rfl, K1.out⟩
  by_cases hsy : ys.length < xs.length
  · go_wp2
    go_ret
    exact ⟨rfl, K1.out⟩
  by_cases hsu : us.length < xs.length
  · go_wp2
    go_ret
    exact ⟨rfl, K1.out⟩
  go_wp2_with (first
      | (at_builtin
         refine wp_app isU8 rfl (.tmp 32) (.tmp 33) rfl (base := w1.heap.size) (xs := []) (ys := xs) (by exact Own.mt _ _) (by exact V1.out.kp0 ((Kp.refl _ _).alloc _)) (by simp; omega) (by simp) ?_
         intro v2 w2 o2 k2
         rw [List.nil_append] at o2
         have K2 := hid ((Kp.refl No w1).alloc (.cells #[] 5) |>.step k2 fun i hi h => by omega)
         obtain ⟨A2, c2, rfl⟩ := o2.formN (n := xs.length) rfl
         have O2 := hid o2
         clear o2 k2)
      | fail)
  go_loopw [10] (fun i w' => ∃ (k : Nat) (zs : List Int), k ≤ xs.length ∧ i = .int .i64 k ∧ Hid (Own w' w1.heap.size 5 (.slice A2 xs.length c2) zs ∧ Three xs ys us k zs ∧ Kp No w1 w')) (fun i _ => xs.length - (intOf i).toNat)
  case atStart => exact ⟨0, xs, Nat.zero_le _, rfl, hid ⟨O2.out, ⟨rfl, fun j hj => by omega⟩, K2.out⟩⟩
  case round =>
    obtain ⟨k, zs, hk, rfl, H⟩ := hrel
    rename_i w3
    clear O2 K2
    by_cases hkm : k < xs.length
    · have hki : (k : Int) < (xs.length : Int) := by omega
      have hki1 : (k : Int) < (ys.length : Int) := by omega
      have hki2 : (k : Int) < (us.length : Int) := by omega
      have hky : k < ys.length := by omega
      have hku : k < us.length := by omega
      obtain ⟨oz, tz, kz⟩ := H.out
      have hzl : zs.length = xs.length := tz.1
      obtain ⟨g, c', he, hg, hcm, hlc, hcell, hfr⟩ := oz.spot (by omega)
      rw [hzl] at he
      injection he with e1 _ e3
      subst e1 e3
      have hf1 := hfr k
      have hc0 := hcell k (by omega)
      obtain ⟨z0, hz0⟩ : ∃ z, zs.getD k 0 = z := ⟨_, rfl⟩
      rw [hz0] at hc0
      obtain ⟨_, _, he, _, _, bx, hr⟩ := V1.out.kp0 kz
      injection he with e1 _ e3
      subst e1 e3
      obtain ⟨b, o, rfl, hb1, hb2, hcell1⟩ := hr (by omega)
      have hc1 := hcell1 k hkm
      obtain ⟨_, _, he, _, _, by', hr'⟩ := U1.out.kp0 kz
      injection he with e1 _ e3
      subst e1 e3
      obtain ⟨b', o', rfl, hb1', hb2', hcell2⟩ := hr' (by omega)
      have hc2 := hcell2 k hky
      obtain ⟨_, _, he, _, _, bu, hr''⟩ := S1.out.kp0 kz
      injection he with e1 _ e3
      subst e1 e3
      obtain ⟨b'', o'', rfl, hb1'', hb2'', hcell3⟩ := hr'' (by omega)
      have hc3 := hcell3 k hku
      have bx1 := bx (xs.getD k 0) (by simp [List.getD, List.getElem?_eq_getElem hkm])
      have by1 := by' (ys.getD k 0) (by simp [List.getD, List.getElem?_eq_getElem hky])
      have bu1 := bu (us.getD k 0) (by simp [List.getD, List.getElem?_eq_getElem hku])
      have hbits := three_bits bx1 by1 bu1
      have TS := hid (tz.step hkm)
      have hbd := three_bd bx1 by1 bu1
      obtain ⟨r, hr0⟩ : ∃ r, three (xs.getD k 0) (ys.getD k 0) (us.getD k 0) = r := ⟨_, rfl⟩
      rw [hr0] at hbits TS hbd
      obtain ⟨x, hx0⟩ : ∃ x, xs.getD k 0 = x := ⟨_, rfl⟩
      obtain ⟨y, hy0⟩ : ∃ y, ys.getD k 0 = y := ⟨_, rfl⟩
      obtain ⟨u, hu0⟩ : ∃ u, us.getD k 0 = u := ⟨_, rfl⟩
      rw [hx0, hy0, hu0] at hbits
      rw [hx0] at hc1
      rw [hy0] at hc2
      rw [hu0] at hc3
      unfold maxLen at hcm
      clear hz0 hr0 hx0 hy0 hu0 bx by' bu hr hr' hr'' hcell hcell1 hcell2 hcell3 hfr bx1 by1 bu1 tz kz oz hzl
      go_wp2
      go_region
      go_wp2
      go_roundw
      case rel =>
        refine ⟨k + 1, zs.set k r, by omega, by go_num, hid ⟨?_, TS.out, ?_⟩⟩
        · exact (H.out.1.put k r hbd).drew
        · exact (H.out.2.2.setCell (p := ⟨g, k, none⟩) (.inr hg) _).drew
      case measure => simp [intOf]; omega
    · obtain ⟨oz, tz, kz⟩ := H.out
      have V3 := hid (V1.out.kp0 kz)
      have U3 := hid (U1.out.kp0 kz)
      have S3 := hid (S1.out.kp0 kz)
      have T3 := hid (T1.out.kp0 kz)
      have KE := hid (K1.out.trans kz)
      have O3 := hid (oz.byt (P := Anyb) fun _ _ => trivial)
      have UT := hid (U3.out.take xs.length (by omega))
      have ST := hid (S3.out.take xs.length (by omega))
      have hd := tz.done hkm (by omega) (by omega) V3.out.bytes U3.out.bytes S3.out.bytes O3.out.bytes
      have hp := ck_lt xs
      have hq := ck_lt (ys.take xs.length)
      have hr := ck_lt (us.take xs.length)
      have hs := ck_lt zs
      obtain ⟨p, ep⟩ : ∃ p, ck xs = p := ⟨_, rfl⟩
      obtain ⟨q, eq⟩ : ∃ p, ck (ys.take xs.length) = p := ⟨_, rfl⟩
      obtain ⟨r, er⟩ : ∃ p, ck (us.take xs.length) = p := ⟨_, rfl⟩
      obtain ⟨s, es⟩ : ∃ p, ck zs = p := ⟨_, rfl⟩
      rw [ep, eq, er, es] at hd
      rw [ep] at hp
      rw [eq] at hq
      rw [er] at hr
      rw [es] at hs
      have x1 := u32_xor_nat p q hp hq
      have hpq : p ^^^ q < 4294967296 := Nat.xor_lt_two_pow (n := 32) hp hq
      have x2 := u32_xor_nat (p ^^^ q) r hpq hr
      rw [← hd] at x2
      obtain ⟨m, em⟩ : ∃ m, p ^^^ q = m := ⟨_, rfl⟩
      rw [em] at x1 x2
      have x3 : ((s : Int) == (s : Int)) = true := by simp
      have EP := hid ep
      have EQ := hid eq
      have ER := hid er
      have ES := hid es
      clear ep eq er es hd em hpq oz tz kz V1 U1 S1 T1 K1 H
      go_wp2
      go_quiet (first
        | (go_at_call 11; exact Calls.quiet_of_same (of_is (by exact O3.out.kp0 ((Kp.refl No _).drewN _)) (by exact T3.out.kp0 ((Kp.refl No _).drewN _)) ES.out))
        | (go_at_call 11; exact Calls.quiet_of_same (of_is (by exact V3.out.kp0 ((Kp.refl No _).drewN _)) (by exact T3.out.kp0 ((Kp.refl No _).drewN _)) EP.out))
        | (go_at_call 11; exact Calls.quiet_of_same (of_is (by exact UT.out.kp0 ((Kp.refl No _).drewN _)) (by exact T3.out.kp0 ((Kp.refl No _).drewN _)) EQ.out))
        | (go_at_call 11; exact Calls.quiet_of_same (of_is (by exact ST.out.kp0 ((Kp.refl No _).drewN _)) (by exact T3.out.kp0 ((Kp.refl No _).drewN _)) ER.out)))
      go_wp2
      go_ret
      exact ⟨rfl, KE.out.drewN _⟩
end Go.Proofs.YtjcjepeailemcaaDoor
