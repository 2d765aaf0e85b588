/-
  The walk of MaskRanks, with the plain facts on the numbers of cores that it needs.
-/
import Derived.Test.YtjmnclneopofhaaDoorMaskF
import Derived.Test.YtjmnclneopofhaaDoorMaskLen
namespace Go.Proofs.YtjmnclneopofhaaDoor
open Go.RowKit

theorem cs_below (p : Nat → Bool) (k : Nat) (hk : k ≤ 64) : ∀ i ∈ cs p k, i.val < k := fun i hi => ((cs_mem p k i hk).1 hi).1
theorem cs_rise (p : Nat → Bool) (k : Nat) (hk : k ≤ 64) : (cs p k).Pairwise fun i j => i.val < j.val := by
  induction k with
  | zero => exact List.Pairwise.nil
  | succ k ih =>
    rw [cs_succ p k (by omega), List.pairwise_append]
    refine ⟨ih (by omega), by split <;> simp, fun i hi j hj => ?_⟩
    have h1 := cs_below p k (by omega) i hi
    split at hj
    · rw [List.mem_singleton.1 hj]; exact h1
    · cases hj

theorem nt_at (s k : Nat) (h : k < (al s).length) : nt s (k : Int) = ((al s)[k].val : Int) := by
  unfold nt
  rw [if_pos (by omega), Int.toNat_natCast, List.getElem?_eq_getElem h]
  rfl
theorem nt_end (s : Nat) : nt s (((al s).length : Nat) : Int) = -1 := by
  unfold nt
  rw [if_pos (by omega), Int.toNat_natCast, List.getElem?_eq_none (Nat.le_refl _)]
  rfl
theorem nt_neg (s : Nat) : nt s (-1) = -1 := by unfold nt; rw [if_neg (by omega)]
theorem nt_first (s : Nat) : (nt s 0 == -1) = decide ((al s).length = 0) := by
  cases h : al s with
  | nil =>
    have h1 := nt_end s
    rw [h] at h1
    rw [show nt s 0 = -1 from h1]
    rfl
  | cons i l =>
    have h1 := nt_at s 0 (by rw [h]; simp)
    rw [show nt s 0 = _ from h1]
    simp
theorem nt_in (s k : Nat) (h : k < (al s).length) : isIn s (nt s (k : Int)) = true := by
  rw [nt_at s k h]
  exact ((cs_mem _ _ _ (Nat.le_refl _)).1 (List.getElem_mem h)).2
/-- The core ahead of it. -/
def la (s k : Nat) : Int := if k = 0 then -1 else nt s ((k - 1 : Nat) : Int)
theorem la_succ (s k : Nat) : la s (k + 1) = nt s (k : Int) := by unfold la; rw [if_neg (by omega), Nat.add_sub_cancel]
theorem nt_rise (s k : Nat) (h : k < (al s).length) : la s k < nt s (k : Int) := by
  unfold la
  rw [nt_at s k h]
  split
  · omega
  · rw [nt_at s (k - 1) (by omega)]
    have := (List.pairwise_iff_getElem.1 (cs_rise (fun i => isIn s (i : Int)) 64 (Nat.le_refl _))) (k - 1) k (by show k - 1 < (al s).length; omega) h (by omega)
    show (((al s)[k - 1]'(by omega)).val : Int) < ((al s)[k].val : Int)
    exact Int.ofNat_lt.2 this
/-- The set of the first ones. -/
def bl (s k : Nat) : Nat := ((al s).take k).foldl (fun x i => wth x (i.val : Int)) 0
theorem bl_succ (s k : Nat) (h : k < (al s).length) : bl s (k + 1) = wth (bl s k) (nt s (k : Int)) := by
  unfold bl
  rw [List.take_succ_eq_append_getElem h, List.foldl_append, nt_at s k h]
  rfl
theorem fold_U64 (l : List (Fin 64)) : ∀ x, U64 x → U64 (l.foldl (fun x i => wth x (i.val : Int)) x) := by
  induction l with
  | nil => exact fun x h => h
  | cons i l ih => exact fun x h => ih _ (wth_U64 h _)
theorem bl_U64 (s k : Nat) : U64 (bl s k) := fold_U64 _ 0 U64.zero
theorem fold_bit (l : List (Fin 64)) (j : Nat) : ∀ x, (l.foldl (fun x i => wth x (i.val : Int)) x).testBit j = true ↔ x.testBit j = true ∨ ∃ i ∈ l, i.val = j := by
  induction l with
  | nil => intro x; simp
  | cons i l ih =>
    intro x
    rw [List.foldl_cons, ih, wth_bit, Bool.or_eq_true, decide_eq_true_eq]
    have hi := i.isLt
    constructor
    · rintro ((h | h) | ⟨q, h1, h2⟩)
      · exact .inl h
      · exact .inr ⟨i, List.mem_cons_self, by omega⟩
      · exact .inr ⟨q, List.mem_cons_of_mem _ h1, h2⟩
    · rintro (h | ⟨q, h1, h2⟩)
      · exact .inl (.inl h)
      · rcases List.mem_cons.1 h1 with rfl | h1
        · exact .inl (.inr (by omega))
        · exact .inr ⟨q, h1, h2⟩
theorem bl_all {s : Nat} (hs : U64 s) : bl s (al s).length = s := by
  apply (bl_U64 s _).ext hs
  intro j hj
  apply Bool.eq_iff_iff.2
  unfold bl
  rw [List.take_length, fold_bit, Nat.zero_testBit]
  constructor
  · rintro (h | ⟨i, hi, rfl⟩)
    · cases h
    · rw [← isIn_nat s i.val i.isLt]
      exact ((cs_mem _ _ _ (Nat.le_refl _)).1 hi).2
  · intro h
    exact .inr ⟨⟨j, hj⟩, (cs_mem _ _ _ (Nat.le_refl _)).2 ⟨hj, by rw [isIn_nat s j hj]; exact h⟩, rfl⟩

set_option maxHeartbeats 2000000 in
theorem maskRanks_walk (w : World) (n : Int) (E : Env w) (hn : 0 ≤ n ∧ n ≤ 18446744073709551615) :
    Calls Tryd.prog 6 #[.int .u64 n] w fun e w' => e = .returned (.bool true) ∧ Kp No w w' := by
  obtain ⟨s, rfl⟩ : ∃ s : Nat, n = (s : Int) := ⟨n.toNat, by omega⟩
  have hs : U64 s := by unfold U64; omega
  have HE := hid E
  clear E hn
  have hl := al_len s
  have HI := hid (nt_in s)
  have HR := hid (nt_rise s)
  have HB := hid (bl_succ s)
  have HA := hid (bl_all hs)
  have HN := hid (nt_end s)
  have HF := hid (nt_first s)
  obtain ⟨L, hL⟩ : ∃ L, (al s).length = L := ⟨_, rfl⟩
  rw [hL] at hl HI HR HB HA HN HF
  have HL := hid hL
  clear hL
  go_enter Tryd.func6, Tryd.ntmps6
  go_wp2_with fail
  refine (awake_any _ HE.out).mono ?_
  rintro e w1 ⟨rfl, k1⟩
  have K1 := hid k1
  clear k1 HE
  go_wp2_with fail
  refine (len_any s _ hs).mono ?_
  rw [HL.out]
  rintro e w2 ⟨rfl, k2⟩
  have K2 := hid (K1.out.trans k2)
  clear k2 K1
  go_wp2_with fail
  go_loopw [5, 7, 8] (fun last built i w' => ∃ k : Nat, k ≤ L ∧ i = .int .i64 (k : Int) ∧ last = .int .i64 (la s k) ∧ built = .int .u64 ((bl s k : Nat) : Int) ∧ Hid (Kp No w w')) (fun _ _ i _ => L - (intOf i).toNat)
  case atStart => exact ⟨0, by omega, rfl, rfl, rfl, K2⟩
  case round =>
    obtain ⟨k, hk, rfl, rfl, rfl, KH⟩ := hrel
    clear K2
    by_cases hlt : k < L
    · have hki : (k : Int) < (L : Int) := by omega
      have h1 := HR.out k hlt
      have I1 := hid (HI.out k hlt)
      have B1 := hid (HB.out k hlt)
      have S1 := hid (la_succ s k)
      have hu := bl_U64 s k
      go_wp2_with fail
      refine (nth_any s (k : Int) _ hs).mono ?_
      rintro e w3 ⟨rfl, k3⟩
      have K3 := hid (KH.out.trans k3)
      clear k3 KH
      obtain ⟨c, hc⟩ : ∃ c, nt s (k : Int) = c := ⟨_, rfl⟩
      rw [hc] at h1 I1 B1 S1 ⊢
      have hle : ¬ c ≤ la s k := by omega
      clear hc h1
      go_wp2_with fail
      refine (has_any s c _ hs).mono ?_
      rw [I1.out]
      rintro e w' ⟨rfl, rfl⟩
      go_wp2_with fail
      refine (with_any (bl s k) c _ hu).mono ?_
      rw [← B1.out]
      rintro e w' ⟨rfl, rfl⟩
      go_wp2_with fail
      go_roundw
      case rel => exact ⟨k + 1, by omega, by go_num, by rw [S1.out], rfl, K3⟩
      case measure => simp [intOf]; omega
    · have : k = L := by omega
      subst this
      rw [HA.out]
      go_wp2_with fail
      refine (nth_any s (k : Int) _ hs).mono ?_
      rw [HN.out]
      rintro e w3 ⟨rfl, k3⟩
      have K3 := hid (KH.out.trans k3)
      clear k3 KH
      go_wp2_with fail
      refine (nth_any s (-1) _ hs).mono ?_
      rw [nt_neg s]
      rintro e w4 ⟨rfl, k4⟩
      have K4 := hid (K3.out.trans k4)
      clear k4 K3
      go_wp2_with fail
      refine (first_any s _ hs).mono ?_
      rintro e w5 ⟨rfl, k5⟩
      have K5 := hid (K4.out.trans k5)
      clear k5 K4
      have hf : (nt s 0 == -1) = ((k : Int) == 0) := by rw [HF.out]; exact Bool.eq_iff_iff.2 (by simp)
      go_wp2_with fail
      go_ret
      refine ⟨?_, K5.out⟩
      simp
end Go.Proofs.YtjmnclneopofhaaDoor
