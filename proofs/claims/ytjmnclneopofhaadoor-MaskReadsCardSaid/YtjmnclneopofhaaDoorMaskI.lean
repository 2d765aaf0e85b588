/-
  Contracts of the document's answers: Digits, Text, Remap.
-/
import Derived.Test.YtjmnclneopofhaaDoorMaskG
import Derived.Test.YtjmnclneopofhaaDoorMaskF
import Derived.Laws.BytesString
namespace Go.Proofs.YtjmnclneopofhaaDoor
open Go.RowKit

theorem conv_one (z : Int) (w : World) : Sem.run Tryd.prog (convert 64 9 (.slice (some ⟨w.heap.size, 0, none⟩) 1 1)) (w.alloc (.cells #[.int .u8 z] 5)) = .ok (.string (str [UInt8.ofNat z.toNat])) (w.alloc (.cells #[.int .u8 z] 5)) := by
  rw [run_convert_bytes_string _ 64 9 5 _ 1 1 Tryd.underlying64 Tryd.underlying5 Tryd.underlying9]
  rw [run_bytesToString _ ⟨w.heap.size, 0, none⟩ 1 1 [z] (by simp [go_sem])]
  rfl

set_option maxRecDepth 100000 in
theorem refDigit_any (n : Nat) (w : World) (hn : n < 10) :
    Calls Tryd.prog 38 #[.int .i64 (n : Int)] w fun e w' => e = .returned (.string (str (dg n))) ∧ Kp No w w' := by
  have hn10 : ¬ (10 : Int) ≤ (n : Int) := by omega
  have HR := hid (show dg n = [UInt8.ofNat (48 + (n : Int) % 10).toNat] by unfold dg; rw [if_pos hn, show (48 + (n : Int) % 10).toNat = 48 + n by omega])
  go_enter Tryd.func38, Tryd.ntmps38
  go_wp2_with fail
  rw [conv_one]
  go_wp2_with fail
  go_ret
  rw [HR.out]
  exact ⟨rfl, (Kp.refl No w).alloc _⟩

set_option maxRecDepth 100000 in
theorem refDigits_any (n : Nat) (w : World) (hn : n < 64) :
    Calls Tryd.prog 38 #[.int .i64 (n : Int)] w fun e w' => e = .returned (.string (str (Lib.decDigits n))) ∧ Kp No w w' := by
  rw [dec_dg n hn]
  by_cases h10 : n < 10
  · exact refDigit_any n w h10
  · have hn10 : (10 : Int) ≤ (n : Int) := by omega
    have HR := hid (show dg n = dg (n / 10) ++ [UInt8.ofNat (48 + (n : Int) % 10).toNat] by
      unfold dg
      rw [if_neg h10, if_pos (show n / 10 < 10 by omega), show (48 + (n : Int) % 10).toNat = 48 + n % 10 by omega]
      rfl)
    have hz1 : (str (dg (n / 10))).size ≤ 2 := (dg_plain (n / 10) (by omega)).2.2
    have hz2 : (str [UInt8.ofNat (48 + (n : Int) % 10).toNat]).size = 1 := rfl
    go_enter Tryd.func38, Tryd.ntmps38
    go_wp2_with fail
    rw [conv_one]
    go_wp2_with fail
    refine (refDigit_any (n / 10) _ (by omega)).mono ?_
    rintro e w1 ⟨rfl, k1⟩
    have K1 := hid (((Kp.refl No w).alloc _).trans k1)
    clear k1
    go_wp2_with fail
    go_ret
    rw [HR.out]
    refine ⟨?_, K1.out⟩
    show Ending.returned (.string (str (dg (n / 10)) ++ str [UInt8.ofNat (48 + (n : Int) % 10).toNat])) = _
    rw [str_app]

set_option maxHeartbeats 1000000 in
theorem refRemap_any (s o : Nat) (op : Bool) (w : World) (hs : U64 s) (ho : U64 o) :
    Calls Tryd.prog 28 #[.int .u64 (s : Int), .int .u64 (o : Int), .bool op] w fun e w' => e = .returned (.tuple #[.int .u64 ((rmS s o op : Nat) : Int), .int .i64 (rmE s o op)]) ∧ Kp No w w' := by
  have hso : U64 (s &&& o) := hs.and
  have HP : Hid (∀ k : Nat, k < 64 → isIn (s &&& o) (k : Int) = (isIn s (k : Int) && isIn o (k : Int))) := hid fun k hk => by rw [isIn_nat _ k hk, isIn_nat _ k hk, isIn_nat _ k hk, Nat.testBit_and]
  have HO : Hid (ofl (nums (al (s &&& o))) = s &&& o) := hid (by
    apply (ofl_U64 _).ext hso
    intro j hj
    rw [ofl_bit _ j hj]
    exact Bool.eq_iff_iff.2 (by rw [decide_eq_true_eq, mem_al _ j hj]))
  have HZ : Hid ((nums (al (s &&& o))).length = 0 ↔ s &&& o = 0) := hid (by
    rw [nums_len]
    constructor
    · intro h
      apply hso.ext U64.zero
      intro j hj
      rw [Nat.zero_testBit]
      cases hb : (s &&& o).testBit j with
      | false => rfl
      | true =>
        have h1 := (mem_al _ j hj).2 hb
        rw [show al (s &&& o) = [] from List.eq_nil_of_length_eq_zero h] at h1
        cases h1
    · intro h
      rw [h]
      decide)
  have HA := hid (show al (s &&& o) = cs (fun i => isIn (s &&& o) (i : Int)) 64 from rfl)
  have HS := hid (show rmS s o op = if s &&& o ≠ 0 then s &&& o else if op = true ∧ o ≠ 0 then o else 0 from rfl)
  have HE := hid (show rmE s o op = if s &&& o ≠ 0 then 0 else if op = true ∧ o ≠ 0 then 0 else 13 from rfl)
  obtain ⟨x, hx⟩ : ∃ x, s &&& o = x := ⟨_, rfl⟩
  rw [hx] at HP HO HZ HA HS HE hso
  clear hx
  obtain ⟨xs, hxs⟩ : ∃ xs, xs = fun k => nums (cs (fun i => isIn x (i : Int)) k) := ⟨_, rfl⟩
  have H0 : Hid (xs 0 = []) := hid (by rw [hxs]; rfl)
  have H64 : Hid (xs 64 = nums (al x)) := hid (by rw [hxs, HA.out])
  have HN : Hid (∀ k : Nat, k < 64 → xs (k + 1) = xs k ++ (if isIn x (k : Int) then [(k : Int)] else [])) := hid (by
    intro k hk
    rw [hxs]
    dsimp only
    rw [cs_succ _ k hk]
    split
    · rw [nums_snoc]
    · rw [List.append_nil, List.append_nil])
  clear hxs HA
  go_enter Tryd.func28, Tryd.ntmps28
  go_wp2_with fail
  go_loopw [8, 9] (fun v i w' => ∃ (k m : Nat) (A : Option Addr) (c : Nat), k ≤ 64 ∧ m ≤ k ∧ i = .int .i64 (k : Int) ∧ v = .slice A m c ∧ Hid ((xs k).length = m ∧ OwnI w' w.heap.size 3 v (xs k) ∧ Kp No w w')) (fun _ i _ => 64 - (intOf i).toNat)
  case atStart => exact ⟨0, 0, none, 0, by omega, by omega, rfl, rfl, hid (by rw [H0.out]; exact ⟨rfl, OwnI.nil _ _ _, Kp.refl _ _⟩)⟩
  case round =>
    obtain ⟨k, m, A, c, hk, hm, rfl, rfl, HH⟩ := hrel
    by_cases hlt : k < 64
    · have hki : (k : Int) < 64 := by omega
      have HQ := hid (HP.out k hlt)
      have HM := hid (HN.out k hlt)
      go_wp2_with fail
      refine (refHas_any s (k : Int) _ hs).mono ?_
      rintro e w' ⟨rfl, rfl⟩
      cases hb : isIn s (k : Int) with
      | false =>
        rw [hb, Bool.false_and] at HQ
        rw [HQ.out, if_neg (by decide), List.append_nil] at HM
        clear hb
        go_wp2_with fail
        go_roundw
        case rel => exact ⟨k + 1, m, A, c, by omega, by omega, by go_num, rfl, hid (by rw [HM.out]; exact HH.out)⟩
        case measure => simp [intOf]; omega
      | true =>
        rw [hb, Bool.true_and] at HQ
        clear hb
        go_wp2_with fail
        refine (refHas_any o (k : Int) _ ho).mono ?_
        rintro e w' ⟨rfl, rfl⟩
        cases hb : isIn o (k : Int) with
        | false =>
          rw [hb] at HQ
          rw [HQ.out, if_neg (by decide), List.append_nil] at HM
          clear hb
          go_wp2_with fail
          go_roundw
          case rel => exact ⟨k + 1, m, A, c, by omega, by omega, by go_num, rfl, hid (by rw [HM.out]; exact HH.out)⟩
          case measure => simp [intOf]; omega
        | true =>
          rw [hb] at HQ
          rw [HQ.out, if_pos rfl] at HM
          clear hb
          go_wp2_with (at_builtin
                       refine wp_appI isInts rfl (.tmp 22) (.tmp 24) rfl (base := w.heap.size) rfl HH.out.2.1 rfl (by have := HH.out.1; omega) (by exact HH.out.2.2.size) ?_
                       intro v2 w2 o2 k2
                       have K2 := hid (HH.out.2.2.step k2 fun i hi h => by omega)
                       have O2 := hid o2
                       obtain ⟨A2, c2, rfl⟩ := o2.form (n := m + 1) (by have := HH.out.1; rw [List.length_append, List.length_singleton]; omega)
                       clear o2 k2)
          go_roundw
          case rel => exact ⟨k + 1, m + 1, A2, c2, by omega, by omega, by go_num, rfl, hid ⟨by have := HH.out.1; rw [HM.out, List.length_append, List.length_singleton]; omega, by rw [HM.out]; exact O2.out, K2.out⟩⟩
          case measure => simp [intOf]; omega
    · have : k = 64 := by omega
      subst this
      rw [H64.out] at HH
      have HB := hid (HH.out.1)
      rw [HB.out] at HZ
      by_cases hm0 : m = 0
      · have hx0 := HZ.out.1 hm0
        subst hm0
        rw [hx0] at HS HE
        clear hx0 HZ HO HP hso
        by_cases ho0 : o = 0
        · have hon : ¬ (0 : Int) < (o : Int) := by omega
          have hS : rmS s o op = 0 := by rw [HS.out]; simp [ho0]
          have hE : rmE s o op = 13 := by rw [HE.out]; simp [ho0]
          have HS2 := hid hS
          have HE2 := hid hE
          clear hS hE ho0 HS HE
          cases op
          all_goals
            go_wp2_with fail
            go_ret2
            rw [HS2.out, HE2.out]
            exact ⟨rfl, HH.out.2.2⟩
        · have hon : (0 : Int) < (o : Int) := by omega
          cases op with
          | true =>
            have hS : rmS s o true = o := by rw [HS.out]; simp [ho0]
            have hE : rmE s o true = 0 := by rw [HE.out]; simp [ho0]
            have HS2 := hid hS
            have HE2 := hid hE
            clear hS hE ho0 HS HE
            go_wp2_with fail
            go_ret2
            rw [HS2.out, HE2.out]
            exact ⟨rfl, HH.out.2.2⟩
          | false =>
            have hS : rmS s o false = 0 := by rw [HS.out]; simp
            have hE : rmE s o false = 13 := by rw [HE.out]; simp
            have HS2 := hid hS
            have HE2 := hid hE
            clear hS hE ho0 HS HE
            go_wp2_with fail
            go_ret2
            rw [HS2.out, HE2.out]
            exact ⟨rfl, HH.out.2.2⟩
      · have hxn : x ≠ 0 := fun h => hm0 (HZ.out.2 h)
        have hmi : (0 : Int) < (m : Int) := by omega
        have hS : rmS s o op = x := by rw [HS.out, if_pos hxn]
        have hE : rmE s o op = 0 := by rw [HE.out, if_pos hxn]
        have HS2 := hid hS
        have HE2 := hid hE
        clear hS hE HS HE hxn hm0 HZ
        go_wp2_with fail
        refine (refOf_any _ (nums (al x)) _ (HH.out.2.1.sl (P := Anyb) fun _ _ => trivial)).mono ?_
        rw [HO.out]
        rintro e w' ⟨rfl, rfl⟩
        go_wp2_with fail
        go_ret2
        rw [HS2.out, HE2.out]
        exact ⟨rfl, HH.out.2.2⟩
end Go.Proofs.YtjmnclneopofhaaDoor
