/-
  The walk of MaskMoves.
-/
import Derived.Test.YtjmnclneopofhaaDoorMaskF
import Derived.Test.YtjmnclneopofhaaDoorMaskLen
namespace Go.Proofs.YtjmnclneopofhaaDoor
open Go.RowKit

/-- Whether two sets meet below a core. -/
def mt (s o : Nat) (k : Nat) : Bool := (List.range k).any fun i => s.testBit i && o.testBit i
theorem mt_succ (s o k : Nat) : mt s o (k + 1) = (mt s o k || (s.testBit k && o.testBit k)) := by
  unfold mt
  rw [List.range_succ, List.any_append]
  simp
theorem mt_all {s o : Nat} (hs : U64 s) : mt s o 64 = true ↔ s &&& o ≠ 0 := by
  unfold mt
  rw [List.any_eq_true]
  constructor
  · rintro ⟨i, _, hi⟩ h0
    have := congrArg (fun x => x.testBit i) h0
    simp only [Nat.testBit_and, Nat.zero_testBit] at this
    rw [this] at hi
    cases hi
  · intro hne
    refine Classical.byContradiction fun hno => hne ?_
    apply (hs.and).ext U64.zero
    intro i hi
    rw [Nat.testBit_and, Nat.zero_testBit]
    cases hb : s.testBit i && o.testBit i with
    | false => rfl
    | true => exact absurd ⟨i, List.mem_range.2 hi, hb⟩ hno
/-- What is moved, core by core. -/
theorem rm_bit (s o : Nat) (op : Bool) (i : Nat) : ((rmS s o op).testBit i && !o.testBit i || (s.testBit i && o.testBit i) && !(rmS s o op).testBit i) = false := by
  unfold rmS
  split
  · rw [Nat.testBit_and]
    cases s.testBit i <;> cases o.testBit i <;> rfl
  · rename_i h
    have h0 : s &&& o = 0 := Classical.byContradiction h
    have h1 := congrArg (fun x => x.testBit i) h0
    simp only [Nat.testBit_and, Nat.zero_testBit] at h1
    rw [h1]
    split
    · cases o.testBit i <;> rfl
    · rw [Nat.zero_testBit]; cases o.testBit i <;> rfl

set_option maxHeartbeats 2000000 in
theorem maskMoves_walk (w : World) (n m : Int) (op : Bool) (E : Env w) (hn : 0 ≤ n ∧ n ≤ 18446744073709551615) (hm : 0 ≤ m ∧ m ≤ 18446744073709551615) :
    Calls Tryd.prog 8 #[.int .u64 n, .int .u64 m, .bool op] w fun e w' => e = .returned (.bool true) ∧ Kp No w w' := by
  obtain ⟨s, rfl⟩ : ∃ s : Nat, n = (s : Int) := ⟨n.toNat, by omega⟩
  obtain ⟨o, rfl⟩ : ∃ o : Nat, m = (o : Int) := ⟨m.toNat, by omega⟩
  have hs : U64 s := by unfold U64; omega
  have ho : U64 o := by unfold U64; omega
  have HE := hid E
  clear E hn hm
  have HB := hid (rm_bit s o op)
  have hx := rmS_U64 hs ho op
  have HA := hid (mt_all (o := o) hs)
  obtain ⟨x, hxx⟩ : ∃ x, rmS s o op = x := ⟨_, rfl⟩
  rw [hxx] at HB hx
  have HX := hid hxx
  clear hxx
  go_enter Tryd.func8, Tryd.ntmps8
  go_wp2_with fail
  refine (awake_any _ HE.out).mono ?_
  rintro e w1 ⟨rfl, k1⟩
  have K1 := hid k1
  clear k1 HE
  go_wp2_with fail
  refine (remap_any s o op _ hs ho).mono ?_
  rw [HX.out]
  rintro e w' ⟨rfl, rfl⟩
  obtain ⟨er, her⟩ : ∃ er, rmE s o op = er := ⟨_, rfl⟩
  rw [her]
  have HR := hid her
  clear her
  go_wp2_with fail
  go_loop [10, 11] (fun me i => ∃ k : Nat, k ≤ 64 ∧ i = .int .i64 (k : Int) ∧ me = .bool (mt s o k)) (fun _ i => 64 - (intOf i).toNat)
  case atStart => exact ⟨0, by omega, rfl, rfl⟩
  case round =>
    obtain ⟨k, hk, rfl, rfl⟩ := hrel
    by_cases hlt : k < 64
    · have hki : (k : Int) < 64 := by omega
      have JX := hid (isIn_nat x k hlt)
      have JS := hid (isIn_nat s k hlt)
      have JO := hid (isIn_nat o k hlt)
      have HK := hid (HB.out k)
      have HM := hid (mt_succ s o k)
      obtain ⟨q, hq⟩ : ∃ q, mt s o k = q := ⟨_, rfl⟩
      rw [hq] at HM ⊢
      clear hq
      cases q <;> cases hbx : x.testBit k <;> cases hbs : s.testBit k <;> cases hbo : o.testBit k <;> rw [hbx, hbs, hbo] at HK <;> rw [hbs, hbo] at HM <;> rw [hbx] at JX <;> rw [hbs] at JS <;> rw [hbo] at JO <;> clear hbx hbs hbo
      · go_wp2_with fail
        refine (has_any x (k : Int) _ hx).mono ?_
        rw [JX.out]
        rintro e w' ⟨rfl, rfl⟩
        go_wp2_with fail
        refine (has_any s (k : Int) _ hs).mono ?_
        rw [JS.out]
        rintro e w' ⟨rfl, rfl⟩
        go_wp2_with fail
        go_round
        case rel => exact ⟨k + 1, by omega, by go_num, by rw [HM.out]; rfl⟩
        case measure => simp [intOf]; omega
      · go_wp2_with fail
        refine (has_any x (k : Int) _ hx).mono ?_
        rw [JX.out]
        rintro e w' ⟨rfl, rfl⟩
        go_wp2_with fail
        refine (has_any s (k : Int) _ hs).mono ?_
        rw [JS.out]
        rintro e w' ⟨rfl, rfl⟩
        go_wp2_with fail
        go_round
        case rel => exact ⟨k + 1, by omega, by go_num, by rw [HM.out]; rfl⟩
        case measure => simp [intOf]; omega
      · go_wp2_with fail
        refine (has_any x (k : Int) _ hx).mono ?_
        rw [JX.out]
        rintro e w' ⟨rfl, rfl⟩
        go_wp2_with fail
        refine (has_any s (k : Int) _ hs).mono ?_
        rw [JS.out]
        rintro e w' ⟨rfl, rfl⟩
        go_wp2_with fail
        refine (has_any o (k : Int) _ ho).mono ?_
        rw [JO.out]
        rintro e w' ⟨rfl, rfl⟩
        go_wp2_with fail
        go_round
        case rel => exact ⟨k + 1, by omega, by go_num, by rw [HM.out]; rfl⟩
        case measure => simp [intOf]; omega
      · exact absurd HK.out (by decide)
      · exact absurd HK.out (by decide)
      · go_wp2_with fail
        refine (has_any x (k : Int) _ hx).mono ?_
        rw [JX.out]
        rintro e w' ⟨rfl, rfl⟩
        go_wp2_with fail
        refine (has_any s (k : Int) _ hs).mono ?_
        rw [JS.out]
        rintro e w' ⟨rfl, rfl⟩
        go_wp2_with fail
        refine (has_any o (k : Int) _ ho).mono ?_
        rw [JO.out]
        rintro e w' ⟨rfl, rfl⟩
        go_wp2_with fail
        go_round
        case rel => exact ⟨k + 1, by omega, by go_num, by rw [HM.out]; rfl⟩
        case measure => simp [intOf]; omega
      · exact absurd HK.out (by decide)
      · go_wp2_with fail
        refine (has_any x (k : Int) _ hx).mono ?_
        rw [JX.out]
        rintro e w' ⟨rfl, rfl⟩
        go_wp2_with fail
        refine (has_any s (k : Int) _ hs).mono ?_
        rw [JS.out]
        rintro e w' ⟨rfl, rfl⟩
        go_wp2_with fail
        refine (has_any o (k : Int) _ ho).mono ?_
        rw [JO.out]
        rintro e w' ⟨rfl, rfl⟩
        go_wp2_with fail
        refine (has_any o (k : Int) _ ho).mono ?_
        rw [JO.out]
        rintro e w' ⟨rfl, rfl⟩
        go_wp2_with fail
        go_round
        case rel => exact ⟨k + 1, by omega, by go_num, by rw [HM.out]; rfl⟩
        case measure => simp [intOf]; omega
      · go_wp2_with fail
        refine (has_any x (k : Int) _ hx).mono ?_
        rw [JX.out]
        rintro e w' ⟨rfl, rfl⟩
        go_wp2_with fail
        refine (has_any s (k : Int) _ hs).mono ?_
        rw [JS.out]
        rintro e w' ⟨rfl, rfl⟩
        go_wp2_with fail
        go_round
        case rel => exact ⟨k + 1, by omega, by go_num, by rw [HM.out]; rfl⟩
        case measure => simp [intOf]; omega
      · go_wp2_with fail
        refine (has_any x (k : Int) _ hx).mono ?_
        rw [JX.out]
        rintro e w' ⟨rfl, rfl⟩
        go_wp2_with fail
        refine (has_any s (k : Int) _ hs).mono ?_
        rw [JS.out]
        rintro e w' ⟨rfl, rfl⟩
        go_wp2_with fail
        go_round
        case rel => exact ⟨k + 1, by omega, by go_num, by rw [HM.out]; rfl⟩
        case measure => simp [intOf]; omega
      · go_wp2_with fail
        refine (has_any x (k : Int) _ hx).mono ?_
        rw [JX.out]
        rintro e w' ⟨rfl, rfl⟩
        go_wp2_with fail
        refine (has_any s (k : Int) _ hs).mono ?_
        rw [JS.out]
        rintro e w' ⟨rfl, rfl⟩
        go_wp2_with fail
        refine (has_any o (k : Int) _ ho).mono ?_
        rw [JO.out]
        rintro e w' ⟨rfl, rfl⟩
        go_wp2_with fail
        go_round
        case rel => exact ⟨k + 1, by omega, by go_num, by rw [HM.out]; rfl⟩
        case measure => simp [intOf]; omega
      · exact absurd HK.out (by decide)
      · exact absurd HK.out (by decide)
      · go_wp2_with fail
        refine (has_any x (k : Int) _ hx).mono ?_
        rw [JX.out]
        rintro e w' ⟨rfl, rfl⟩
        go_wp2_with fail
        refine (has_any s (k : Int) _ hs).mono ?_
        rw [JS.out]
        rintro e w' ⟨rfl, rfl⟩
        go_wp2_with fail
        refine (has_any o (k : Int) _ ho).mono ?_
        rw [JO.out]
        rintro e w' ⟨rfl, rfl⟩
        go_wp2_with fail
        go_round
        case rel => exact ⟨k + 1, by omega, by go_num, by rw [HM.out]; rfl⟩
        case measure => simp [intOf]; omega
      · exact absurd HK.out (by decide)
      · go_wp2_with fail
        refine (has_any x (k : Int) _ hx).mono ?_
        rw [JX.out]
        rintro e w' ⟨rfl, rfl⟩
        go_wp2_with fail
        refine (has_any s (k : Int) _ hs).mono ?_
        rw [JS.out]
        rintro e w' ⟨rfl, rfl⟩
        go_wp2_with fail
        refine (has_any o (k : Int) _ ho).mono ?_
        rw [JO.out]
        rintro e w' ⟨rfl, rfl⟩
        go_wp2_with fail
        refine (has_any o (k : Int) _ ho).mono ?_
        rw [JO.out]
        rintro e w' ⟨rfl, rfl⟩
        go_wp2_with fail
        go_round
        case rel => exact ⟨k + 1, by omega, by go_num, by rw [HM.out]; rfl⟩
        case measure => simp [intOf]; omega
    · have : k = 64 := by omega
      subst this
      have ea := and_bits hs ho
      by_cases hz : s &&& o = 0
      · have hm : mt s o 64 = false := by
          cases hq : mt s o 64 with
          | false => rfl
          | true => exact absurd hz (HA.out.1 hq)
        rw [hm]
        clear hm ea
        by_cases ho0 : o = 0
        · have he : er = 13 := by rw [← HR.out]; unfold rmE; simp [ho0]
          have hx0 : x = 0 := by rw [← HX.out]; unfold rmS; simp [ho0]
          have hon : ¬ (0 : Int) < (o : Int) := by omega
          subst he hx0
          clear hz ho0 HR HX HA HB
          cases op
          · go_wp2_with fail
            go_ret
            exact ⟨rfl, K1.out⟩
          · go_wp2_with fail
            go_ret
            exact ⟨rfl, K1.out⟩
        · have hon : (0 : Int) < (o : Int) := by omega
          cases op with
          | true =>
            have he : er = 0 := by rw [← HR.out]; unfold rmE; simp [hz, ho0]
            have hx0 : x = o := by rw [← HX.out]; unfold rmS; simp [hz, ho0]
            have hxn : ((x : Int) == 0) = false := by rw [beq_eq_false_iff_ne]; omega
            subst he
            clear hz HR HX HA HB ho0 hx0
            go_wp2_with fail
            go_ret
            exact ⟨rfl, K1.out⟩
          | false =>
            have he : er = 13 := by rw [← HR.out]; unfold rmE; simp [hz]
            have hx0 : x = 0 := by rw [← HX.out]; unfold rmS; simp [hz]
            subst he hx0
            clear hz HR HX HA HB ho0
            go_wp2_with fail
            go_ret
            exact ⟨rfl, K1.out⟩
      · have hm : mt s o 64 = true := HA.out.2 hz
        have he : er = 0 := by rw [← HR.out]; unfold rmE; simp [hz]
        have hx0 : s &&& o = x := by rw [← HX.out]; unfold rmS; simp [hz]
        rw [hm]
        rw [hx0] at ea
        subst he
        clear hz HR HX HA HB hm hx0
        go_wp2_with fail
        go_ret
        exact ⟨rfl, K1.out⟩
end Go.Proofs.YtjmnclneopofhaaDoor
