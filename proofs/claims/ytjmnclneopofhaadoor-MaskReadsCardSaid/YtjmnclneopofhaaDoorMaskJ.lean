/-
  Contract of the document's Text.
-/
import Derived.Test.YtjmnclneopofhaaDoorMaskI
namespace Go.Proofs.YtjmnclneopofhaaDoor
open Go.RowKit

/-- The text of the runs that begin below k. -/
def jt (s k : Nat) : List UInt8 := Lib.join ((cs (fun i => bg s (i : Int)) k).map (rtx s)) [44]
theorem jt_zero (s : Nat) : jt s 0 = [] := rfl
theorem jt_all (s : Nat) : jt s 64 = Lib.join (txl s) [44] := rfl
theorem dg_ne : ∀ n, n < 64 → dg n ≠ [] := by decide
theorem rt_ne (f l : Nat) (h : f < 64) : rt f l ≠ [] := by
  have h1 : Lib.decDigits f ≠ [] := by rw [dec_dg f h]; exact dg_ne f h
  unfold rt
  split
  · exact h1
  · simp
theorem join_ne (c : UInt8) (xs : List (List UInt8)) (h : ∀ x ∈ xs, x ≠ []) (hne : xs ≠ []) : Lib.join xs [c] ≠ [] := by
  cases xs with
  | nil => exact absurd rfl hne
  | cons x xs =>
    have hx := h x List.mem_cons_self
    cases xs with
    | nil => rw [Lib.join_one]; exact hx
    | cons y r => rw [join_two]; simp
theorem jt_nil (s k : Nat) : jt s k = [] ↔ cs (fun i => bg s (i : Int)) k = [] := by
  unfold jt
  constructor
  · intro h
    refine Classical.byContradiction fun hne => join_ne 44 _ (fun x hx => ?_) (fun h2 => hne (List.map_eq_nil_iff.1 h2)) h
    obtain ⟨i, _, rfl⟩ := List.mem_map.1 hx
    exact rt_ne _ _ i.isLt
  · intro h
    rw [h]
    rfl
theorem jt_len {s : Nat} (hs : U64 s) (k : Nat) (hk : k ≤ 64) : (jt s k).length ≤ 384 := by
  have h1 := join_len 44 5 ((cs (fun i => bg s (i : Int)) k).map (rtx s)) (fun x hx => by
    obtain ⟨i, _, rfl⟩ := List.mem_map.1 hx
    exact (rtx_len hs i).1)
  have h2 := cs_len (fun i => bg s (i : Int)) k
  rw [List.length_map] at h1
  unfold jt
  omega
theorem jt_skip {s : Nat} (hs : U64 s) (k : Nat) (hk : k < 64) (h : s.testBit k = false) : jt s (k + 1) = jt s k := by
  unfold jt
  rw [cs_succ _ k hk, if_neg (by rw [bg_nat hs, h, Bool.false_and]; decide), List.append_nil]
theorem cs_same (p : Nat → Bool) (k j : Nat) (hj : k + j ≤ 64) (h : ∀ i, k ≤ i → i < k + j → p i = false) : cs p (k + j) = cs p k := by
  induction j with
  | zero => rfl
  | succ j ih => rw [← Nat.add_assoc, cs_succ p (k + j) (by omega), if_neg (by rw [h (k + j) (by omega) (by omega)]; decide), List.append_nil, ih (by omega) fun i h1 h2 => h i h1 (by omega)]
theorem jt_run {s : Nat} (hs : U64 s) (k : Nat) (hk : k < 64) (hb : bg s (k : Int) = true) : jt s (lst s k + 1) = if jt s k = [] then rt k (lst s k) else jt s k ++ 44 :: rt k (lst s k) := by
  have hin := bg_in hs hb
  have hle := lst_le hs k
  have hlt := lst_lt hs hk
  have h1 : cs (fun i => bg s (i : Int)) (lst s k + 1) = cs (fun i => bg s (i : Int)) k ++ [⟨k, hk⟩] := by
    have h2 := cs_same (fun i => bg s (i : Int)) (k + 1) (lst s k - k) (by omega) (fun i h3 h4 => by
      rw [bg_nat hs, lst_in hs hin (show k ≤ i - 1 by omega) (show i - 1 ≤ lst s k by omega)]
      have : (i == 0) = false := by rw [beq_eq_false_iff_ne]; omega
      rw [this]
      simp)
    rw [show k + 1 + (lst s k - k) = lst s k + 1 by omega] at h2
    rw [h2, cs_succ _ k hk, if_pos hb]
  by_cases hn : jt s k = []
  · rw [if_pos hn]
    unfold jt
    rw [h1, (jt_nil s k).1 hn, List.nil_append, List.map_singleton, Lib.join_one]
    rfl
  · rw [if_neg hn]
    unfold jt
    rw [h1, List.map_append, List.map_singleton, join_snoc 44 _ _ (fun h => hn ((jt_nil s k).2 (List.map_eq_nil_iff.1 h)))]
    rfl
/-- No run is cut. -/
def Bd (s k : Nat) : Prop := s.testBit k = true → bg s (k : Int) = true
theorem Bd.zero {s : Nat} (hs : U64 s) : Bd s 0 := fun h => by rw [bg_nat hs, h]; rfl
theorem Bd.next {s k : Nat} (hs : U64 s) (h : s.testBit k = false) : Bd s (k + 1) := fun h1 => by rw [bg_nat hs, h1, Nat.add_sub_cancel, h]; simp
theorem Bd.behind {s k : Nat} (hs : U64 s) (h : s.testBit k = true) : Bd s (lst s k + 1) := fun h1 => by rw [lst_out hs h] at h1; cases h1
theorem txt_of {s : Nat} (hs : U64 s) : txt s = if jt s 64 = [] then [45] else jt s 64 := by
  unfold txt
  rw [jt_all]
  by_cases hz : s = 0
  · subst hz
    rfl
  · rw [if_neg hz, if_neg (fun h => fst_ne hs hz ((jt_nil s 64).1 (by rw [jt_all]; exact h)))]

set_option maxRecDepth 100000 in
set_option maxHeartbeats 2000000 in
theorem refText_any (s : Nat) (w : World) (hs : U64 s) :
    Calls Tryd.prog 30 #[.int .u64 (s : Int)] w fun e w' => e = .returned (.string (str (txt s))) ∧ Kp No w w' := by
  have HT := hid (txt_of hs)
  have HJ := hid (jt_len hs)
  go_enter Tryd.func30, Tryd.ntmps30
  go_wp2_with fail
  go_loopw [3, 4] (fun o i w' => ∃ k : Nat, k ≤ 64 ∧ i = .int .i64 (k : Int) ∧ o = .string (str (jt s k)) ∧ Hid (Bd s k ∧ Kp No w w')) (fun _ i _ => 64 - (intOf i).toNat)
  case atStart => exact ⟨0, by omega, rfl, rfl, hid ⟨Bd.zero hs, Kp.refl _ _⟩⟩
  case round =>
    obtain ⟨k, hk, rfl, rfl, HH⟩ := hrel
    by_cases hlt : k < 64
    · have hki : (k : Int) < 64 := by omega
      have HI := hid (isIn_nat s k hlt)
      go_wp2_with fail
      refine (refHas_any s (k : Int) _ hs).mono ?_
      rw [HI.out]
      rintro e w' ⟨rfl, rfl⟩
      cases hb : s.testBit k with
      | false =>
        have HS := hid (jt_skip hs k hlt hb)
        have HN := hid (Bd.next hs hb)
        clear hb
        go_wp2_with fail
        go_roundw
        case rel => exact ⟨k + 1, by omega, by go_num, by rw [HS.out], hid ⟨HN.out, HH.out.2⟩⟩
        case measure => simp [intOf]; omega
      | true =>
        have HR := hid (jt_run hs k hlt (HH.out.1 hb))
        have HN := hid (Bd.behind hs hb)
        have hl := lst_lt hs hlt
        have hge := lst_le hs k
        clear hb HI
        go_wp2_with fail
        go_loop [5] (fun i => ∃ j : Nat, i = .int .i64 (j : Int) ∧ k ≤ j ∧ j ≤ lst s k ∧ Hid (lst s j = lst s k)) (fun i => 64 - (intOf i).toNat)
        case atStart => exact ⟨k, rfl, Nat.le_refl _, hge, hid rfl⟩
        case round =>
          obtain ⟨j, rfl, hj1, hj2, HL⟩ := hrel
          have HI := hid (isIn_big hs (j + 1))
          have hw : wrap64 ((j : Int) + 1) = ((j + 1 : Nat) : Int) := by unfold wrap64; omega
          go_wp2_with fail
          refine (refHas_any s ((j + 1 : Nat) : Int) _ hs).mono ?_
          rintro e w' ⟨rfl, rfl⟩
          cases hb : s.testBit (j + 1) with
          | true =>
            have hlt2 : j + 1 < 64 := by
              rcases Nat.lt_or_ge (j + 1) 64 with h1 | h1
              · exact h1
              · rw [hs.bit h1] at hb; cases hb
            have HO := hid (lst_on hs hb)
            have HG := hid (lst_le hs (j + 1))
            rw [HI.out, hb]
            clear hb
            go_wp2_with fail
            go_round
            case rel => exact ⟨j + 1, by go_num, by omega, by rw [← HL.out, HO.out]; exact HG.out, hid (by rw [← HL.out, HO.out])⟩
            case measure => simp [intOf]; omega
          | false =>
            have he : j = lst s k := by rw [← HL.out, lst_end s j hb]
            rw [HI.out, hb]
            rw [← he] at HR HN
            have hj64 : j < 64 := by omega
            have hJ := HJ.out k hk
            clear hb HI hw HL hj2 hl hge
            obtain ⟨L, hL⟩ : ∃ L, jt s k = L := ⟨_, rfl⟩
            rw [hL] at HR hJ ⊢
            clear hL he
            have hzL : (str L).size ≤ 384 := hJ
            have hz1 := dec_size k hlt
            have hz2 := dec_size j hj64
            by_cases hLn : L = []
            · have hem : (str L).toList = [] := by rw [str_toList]; exact hLn
              rw [if_pos hLn] at HR
              have HLn := hid hLn
              clear hLn
              by_cases hkj : j = k
              · have hng : ¬ (k : Int) < (j : Int) := by omega
                have HQ := hid (show rt k j = Lib.decDigits k by unfold rt; rw [if_pos hkj.symm])
                clear hkj
                go_wp2_with fail
                refine (refDigits_any k _ hlt).mono ?_
                rintro e w2 ⟨rfl, k2⟩
                have K2 := hid (HH.out.2.trans k2)
                clear k2
                go_wp2_with fail
                go_roundw
                case rel =>
                  refine ⟨j + 1, by omega, by go_num, ?_, hid ⟨HN.out, K2.out⟩⟩
                  show Value.string (str L ++ str (Lib.decDigits k)) = _
                  rw [str_app, HR.out, HQ.out, HLn.out, List.nil_append]
                case measure => simp [intOf]; omega
              · have hng : (k : Int) < (j : Int) := by omega
                have HQ := hid (show rt k j = Lib.decDigits k ++ 45 :: Lib.decDigits j by unfold rt; rw [if_neg (fun h => hkj h.symm)])
                clear hkj
                go_wp2_with fail
                refine (refDigits_any k _ hlt).mono ?_
                rintro e w2 ⟨rfl, k2⟩
                have K2 := hid (HH.out.2.trans k2)
                clear k2
                go_wp2_with fail
                refine (refDigits_any j _ hj64).mono ?_
                rintro e w3 ⟨rfl, k3⟩
                have K3 := hid (K2.out.trans k3)
                clear k3
                go_wp2_with fail
                go_roundw
                case rel =>
                  refine ⟨j + 1, by omega, by go_num, ?_, hid ⟨HN.out, K3.out⟩⟩
                  show Value.string (str L ++ str (Lib.decDigits k) ++ str [45] ++ str (Lib.decDigits j)) = _
                  rw [str_app, str_app, str_app, HR.out, HQ.out, HLn.out, List.nil_append]
                  simp
                case measure => simp [intOf]; omega
            · have hem : ((str L).toList == []) = false := by rw [str_toList]; exact beq_eq_false_iff_ne.2 hLn
              rw [if_neg hLn] at HR
              clear hLn
              by_cases hkj : j = k
              · have hng : ¬ (k : Int) < (j : Int) := by omega
                have HQ := hid (show rt k j = Lib.decDigits k by unfold rt; rw [if_pos hkj.symm])
                clear hkj
                go_wp2_with fail
                refine (refDigits_any k _ hlt).mono ?_
                rintro e w2 ⟨rfl, k2⟩
                have K2 := hid (HH.out.2.trans k2)
                clear k2
                go_wp2_with fail
                go_roundw
                case rel =>
                  refine ⟨j + 1, by omega, by go_num, ?_, hid ⟨HN.out, K2.out⟩⟩
                  show Value.string (str L ++ str [44] ++ str (Lib.decDigits k)) = _
                  rw [str_app, str_app, HR.out, HQ.out]
                  simp
                case measure => simp [intOf]; omega
              · have hng : (k : Int) < (j : Int) := by omega
                have HQ := hid (show rt k j = Lib.decDigits k ++ 45 :: Lib.decDigits j by unfold rt; rw [if_neg (fun h => hkj h.symm)])
                clear hkj
                go_wp2_with fail
                refine (refDigits_any k _ hlt).mono ?_
                rintro e w2 ⟨rfl, k2⟩
                have K2 := hid (HH.out.2.trans k2)
                clear k2
                go_wp2_with fail
                refine (refDigits_any j _ hj64).mono ?_
                rintro e w3 ⟨rfl, k3⟩
                have K3 := hid (K2.out.trans k3)
                clear k3
                go_wp2_with fail
                go_roundw
                case rel =>
                  refine ⟨j + 1, by omega, by go_num, ?_, hid ⟨HN.out, K3.out⟩⟩
                  show Value.string (str L ++ str [44] ++ str (Lib.decDigits k) ++ str [45] ++ str (Lib.decDigits j)) = _
                  rw [str_app, str_app, str_app, str_app, HR.out, HQ.out]
                  simp
                case measure => simp [intOf]; omega
    · have : k = 64 := by omega
      subst this
      have HL := hid (HJ.out 64 (by omega))
      obtain ⟨L, hL⟩ : ∃ L, jt s 64 = L := ⟨_, rfl⟩
      rw [hL] at HT ⊢
      clear hL HL HJ
      by_cases hLn : L = []
      · have hem : (str L).toList = [] := by rw [str_toList]; exact hLn
        rw [if_pos hLn] at HT
        clear hLn
        go_wp2_with fail
        go_ret
        rw [HT.out]
        exact ⟨rfl, HH.out.2⟩
      · have hem : ((str L).toList == []) = false := by rw [str_toList]; exact beq_eq_false_iff_ne.2 hLn
        rw [if_neg hLn] at HT
        clear hLn
        go_wp2_with fail
        go_ret
        rw [HT.out]
        exact ⟨rfl, HH.out.2⟩
end Go.Proofs.YtjmnclneopofhaaDoor
