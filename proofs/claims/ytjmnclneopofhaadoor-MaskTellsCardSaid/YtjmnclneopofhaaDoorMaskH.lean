/-
  Contracts of the document's answers: Up, With, Nth, Same.
-/
import Derived.Test.YtjmnclneopofhaaDoorMaskG
namespace Go.Proofs.YtjmnclneopofhaaDoor
open Go.RowKit

theorem refUp_any (n : Int) (w : World) :
    Calls Tryd.prog 12 #[.int .i64 n] w fun e w' => e = .returned (.int .u64 ((up n : Nat) : Int)) ∧ Kp No w w' := by
  have HO := hid (ofl_up n)
  have hh := hu_le n
  have hcase : (n < 0 ∧ hu n = 0) ∨ (64 < n ∧ hu n = 64) ∨ (0 ≤ n ∧ n ≤ 64 ∧ ((hu n : Nat) : Int) = n) := by unfold hu; omega
  obtain ⟨m, hm⟩ : ∃ m, hu n = m := ⟨_, rfl⟩
  rw [hm] at HO hh hcase
  have HC : Hid (∀ k : Nat, k < m → (k : Int) < n) := hid fun k hk => by omega
  have HD : Hid ((m : Int) < n → 64 ≤ (m : Int)) := hid fun hk => by omega
  clear hm hcase
  go_enter Tryd.func12, Tryd.ntmps12
  go_wp2_with fail
  go_loopw [3, 4] (fun v i w' => ∃ (k : Nat) (A : Option Addr) (c : Nat), k ≤ m ∧ i = .int .i64 (k : Int) ∧ v = .slice A k c ∧ Hid (OwnI w' w.heap.size 3 v (upl k) ∧ Kp No w w')) (fun _ i _ => m - (intOf i).toNat)
  case atStart => exact ⟨0, none, 0, by omega, rfl, rfl, hid ⟨OwnI.nil _ _ _, Kp.refl _ _⟩⟩
  case round =>
    obtain ⟨k, A, c, hk, rfl, rfl, HH⟩ := hrel
    by_cases hlt : k < m
    · have hki : (k : Int) < 64 := by omega
      have hkn : (k : Int) < n := HC.out k hlt
      have HS := hid (upl_succ k)
      have HL := hid (upl_len k)
      go_wp2_with (at_builtin
                   refine wp_appI isInts rfl (.tmp 14) (.tmp 16) rfl (base := w.heap.size) rfl HH.out.1 rfl (by have := HL.out; omega) (by exact HH.out.2.size) ?_
                   intro v2 w2 o2 k2
                   have K2 := hid (HH.out.2.step k2 fun i hi h => by omega)
                   have O2 := hid o2
                   obtain ⟨A2, c2, rfl⟩ := o2.form (n := k + 1) (by have := HL.out; rw [List.length_append, List.length_singleton]; omega)
                   clear o2 k2)
      go_roundw
      case rel => exact ⟨k + 1, A2, c2, by omega, by go_num, rfl, hid ⟨by rw [HS.out]; exact O2.out, K2.out⟩⟩
      case measure => simp [intOf]; omega
    · have : k = m := by omega
      subst this
      by_cases hkn : (k : Int) < n
      · have h64 := HD.out hkn
        go_wp2_with fail
        refine (refOf_any _ (upl k) _ (HH.out.1.sl (P := Anyb) fun _ _ => trivial)).mono ?_
        rw [HO.out]
        rintro e w' ⟨rfl, rfl⟩
        go_wp2_with fail
        go_ret
        exact ⟨rfl, HH.out.2⟩
      · go_wp2_with fail
        refine (refOf_any _ (upl k) _ (HH.out.1.sl (P := Anyb) fun _ _ => trivial)).mono ?_
        rw [HO.out]
        rintro e w' ⟨rfl, rfl⟩
        go_wp2_with fail
        go_ret
        exact ⟨rfl, HH.out.2⟩

/-- A set with a core, or without it. -/
def wi (s : Nat) (c : Int) (is : Bool) : Nat := if is then wth s c else wot s c

set_option maxHeartbeats 1000000 in
theorem refWith_any (s : Nat) (x : Int) (is : Bool) (w : World) (hs : U64 s) :
    Calls Tryd.prog 16 #[.int .u64 (s : Int), .int .i64 x, .bool is] w fun e w' => e = .returned (.int .u64 ((wi s x is : Nat) : Int)) ∧ Kp No w w' := by
  have HO := hid (ofl_wot hs x)
  have HW := hid (ofl_wth hs x)
  have HN := hid (nums_len (al s))
  have hlen := al_len s
  go_enter Tryd.func16, Tryd.ntmps16
  go_wp2_with fail
  refine (refAll_any s _ hs).mono ?_
  rintro e w1 ⟨v, rfl, o1, k1⟩
  have K1 := hid k1
  have V1 := hid ((o1.sl (P := Anyb) fun _ _ => trivial).below)
  obtain ⟨xs, hxs⟩ : ∃ xs, nums (al s) = xs := ⟨_, rfl⟩
  rw [hxs] at HO HW HN o1 V1
  have hlx : xs.length ≤ 64 := by have := HN.out; omega
  obtain ⟨A, c, rfl⟩ := o1.form rfl
  clear hxs o1 k1 HN hlen
  go_wp2_with fail
  go_loopw [7, 9] (fun v i w' => ∃ (k m : Nat) (A2 : Option Addr) (c2 : Nat), k ≤ xs.length ∧ m ≤ k ∧ i = .int .i64 (k : Int) ∧ v = .slice A2 m c2 ∧ Hid ((but (xs.take k) x).length = m ∧ OwnI w' w1.heap.size 3 v (but (xs.take k) x) ∧ Kp No w1 w')) (fun _ i _ => xs.length - (intOf i).toNat)
  case atStart => exact ⟨0, 0, none, 0, by omega, by omega, rfl, rfl, hid ⟨rfl, OwnI.nil _ _ _, Kp.refl _ _⟩⟩
  case round =>
    obtain ⟨k, m, A2, c2, hk, hm, rfl, rfl, HH⟩ := hrel
    by_cases hlt : k < xs.length
    · have hki : (k : Int) < (xs.length : Int) := by omega
      obtain ⟨A', c', he, _, _, hr⟩ := V1.out.kp HH.out.2.2 fun _ _ _ h => h
      injection he with e1 _ e3
      subst e1 e3
      obtain ⟨b, o, rfl, _, _, hcell⟩ := hr (by omega)
      have hc1 := hcell k hlt
      have HT := hid (take_snoc xs k hlt)
      obtain ⟨u, hu⟩ : ∃ u, xs.getD k 0 = u := ⟨_, rfl⟩
      rw [hu] at hc1 HT
      have HS := hid (but_snoc (xs.take k) x u)
      clear hu hcell hr
      by_cases hux : u = x
      · have hne : (u != x) = false := by rw [hux]; simp
        rw [if_pos hux, List.append_nil] at HS
        clear hux
        go_wp2_with fail
        go_roundw
        case rel => exact ⟨k + 1, m, A2, c2, by omega, by omega, by go_num, rfl, hid (by rw [HT.out, HS.out]; exact HH.out)⟩
        case measure => simp [intOf]; omega
      · have hne : (u != x) = true := by rw [bne_iff_ne]; exact hux
        rw [if_neg hux] at HS
        clear hux
        go_wp2_with (at_builtin
                     refine wp_appI isInts rfl (.tmp 24) (.tmp 29) rfl (base := w1.heap.size) rfl HH.out.2.1 rfl (by have := HH.out.1; omega) (by exact HH.out.2.2.size) ?_
                     intro v2 w2 o2 k2
                     have K2 := hid (HH.out.2.2.step k2 fun i hi h => by omega)
                     have O2 := hid o2
                     obtain ⟨A3, c3, rfl⟩ := o2.form (n := m + 1) (by have := HH.out.1; rw [List.length_append, List.length_singleton]; omega)
                     clear o2 k2)
        go_roundw
        case rel => exact ⟨k + 1, m + 1, A3, c3, by omega, by omega, by go_num, rfl, hid ⟨by have := HH.out.1; rw [HT.out, HS.out, List.length_append, List.length_singleton]; omega, by rw [HT.out, HS.out]; exact O2.out, K2.out⟩⟩
        case measure => simp [intOf]; omega
    · have hall : xs.take k = xs := List.take_of_length_le (by omega)
      rw [hall] at HH
      clear hall
      cases is with
      | true =>
        have HF := hid (show wi s x true = wth s x from rfl)
        go_wp2_with (at_builtin
                     refine wp_appI isInts rfl (.tmp 32) (.tmp 34) rfl (base := w1.heap.size) rfl HH.out.2.1 rfl (by have := HH.out.1; omega) (by exact HH.out.2.2.size) ?_
                     intro v2 w2 o2 k2
                     have K2 := hid (K1.out.trans (HH.out.2.2.step k2 fun i hi h => by omega))
                     have O2 := hid (o2.sl (P := Anyb) fun _ _ => trivial)
                     obtain ⟨A3, c3, rfl⟩ := o2.form (n := m + 1) (by have := HH.out.1; rw [List.length_append, List.length_singleton]; omega)
                     clear o2 k2)
        refine (refOf_any _ (but xs x ++ [x]) _ O2.out).mono ?_
        rw [HW.out, ← HF.out]
        rintro e w' ⟨rfl, rfl⟩
        go_wp2_with fail
        go_ret
        exact ⟨rfl, K2.out⟩
      | false =>
        have HF := hid (show wi s x false = wot s x from rfl)
        go_wp2_with fail
        refine (refOf_any _ (but xs x) _ (HH.out.2.1.sl (P := Anyb) fun _ _ => trivial)).mono ?_
        rw [HO.out, ← HF.out]
        rintro e w' ⟨rfl, rfl⟩
        go_wp2_with fail
        go_ret
        exact ⟨rfl, K1.out.trans HH.out.2.2⟩

theorem nt_list (s : Nat) (k : Int) : nt s k = if 0 ≤ k ∧ k < ((nums (al s)).length : Int) then (nums (al s)).getD k.toNat 0 else -1 := by
  unfold nt nums
  rw [List.length_map]
  by_cases h : 0 ≤ k
  · rw [if_pos h]
    by_cases h2 : k < ((al s).length : Int)
    · have h3 : k.toNat < (al s).length := by omega
      rw [if_pos ⟨h, h2⟩, List.getD, List.getElem?_map, List.getElem?_eq_getElem h3]
      rfl
    · rw [if_neg (fun h' => h2 h'.2), List.getElem?_eq_none (by omega)]
      rfl
  · rw [if_neg h, if_neg (fun h' => h h'.1)]

theorem refNth_any (s : Nat) (k : Int) (w : World) (hs : U64 s) :
    Calls Tryd.prog 23 #[.int .u64 (s : Int), .int .i64 k] w fun e w' => e = .returned (.int .i64 (nt s k)) ∧ Kp No w w' := by
  have HN := hid (nt_list s k)
  have hlen := al_len s
  have HL := hid (nums_len (al s))
  go_enter Tryd.func23, Tryd.ntmps23
  go_wp2_with fail
  refine (refAll_any s _ hs).mono ?_
  rintro e w1 ⟨v, rfl, o1, k1⟩
  have K1 := hid k1
  obtain ⟨xs, hxs⟩ : ∃ xs, nums (al s) = xs := ⟨_, rfl⟩
  rw [hxs] at HN HL o1
  have hlx : xs.length ≤ 64 := by have := HL.out; omega
  have V1 := hid (o1.sl (P := Anyb) fun _ _ => trivial)
  obtain ⟨A, c, rfl⟩ := o1.form rfl
  clear hxs o1 k1 HL hlen
  by_cases h0 : k < 0
  · rw [if_neg (by omega)] at HN
    go_wp2_with fail
    go_ret
    rw [HN.out]
    exact ⟨rfl, K1.out⟩
  · by_cases h1 : (xs.length : Int) ≤ k
    · rw [if_neg (by omega)] at HN
      go_wp2_with fail
      go_ret
      rw [HN.out]
      exact ⟨rfl, K1.out⟩
    · rw [if_pos (by omega)] at HN
      obtain ⟨j, rfl⟩ : ∃ j : Nat, k = (j : Int) := ⟨k.toNat, by omega⟩
      have hj : j < xs.length := by omega
      have hji : (j : Int) < (xs.length : Int) := by omega
      obtain ⟨A', c', he, _, _, hr⟩ := V1.out
      injection he with e1 _ e3
      subst e1 e3
      obtain ⟨b, o, rfl, _, _, hcell⟩ := hr (by omega)
      have hc1 := hcell j hj
      rw [Int.toNat_natCast] at HN
      obtain ⟨u, hu⟩ : ∃ u, xs.getD j 0 = u := ⟨_, rfl⟩
      rw [hu] at hc1 HN
      clear hu hcell hr h1
      go_wp2_with fail
      go_ret
      rw [HN.out]
      exact ⟨rfl, K1.out⟩

theorem refSame_any (v u : Value) (xs : List Int) (w : World) {S T : Nat → Prop} (hv : Sl (Value.int .i64) 0 w S v xs) (hu : Sl (Value.int .i64) 0 w T u xs) (hl : xs.length ≤ 1000) :
    Calls Tryd.prog 19 #[v, u] w fun e w' => e = .returned (.bool true) ∧ Kp No w w' := by
  have HV := hid hv
  have HU := hid hu
  obtain ⟨A, cp, rfl, _, _, _⟩ := hv
  obtain ⟨A2, cp2, rfl, _, _, _⟩ := hu
  go_enter Tryd.func19, Tryd.ntmps19
  go_wp2_with fail
  go_loopw [5] (fun i w' => ∃ k n : Nat, k ≤ xs.length ∧ i = .int .i64 (k : Int) ∧ w' = w.drewN n) (fun i _ => xs.length - (intOf i).toNat)
  case atStart => exact ⟨0, 0, by omega, rfl, rfl⟩
  case round =>
    obtain ⟨k, n, hk, rfl, rfl⟩ := hrel
    by_cases hlt : k < xs.length
    · have hki : (k : Int) < (xs.length : Int) := by omega
      obtain ⟨A', c', he, _, _, hr⟩ := HV.out
      injection he with e1 _ e3
      subst e1 e3
      obtain ⟨b, o, rfl, _, _, hcell⟩ := hr (by omega)
      have hc1 := hcell k hlt
      obtain ⟨A', c', he, _, _, hr2⟩ := HU.out
      injection he with e1 _ e3
      subst e1 e3
      obtain ⟨b2, o2, rfl, _, _, hcell2⟩ := hr2 (by omega)
      have hc2 := hcell2 k hlt
      obtain ⟨z, hz⟩ : ∃ z, xs.getD k 0 = z := ⟨_, rfl⟩
      rw [hz] at hc1 hc2
      clear hz hcell hr hcell2 hr2
      go_wp2_with fail
      go_quiet (fail)
      go_wp2_with fail
      exact ⟨⟨k + 1, n + nq, by omega, by go_num, rfl⟩, by simp [intOf]; omega⟩
    · go_wp2_with fail
      go_ret
      exact ⟨rfl, (Kp.refl No w).drewN n⟩
end Go.Proofs.YtjmnclneopofhaaDoor
