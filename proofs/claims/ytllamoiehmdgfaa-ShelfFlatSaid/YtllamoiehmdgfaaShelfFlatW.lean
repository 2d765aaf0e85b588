/-
  The walk of ShelfFlat; the document's Digits.
-/
import Derived.Test.YtllamoiehmdgfaaSOpen
namespace Go.Proofs.Ytllamoiehmdgfaa
open Go.RowKit

/-- How many binary digits a number has. -/
def dgN (n : Nat) : Nat := if n = 0 then 0 else Nat.log2 n + 1
theorem dgN_lt (n : Nat) : n < 2 ^ dgN n := by
  unfold dgN
  split
  · subst_vars; simp
  · rename_i h
    exact (Nat.log2_lt h).1 (Nat.lt_succ_self _)
theorem dgN_le {n d : Nat} (h : n < 2 ^ d) : dgN n ≤ d := by
  unfold dgN
  split
  · omega
  · rename_i h0
    exact (Nat.log2_lt h0).2 h
theorem dgN_eq {n d : Nat} (h : n < 2 ^ d) (h2 : d = 0 ∨ 2 ^ (d - 1) ≤ n) : dgN n = d := by
  have h1 := dgN_le h
  rcases h2 with rfl | h2
  · omega
  · have h3 := dgN_lt n
    rcases Nat.lt_or_ge (dgN n) d with h4 | h4
    · have h5 : 2 ^ dgN n ≤ 2 ^ (d - 1) := Nat.pow_le_pow_right (by omega) (by omega)
      omega
    · omega
theorem DeepOk.bound {d n : Nat} (h : DeepOk d n) : d ≤ 2 * dgN n ∧ dgN n ≤ d ∧ (d = 0 ↔ n = 0) := by
  obtain ⟨h1, h2, h3⟩ := h
  have h4 := dgN_lt n
  refine ⟨?_, dgN_le (by omega), ?_⟩
  · have h5 : 2 ^ ((d + 1) / 2) ≤ 2 ^ dgN n := by omega
    have h6 : (d + 1) / 2 ≤ dgN n := (Nat.pow_le_pow_iff_right (by omega)).1 h5
    omega
  · constructor
    · rintro rfl
      simp at h2
      omega
    · intro h; omega
theorem dgN_small {n : Nat} (h : n ≤ 1000) : dgN n ≤ 10 := dgN_le (by omega)

set_option maxRecDepth 100000 in
theorem digits_any (n : Nat) (hn : n ≤ 1000) (w : World) :
    Calls Try.prog 28 #[.int .i64 (n : Int)] w fun e w' => e = .returned (.int .i64 (dgN n : Int)) ∧ w = w' := by
  go_enter Try.func28, Try.ntmps28
  go_wp2_with fail
  go_loop [0, 3] (fun a k => ∃ m j : Nat, a = .int .i64 (m : Int) ∧ k = .int .i64 (j : Int) ∧ m ≤ 1000 ∧ j + m ≤ 1001 ∧ Hid (m = n / 2 ^ j) ∧ Hid (j = 0 ∨ 2 ^ (j - 1) ≤ n)) (fun a _ => (intOf a).toNat)
  case atStart => exact ⟨n, 0, rfl, rfl, hn, by omega, hid (by simp), hid (.inl rfl)⟩
  case round =>
    obtain ⟨m, j, rfl, rfl, hm, hj, HM, HJ⟩ := hrel
    by_cases h0 : 0 < m
    · go_wp2_with fail
      go_round
      case rel =>
        refine ⟨m / 2, j + 1, by congr 1, by go_num, by omega, by omega, hid ?_, hid (.inr ?_)⟩
        · rw [HM.out, Nat.pow_succ, Nat.div_div_eq_div_mul]
        · rw [Nat.add_sub_cancel]
          have h1 : 0 < n / 2 ^ j := by rw [← HM.out]; exact h0
          rcases Nat.lt_or_ge n (2 ^ j) with h2 | h2
          · rw [Nat.div_eq_of_lt h2] at h1; omega
          · exact h2
      case measure => simp [intOf]; omega
    · have hz : m = 0 := by omega
      subst hz
      have he : dgN n = j := dgN_eq (by
        rcases Nat.lt_or_ge n (2 ^ j) with h2 | h2
        · exact h2
        · have := Nat.div_pos h2 (Nat.pow_pos (by omega))
          rw [← HM.out] at this
          omega) HJ.out
      have HE := hid he
      clear he
      go_wp2_with fail
      go_ret
      rw [HE.out]
      exact ⟨rfl, rfl⟩

theorem putL_new_len {l : List It} {x : It} (h : x ∉ l) : (putL l x).length = l.length + 1 ∧ ∀ y ∈ putL l x, y = x ∨ y ∈ l := by
  unfold putL
  rw [if_neg h]
  constructor
  · simp only [List.length_append, List.length_cons]
    have : (l.filter fun y => ltB y x).length + (l.filter fun y => ltB x y).length = l.length := by
      induction l with
      | nil => simp
      | cons a l ih =>
        have := ih (fun h' => h (List.mem_cons.2 (.inr h')))
        simp only [List.filter_cons, List.length_cons]
        rcases ltB_tri a x with h1 | h1 | h1
        · rw [h1, ltB_asymm h1]
          simp
          omega
        · exact absurd (List.mem_cons.2 (.inl h1.symm)) h
        · rw [h1, ltB_asymm h1]
          simp
          omega
    omega
  · intro y hy
    simp only [List.mem_append, List.mem_cons, List.mem_filter] at hy
    rcases hy with hy | hy | hy
    · exact .inr hy.1
    · exact .inl hy
    · exact .inr hy.1

theorem both_zero {d n : Nat} (h : d = 0 ↔ n = 0) : (((d : Int) == 0) == ((n : Int) == 0)) = true := by
  by_cases e : d = 0
  · simp [e, h.1 e]
  · have : n ≠ 0 := fun x => e (h.2 x)
    rw [show ((d : Int) == 0) = false from beq_eq_false_iff_ne.2 (by omega), show ((n : Int) == 0) = false from beq_eq_false_iff_ne.2 (by omega)]
    rfl

/-- The items of a row, one above the other. -/
def Row (s : Int) (k : Nat) (l : List It) : Prop := l.length = k ∧ ∀ y ∈ l, ∃ j : Nat, j < k ∧ y = ⟨s * (j : Int), 0⟩
theorem Row.next {s : Int} {k : Nat} {l : List It} (hs : s = 1 ∨ s = -1) (h : Row s k l) : (⟨s * (k : Int), 0⟩ : It) ∉ l ∧ Row s (k + 1) (putL l ⟨s * (k : Int), 0⟩) := by
  have hn : (⟨s * (k : Int), 0⟩ : It) ∉ l := fun hx => by
    obtain ⟨j, hj, he⟩ := h.2 _ hx
    have : s * (k : Int) = s * (j : Int) := congrArg It.key he
    rcases hs with rfl | rfl <;> omega
  obtain ⟨h1, h2⟩ := putL_new_len hn
  refine ⟨hn, by rw [h1, h.1], fun y hy => ?_⟩
  rcases h2 y hy with rfl | hy
  · exact ⟨k, by omega, rfl⟩
  · obtain ⟨j, hj, he⟩ := h.2 y hy
    exact ⟨j, by omega, he⟩

set_option maxRecDepth 100000 in
set_option maxHeartbeats 2000000 in
theorem shelfFlat_walk (w : World) (v : Value) (many : Int) (up : Bool) {ops : List Op} (hv : Rw 3 oc op0 w Anyb v ops) (hmany : 0 ≤ many ∧ many ≤ 65535) :
    Calls Try.prog 5 #[v, .int .u16 many, .bool up] w fun e w' => e = .returned (.bool true) ∧ Kp No w w' := by
  have HV := hid hv
  obtain ⟨A, vc, rfl, hc, hm, hr⟩ := hv
  clear hr
  simp only [maxLen] at hm
  obtain ⟨N, hN⟩ : ∃ N : Nat, (N : Int) = many % 301 := ⟨(many % 301).toNat, by omega⟩
  have hN3 : N ≤ 300 := by omega
  have HN := hid hN
  go_enter Try.func5, Try.ntmps5
  go_wp2_with fail
  refine (awake_any w).mono ?_
  rintro e w1 ⟨rfl, k1⟩
  have K1 := hid k1
  have V1 := hid (HV.out.kp0 K1.out)
  clear k1 HV
  by_cases hbig : 100 < ops.length
  · go_wp2_with fail
    go_ret
    exact ⟨rfl, K1.out⟩
  · have hl : ops.length ≤ 100 := by omega
    go_wp2_with fail
    refine (walked_any V1.out hl).mono ?_
    rintro e w2 ⟨rfl, k2, h2⟩
    have hpl := play_len ops
    generalize play ops = l at h2 hpl
    have H2 := hid (h2.mono (T := fun k => k < w2.heap.size) fun i hi _ => hi)
    have K2 := hid (K1.out.trans k2)
    clear h2 k2
    go_wp2_with fail
    refine (New_any w2).mono ?_
    rintro e w3 ⟨rfl, rfl⟩
    have h3 := Shf.new (S := Up w2.heap.size) w2 (Nat.le_refl _)
    have k3 := (Kp.refl No w2).alloc (.cells #[.slice none 0 0, .int .i64 0] 59)
    generalize w2.alloc (.cells #[.slice none 0 0, .int .i64 0] 59) = w3 at h3 k3 ⊢
    have H3 := hid h3
    have K3 := hid k3
    clear h3 k3 hN
    go_wp2_with fail
    rw [← HN.out]
    go_loopw [11, 12] (fun i _ wr => ∃ k : Nat, k ≤ N ∧ i = .int .i64 (k : Int) ∧ Hid (Kp No w wr) ∧ Hid (Shf wr w1.heap.size (fun k => k < w2.heap.size) l) ∧ Hid (∃ lt, Row (if up then 1 else -1) k lt ∧ Shf wr w2.heap.size (Up w2.heap.size) lt)) (fun i _ _ => N - (intOf i).toNat)
    case atStart => exact ⟨0, by omega, rfl, hid (K2.out.trans K3.out), hid (H2.out.kp0 K3.out), hid ⟨[], ⟨rfl, fun y hy => by cases hy⟩, H3.out⟩⟩
    case round =>
      obtain ⟨k, hk, rfl, K, HL, HT⟩ := hrel
      obtain ⟨lt, hrow, hsh⟩ := HT.out
      have hlt := hrow.1
      have HR := hid hrow
      have HSh := hid hsh
      have hK2 := K.out.size
      have HLt := hid hlt
      clear HT hrow hsh hlt
      by_cases hkN : k < N
      · have hw2 := Nat.le_of_lt HSh.out.lt
        have HW2 := hid (show w.heap.size ≤ w2.heap.size from K2.out.size)
        cases up with
        | true =>
          have hn : (⟨(k : Int), 0⟩ : It) ∉ lt ∧ Row 1 (k + 1) (putL lt ⟨(k : Int), 0⟩) := by
            have := (show Row 1 k lt from HR.out).next (.inl rfl)
            rw [Int.one_mul] at this
            exact this
          have HX := hid hn.1
          have HR2 := hid hn.2
          clear hn
          go_wp2_with fail
          refine (put_in HSh.out (by rw [HLt.out]; omega) hw2 ⟨(k : Int), 0⟩ (v := true) (by rw [decide_eq_false HX.out]; rfl) rfl).mono ?_
          rintro e w5 ⟨rfl, k5, h5⟩
          obtain ⟨d, hd, hc⟩ := deep_ok h5
          rw [HR2.out.1] at hd
          have hdb := hd.bound
          have hds := dgN_small (n := k + 1) (by omega)
          have hd1 : 1 ≤ d := by
            have := hdb.2.2
            omega
          have hd2 := hdb.1
          have K5 := hid (K.out.up k5 HW2.out)
          have HL5 := hid (HL.out.kp k5 fun i hi e => by have : w2.heap.size ≤ i := e; omega)
          have H5 := hid h5
          have HC := hid hc
          clear hdb hd hc h5 k5
          go_wp2_with fail
          refine HC.out.mono ?_
          rintro e w6 ⟨rfl, rfl⟩
          go_wp2_with fail
          rw [show (k : Int) + 1 = ((k + 1 : Nat) : Int) by omega]
          refine (digits_any (k + 1) (by omega) _).mono ?_
          rintro e w6 ⟨rfl, rfl⟩
          go_wp2_with fail
          refine HC.out.mono ?_
          rintro e w6 ⟨rfl, rfl⟩
          go_wp2_with fail
          go_roundw
          case rel => first | exact ⟨k + 1, by omega, rfl, K5, HL5, hid ⟨_, HR2.out, H5.out⟩⟩ | ((repeat apply Exists.intro); exact ⟨⟨k + 1, by omega, rfl, K5, HL5, hid ⟨_, HR2.out, H5.out⟩⟩, rfl⟩)
          case measure => simp [intOf]; omega
        | false =>
          have hn : (⟨(-(k : Int)), 0⟩ : It) ∉ lt ∧ Row (-1) (k + 1) (putL lt ⟨(-(k : Int)), 0⟩) := by
            have := (show Row (-1) k lt from HR.out).next (.inr rfl)
            rw [show (-1 : Int) * (k : Int) = -(k : Int) by omega] at this
            exact this
          have HX := hid hn.1
          have HR2 := hid hn.2
          clear hn
          go_wp2_with fail
          refine (put_in HSh.out (by rw [HLt.out]; omega) hw2 ⟨(-(k : Int)), 0⟩ (v := true) (by rw [decide_eq_false HX.out]; rfl) rfl).mono ?_
          rintro e w5 ⟨rfl, k5, h5⟩
          obtain ⟨d, hd, hc⟩ := deep_ok h5
          rw [HR2.out.1] at hd
          have hdb := hd.bound
          have hds := dgN_small (n := k + 1) (by omega)
          have hd1 : 1 ≤ d := by
            have := hdb.2.2
            omega
          have hd2 := hdb.1
          have K5 := hid (K.out.up k5 HW2.out)
          have HL5 := hid (HL.out.kp k5 fun i hi e => by have : w2.heap.size ≤ i := e; omega)
          have H5 := hid h5
          have HC := hid hc
          clear hdb hd hc h5 k5
          go_wp2_with fail
          refine HC.out.mono ?_
          rintro e w6 ⟨rfl, rfl⟩
          go_wp2_with fail
          rw [show (k : Int) + 1 = ((k + 1 : Nat) : Int) by omega]
          refine (digits_any (k + 1) (by omega) _).mono ?_
          rintro e w6 ⟨rfl, rfl⟩
          go_wp2_with fail
          refine HC.out.mono ?_
          rintro e w6 ⟨rfl, rfl⟩
          go_wp2_with fail
          go_roundw
          case rel => first | exact ⟨k + 1, by omega, rfl, K5, HL5, hid ⟨_, HR2.out, H5.out⟩⟩ | ((repeat apply Exists.intro); exact ⟨⟨k + 1, by omega, rfl, K5, HL5, hid ⟨_, HR2.out, H5.out⟩⟩, rfl⟩)
          case measure => simp [intOf]; omega
      · have hkn : k = N := by omega
        subst hkn
        obtain ⟨d, hd, hc⟩ := deep_ok HL.out
        have hdb := hd.bound
        have hd1 := hdb.1
        have hd2 := hdb.2.1
        have hd3 := hdb.2.2
        have hds := dgN_small (n := l.length) (by omega)
        have HC := hid hc
        have HD3 := hid hd3
        clear hdb hd hc hd3
        go_wp2_with fail
        refine (Len_any HL.out).mono ?_
        rintro e w6 ⟨rfl, rfl⟩
        go_wp2_with fail
        refine (Len_any HSh.out).mono ?_
        rintro e w6 ⟨rfl, rfl⟩
        rw [HLt.out]
        go_wp2_with fail
        refine HC.out.mono ?_
        rintro e w6 ⟨rfl, rfl⟩
        go_wp2_with fail
        refine (digits_any l.length (by omega) _).mono ?_
        rintro e w6 ⟨rfl, rfl⟩
        go_wp2_with fail
        refine HC.out.mono ?_
        rintro e w6 ⟨rfl, rfl⟩
        go_wp2_with fail
        refine (digits_any l.length (by omega) _).mono ?_
        rintro e w6 ⟨rfl, rfl⟩
        go_wp2_with fail
        refine HC.out.mono ?_
        rintro e w6 ⟨rfl, rfl⟩
        go_wp2_with fail
        go_ret
        refine ⟨?_, K.out⟩
        show Ending.returned (.bool (((d : Int) == 0) == ((l.length : Int) == 0))) = _
        rw [both_zero HD3.out]
end Go.Proofs.Ytllamoiehmdgfaa
