/-
  Contract of slices.BinarySearchFunc at []int and int, at whatever function value.
-/
import Derived.Test.YtoeeighfjoplhaaLoV
namespace Go.Proofs.Ytoeeighfjoplhaa
open Go.RowKit
set_option maxRecDepth 100000 in
set_option maxHeartbeats 4000000 in
theorem search_any {w0 w : World} {bk n cap : Nat} {g : FuncId} {bd cb : Array Value} {V : Int → Prop} {c : Int → Int → Int} {F : Nat → Int} {tv : Int} (hC : Cmp w0 bk g bd cb V c) (h : RowF w0 w bk n F) (hV : ∀ k, k < n → V (F k)) (hT : V tv)
    (hM : ∀ a b, a ≤ b → b < n → c (F b) tv < 0 → c (F a) tv < 0) (hn : n ≤ 1000000) :
    Calls Try.prog 47 #[.slice (some ⟨bk, 0, none⟩) n cap, .int .i64 tv, .func (.func g) bd cb] w fun e w' => ∃ p : Nat, e = .returned (.tuple #[.int .i64 (p : Int), .bool (decide (p < n) && decide (c (F p) tv = 0))]) ∧
      p ≤ n ∧ (∀ t, t < p → c (F t) tv < 0) ∧ (∀ t, p ≤ t → t < n → 0 ≤ c (F t) tv) ∧ RowF w0 w' bk n F := by
  have HC := hid hC
  have H0 := hid h
  have HV := hid hV
  have HT := hid hT
  have HM := hid hM
  clear hC h hV hM hT
  go_enter Try.func47, Try.ntmps47
  go_wp2_with fail
  go_loopw [9, 10] (fun u v wr => ∃ lo hi : Nat, u = .int .i64 (lo : Int) ∧ v = .int .i64 (hi : Int) ∧ lo ≤ hi ∧ hi ≤ n ∧ Hid (RowF w0 wr bk n F) ∧ Hid ((∀ t, t < lo → c (F t) tv < 0) ∧ (∀ t, hi ≤ t → t < n → 0 ≤ c (F t) tv))) (fun u v _ => (vNum v).toNat - (vNum u).toNat)
  case atStart => exact ⟨0, n, rfl, rfl, Nat.zero_le _, Nat.le_refl _, H0, hid ⟨fun t ht => absurd ht (Nat.not_lt_zero _), fun t h1 h2 => by omega⟩⟩
  case round =>
    clear H0
    obtain ⟨lo, hi, rfl, rfl, hlh, hin, HG, I⟩ := hrel
    by_cases hlt : lo < hi
    · have glt : (lo : Int) < (hi : Int) := by omega
      obtain ⟨md, hmd⟩ : ∃ q, (lo + hi) / 2 = q := ⟨_, rfl⟩
      have emd : ((lo : Int) + (hi : Int)) / 2 = (md : Int) := by omega
      have hmn : (md : Int) < (n : Int) := by omega
      have cm := HG.out.cell (j := md) (by omega)
      have HY := hid (show F md = F md from rfl)
      have hc := HC.out.says _ HG.out.kp (F md) tv (HV.out md (by omega)) HT.out
      rw [Array.append_assoc] at hc
      have eg := HC.out.enters
      by_cases hyx : c (F md) tv < 0
      · go_wp2_with (go_at_fn g; refine hc.mono ?_; rintro e w' ⟨rfl, k'⟩)
        go_roundw
        case rel =>
          exact ⟨md + 1, hi, by go_num, rfl, by omega, hin, hid (HG.out.kp0 k'), hid ⟨fun t ht => HM.out t md (by omega) (by omega) hyx, I.out.2⟩⟩
        case measure => simp [vNum]; omega
      · go_wp2_with (go_at_fn g; refine hc.mono ?_; rintro e w' ⟨rfl, k'⟩)
        go_roundw
        case rel =>
          exact ⟨lo, md, rfl, by go_num, by omega, by omega, hid (HG.out.kp0 k'), hid ⟨I.out.1, fun t ht htn => Int.not_lt.1 fun h => by have := HM.out md t ht htn h; omega⟩⟩
        case measure => simp [vNum]; omega
    · obtain rfl : hi = lo := by omega
      have gnl : ¬ (hi : Int) < (hi : Int) := by omega
      by_cases hn2 : hi < n
      · have cl := HG.out.cell (j := hi) (by omega)
        have hc := HC.out.says _ HG.out.kp (F hi) tv (HV.out hi (by omega)) HT.out
        rw [Array.append_assoc] at hc
        have eg := HC.out.enters
        have gn2 : (hi : Int) < (n : Int) := by omega
        by_cases hz : c (F hi) tv = 0
        · go_wp2_with (go_at_fn g; refine hc.mono ?_; rintro e w' ⟨rfl, k'⟩)
          go_ret2
          refine ⟨hi, ?_, by omega, I.out.1, I.out.2, HG.out.kp0 k'⟩
          simp [hn2, hz]
        · go_wp2_with (go_at_fn g; refine hc.mono ?_; rintro e w' ⟨rfl, k'⟩)
          go_ret2
          refine ⟨hi, ?_, by omega, I.out.1, I.out.2, HG.out.kp0 k'⟩
          simp [hn2, hz]
      · have gn2 : ¬ (hi : Int) < (n : Int) := by omega
        go_wp2_with fail
        go_ret2
        exact ⟨hi, by simp [hn2], by omega, I.out.1, I.out.2, HG.out⟩
end Go.Proofs.Ytoeeighfjoplhaa
