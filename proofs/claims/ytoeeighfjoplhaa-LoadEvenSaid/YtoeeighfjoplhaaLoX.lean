/-
  Contract of slices.rotateCmpFunc at []int.
-/
import Derived.Test.YtoeeighfjoplhaaLoW
namespace Go.Proofs.Ytoeeighfjoplhaa
open Go.RowKit
set_option maxRecDepth 100000 in
set_option maxHeartbeats 4000000 in
theorem rotate_any {w0 w : World} {bk n cap a m b : Nat} {g : FuncId} {bd cb : Array Value} {F : Nat → Int} (h : RowF w0 w bk n F) (ham : a < m) (hmb : m < b) (hbn : b ≤ n) (hn : n ≤ 1000000) :
    Calls Try.prog 79 #[.slice (some ⟨bk, 0, none⟩) n cap, .int .i64 (a : Int), .int .i64 (m : Int), .int .i64 (b : Int), .func (.func g) bd cb] w fun e w' => e = .returned (.tuple #[]) ∧ RowF w0 w' bk n (rotF a m b F) ∧ Pm a b F (rotF a m b F) := by
  have H0 := hid h
  have mixed : Try.prog.follows .mixedOrders = true := by kernel_rfl
  clear h
  obtain ⟨i0, hi0⟩ : ∃ q, a + q = m := ⟨m - a, by omega⟩
  obtain ⟨j0, hj0⟩ : ∃ q, m + q = b := ⟨b - m, by omega⟩
  have ei0 : (m : Int) - (a : Int) = (i0 : Int) := by omega
  have ej0 : (b : Int) - (m : Int) = (j0 : Int) := by omega
  have hwi0 := wrapI (x := (i0 : Int)) (by unfold I64; omega)
  have hwj0 := wrapI (x := (j0 : Int)) (by unfold I64; omega)
  go_enter Try.func79, Try.ntmps79
  go_wp2_with fail
  go_loopw [10, 11] (fun u v wr => ∃ (i j : Nat) (G : Nat → Int), u = .int .i64 (i : Int) ∧ v = .int .i64 (j : Int) ∧ 0 < i ∧ 0 < j ∧ i ≤ i0 ∧ j ≤ j0 ∧ Hid (RowF w0 wr bk n G) ∧ Hid (Pm a b F G) ∧ Hid (rotF (m - i) m (m + j) G = rotF a m b F)) (fun u v _ => (vNum u).toNat + (vNum v).toNat)
  case atStart => exact ⟨i0, j0, F, rfl, rfl, by omega, by omega, by omega, by omega, H0, hid .rfl', hid (by rw [hj0, show m - i0 = a from by omega])⟩
  case round =>
    obtain ⟨i, j, G, rfl, rfl, hi, hj, hii, hjj, HG, HP, HR⟩ := hrel
    obtain ⟨mi, hmi⟩ : ∃ q, m - i = q := ⟨_, rfl⟩
    have emi : (m : Int) - (i : Int) = (mi : Int) := by omega
    have hwmi := wrapI (x := (mi : Int)) (by unfold I64; omega)
    by_cases hne : i = j
    · subst hne
      have HS := hid (rot_same (m := m) (i := i) (by omega) G)
      have HPS := hid (HP.out.swF (x := m - i) (y := m) (n := i) (by omega) (by omega) (by omega))
      rw [hmi] at HS HPS HR
      go_wp2_with (go_at_call 80; refine (swapRange_any HG.out (x := mi) (y := m) (m := i) (by omega) (by omega) hn).mono ?_; rintro e w4 ⟨rfl, k4⟩)
      go_end0
      exact ⟨rfl, by rw [← HR.out, ← HS.out]; exact k4, by rw [← HR.out, ← HS.out]; exact HPS.out⟩
    · have gne : ¬ (i : Int) = (j : Int) := by omega
      by_cases hlt : j < i
      · have glt : (j : Int) < (i : Int) := by omega
        obtain ⟨k, hk⟩ : ∃ q, i - j = q := ⟨_, rfl⟩
        have ek : (i : Int) - (j : Int) = (k : Int) := by omega
        have hwk := wrapI (x := (k : Int)) (by unfold I64; omega)
        have HS := hid (rot_more (m := m) (i := i) (j := j) hlt (by omega) G)
        have HPS := hid (HP.out.swF (x := m - i) (y := m) (n := j) (by omega) (by omega) (by omega))
        rw [hmi] at HS HPS HR
        rw [hk] at HS
        go_wp2_with (go_at_call 80; refine (swapRange_any HG.out (x := mi) (y := m) (m := j) (by omega) (by omega) hn).mono ?_; rintro e w4 ⟨rfl, k4⟩)
        go_roundw
        case rel => exact ⟨k, j, _, by go_num, rfl, by omega, hj, by omega, hjj, hid (k4.kp0 (Kp.refl No _)), HPS, hid (HS.out.trans HR.out)⟩
        case measure => simp [vNum]; omega
      · have gnl : ¬ (j : Int) < (i : Int) := by omega
        obtain ⟨k, hk⟩ : ∃ q, j - i = q := ⟨_, rfl⟩
        have ek : (j : Int) - (i : Int) = (k : Int) := by omega
        have hwk := wrapI (x := (k : Int)) (by unfold I64; omega)
        obtain ⟨p, hp⟩ : ∃ q, m + j = q := ⟨_, rfl⟩
        have ep : (m : Int) + (j : Int) = (p : Int) := by omega
        have hwp := wrapI (x := (p : Int)) (by unfold I64; omega)
        obtain ⟨r, hr⟩ : ∃ q, p - i = q := ⟨_, rfl⟩
        have er : (p : Int) - (i : Int) = (r : Int) := by omega
        have hwr := wrapI (x := (r : Int)) (by unfold I64; omega)
        have HS := hid (rot_less (m := m) (i := i) (j := j) (by omega) (by omega) G)
        have HPS := hid (HP.out.swF (x := m - i) (y := m + j - i) (n := i) (by omega) (by omega) (by omega))
        rw [hmi, hp, hr] at HS HPS
        rw [hmi, hp] at HR
        rw [hk] at HS
        go_wp2_with (go_at_call 80; refine (swapRange_any HG.out (x := mi) (y := r) (m := i) (by omega) (by omega) hn).mono ?_; rintro e w4 ⟨rfl, k4⟩)
        go_roundw
        case rel => exact ⟨i, k, _, rfl, by go_num, hi, by omega, hii, by omega, hid (k4.kp0 (Kp.refl No _)), HPS, hid (by rw [hmi]; exact HS.out.trans HR.out)⟩
        case measure => simp [vNum]; omega
end Go.Proofs.Ytoeeighfjoplhaa
