/-
  Contracts of slices.stableCmpFunc and SortStableFunc at []int, of fewer than twenty.
-/
import Derived.Test.YtoeeighfjoplhaaLoX
namespace Go.Proofs.Ytoeeighfjoplhaa
open Go.RowKit
section
variable {w0 w : World} {bk n cap : Nat} {g : FuncId} {bd cb : Array Value} {V : Int → Prop} {c : Int → Int → Int} {R : Int → Int → Prop} {F : Nat → Int}
set_option maxRecDepth 100000 in
set_option maxHeartbeats 4000000 in
theorem stable_small (hR : Ord R) (hC : Cmp w0 bk g bd cb V c) (h : RowF w0 w bk n F) (hV : ∀ k, k < n → V (F k)) (hS : Says c R 0 n F) (hn : n < 20) :
    Calls Try.prog 69 #[.slice (some ⟨bk, 0, none⟩) n cap, .int .i64 (n : Int), .func (.func g) bd cb] w fun e w' => e = .returned (.tuple #[]) ∧ ∃ F', RowF w0 w' bk n F' ∧ Pm 0 n F F' ∧ Srt R 0 n F' := by
  have HR := hid hR
  have HC := hid hC
  have H0 := hid h
  have HV := hid hV
  have HS := hid hS
  have g1 : ¬ (20 : Int) ≤ (n : Int) := by omega
  have g2 : ¬ (20 : Int) < (n : Int) := by omega
  clear hR hC h hV hS
  go_enter Try.func69, Try.ntmps69
  go_wp2_with fail
  go_loopw [7, 8] (fun u v wr => u = .int .i64 0 ∧ v = .int .i64 20 ∧ wr = w) (fun _ _ _ => 0)
  case atStart => exact ⟨rfl, rfl, rfl⟩
  case round =>
    obtain ⟨rfl, rfl, rfl⟩ := hrel
    go_wp2_with (go_at_call 59; refine (insertion_any HR.out HC.out H0.out HV.out (a := 0) (b := n) HS.out (by omega) (by omega) (by omega)).mono ?_; rintro e w4 ⟨rfl, F4, k4, p4, s4⟩)
    have K4 := hid k4
    have P4 := hid p4
    have S4 := hid s4
    clear k4 p4 s4
    go_loopw [6, 7, 8] (fun s u v wr => s = .int .i64 20 ∧ u = .int .i64 0 ∧ v = .int .i64 20 ∧ wr = w4) (fun _ _ _ _ => 0)
    case atStart => exact ⟨rfl, rfl, rfl, rfl⟩
    case round =>
      obtain ⟨rfl, rfl, rfl, rfl⟩ := hrel
      go_wp2_with fail
      go_end0
      exact ⟨rfl, F4, K4.out, P4.out, S4.out⟩
set_option maxRecDepth 100000 in
theorem sortStable_small (hR : Ord R) (hC : Cmp w0 bk g bd cb V c) (h : RowF w0 w bk n F) (hV : ∀ k, k < n → V (F k)) (hS : Says c R 0 n F) (hn : n < 20) :
    Calls Try.prog 54 #[.slice (some ⟨bk, 0, none⟩) n cap, .func (.func g) bd cb] w fun e w' => e = .returned (.tuple #[]) ∧ ∃ F', RowF w0 w' bk n F' ∧ Pm 0 n F F' ∧ Srt R 0 n F' := by
  have HX := hid (stable_small (cap := cap) hR hC h hV hS hn)
  clear hR hC h hV hS
  go_enter Try.func54, Try.ntmps54
  go_wp2_with (go_at_call 69; refine HX.out.mono ?_; rintro e w4 ⟨rfl, k4⟩)
  go_end0
  exact ⟨rfl, k4⟩
end
end Go.Proofs.Ytoeeighfjoplhaa
