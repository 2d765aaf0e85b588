/-
  Contracts of slices.SortFunc and SortStableFunc at a nil []int.
-/
import Derived.Test.YtoeeighfjoplhaaLoZ
namespace Go.Proofs.Ytoeeighfjoplhaa
open Go.RowKit
section
variable {w : World} {g : FuncId} {bd cb : Array Value}
set_option maxRecDepth 100000 in
theorem insertion_nil : Calls Try.prog 59 #[.slice none 0 0, .int .i64 0, .int .i64 0, .func (.func g) bd cb] w fun e w' => e = .returned (.tuple #[]) ∧ w' = w := by
  go_enter Try.func59, Try.ntmps59
  go_wp2_with fail
  go_loopw [8] (fun u wr => u = .int .i64 1 ∧ wr = w) (fun _ _ => 0)
  case atStart => exact ⟨rfl, rfl⟩
  case round =>
    obtain ⟨rfl, rfl⟩ := hrel
    go_wp2_with fail
    go_end0
    exact ⟨rfl, rfl⟩
set_option maxRecDepth 100000 in
theorem pdq_nil {lim : Int} : Calls Try.prog 51 #[.slice none 0 0, .int .i64 0, .int .i64 0, .int .i64 lim, .func (.func g) bd cb] w fun e w' => e = .returned (.tuple #[]) ∧ w' = w := by
  go_enter Try.func51, Try.ntmps51
  go_wp2_with fail
  go_loopw [1, 2, 3, 10, 11] (fun s1 s2 s3 s8 s9 wr => s1 = .int .i64 0 ∧ s2 = .int .i64 0 ∧ s3 = .int .i64 lim ∧ s8 = .bool true ∧ s9 = .bool true ∧ wr = w) (fun _ _ _ _ _ _ => 0)
  case atStart => exact ⟨rfl, rfl, rfl, rfl, rfl, rfl⟩
  case round =>
    obtain ⟨rfl, rfl, rfl, rfl, rfl, rfl⟩ := hrel
    go_wp2_with (go_at_call 59; refine insertion_nil.mono ?_; rintro e w4 ⟨rfl, rfl⟩)
    (try simp only [Exit.inBlock, Exit.then])
    refine bodyPost_ret (results_none rfl _ _ _) rfl ?_
    exact ⟨rfl, rfl⟩
set_option maxRecDepth 100000 in
theorem sort_nil : Calls Try.prog 40 #[.slice none 0 0, .func (.func g) bd cb] w fun e w' => e = .returned (.tuple #[]) ∧ w' = w := by
  have HL := hid (len_small (n := 0) (by omega) w)
  go_enter Try.func40, Try.ntmps40
  go_wp2_with (first
    | (go_at_call 52; refine HL.out.mono ?_; rintro e w4 ⟨lim, rfl, rfl⟩)
    | (go_at_call 51; refine pdq_nil.mono ?_; rintro e w4 ⟨rfl, rfl⟩))
  go_end0
  exact ⟨rfl, rfl⟩
set_option maxRecDepth 100000 in
theorem stable_nil : Calls Try.prog 69 #[.slice none 0 0, .int .i64 0, .func (.func g) bd cb] w fun e w' => e = .returned (.tuple #[]) ∧ w' = w := by
  go_enter Try.func69, Try.ntmps69
  go_wp2_with fail
  go_loopw [7, 8] (fun u v wr => u = .int .i64 0 ∧ v = .int .i64 20 ∧ wr = w) (fun _ _ _ => 0)
  case atStart => exact ⟨rfl, rfl, rfl⟩
  case round =>
    obtain ⟨rfl, rfl, rfl⟩ := hrel
    go_wp2_with (go_at_call 59; refine insertion_nil.mono ?_; rintro e w4 ⟨rfl, rfl⟩)
    go_loopw [6, 7, 8] (fun s u v wr => s = .int .i64 20 ∧ u = .int .i64 0 ∧ v = .int .i64 20 ∧ wr = w4) (fun _ _ _ _ => 0)
    case atStart => exact ⟨rfl, rfl, rfl, rfl⟩
    case round =>
      obtain ⟨rfl, rfl, rfl, rfl⟩ := hrel
      go_wp2_with fail
      go_end0
      exact ⟨rfl, rfl⟩
set_option maxRecDepth 100000 in
theorem sortStable_nil : Calls Try.prog 54 #[.slice none 0 0, .func (.func g) bd cb] w fun e w' => e = .returned (.tuple #[]) ∧ w' = w := by
  go_enter Try.func54, Try.ntmps54
  go_wp2_with (go_at_call 69; refine stable_nil.mono ?_; rintro e w4 ⟨rfl, rfl⟩)
  go_end0
  exact ⟨rfl, rfl⟩
end
end Go.Proofs.Ytoeeighfjoplhaa
