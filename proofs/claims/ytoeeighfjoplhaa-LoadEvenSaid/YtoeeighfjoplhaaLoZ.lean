/-
  Contracts of slices.pdqsortCmpFunc and SortFunc at []int, of twelve or fewer. (math/bits.Len below thirteen, too.)
-/
import Derived.Test.YtoeeighfjoplhaaLoY
namespace Go.Proofs.Ytoeeighfjoplhaa
open Go.RowKit
set_option maxRecDepth 100000 in
set_option maxHeartbeats 4000000 in
theorem len64_small {n : Nat} (hn : n ≤ 12) (W : World) : Calls Try.prog 68 #[.int .u64 (n : Int)] W fun e w' => ∃ v : Int, e = .returned (.int .i64 v) ∧ w' = W := by
  have hc : n = 0 ∨ n = 1 ∨ n = 2 ∨ n = 3 ∨ n = 4 ∨ n = 5 ∨ n = 6 ∨ n = 7 ∨ n = 8 ∨ n = 9 ∨ n = 10 ∨ n = 11 ∨ n = 12 := by omega
  clear hn
  rcases hc with rfl | rfl | rfl | rfl | rfl | rfl | rfl | rfl | rfl | rfl | rfl | rfl | rfl
  all_goals
    go_enter Try.func68, Try.ntmps68
    go_wp2_with fail
    go_ret
    exact ⟨_, rfl, rfl⟩
set_option maxRecDepth 100000 in
theorem len_small {n : Nat} (hn : n ≤ 12) (W : World) : Calls Try.prog 52 #[.int .u64 (n : Int)] W fun e w' => ∃ v : Int, e = .returned (.int .i64 v) ∧ w' = W := by
  have HX := hid (len64_small hn W)
  have hwn : IntKind.u64.wrap (n : Int) = (n : Int) := by rw [IntKind.wrap_u64]; omega
  clear hn
  go_enter Try.func52, Try.ntmps52
  go_wp2_with (go_at_call 68; refine HX.out.mono ?_; rintro e w4 ⟨v, rfl, rfl⟩)
  go_ret
  exact ⟨v, rfl, rfl⟩
section
variable {w0 w : World} {bk n cap : Nat} {g : FuncId} {bd cb : Array Value} {V : Int → Prop} {c : Int → Int → Int} {R : Int → Int → Prop} {F : Nat → Int}
set_option maxRecDepth 100000 in
set_option maxHeartbeats 4000000 in
theorem pdq_small {lim : Int} (hR : Ord R) (hC : Cmp w0 bk g bd cb V c) (h : RowF w0 w bk n F) (hV : ∀ k, k < n → V (F k)) (hS : Says c R 0 n F) (hn : n ≤ 12) :
    Calls Try.prog 51 #[.slice (some ⟨bk, 0, none⟩) n cap, .int .i64 0, .int .i64 (n : Int), .int .i64 lim, .func (.func g) bd cb] w fun e w' => e = .returned (.tuple #[]) ∧ ∃ F', RowF w0 w' bk n F' ∧ Pm 0 n F F' ∧ Srt R 0 n F' := by
  have HR := hid hR
  have HC := hid hC
  have H0 := hid h
  have HV := hid hV
  have HS := hid hS
  have e0 : (n : Int) - 0 = (n : Int) := by omega
  have hwn := wrapI (x := (n : Int)) (by unfold I64; omega)
  have g1 : (n : Int) ≤ 12 := by omega
  clear hR hC h hV hS
  go_enter Try.func51, Try.ntmps51
  go_wp2_with fail
  go_loopw [1, 2, 3, 10, 11] (fun s1 s2 s3 s8 s9 wr => s1 = .int .i64 0 ∧ s2 = .int .i64 (n : Int) ∧ s3 = .int .i64 lim ∧ s8 = .bool true ∧ s9 = .bool true ∧ wr = w) (fun _ _ _ _ _ _ => 0)
  case atStart => exact ⟨rfl, rfl, rfl, rfl, rfl, rfl⟩
  case round =>
    obtain ⟨rfl, rfl, rfl, rfl, rfl, rfl⟩ := hrel
    go_wp2_with (go_at_call 59; refine (insertion_any HR.out HC.out H0.out HV.out (a := 0) (b := n) HS.out (by omega) (by omega) (by omega)).mono ?_; rintro e w4 ⟨rfl, F4, k4, p4, s4⟩)
    (try simp only [Exit.inBlock, Exit.then])
    refine bodyPost_ret (results_none rfl _ _ _) rfl ?_
    exact ⟨rfl, F4, k4, p4, s4⟩
set_option maxRecDepth 100000 in
theorem sort_small (hR : Ord R) (hC : Cmp w0 bk g bd cb V c) (h : RowF w0 w bk n F) (hV : ∀ k, k < n → V (F k)) (hS : Says c R 0 n F) (hn : n ≤ 12) :
    Calls Try.prog 40 #[.slice (some ⟨bk, 0, none⟩) n cap, .func (.func g) bd cb] w fun e w' => e = .returned (.tuple #[]) ∧ ∃ F', RowF w0 w' bk n F' ∧ Pm 0 n F F' ∧ Srt R 0 n F' := by
  have HX := hid (fun lim => pdq_small (cap := cap) (lim := lim) hR hC h hV hS hn)
  have HL := hid (len_small hn w)
  have hwn : IntKind.u64.wrap (n : Int) = (n : Int) := by rw [IntKind.wrap_u64]; omega
  clear hR hC h hV hS
  go_enter Try.func40, Try.ntmps40
  go_wp2_with (first
    | (go_at_call 52; refine HL.out.mono ?_; rintro e w4 ⟨lim, rfl, rfl⟩)
    | (go_at_call 51; refine (HX.out _).mono ?_; rintro e w4 ⟨rfl, k4⟩))
  go_end0
  exact ⟨rfl, k4⟩
end
end Go.Proofs.Ytoeeighfjoplhaa
