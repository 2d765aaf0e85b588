/-
  Contract of slices.MinFunc at []int, at whatever function value.
-/
import Derived.Test.YtoeeighfjoplhaaLoV
namespace Go.Proofs.Ytoeeighfjoplhaa
open Go.RowKit
/-- The first of the least, as MinFunc finds it. -/
def mnF (c : Int → Int → Int) (F : Nat → Int) : Nat → Int
  | 0 => F 0
  | k + 1 => if c (F (k + 1)) (mnF c F k) < 0 then F (k + 1) else mnF c F k
theorem mnF_in (c : Int → Int → Int) (F : Nat → Int) (k : Nat) : ∃ t, t ≤ k ∧ mnF c F k = F t := by
  induction k with
  | zero => exact ⟨0, Nat.le_refl _, rfl⟩
  | succ k ih =>
    obtain ⟨t, ht, he⟩ := ih
    unfold mnF
    split
    · exact ⟨k + 1, Nat.le_refl _, rfl⟩
    · exact ⟨t, by omega, he⟩
set_option maxRecDepth 100000 in
set_option maxHeartbeats 4000000 in
theorem min_any {w0 w : World} {bk n cap : Nat} {g : FuncId} {bd cb : Array Value} {V : Int → Prop} {c : Int → Int → Int} {F : Nat → Int} (hC : Cmp w0 bk g bd cb V c) (h : RowF w0 w bk n F) (hV : ∀ k, k < n → V (F k)) (h0 : 0 < n) (hn : n ≤ 1000000) :
    Calls Try.prog 29 #[.slice (some ⟨bk, 0, none⟩) n cap, .func (.func g) bd cb] w fun e w' => e = .returned (.int .i64 (mnF c F (n - 1))) ∧ RowF w0 w' bk n F := by
  have HC := hid hC
  have H0 := hid h
  have HV := hid hV
  have c0 := h.cell (j := 0) h0
  have g0 : ¬ (n : Int) < 1 := by omega
  have g00 : (0 : Int) < (n : Int) := by omega
  clear hC h hV
  go_enter Try.func29, Try.ntmps29
  go_wp2_with fail
  go_loopw [5, 6] (fun u v wr => ∃ k : Nat, u = .int .i64 (mnF c F k) ∧ v = .int .i64 ((k : Int) + 1) ∧ k < n ∧ Hid (RowF w0 wr bk n F)) (fun _ v _ => n + 1 - (vNum v).toNat)
  case atStart => exact ⟨0, rfl, rfl, h0, H0⟩
  case round =>
    clear H0
    obtain ⟨k, rfl, rfl, hk, HG⟩ := hrel
    obtain ⟨i, hi⟩ : ∃ i, k + 1 = i := ⟨_, rfl⟩
    have ei : (k : Int) + 1 = (i : Int) := by omega
    rw [ei]
    have hwi := wrapI (x := (i : Int) + 1) (by unfold I64; omega)
    by_cases hlt : i < n
    · have glt : (i : Int) < (n : Int) := by omega
      have cm := HG.out.cell (j := i) hlt
      have eg := HC.out.enters
      have HM := hid (show mnF c F i = if c (F i) (mnF c F k) < 0 then F i else mnF c F k from by rw [← hi]; rfl)
      have hc := HC.out.says _ HG.out.kp (F i) (mnF c F k) (HV.out i hlt) (by obtain ⟨t, ht, he⟩ := mnF_in c F k; rw [he]; exact HV.out t (by omega))
      rw [Array.append_assoc] at hc
      by_cases hyx : c (F i) (mnF c F k) < 0
      · go_wp2_with (go_at_fn g; refine hc.mono ?_; rintro e w' ⟨rfl, k'⟩; have cm2 := (HG.out.kp0 k').cell (j := i) hlt)
        go_roundw
        case rel => exact ⟨i, by rw [HM.out, if_pos hyx], by go_num, hlt, hid (HG.out.kp0 k')⟩
        case measure => simp [vNum]; omega
      · go_wp2_with (go_at_fn g; refine hc.mono ?_; rintro e w' ⟨rfl, k'⟩)
        go_roundw
        case rel => exact ⟨i, by rw [HM.out, if_neg (show ¬ c (F i) (mnF c F k) < 0 by omega)], by go_num, hlt, hid (HG.out.kp0 k')⟩
        case measure => simp [vNum]; omega
    · have gnl : ¬ (i : Int) < (n : Int) := by omega
      go_wp2_with fail
      go_ret
      have e : n - 1 = k := by omega
      rw [e]
      exact ⟨rfl, HG.out⟩
end Go.Proofs.Ytoeeighfjoplhaa
