/-
  Contracts of the document's Few and Same.
-/
import Derived.Test.YtggmdgdgljlddaaGreatZIds
import Derived.BigRegion
namespace Go.Proofs.YtggmdgdgljlddaaGreat
open Go.RowKit Go.Shelf

def few (gs : List GS) (ts : List TS) : Bool := decide (gs.length ≤ 30) && decide (ts.length ≤ 30)
set_option maxRecDepth 100000 in
theorem zfew_any {w : World} {P : Nat → Prop} {v : Value} {gs : List GS} {ts : List TS} (h : Sce w P v gs ts) :
    Calls Tryz.prog 5 #[v] w fun e w' => e = .returned (.bool (few gs ts)) ∧ Kp No w w' := by
  obtain ⟨vg, vt, rfl, hg, ht⟩ := h
  obtain ⟨A, c, rfl, _⟩ := hg
  obtain ⟨A2, c2, rfl, _⟩ := ht
  have K0 := hid ((Kp.refl No w).alloc (.cells #[.slice A gs.length c, .slice A2 ts.length c2] 25))
  obtain ⟨n, hn⟩ : ∃ n, gs.length = n := ⟨_, rfl⟩
  obtain ⟨m, hm⟩ : ∃ m, ts.length = m := ⟨_, rfl⟩
  have HR := hid (show few gs ts = (decide (n ≤ 30) && decide (m ≤ 30)) by unfold few; rw [hn, hm])
  rw [HR.out]
  rw [hn, hm] at K0
  rw [hn, hm]
  by_cases h1 : n ≤ 30
  · have h1' : (n : Int) ≤ 30 := by omega
    by_cases h2 : m ≤ 30
    · have h2' : (m : Int) ≤ 30 := by omega
      go_enter Tryz.func5, Tryz.ntmps5
      go_wp2_with fail
      go_ret
      exact ⟨by simp [h1, h2], K0.out⟩
    · have h2' : ¬ (m : Int) ≤ 30 := by omega
      go_enter Tryz.func5, Tryz.ntmps5
      go_wp2_with fail
      go_ret
      exact ⟨by simp, K0.out⟩
  · have h1' : ¬ (n : Int) ≤ 30 := by omega
    go_enter Tryz.func5, Tryz.ntmps5
    go_wp2_with fail
    go_ret
    exact ⟨by simp, K0.out⟩
theorem take_eq {α : Type} {xs ys : List α} {k : Nat} (d : α) (h : xs.take k = ys.take k) (hx : k < xs.length) (hy : k < ys.length) (e : xs.getD k d = ys.getD k d) : xs.take (k + 1) = ys.take (k + 1) := by
  rw [take_s xs hx d, take_s ys hy d, h, e]
end Go.Proofs.YtggmdgdgljlddaaGreat
