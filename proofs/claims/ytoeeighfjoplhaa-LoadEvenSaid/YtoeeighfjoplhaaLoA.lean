/-
  Contracts of cmp.Compare and cmp.Or at ints; seats in memory.
-/
import Derived.Test.YtoeeighfjoplhaaChecked
import Derived.Test.YtoeeighfjoplhaaOwn
import Derived.Test.YtoeeighfjoplhaaHeld
import Derived.Test.YtoeeighfjoplhaaTail
namespace Go.Proofs.Ytoeeighfjoplhaa
open Go.RowKit

/-- A seat. -/
structure St where
  id : Int
  core : Int
  cs : Nat
def st0 : St := ⟨0, 0, 0⟩
def sc (s : St) : Nat → Value
  | 0 => .int .i64 s.id
  | 1 => .int .i64 s.core
  | _ => .int .u64 (s.cs : Int)
theorem sc_one (s : St) (i : Nat) : (sc s i).oneCell' = true := by
  match i with
  | 0 => rfl
  | 1 => rfl
  | _ + 2 => rfl
def cmpI (x y : Int) : Int := if x < y then -1 else if y < x then 1 else 0
theorem cmp_any (x y : Int) (w : World) : Calls Try.prog 31 #[.int .i64 x, .int .i64 y] w fun e w' => e = .returned (.int .i64 (cmpI x y)) ∧ w' = w := by
  have hx : (x != x) = false := by simp
  have hy : (y != y) = false := by simp
  by_cases h1 : x < y
  · have hr : cmpI x y = -1 := by unfold cmpI; rw [if_pos h1]
    go_enter Try.func31, Try.ntmps31
    go_wp2
    go_ret
    exact ⟨by first | rfl | (rw [hr]; rfl), rfl⟩
  · by_cases h2 : y < x
    · have hr : cmpI x y = 1 := by unfold cmpI; rw [if_neg h1, if_pos h2]
      go_enter Try.func31, Try.ntmps31
      go_wp2
      go_ret
      exact ⟨by first | rfl | (rw [hr]; rfl), rfl⟩
    · have hr : cmpI x y = 0 := by unfold cmpI; rw [if_neg h1, if_neg h2]
      go_enter Try.func31, Try.ntmps31
      go_wp2
      go_ret
      exact ⟨by first | rfl | (rw [hr]; rfl), rfl⟩
def vNum : Value → Int
  | .int _ x => x
  | _ => 0
def orI (a c : Int) : Int := if a = 0 then c else a
theorem or_any {w : World} {b : Nat} {a c : Int} (h0 : w.cell? ⟨b, 0, none⟩ = some (.int .i64 a)) (h1 : w.cell? ⟨b, 1, none⟩ = some (.int .i64 c)) :
    Calls Try.prog 53 #[.slice (some ⟨b, 0, none⟩) 2 2] w fun e w' => e = .returned (.int .i64 (orI a c)) ∧ w' = w := by
  have HC := hid (fun (j : Nat) (hj : j < 2) => show w.cell? ⟨b, j, none⟩ = some (.int .i64 (if j = 0 then a else c)) from by
    match j, hj with
    | 0, _ => exact h0
    | 1, _ => exact h1)
  clear h0 h1
  go_enter Try.func53, Try.ntmps53
  go_wp2
  go_loop [5, 8] (fun u i => ∃ k : Nat, k ≤ 2 ∧ i = .int .i64 (k : Int) ∧ Hid (∀ j, j < k → (if j = 0 then a else c) = 0)) (fun _ i => 2 - (vNum i).toNat)
  case atStart => exact ⟨0, by omega, rfl, hid fun j hj => absurd hj (Nat.not_lt_zero _)⟩
  case round =>
    obtain ⟨k, hk, rfl, HJ⟩ := hrel
    by_cases hk2 : k < 2
    · have c0 := HC.out k hk2
      have gk : (k : Int) < 2 := by omega
      have HK := hid (show orI a c = (if k = 0 then a else c) ∨ (if k = 0 then a else c) = 0 from by
        by_cases hz : (if k = 0 then a else c) = 0
        · exact .inr hz
        · left
          unfold orI
          rcases (show k = 0 ∨ k = 1 by omega) with rfl | rfl
          · rw [if_pos rfl] at hz ⊢
            rw [if_neg hz]
          · have := HJ.out 0 (by omega)
            rw [if_pos rfl] at this
            rw [if_pos this]
            rfl)
      obtain ⟨z, hz⟩ : ∃ z, (if k = 0 then a else c) = z := ⟨_, rfl⟩
      rw [hz] at c0 HK
      have HZ := hid hz
      clear hz
      by_cases hz0 : z = 0
      · subst hz0
        go_wp2
        go_round
        case rel => exact ⟨k + 1, by omega, by go_num, hid fun j hj => by
          by_cases e : j = k
          · subst e; exact HZ.out
          · exact HJ.out j (by omega)⟩
        case measure => simp [vNum]; omega
      · have hne : (z != 0) = true := by rw [bne_iff_ne]; exact hz0
        have hr : orI a c = z := HK.out.elim id fun h => absurd h hz0
        go_wp2
        go_ret
        exact ⟨by first | rfl | (rw [hr]; rfl), rfl⟩
    · have hkk : k = 2 := by omega
      subst hkk
      have hr : orI a c = 0 := by
        unfold orI
        have h0 := HJ.out 0 (by omega)
        have h1 := HJ.out 1 (by omega)
        rw [if_pos rfl] at h0
        rw [if_pos h0]
        exact h1
      go_wp2
      go_ret
      exact ⟨by first | rfl | (rw [hr]; rfl), rfl⟩
end Go.Proofs.Ytoeeighfjoplhaa
