/-
  Contracts of disk's Arm, and of Read of a disk that is off; what a disk is behind writes and flushes, some of which fail.
-/
import Derived.Test.YtgfkbkonelphaaaGreatDoorDCrash
namespace Go.Proofs.YtgfkbkonelphaaaGreatDoor
open Go.RowKit

section
variable {w w' : World} {g b m : Nat} {s : Ds} {S : Nat → Prop}
theorem read_off (h : Dk w g b m s) {i : Int} (hi : has s i = true) (ho : off s = true) : Calls Tryz.prog 47 #[.pointer (some ⟨g, 0, none⟩), .int .i64 i] w fun e w' => e = .returned (.tuple #[.slice none 0 0, .int .i64 19]) ∧ w' = w := by
  go_enter Tryz.func47, Tryz.ntmps47
  go_wp2_with fail
  refine (has_any h i).mono ?_
  rintro e w ⟨rfl, rfl⟩
  rw [hi]
  go_wp2_with fail
  refine (off_any h).mono ?_
  rintro e w ⟨rfl, rfl⟩
  rw [ho]
  go_wp2
  go_ret2
  exact ⟨rfl, rfl⟩

/-- Behind Arm. -/
def armedBy (s : Ds) (n : Int) : Ds := { s with armed := true, left := dhold n 1048576 }
theorem arm_any (h : Dk w g b m s) (n : Int) : Calls Tryz.prog 14 #[.pointer (some ⟨g, 0, none⟩), .int .i64 n] w fun e w' => (∃ v, e = .returned v) ∧ Kp (Only g) w w' ∧ Dk w' g b m (armedBy s n) := by
  have c2 := h.hd.cell 2
  have c3 := h.hd.cell 3
  have f2 := h.hd.frozen 2
  have f3 := h.hd.frozen 3
  simp at c2 c3
  have O := hid h
  clear h
  go_enter Tryz.func14, Tryz.ntmps14
  go_wp2_with fail
  refine (dhold_any n 1048576 w).mono ?_
  rintro e w ⟨rfl, rfl⟩
  obtain ⟨q, hq⟩ : ∃ q, dhold n 1048576 = q := ⟨_, rfl⟩
  have hq0 : 0 ≤ q ∧ q ≤ 1048576 := by rw [← hq]; unfold dhold; omega
  have HQ := hid hq
  have HQ0 := hid hq0
  rw [hq]
  clear hq hq0
  go_wp2
  have K : Kp (Only g) w ((w.setCell ⟨g, 2, none⟩ (.bool true)).setCell ⟨g, 3, none⟩ (.int .i64 q)) := ((Kp.refl (Only g) w).setCell (p := ⟨g, 2, none⟩) (.inl rfl) _).setCell (p := ⟨g, 3, none⟩) (.inl rfl) _
  have B := (O.out.hd.put 2 (.bool true)).put 3 (.int .i64 q)
  refine bodyPost_end (results_none rfl _ _ _) rfl ⟨⟨_, rfl⟩, K, ?_⟩
  refine ⟨?_, O.out.kt.kp K fun h => O.out.gb h.symm, O.out.mp.kp K fun h => O.out.gm h.symm, O.out.gb, O.out.gm, O.out.bm, O.out.ok.len, O.out.ok.sec, O.out.ok.key, ?_, ?_⟩
  · have e : (armedBy s n).left = q := HQ.out
    rw [e]
    exact B
  · exact (show 0 ≤ (armedBy s n).left by show 0 ≤ dhold n 1048576; rw [HQ.out]; exact HQ0.out.1)
  · exact (show (armedBy s n).left ≤ 1048576 by show dhold n 1048576 ≤ 1048576; rw [HQ.out]; exact HQ0.out.2)
end
end Go.Proofs.YtgfkbkonelphaaaGreatDoor
