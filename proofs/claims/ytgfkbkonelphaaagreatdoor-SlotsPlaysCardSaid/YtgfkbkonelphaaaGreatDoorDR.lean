/-
  Contracts of disk's Read and Write, of a disk that is on.
-/
import Derived.Test.YtgfkbkonelphaaaGreatDoorDArr
import Derived.Test.YtgfkbkonelphaaaGreatDoorBytes
namespace Go.Proofs.YtgfkbkonelphaaaGreatDoor
open Go.RowKit

section
variable {w w' : World} {g b m : Nat} {s : Ds} {S : Nat → Prop}

/-- What a reading tells, new: its bytes in a block of their own, of the sectors' type. -/
def Told (W w' : World) (v : Value) (l : List Int) : Prop := ∃ q, v = .slice (some ⟨q, 0, none⟩) 64 64 ∧ W.heap.size ≤ q ∧ q < w'.heap.size ∧ Blk w' q 85 (sc l).toArray

theorem read_no (h : Dk w g b m s) {i : Int} (hi : has s i = false) : Calls Tryz.prog 47 #[.pointer (some ⟨g, 0, none⟩), .int .i64 i] w fun e w' => e = .returned (.tuple #[.slice none 0 0, .int .i64 6]) ∧ w' = w := by
  go_enter Tryz.func47, Tryz.ntmps47
  go_wp2_with fail
  refine (has_any h i).mono ?_
  rintro e w ⟨rfl, rfl⟩
  rw [hi]
  go_wp2
  go_ret2
  exact ⟨rfl, rfl⟩

set_option maxHeartbeats 1000000 in
theorem read_is (h : Dk w g b m s) {i : Nat} (hi : i < s.k.length) (ho : off s = false) : Calls Tryz.prog 47 #[.pointer (some ⟨g, 0, none⟩), .int .i64 (i : Int)] w fun e w' => ∃ v, e = .returned (.tuple #[v, .int .i64 0]) ∧ Told w w' v (look s i) ∧ Kp No w w' := by
  have hh : has s (i : Int) = true := by unfold has; simp [hi]
  have hlen := h.ok.len
  have hsec := look_sec h.ok hi
  have dhold := h.ok.sec (s.k.getD i []) (by simp [List.getD, hi])
  have hks := dhold.len
  have hA := h.lts
  have O := hid h
  have OS := hid hsec
  have hks' := hid hks
  clear h dhold hsec hks
  cases hc : s.c (i : Int) with
  | some l =>
    have HL := hid (show l.length = 64 from (O.out.ok.key _ _ hc).2.2.len)
    have E := hid (show look s i = l by simp [look, hc])
    have hlk := O.out.mp.look_some dK (k := (i : Int)) (by unfold I64; omega) hc true
    simp only [if_true] at hlk
    have c1 := O.out.hd.cell 1
    simp at c1
    clear hc
    go_enter Tryz.func47, Tryz.ntmps47
    go_wp2_with fail
    refine (has_any O.out _).mono ?_
    rintro e w ⟨rfl, rfl⟩
    rw [hh]
    go_wp2_with fail
    refine (off_any O.out).mono ?_
    rintro e w ⟨rfl, rfl⟩
    rw [ho]
    go_wp2_with (first
      | (refine wp_new57 rfl rfl ?_; intro w1 b1 k1 z1)
      | (refine wp_lay57 rfl _ _ rfl rfl rfl b1 sc_zs_size HL.out ?_; intro w2 b2 k2 z2)
      | (refine wp_get57 rfl _ rfl rfl b2 HL.out ?_)
      | ((with_reducible refine (told_any HL.out _).mono ?_); rintro e w3 ⟨rfl, rfl⟩))
    go_ret2
    have hq : w2.heap.size = w.heap.size + 1 := by omega
    have hb := Blk.new w2 85 (sc l).toArray
    rw [hq] at hb
    refine ⟨_, rfl, ⟨_, rfl, by omega, by simp [hq], ?_⟩, ((k1.step k2 fun i hi e => ?_).all).trans ((Kp.refl No w2).alloc _)⟩
    · rw [E.out]
      exact hb
    · exfalso
      have : i = w.heap.size := e
      omega
  | none =>
    have E := hid (show look s i = s.k.getD i [] by simp [look, hc])
    have hlk := O.out.mp.look_none dK (k := (i : Int)) (by unfold I64; omega) hc true
    simp only [if_true] at hlk
    have c1 := O.out.hd.cell 1
    simp at c1
    clear hc
    go_enter Tryz.func47, Tryz.ntmps47
    go_wp2_with fail
    refine (has_any O.out _).mono ?_
    rintro e w ⟨rfl, rfl⟩
    rw [hh]
    go_wp2_with fail
    refine (off_any O.out).mono ?_
    rintro e w ⟨rfl, rfl⟩
    rw [ho]
    obtain ⟨L, hL⟩ : ∃ L, s.k.getD i [] = L := ⟨_, rfl⟩
    rw [hL] at E hks'
    have HL := hid hL
    clear hL
    go_wp2_with (first
      | (refine wp_new57 rfl rfl ?_; intro w1 b1 k1 z1)
      | (refine wp_lay57 rfl _ _ rfl rfl rfl b1 sc_zs_size Sec.zs.len ?_; intro w2 b2 k2 z2; have D2 := hid ((O.out.kp0 k1).kp k2 (by exact Nat.ne_of_lt hA.1) (by exact Nat.ne_of_lt hA.2.1) (by exact Nat.ne_of_lt hA.2.2)); have c0 := D2.out.hd.cell 0; simp at c0)
      | (refine wp_got57 rfl _ rfl rfl D2.out.kt hi HL.out hks'.out ?_)
      | (refine wp_lay57 rfl _ _ rfl rfl rfl b2 sc_zs_size hks'.out ?_; intro w3 b3 k3 z3)
      | (refine wp_get57 rfl _ rfl rfl b3 hks'.out ?_)
      | ((with_reducible refine (told_any hks'.out _).mono ?_); rintro e w4 ⟨rfl, rfl⟩))
    go_ret2
    have hq : w3.heap.size = w.heap.size + 1 := by omega
    have hb := Blk.new w3 85 (sc L).toArray
    rw [hq] at hb
    refine ⟨_, rfl, ⟨_, rfl, by omega, by simp [hq], ?_⟩, (((k1.step k2 fun i hi e => ?_).step k3 fun i hi e => ?_).all).trans ((Kp.refl No w3).alloc _)⟩
    · rw [E.out]
      exact hb
    all_goals
      exfalso
      have : i = w.heap.size := e
      omega
end
end Go.Proofs.YtgfkbkonelphaaaGreatDoor
