/-
  Contracts of math/bits.Len below fifty, slices.nextPowerOfTwo, xorshift.Next, breakPatternsCmpFunc at []int.
-/
import Derived.Test.YtoeeighfjoplhaaLoPa
import Derived.Test.YtoeeighfjoplhaaLoPi
import Derived.Laws.Closers25b
import Derived.Laws.BitsLemmas
namespace Go.Proofs.Ytoeeighfjoplhaa
open Go.RowKit
section
variable {w0 w : World} {bk n cap : Nat} {g : FuncId} {bd cb : Array Value} {V : Int → Prop} {c : Int → Int → Int} {R : Int → Int → Prop} {F : Nat → Int}
set_option maxRecDepth 100000 in
set_option maxHeartbeats 4000000 in
theorem len64_of {v : Nat} (k : Nat) (hv : v = k) (hl : 8 ≤ k) (hk : k < 50) (W : World) : Calls Try.prog 68 #[.int .u64 (v : Int)] W fun e w' => e = .returned (.int .i64 (if k < 16 then 4 else if k < 32 then 5 else 6)) ∧ w' = W := by
  have hc : k = 8 ∨ k = 9 ∨ k = 10 ∨ k = 11 ∨ k = 12 ∨ k = 13 ∨ k = 14 ∨ k = 15 ∨ k = 16 ∨ k = 17 ∨ k = 18 ∨ k = 19 ∨ k = 20 ∨ k = 21 ∨ k = 22 ∨ k = 23 ∨ k = 24 ∨ k = 25 ∨ k = 26 ∨ k = 27 ∨ k = 28 ∨ k = 29 ∨ k = 30 ∨ k = 31 ∨ k = 32 ∨ k = 33 ∨ k = 34 ∨ k = 35 ∨ k = 36 ∨ k = 37 ∨ k = 38 ∨ k = 39 ∨ k = 40 ∨ k = 41 ∨ k = 42 ∨ k = 43 ∨ k = 44 ∨ k = 45 ∨ k = 46 ∨ k = 47 ∨ k = 48 ∨ k = 49 := by omega
  clear hl hk
  subst hv
  rcases hc with rfl | rfl | rfl | rfl | rfl | rfl | rfl | rfl | rfl | rfl | rfl | rfl | rfl | rfl | rfl | rfl | rfl | rfl | rfl | rfl | rfl | rfl | rfl | rfl | rfl | rfl | rfl | rfl | rfl | rfl | rfl | rfl | rfl | rfl | rfl | rfl | rfl | rfl | rfl | rfl | rfl | rfl
  all_goals
    go_enter Try.func68, Try.ntmps68
    go_wp2_with fail
    go_ret
    exact ⟨by first | rfl | kernel_rfl, rfl⟩
set_option maxRecDepth 100000 in
set_option maxHeartbeats 4000000 in
theorem len_of {k : Nat} (hl : 8 ≤ k) (hk : k < 50) (W : World) : Calls Try.prog 52 #[.int .u64 (k : Int)] W fun e w' => e = .returned (.int .i64 (if k < 16 then 4 else if k < 32 then 5 else 6)) ∧ w' = W := by
  have HX := hid (len64_of k rfl hl hk W)
  obtain ⟨r, hr⟩ : ∃ r : Int, (if k < 16 then 4 else if k < 32 then 5 else 6) = r := ⟨_, rfl⟩
  rw [hr] at HX ⊢
  clear hr
  have hwn : IntKind.u64.wrap (k : Int) = (k : Int) := by rw [IntKind.wrap_u64]; omega
  clear hl hk
  go_enter Try.func52, Try.ntmps52
  go_wp2_with (go_at_call 68; refine HX.out.mono ?_; rintro e w4 ⟨rfl, rfl⟩)
  go_ret
  exact ⟨rfl, rfl⟩
set_option maxRecDepth 100000 in
set_option maxHeartbeats 4000000 in
theorem next_pow {k : Nat} (hl : 8 ≤ k) (hk : k < 50) (W : World) : Calls Try.prog 72 #[.int .i64 (k : Int)] W fun e w' => ∃ m : Nat, e = .returned (.int .u64 (m : Int)) ∧ w' = W ∧ 1 ≤ m ∧ m ≤ 2 * k ∧ (m = 16 ∨ m = 32 ∨ m = 64) := by
  have HX := hid (len_of hl hk W)
  have hwn : IntKind.u64.wrap (k : Int) = (k : Int) := by rw [IntKind.wrap_u64]; omega
  go_enter Try.func72, Try.ntmps72
  by_cases h16 : k < 16
  · rw [if_pos h16] at HX
    go_wp2_with (go_at_call 52; refine HX.out.mono ?_; rintro e w4 ⟨rfl, rfl⟩)
    go_ret
    exact ⟨16, rfl, rfl, by omega, by omega, by omega⟩
  · rw [if_neg h16] at HX
    by_cases h32 : k < 32
    · rw [if_pos h32] at HX
      go_wp2_with (go_at_call 52; refine HX.out.mono ?_; rintro e w4 ⟨rfl, rfl⟩)
      go_ret
      exact ⟨32, rfl, rfl, by omega, by omega, by omega⟩
    · rw [if_neg h32] at HX
      go_wp2_with (go_at_call 52; refine HX.out.mono ?_; rintro e w4 ⟨rfl, rfl⟩)
      go_ret
      exact ⟨64, rfl, rfl, by omega, by omega, by omega⟩
set_option maxRecDepth 100000 in
set_option maxHeartbeats 4000000 in
theorem rnd_any {q : Nat} {x : Int} (h : Blk w q 93 #[.int .u64 x]) : Calls Try.prog 73 #[.pointer (some ⟨q, 0, none⟩)] w fun e w' => ∃ y : Nat, y < 18446744073709551616 ∧ e = .returned (.int .u64 (y : Int)) ∧ Blk w' q 93 #[.int .u64 (y : Int)] ∧ Kp (Only q) w w' := by
  have mixed : Try.prog.follows .mixedOrders = true := by kernel_rfl
  have HB := hid h
  have HK := hid (Kp.refl (Only q) w)
  have c0 : w.cell? ⟨q, 0, none⟩ = some (.int .u64 x) := h.cell 0
  have f0 := h.frozen 0
  clear h
  go_enter Try.func73, Try.ntmps73
  go_upto_region 1 with fail
  go_big_region_o
  obtain ⟨x1, hx1, lo1, hi1⟩ : ∃ y, bits .xor .u64 x (IntKind.u64.wrap (x * 8192)) = y ∧ 0 ≤ y ∧ y ≤ 18446744073709551615 := ⟨_, rfl, bits_lo_u64 _ _ _, bits_hi_u64 _ _ _⟩
  rw [hx1]
  have HB1 := hid ((HB.out.put 0 (.int .u64 x1)).kp0 (Kp.refl No _).drew)
  have HK1 := hid (HK.out.trans ((Kp.set1 q 0 w (.int .u64 x1)).drew))
  generalize World.drew (World.setCell w ⟨q, 0, none⟩ (.int .u64 x1)) = W1 at HB1 HK1 ⊢
  have c1 : W1.cell? ⟨q, 0, none⟩ = some (.int .u64 x1) := HB1.out.cell 0
  have f1 := HB1.out.frozen 0
  clear hx1 c0 f0
  go_upto_region 2 with fail
  go_big_region_o
  obtain ⟨x2, hx2, lo2, hi2⟩ : ∃ y, bits .xor .u64 x1 (x1 / 128) = y ∧ 0 ≤ y ∧ y ≤ 18446744073709551615 := ⟨_, rfl, bits_lo_u64 _ _ _, bits_hi_u64 _ _ _⟩
  rw [hx2]
  have HB2 := hid ((HB1.out.put 0 (.int .u64 x2)).kp0 (Kp.refl No _).drew)
  have HK2 := hid (HK1.out.trans ((Kp.set1 q 0 W1 (.int .u64 x2)).drew))
  generalize World.drew (World.setCell W1 ⟨q, 0, none⟩ (.int .u64 x2)) = W2 at HB2 HK2 ⊢
  have c2 : W2.cell? ⟨q, 0, none⟩ = some (.int .u64 x2) := HB2.out.cell 0
  have f2 := HB2.out.frozen 0
  clear hx2 c1 f1
  go_upto_region 3 with fail
  go_big_region_o
  obtain ⟨x3, hx3, lo3, hi3⟩ : ∃ y, bits .xor .u64 x2 (IntKind.u64.wrap (x2 * 131072)) = y ∧ 0 ≤ y ∧ y ≤ 18446744073709551615 := ⟨_, rfl, bits_lo_u64 _ _ _, bits_hi_u64 _ _ _⟩
  rw [hx3]
  have HB3 := hid ((HB2.out.put 0 (.int .u64 x3)).kp0 (Kp.refl No _).drew)
  have HK3 := hid (HK2.out.trans ((Kp.set1 q 0 W2 (.int .u64 x3)).drew))
  generalize World.drew (World.setCell W2 ⟨q, 0, none⟩ (.int .u64 x3)) = W3 at HB3 HK3 ⊢
  have c3 : W3.cell? ⟨q, 0, none⟩ = some (.int .u64 x3) := HB3.out.cell 0
  have f3 := HB3.out.frozen 0
  clear hx3 c2 f2
  obtain ⟨y, hy⟩ : ∃ y : Nat, x3 = (y : Int) := ⟨x3.toNat, by omega⟩
  subst hy
  go_wp2_with fail
  go_ret
  exact ⟨y, by omega, rfl, HB3.out, HK3.out⟩
end
end Go.Proofs.Ytoeeighfjoplhaa
