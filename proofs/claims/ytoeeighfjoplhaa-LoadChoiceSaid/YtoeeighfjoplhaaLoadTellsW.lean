/-
  The walk of LoadTells.
-/
import Derived.Test.YtoeeighfjoplhaaLoOp
namespace Go.Proofs.Ytoeeighfjoplhaa
open Go.RowKit
theorem Sl.rw1 {w : World} {P : Nat → Prop} {v : Value} {xs : List Int} (h : Sl (Value.int .i64) 0 w P v xs) : Rw 1 cI 0 w P v xs := by
  obtain ⟨A, c, e, h1, h2, h3⟩ := h
  refine ⟨A, c, e, h1, h2, fun h0 => ?_⟩
  obtain ⟨b, o, g1, g2, g3, g4⟩ := h3 h0
  refine ⟨b, o, g1, g2, g3, fun j i hj hi => ?_⟩
  obtain rfl : i = 0 := by omega
  have := g4 j hj
  rw [Nat.mul_one, Nat.add_zero, this]
  rfl
theorem RowI.sl {w : World} {b : Option Nat} {n c : Nat} {ks : List Int} (h : RowI w b n c ks) : Sl (Value.int .i64) 0 w Anyb (gsl b n c) ks := by
  obtain ⟨A, c', e, h1, h2, h3⟩ := h.rw (S := Anyb) fun _ _ => trivial
  refine ⟨A, c', e, h1, h2, fun h0 => ?_⟩
  obtain ⟨b, o, g1, g2, g3, g4⟩ := h3 h0
  refine ⟨b, o, g1, g2, g3, fun j hj => ?_⟩
  have := g4 j 0 hj (by omega)
  rwa [Nat.mul_one, Nat.add_zero] at this
set_option maxRecDepth 100000 in
set_option maxHeartbeats 4000000 in
theorem loadTells_walk (w : World) (v : Value) (n s : Int) (u : Value) {ss : List St} {ls : List Int} (h : Rw 3 sc st0 w Anyb v ss ∧ ∀ s ∈ ss, U64 s.cs) (_ : Im64 n) (hs : 0 ≤ s ∧ s ≤ 18446744073709551615) (hl : Sl (Value.int .i64) 0 w Anyb u ls ∧ ∀ z ∈ ls, (Lit.int .i64 z).wf = true) :
    Calls Try.prog 3 #[v, .int .i64 n, .int .u64 s, u] w fun e w' => e = .returned (.bool true) ∧ Kp No w w' := by
  obtain ⟨s, rfl⟩ : ∃ k : Nat, s = (k : Int) := ⟨s.toNat, by omega⟩
  have HS := hid (show U64 s from show s < 18446744073709551616 by omega)
  have HR := hid h.1
  have HL := hid hl.1
  obtain ⟨A, c, rfl, _⟩ := id h.1
  obtain ⟨B, d, rfl, _⟩ := id hl.1
  clear h hl hs
  go_enter Try.func3, Try.ntmps3
  go_upto_region 2 with (go_at_call 9; refine (awake_any _).mono ?_; rintro e w1 ⟨rfl, k1⟩; have K1 := hid k1; clear k1)
  by_cases h1 : (40 : Int) < (ss.length : Int)
  · go_wp2_with fail
    go_ret
    exact ⟨rfl, K1.out⟩
  by_cases h2 : (100 : Int) < (ls.length : Int)
  · go_wp2_with fail
    go_ret
    exact ⟨rfl, K1.out⟩
  have HN := hid (show ss.length ≤ 40 by omega)
  have HM := hid (show ls.length ≤ 100 by omega)
  go_wp2_with (first
    | (go_at_call 11; refine (lloads_any (HR.out.kp0 K1.out) (by have := HN.out; omega)).mono ?_; rintro e w2 ⟨b2, c2, rfl, r2, k2⟩; have R2 := hid r2; have K2 := hid (K1.out.trans k2); clear r2 k2)
    | (go_at_call 12; refine (rloads_any (HR.out.kp0 K2.out) (by have := HN.out; omega)).mono ?_; rintro e w3 ⟨b3, c3, rfl, r3, _, k3⟩; have R3 := hid r3; have R2b := hid (R2.out.kp0 k3); have K3 := hid (K2.out.trans k3); clear r3 k3)
    | (go_at_call 10; refine (sameI_any _ _ _ _ _ (R2b.out.sl) (R3.out.sl)).mono ?_; rintro e w4 ⟨rfl, q4, h4⟩; have K4 := hid (h4 ▸ (K3.out.trans ((Kp.refl No _).drewN q4)) : Kp No w w4); clear h4)
    | (go_at_call 13; refine (lchoose_any HS.out (HL.out.kp K4.out fun _ _ _ h => h).rw1 rfl).mono ?_; rintro e w5 ⟨m5, rfl, m5c, k5⟩; have M5 := hid m5c; have K5 := hid (K4.out.trans k5); clear m5c k5)
    | (go_at_call 14; refine (rchoose_any HS.out (HL.out.kp K5.out fun _ _ _ h => h).rw1 rfl (by have := HM.out; omega)).mono ?_; rintro e w6 ⟨m6, rfl, m6c, k6⟩; obtain rfl := M5.out.one (m6c.chs rfl); have K6 := hid (K5.out.trans k6); clear m6c k6))
  go_ret
  exact ⟨rfl, K6.out⟩
end Go.Proofs.Ytoeeighfjoplhaa
