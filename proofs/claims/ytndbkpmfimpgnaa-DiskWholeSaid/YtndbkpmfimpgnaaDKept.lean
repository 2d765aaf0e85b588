/-
  Contract of disk's Kept.
-/
import Derived.Test.YtndbkpmfimpgnaaDRows
import Derived.LoopTactic
namespace Go.Proofs.Ytndbkpmfimpgnaa
open Go.RowKit

section
variable {w w' : World} {g b m : Nat} {s : Ds}
set_option maxHeartbeats 1000000 in
set_option maxRecDepth 100000 in
theorem kept_any (h : Dk w g b m s) : Calls Try.prog 10 #[.pointer (some ⟨g, 0, none⟩)] w fun e w' => ∃ v, e = .returned v ∧ Ks w' w.heap.size v s.k ∧ Kp No w w' := by
  have hlen := h.ok.len
  have hA := h.lts
  have O := hid h
  clear h
  obtain ⟨n, hn⟩ : ∃ n, s.k.length = n := ⟨_, rfl⟩
  have HN := hid hn
  go_enter Try.func10, Try.ntmps10
  go_wp2_with fail
  refine (len_any O.out).mono ?_
  rintro e w ⟨rfl, rfl⟩
  rw [hn] at hlen ⊢
  clear hn
  go_wp2_with (refine wp_mk28 rfl _ _ rfl rfl rfl (by omega) ?_; intro w1 ks1 k1; have D1 := O.out.kp0 k1; have c0 := D1.hd.cell 0; simp at c0; rw [HN.out] at c0)
  obtain ⟨B, hB⟩ : ∃ B, w.heap.size = B := ⟨_, rfl⟩
  have hB1 := k1.size
  have K1 := hid k1
  have KS1 := hid ks1
  clear D1 c0 k1 ks1
  have HB := hid hB
  simp only [hB] at KS1 hB1 hA ⊢
  clear hB
  go_loopw [3, 14] (fun v i wr => ∃ k : Nat, k ≤ n ∧ i = .int .i64 (k : Int) ∧ Hid (Ks wr B v (s.k.take k)) ∧ Hid (Kp No w wr)) (fun _ i _ => n - (intOf i).toNat)
  case atStart => exact ⟨0, Nat.zero_le _, rfl, KS1, K1⟩
  case round =>
    obtain ⟨k, hk, rfl, KS, KP⟩ := hrel
    have hs0 : B ≤ wr.heap.size := by have := KP.out.size; have := HB.out; omega
    by_cases hkn : k < n
    · obtain ⟨l, hl⟩ : ∃ l, s.k.getD k [] = l := ⟨_, rfl⟩
      have hkl : k < s.k.length := by rw [HN.out]; exact hkn
      have HL := hid hl
      have HS := hid (show l.length = 64 by rw [← hl]; exact (O.out.ok.sec _ (by simp [List.getD, hkl])).len)
      have HT := hid (show s.k.take (k + 1) = s.k.take k ++ [l] by rw [List.take_succ_eq_append_getElem hkl, ← hl]; simp [List.getD, hkl])
      have D := hid (O.out.kp0 KP.out)
      have hsum := wrapI (x := (k : Int) + 1) (by unfold I64; omega)
      clear hl
      obtain ⟨A0, c0', rfl⟩ := KS.out.formN (n := k) (by rw [List.length_take, HN.out]; omega)
      go_wp2_with (first
        | (refine wp_got57 rfl _ rfl rfl D.out.kt hkl HL.out HS.out ?_)
        | (refine wp_new57 rfl rfl ?_; intro w2 b2 k2 z2)
        | (refine wp_lay57 rfl _ _ rfl rfl rfl b2 sc_zs_size HS.out ?_; intro w3 b3 k3 z3)
        | (refine wp_get57 rfl _ rfl rfl b3 HS.out ?_)
        | ((with_reducible refine (told_any HS.out _).mono ?_); rintro e w4 ⟨rfl, rfl⟩)
        | (refine wp_snoc (w0 := wr) (base := B) (ks := s.k.take k) (l := l) (S := Only wr.heap.size) (q := wr.heap.size + 1) (p := wr.heap.size + 1 + 1) rfl _ _ rfl rfl KS.out (((k2.all.trans k3).alloc _).alloc _) (fun i _ hi e => by have : i = wr.heap.size := e; omega) (by omega) rfl (by rw [show wr.heap.size + 1 + 1 = (w3.alloc (Obj.cells (sc l).toArray 57)).heap.size by simp; omega]; simp) (((Blk.new w3 _ _).next (by omega)).kp0 ((Kp.refl No _).alloc _)) (by omega) (by rw [List.length_take]; omega) ?_; intro v5 w5 ks5 k5; rw [← HT.out] at ks5; obtain ⟨A5, c5, rfl⟩ := ks5.formN (n := k + 1) (by rw [List.length_take, HN.out]; omega)))
      have KP5 := hid ((((KP.out.all (S := fun i => B ≤ i ∧ i < wr.heap.size)).trans (k2.all)).step k3 (fun i hi e => by have : i = wr.heap.size := e; have := HB.out; omega)).trans ((Kp.refl _ w3).alloc (Obj.cells (sc l).toArray 57)))
      have KP6 := hid ((KP5.out.trans ((Kp.refl _ _).alloc (Obj.cells #[Value.slice (some { block := wr.heap.size + 1, off := 0 }) 64 64] 30))).trans k5)
      have KP7 := hid (show Kp No w w5 from KP6.out.mono fun i hi e => by have := HB.out; omega)
      have KS5 := hid ks5
      go_roundw
      case rel => exact ⟨k + 1, by omega, by go_num, KS5, KP7⟩
      case measure => simp [intOf]; omega
    · obtain rfl : k = n := by omega
      have e : s.k.take k = s.k := List.take_of_length_le (by rw [HN.out]; omega)
      go_wp2
      go_ret
      have := KS.out
      rw [e] at this
      exact ⟨_, rfl, by rw [HB.out]; exact this, KP.out⟩
end
end Go.Proofs.Ytndbkpmfimpgnaa
