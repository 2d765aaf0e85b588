/-
  Small facts for the laws' walks: what waits, when but one does, or none; how answers read.
-/
import Derived.Test.YtndbkpmfimpgnaaDAwake
import Derived.Test.YtndbkpmfimpgnaaDOpen
namespace Go.Proofs.Ytndbkpmfimpgnaa
open Go.RowKit

theorem isU8 : U8 Try.prog 30 5 := ⟨Try.underlying30, by kernel_rfl⟩
theorem sortN_ext {a b : List Nat} (ha : a.Pairwise (· < ·)) (hb : b.Pairwise (· < ·)) (h : ∀ x, x ∈ a ↔ x ∈ b) : a = b := by
  have hp : a.Perm b := (List.perm_ext_iff_of_nodup (ha.imp fun h => Nat.ne_of_lt h) (hb.imp fun h => Nat.ne_of_lt h)).2 h
  exact List.Perm.eq_of_pairwise (le := fun x y => x < y) (fun x y _ _ h1 h2 => absurd h1 (Nat.lt_asymm h2)) ha hb hp
theorem waits_none {s : Ds} (h : ∀ x, s.c x = none) : waits s = [] := by
  unfold waits waitsN
  simp [h]
theorem waits_one {s : Ds} {i : Nat} (hi : i < s.k.length) (h1 : (s.c (i : Int)).isSome = true) (h2 : ∀ x, x ≠ (i : Int) → s.c x = none) : waits s = [(i : Int)] := by
  unfold waits
  have : waitsN s.c s.k.length = [i] := sortN_ext (waitsN_srt _ _) (by simp) fun x => by
    rw [mem_waitsN, List.mem_singleton]
    constructor
    · rintro ⟨_, hx⟩
      by_cases e : x = i
      · exact e
      · rw [h2 (x : Int) (by omega)] at hx
        cases hx
    · rintro rfl
      exact ⟨hi, h1⟩
  rw [this]
  rfl
theorem cnt_first {c : Int → Option (List Int)} {i : Nat} (h : ∀ j : Nat, j < i → c (j : Int) = none) : cnt c i = 0 := by
  induction i with
  | zero => rfl
  | succ i ih =>
    unfold cnt
    rw [ih fun j hj => h j (by omega), h i (by omega)]
    rfl
theorem blk_byt {w : World} {q : Nat} {l : List Int} (P : Nat → Prop) (h : Blk w q 57 (sc l).toArray) (hl : Sec l) (hP : P q) : Byt w P (.slice (some ⟨q, 0, none⟩) 64 64) l :=
  ⟨some ⟨q, 0, none⟩, 64, by rw [hl.len], by rw [hl.len]; omega, by simp [maxLen], hl.rg, fun _ => ⟨q, 0, rfl, h.lt, hP, fun j hj => by rw [Nat.zero_add, h.cell, List.getElem?_toArray, sc_at hj]⟩⟩
theorem sl_int1 (w : World) (P : Nat → Prop) (t : TypeId) (x : Int) (hP : P w.heap.size) : Sl (Value.int .i64) 0 (w.alloc (.cells #[.int .i64 x] t)) P (.slice (some ⟨w.heap.size, 0, none⟩) 1 1) [x] := by
  have B := Blk.new w t #[.int .i64 x]
  refine ⟨some ⟨w.heap.size, 0, none⟩, 1, rfl, by simp, by simp [maxLen], fun _ => ⟨w.heap.size, 0, rfl, B.lt, hP, fun j hj => ?_⟩⟩
  rw [Nat.zero_add, B.cell]
  match j, hj with
  | 0, _ => rfl
theorem Sl.kp0 {α : Type} {f : α → Value} {d : α} {P : Nat → Prop} {a w : World} {v : Value} {xs : List α} (h : Sl f d a P v xs) (k : Kp No a w) : Sl f d w P v xs := h.kp k fun _ _ _ h => h
theorem kp_drewN (w : World) (n : Nat) : Kp No w (w.drewN n) := (Kp.refl No w).drewN n
end Go.Proofs.Ytndbkpmfimpgnaa
