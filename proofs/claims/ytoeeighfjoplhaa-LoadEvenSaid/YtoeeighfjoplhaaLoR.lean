/-
  slices.Delete of one place, slices.Insert at any place, at a row of ints in a block of its own.
-/
import Derived.Test.YtoeeighfjoplhaaLoRa
import Derived.Test.YtoeeighfjoplhaaShelf
import Derived.Shelf.Slices.Delete
import Derived.Shelf.Slices.Cells
import Derived.Shelf.Slices.Empties
import Derived.Shelf.Spec.SlicesInsert
import Derived.Shelf.Spec.SlicesInsertGrow
namespace Go.Proofs.Ytoeeighfjoplhaa
open Go.RowKit

section
variable {w w' : World} {S : Nat → Prop} {b : Option Nat} {n c k p : Nat} {ks : List Int} {x : Int}
theorem del_row (h : RowI w b n c ks) (hp : p < ks.length) : ∃ k, b = some k ∧ Calls Try.prog 48 #[gsl b n c, .int .i64 (p : Nat), .int .i64 ((p : Nat) + 1)] w fun e w' => e = .returned (gsl b (n - 1) c) ∧ RowI w' b (n - 1) c (delP p ks) ∧ Kp (Only k) w w' := by
  cases b with
  | none =>
    obtain ⟨rfl, rfl, rfl⟩ := h.none_nil
    simp at hp
  | some k =>
    refine ⟨k, rfl, ?_⟩
    have hdl := delP_len hp
    obtain ⟨hn, h2, h3, cs, hb, hcs, hc⟩ := id h
    have h3' : c ≤ 9223372036854775807 := by unfold maxLen at h3; omega
    have e1 : ((p : Nat) : Int) + 1 = ((p + 1 : Nat) : Int) := by omega
    rw [e1]
    refine (Any.slices_Delete_int_cells Try.deleteA k 0 n c (p) (p + 1) ks w (by omega) h2 h3' (by omega) (by omega) (fun j hj => by rw [Nat.zero_add]; exact h.cell hj) (fun j _ => by rw [Nat.zero_add]; exact hb.frozen j)).mono ?_
    rintro e w' ⟨rfl, q, rfl⟩
    rw [Nat.add_sub_cancel_left, hn, List.take_length]
    have hlist : ks.take (p) ++ ks.drop (p + 1) ++ List.replicate 1 0 = delP p ks ++ [0] := rfl
    rw [hlist]
    obtain ⟨cs', hb', hs', hc'⟩ := Blk.puts ((delP p ks ++ [0]).map (Value.int .i64)) 0 (w.drewN q) cs (hb.kp0 ((Kp.refl No w).drewN q))
    refine ⟨rfl, ⟨by omega, by omega, h3, cs', hb', by omega, fun j hj => ?_⟩, Kp.puts (S := Only k) (a := w) (g := k) (.inl rfl) _ _ _ ((Kp.refl (Only k) w).drewN q)⟩
    rw [hc' j, if_pos ⟨Nat.zero_le _, by simp; omega, by omega⟩, Nat.sub_zero, List.getElem?_map, List.getElem?_append_left (by omega)]
    simp [List.getD, show j < (delP p ks).length by omega]
theorem ins_row {vb : Nat} (h : RowI w b n c ks) (hl : ks.length ≤ 100000000) (hpl : p ≤ ks.length) (hv : Blk w vb 3 #[.int .i64 x]) (hne : b ≠ some vb) :
    Calls Try.prog 49 #[gsl b n c, .int .i64 (p : Nat), .slice (some ⟨vb, 0, none⟩) 1 1] w fun e w' => ∃ b' c', e = .returned (gsl b' (n + 1) c') ∧ RowI w' b' (n + 1) c' (insP p x ks) ∧ (b' = b ∨ ∀ k, b' = some k → w.heap.size ≤ k) ∧ Kp (fun i => b = some i) w w' := by
  have hil := insP_len x hpl
  have hvs : ∀ j v, [Value.int .i64 x][j]? = some v → w.cell? ⟨vb, 0 + j, none⟩ = some v := fun j v e => by
    rw [Nat.zero_add, hv.cell]
    match j, e with
    | 0, e => simpa using e
  have h1v : ∀ v ∈ [Value.int .i64 x], v.oneCell' = true := fun v hm => by
    rw [List.mem_singleton.1 hm]
    rfl
  have hm1 : (ks.map (Value.int .i64)).length = ks.length := List.length_map ..
  have h1c : ∀ v ∈ ks.map (Value.int .i64), v.oneCell' = true := fun v hm => by
    obtain ⟨y, _, rfl⟩ := List.mem_map.1 hm
    rfl
  have hn := h.1
  have hcm := h.2.2.1
  have hnc := h.2.1
  unfold maxLen at hcm
  have hZ : ∀ q, (Builtin.zeroCells (Value.int .i64 0).cells q).size = q := fun q => by rw [size_zeroCells]; exact Nat.mul_one q
  -- at the end, where there is no room
  have endgrow : p = n → c < n + 1 → Calls Try.prog 49 #[gsl b n c, .int .i64 (p : Nat), .slice (some ⟨vb, 0, none⟩) 1 1] w fun e w' => ∃ b' c', e = .returned (gsl b' (n + 1) c') ∧ RowI w' b' (n + 1) c' (insP p x ks) ∧ (b' = b ∨ ∀ k, b' = some k → w.heap.size ≤ k) ∧ Kp (fun i => b = some i) w w' := fun hp hroom => by
    rw [show ((p : Nat) : Int) = ((n : Nat) : Int) from by rw [hp]]
    refine (Any2.slices_Insert_int_end_grow Try.insertA (ga b) n c vb 0 1 1 (ks.map (Value.int .i64)) [.int .i64 x] w (by omega) hnc hroom (by omega) (by omega) rfl (fun e => ?_) (fun a ha j v hj => ?_) hvs h1v).mono ?_
    · cases b with
      | none => exact h.none_nil.1
      | some k => cases e
    · cases b with
      | none => cases ha
      | some k =>
        cases ha
        have hjl : j < ks.length := by have := (List.getElem?_eq_some_iff.1 hj).1; omega
        rw [int_at hjl] at hj
        cases hj
        rw [Addr.add_lit, Nat.zero_add]
        exact h.cell hjl
    · rintro e w' ⟨rfl, rfl⟩
      refine ⟨some w.heap.size, _, rfl, ⟨by omega, grownCap_ge _ _ _ _, grownCap_le_maxLen _ _ _ _ (by simp only [maxLen]; omega), _, Blk.new w.drew _ _, ?_, fun j hj => ?_⟩, .inr fun k e => by cases e; exact Nat.le_refl _, (Kp.refl _ w).drew.alloc _⟩
      · rw [Array.size_append, hZ]
        have := grownCap_ge w (n + 1) c (Try.insertA_ren.t 3)
        simp only [List.size_toArray, List.length_append, List.length_map, List.length_cons, List.length_nil]
        omega
      · rw [Array.getElem?_append_left (by simp; omega), List.getElem?_toArray]
        have e : ks.map (Value.int .i64) ++ [.int .i64 x] = (insP p x ks).map (Value.int .i64) := by
          unfold insP
          rw [hp, hn, List.take_length, List.drop_length, List.map_append]
          rfl
        rw [e]
        exact int_at (by omega)
  cases b with
  | none =>
    obtain ⟨rfl, rfl, rfl⟩ := h.none_nil
    exact endgrow (Nat.le_zero.1 hpl) (by omega)
  | some k =>
    obtain ⟨_, _, _, cs, hb, hcs, hc⟩ := id h
    have hvk : vb ≠ k := fun e => hne (by rw [e])
    by_cases hp : p = n
    · by_cases hroom : c < n + 1
      · exact endgrow hp hroom
      · rw [show ((p : Nat) : Int) = ((n : Nat) : Int) from by rw [hp]]
        refine (Any2.slices_Insert_int_end_room Try.insertA k 0 n c vb 0 1 1 [.int .i64 x] w (by omega) (by omega) (by omega) rfl (fun j hj => ?_) (fun j _ => hb.frozen _) hvs h1v).mono ?_
        · rw [hb.cell, Array.getElem?_eq_getElem (by omega)]
          rfl
        · rintro e w' ⟨rfl, rfl⟩
          rw [Nat.zero_add]
          obtain ⟨cs', hb', hs', hc'⟩ := Blk.puts [.int .i64 x] n w cs hb
          refine ⟨some k, c, rfl, ⟨by omega, by omega, by simp only [maxLen]; omega, cs', hb', by omega, fun j hj => ?_⟩, .inl rfl, Kp.puts (S := fun i => some k = some i) (a := w) (g := k) (.inl rfl) _ _ _ (Kp.refl _ w)⟩
          have e := ins_at x ks hpl j
          rw [hc' j]
          simp only [List.length_cons, List.length_nil]
          by_cases hjn : j = n
          · rw [if_pos (by omega), hjn, Nat.sub_self]
            rw [if_neg (by omega), if_pos (by omega)] at e
            rw [hjn] at e
            simp [List.getD, e]
          · rw [if_neg (by omega), hc j (by omega)]
            rw [if_pos (by omega)] at e
            simp only [List.getD, e]
    · have hin : p < n := by omega
      have hcell : ∀ j v, (ks.map (Value.int .i64))[j]? = some v → w.cell? ⟨k, 0 + j, none⟩ = some v := fun j v hj => by
        have hjl : j < ks.length := by have := (List.getElem?_eq_some_iff.1 hj).1; omega
        rw [int_at hjl] at hj
        cases hj
        rw [Nat.zero_add]
        exact h.cell hjl
      have hdr : ∀ q, ((ks.map (Value.int .i64)).drop (p))[q]? = (ks.map (Value.int .i64))[p + q]? := fun q => List.getElem?_drop ..
      by_cases hroom : c < n + 1
      · refine (Any2.slices_Insert_int_grow Try.insertA k 0 n c (p) vb 0 1 1 (ks.map (Value.int .i64)) [.int .i64 x] w hin (by omega) hnc hroom (by omega) (by omega) rfl hcell hvs h1c h1v).mono ?_
        rintro e w' ⟨rfl, rfl⟩
        have hge := grownCap_ge w (n + 1) c (Try.insertA_ren.t 3)
        have hlm : grownCap w (n + 1) c (Try.insertA_ren.t 3) ≤ maxLen := grownCap_le_maxLen _ _ _ _ (by simp only [maxLen]; omega)
        generalize grownCap w (n + 1) c (Try.insertA_ren.t 3) = cap at hge hlm ⊢
        have b0 := Blk.new w 3 (((ks.map (Value.int .i64)).take (p)).toArray ++ Builtin.zeroCells (Value.int .i64 0).cells (n + 1 - p) ++ Builtin.zeroCells (Value.int .i64 0).cells (cap - (n + 1)))
        have k0 := (Kp.refl (fun i => some k = some i) w).alloc (.cells (((ks.map (Value.int .i64)).take (p)).toArray ++ Builtin.zeroCells (Value.int .i64 0).cells (n + 1 - p) ++ Builtin.zeroCells (Value.int .i64 0).cells (cap - (n + 1))) 3)
        have z0 : (((ks.map (Value.int .i64)).take (p)).toArray ++ Builtin.zeroCells (Value.int .i64 0).cells (n + 1 - p) ++ Builtin.zeroCells (Value.int .i64 0).cells (cap - (n + 1))).size = cap := by
          rw [Array.size_append, Array.size_append, hZ, hZ]
          simp only [List.size_toArray, List.length_take, List.length_map]
          omega
        have g0 : ∀ j, j < p → (((ks.map (Value.int .i64)).take (p)).toArray ++ Builtin.zeroCells (Value.int .i64 0).cells (n + 1 - p) ++ Builtin.zeroCells (Value.int .i64 0).cells (cap - (n + 1)))[j]? = (ks.map (Value.int .i64))[j]? := fun j hj => by
          rw [Array.getElem?_append_left (by rw [Array.size_append, hZ]; simp only [List.size_toArray, List.length_take, List.length_map]; omega), Array.getElem?_append_left (by simp only [List.size_toArray, List.length_take, List.length_map]; omega), List.getElem?_toArray, List.getElem?_take_of_lt hj]
        change ∃ b' c', _ ∧ RowI ((((w.alloc (.cells _ 3)).drew.setCells w.heap.size (p) [.int .i64 x]).drew).setCells w.heap.size (p + 1) ((ks.map (Value.int .i64)).drop (p))) b' (n + 1) c' (insP p x ks) ∧ _ ∧ Kp _ w ((((w.alloc (.cells _ 3)).drew.setCells w.heap.size (p) [.int .i64 x]).drew).setCells w.heap.size (p + 1) ((ks.map (Value.int .i64)).drop (p)))
        generalize ((ks.map (Value.int .i64)).take (p)).toArray ++ Builtin.zeroCells (Value.int .i64 0).cells (n + 1 - p) ++ Builtin.zeroCells (Value.int .i64 0).cells (cap - (n + 1)) = C0 at b0 k0 z0 g0 ⊢
        obtain ⟨C1, b1, s1, g1⟩ := Blk.puts [.int .i64 x] (p) (w.alloc (.cells C0 3)).drew C0 (b0.kp0 (Kp.refl No _).drew)
        have k1 := Kp.puts (g := w.heap.size) (.inr (Nat.le_refl _)) [.int .i64 x] (p) _ k0.drew
        obtain ⟨C2, b2, s2, g2⟩ := Blk.puts ((ks.map (Value.int .i64)).drop (p)) (p + 1) _ C1 (b1.kp0 (Kp.refl No _).drew)
        have k2 := Kp.puts (g := w.heap.size) (.inr (Nat.le_refl _)) ((ks.map (Value.int .i64)).drop (p)) (p + 1) _ k1.drew
        refine ⟨some w.heap.size, cap, rfl, ⟨by omega, hge, hlm, C2, b2, by omega, fun j hj => ?_⟩, .inr fun k e => by cases e; exact Nat.le_refl _, k2⟩
        have e := ins_at x ks hpl j
        rw [g2 j, List.length_drop, hm1]
        by_cases hj1 : j < p
        · rw [if_neg (by omega), g1 j, if_neg (by omega), g0 j hj1, List.getElem?_map]
          rw [if_pos hj1] at e
          rw [← e]
          simp [List.getD, show j < (insP p x ks).length by omega]
        · by_cases hj2 : j = p
          · rw [if_neg (by omega), g1 j, hj2, if_pos (by simp; omega), Nat.sub_self]
            rw [if_neg hj1, if_pos hj2, hj2] at e
            simp [List.getD, e]
          · rw [if_pos (by omega), hdr, show p + (j - (p + 1)) = j - 1 by omega, List.getElem?_map]
            rw [if_neg hj1, if_neg hj2] at e
            rw [← e]
            simp [List.getD, show j < (insP p x ks).length by omega]
      · refine (Any2.slices_Insert_int_shift Try.insertA k 0 n c (p) vb 0 1 1 (ks.map (Value.int .i64)) [.int .i64 x] w hin (by omega) (by omega) (by omega) hvk (by omega) rfl hcell (fun j hj => ?_) (fun j _ => hb.frozen _) hvs h1c h1v 3 3 1 c hv.shape (by rw [hb.shape, hcs]) (by omega) (hv.frozen 0) (hv.frozen 1)).mono ?_
        · rw [hb.cell, Array.getElem?_eq_getElem (by omega)]
          rfl
        · rintro e w' ⟨rfl, rfl⟩
          rw [Nat.zero_add, Nat.zero_add]
          obtain ⟨C1, b1, s1, g1⟩ := Blk.puts ((ks.map (Value.int .i64)).drop (p)) (p + 1) w.drew cs (hb.kp0 (Kp.refl No w).drew)
          have k1 := Kp.puts (S := fun i => some k = some i) (a := w) (g := k) (.inl rfl) ((ks.map (Value.int .i64)).drop (p)) (p + 1) _ (Kp.refl _ w).drew
          obtain ⟨C2, b2, s2, g2⟩ := Blk.puts [.int .i64 x] (p) _ C1 b1
          have k2 := Kp.puts (S := fun i => some k = some i) (a := w) (g := k) (.inl rfl) [.int .i64 x] (p) _ k1
          refine ⟨some k, c, rfl, ⟨by omega, by omega, by simp only [maxLen]; omega, C2, b2, by omega, fun j hj => ?_⟩, .inl rfl, k2⟩
          have e := ins_at x ks hpl j
          rw [g2 j]
          by_cases hj2 : j = p
          · rw [hj2, if_pos (by simp; omega), Nat.sub_self]
            rw [if_neg (by omega), if_pos hj2, hj2] at e
            simp [List.getD, e]
          · rw [if_neg (by simp; omega), g1 j, List.length_drop, hm1]
            by_cases hj1 : j < p
            · rw [if_neg (by omega), hc j (by omega)]
              rw [if_pos hj1] at e
              simp only [List.getD, e]
            · rw [if_pos (by omega), hdr, show p + (j - (p + 1)) = j - 1 by omega, List.getElem?_map]
              rw [if_neg hj1, if_neg hj2] at e
              rw [← e]
              simp [List.getD, show j < (insP p x ks).length by omega]
end
end Go.Proofs.Ytoeeighfjoplhaa
