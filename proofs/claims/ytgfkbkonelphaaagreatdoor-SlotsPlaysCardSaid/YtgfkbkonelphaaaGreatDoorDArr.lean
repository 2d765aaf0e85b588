/-
  A variable of the sectors' type: made, laid whole, read whole: laws for the walk.
-/
import Derived.Test.YtgfkbkonelphaaaGreatDoorDA
namespace Go.Proofs.YtgfkbkonelphaaaGreatDoor
open Go.RowKit

section
variable {ops : Array Oper} {rest : List Oper} {o : Oper} {a : Act} {w : World} {Q : Exit → Act → World → Prop}
theorem rangeBlk {q : Nat} {t : TypeId} {cs : List Value} (hb : Blk w q t cs.toArray) : w.rangeAt q 0 cs := fun j v hv => by
  rw [Nat.zero_add, hb.cell]
  simpa using hv
theorem thereBlk {q n : Nat} {t : TypeId} {cs : Array Value} (hb : Blk w q t cs) (hn : n ≤ cs.size) : w.there q 0 n := fun j hj => by
  rw [Nat.zero_add]
  exact ⟨by rw [hb.cell, Array.getElem?_eq_getElem (by omega)]; rfl, hb.frozen j⟩
theorem wp_new57 (hg : o.guard = none) (ho : o.op = .alloc 85)
    (h : ∀ w', Blk w' w.heap.size 85 (sc zs).toArray → Kp No w w' → w'.heap.size = w.heap.size + 1 → wpList Tryz.prog ops Q rest (a.put o.dst (.pointer (some ⟨w.heap.size, 0, none⟩))) w') : wpList Tryz.prog ops Q (o :: rest) a w := by
  refine wpList_plain hg fun K hK => ?_
  unfold Oper.wp
  simp only [execOp, ho, Instr.alloc, Sem.run_bind, dK.zero, Result.andThen_ok, newVar, newRow, run_newObj_alloc, Sem.run_pure]
  exact hK _ _ (h _ (Blk.new w _ _) ((Kp.refl No w).alloc _) (by simp))
theorem wp_get57 (hg : o.guard = none) (x : Operand) (ho : o.op = .load 85 x) {q : Nat} {l : List Int} (hx : a.eval x = .pointer (some ⟨q, 0, none⟩)) (hb : Blk w q 85 (sc l).toArray) (hl : l.length = 64)
    (h : wpList Tryz.prog ops Q rest (a.put o.dst (sev l)) w) : wpList Tryz.prog ops Q (o :: rest) a w :=
  wpList_load_mid hg _ x ho q 0 hx (sc l) _ (rangeBlk hb) dU rfl (dS hl) h
theorem wp_got57 (hg : o.guard = none) (x : Operand) (ho : o.op = .load 85 x) {b j : Nat} {ks : List (List Int)} (hx : a.eval x = .pointer (some ⟨b, j * 64, none⟩)) (hb : Kt 85 w b ks) (hj : j < ks.length) {l : List Int} (he : ks.getD j [] = l) (hl : l.length = 64)
    (h : wpList Tryz.prog ops Q rest (a.put o.dst (sev l)) w) : wpList Tryz.prog ops Q (o :: rest) a w := by
  subst he
  exact wpList_load_mid hg _ x ho b (j * 64) hx (sc (ks.getD j [])) _ (hb.range hj hl) dU rfl (dS hl) h
theorem laid57 {q : Nat} {cs : Array Value} {l : List Int} (hb : Blk w q 85 cs) (hs : cs.size = 64) (hl : l.length = 64) : Blk (w.setCells q 0 (sc l)) q 85 (sc l).toArray := by
  obtain ⟨cs', h1, h2, h3⟩ := Blk.puts (sc l) 0 w cs hb
  have e : cs' = (sc l).toArray := by
    refine Array.ext_getElem? fun j => ?_
    rw [h3 j, sc_len, hl, hs]
    by_cases hj : j < 64
    · rw [if_pos (by omega)]
      simp
    · rw [if_neg (by omega), Array.getElem?_eq_none (by omega), Array.getElem?_eq_none (by rw [List.size_toArray, sc_len, hl]; omega)]
  rw [← e]
  exact h1
theorem wp_lay57 (hg : o.guard = none) (x y : Operand) (ho : o.op = .store 85 x y) {q : Nat} {cs : Array Value} {l : List Int} (hx : a.eval x = .pointer (some ⟨q, 0, none⟩)) (hy : a.eval y = sev l) (hb : Blk w q 85 cs) (hs : cs.size = 64) (hl : l.length = 64)
    (h : ∀ w', Blk w' q 85 (sc l).toArray → Kp (Only q) w w' → w'.heap.size = w.heap.size → wpList Tryz.prog ops Q rest (a.put o.dst undef) w') : wpList Tryz.prog ops Q (o :: rest) a w := by
  refine wpList_store_mid hg _ x y ho q 0 (sc l).toArray hx hy (thereBlk hb (by rw [List.size_toArray, sc_len, hl]; omega)) (dS' hl) (all_oneCell_toArray (sc_one l)) ?_
  rw [List.toList_toArray]
  exact h _ (laid57 hb hs hl) (Kp.puts (S := Only q) (g := q) (.inl rfl) _ _ _ (Kp.refl (Only q) w)) (size_setCells _ _ _ _)
theorem run_get57 {q : Nat} {l : List Int} (hb : Blk w q 85 (sc l).toArray) (hl : l.length = 64) : (Instr.loadAt 85 (.pointer (some ⟨q, 0, none⟩))).run Tryz.prog w = .ok (sev l) w :=
  run_loadAt_mid w q 0 _ (sc l) _ (rangeBlk hb) dU rfl (dS hl)
theorem run_lay57 {q : Nat} {cs : Array Value} {l : List Int} (hb : Blk w q 85 cs) (hs : cs.size = 64) (hl : l.length = 64) : (Instr.storeAt 85 (.pointer (some ⟨q, 0, none⟩)) (sev l)).run Tryz.prog w = .ok () (w.setCells q 0 (sc l)) := by
  have := run_storeAt_mid (P := Tryz.prog) w q 0 85 (sc l).toArray (thereBlk hb (by rw [List.size_toArray, sc_len, hl]; omega)) (dS' hl) (all_oneCell_toArray (sc_one l))
  rwa [List.toList_toArray] at this
/-- In a region that draws: the whole sector read. -/
theorem still_get57 {R : Act → Prop} (hg : Region.wanted o (yielded ops a.tmps) = true) (x : Operand) (ho : o.op = .load 85 x) {q : Nat} {l : List Int} (hx : a.eval x = .pointer (some ⟨q, 0, none⟩)) (hb : Blk w q 85 (sc l).toArray) (hl : l.length = 64)
    (h : wpStill Tryz.prog ops w R rest (a.put o.dst (sev l))) : wpStill Tryz.prog ops w R (o :: rest) a := by
  unfold wpStill
  rw [if_pos hg]
  unfold Oper.still
  simp only [execOp, ho, hx, Sem.run_bind, run_get57 hb hl, Result.andThen_ok, Sem.run_pure, Oper.stillUpon_value]
  exact h
theorem sc_size {l : List Int} (hl : l.length = 64) : (sc l).toArray.size = 64 := by rw [List.size_toArray, sc_len, hl]
end
end Go.Proofs.YtgfkbkonelphaaaGreatDoor
