/-
  'append(s, make([]byte, n)...)' over bytes that the call owns: nothing of a program is named here.
-/
import Derived.Test.YtgfkbkonelphaaaGreatDoorBytes
import Derived.Lib.AppendZerosOnto
import Derived.Maps.AppendAt
import Derived.Laws.CopyRow
namespace Go.Proofs.YtgfkbkonelphaaaGreatDoor
open Go.RowKit

theorem zero_cells (n : Nat) : (Builtin.zeroCells (Value.int .u8 0).cells n).toList = (List.replicate n (0 : Int)).map (Value.int .u8) := by
  have : Builtin.zeroCells (Value.int .u8 0).cells n = madeCells #[.int .u8 0] n := by simp [Builtin.zeroCells, madeCells, Value.cells]
  rw [this, toList_madeCells_one]
  simp

section
variable {P : Program}
theorem run_appz {t tn ty e : TypeId} {kn : IntKind} (u : U8 P t e) (hn : P.underlying tn = some (.int kn)) (w : World) {base : Nat} {v : Value} {xs : List Int} (k : Nat) (hown : Own w base e v xs)
    (hle : xs.length + k ≤ 140737488355328) (hbase : base ≤ w.heap.size) :
    ∃ v' w', (Builtin.append_ #[t, tn] ty #[v, .int .i64 (k : Int)]).run P w = .ok v' w' ∧ Own w' base e v' (xs ++ List.replicate k 0) ∧ w.grownBy w' v.ownBlock := by
  obtain ⟨i, hi, hz, hs, hb⟩ := info_parts u.info
  have hx2 : ∀ z ∈ xs ++ List.replicate k (0 : Int), 0 ≤ z ∧ z ≤ 255 := fun z hz => by
    rcases List.mem_append.1 hz with h | h
    · exact hown.2 z h
    · rw [List.eq_of_mem_replicate h]; omega
  have hw : IntKind.i64.wrap (k : Int) = k := by rw [IntKind.wrap_i64]; omega
  have hneg : ¬ ((k : Int) < 0) := by omega
  have h48i : ¬ (281474976710656 < (k : Int) * (i.bytes : Int)) := by rw [hb]; omega
  have grown : ∀ (old : Nat), old < xs.length + k → ∀ (row : Option Nat),
      Own (w.drew.alloc (.cells ((xs.map (Value.int .u8)).toArray ++ Builtin.zeroCells (Value.int .u8 0).cells k ++ Builtin.zeroCells (Value.int .u8 0).cells (grownCap w (xs.length + k) old e - (xs.length + k))) e)) base e
        (.slice (some ⟨w.heap.size, 0, none⟩) (xs.length + k) (grownCap w (xs.length + k) old e)) (xs ++ List.replicate k 0) ∧
      w.grownBy (w.drew.alloc (.cells ((xs.map (Value.int .u8)).toArray ++ Builtin.zeroCells (Value.int .u8 0).cells k ++ Builtin.zeroCells (Value.int .u8 0).cells (grownCap w (xs.length + k) old e - (xs.length + k))) e)) row := fun old ho row => by
    have hge := grownCap_ge w (xs.length + k) old e
    have hcm : grownCap w (xs.length + k) old e ≤ maxLen := grownCap_le_maxLen w (xs.length + k) old e (by unfold maxLen; omega)
    refine ⟨⟨⟨by simp, .inr ⟨w.heap.size, _, _, by simp, hbase, heap_alloc_new w.drew _, by simpa using hge, hcm, ?_, ?_⟩⟩, hx2⟩, ⟨rfl, rfl, rfl, by simp, fun j hj _ => Below.heap_alloc w.drew _ j hj⟩⟩
    · simp only [Array.size_append, List.size_toArray, List.length_map, size_zeroCells, Value.cells, List.length_cons, List.length_nil]
      omega
    · simp only [Array.toList_append, zero_cells, List.append_assoc]
      rw [← List.append_assoc, ← List.map_append]
      exact List.take_left' (by simp)
  rcases hown.1.2 with ⟨rfl, h0⟩ | ⟨g, cap, cur, rfl, hbg, hg, hnc, hcm, hcs, htake⟩
  · have hx : xs = [] := List.eq_nil_of_length_eq_zero h0
    subst hx
    rcases Nat.eq_zero_or_pos k with hk | hk
    · subst hk
      refine ⟨.slice none 0 0, w, ?_, by simpa using hown, World.grownBy.refl w _⟩
      simp [Builtin.append_, run_underlying u.un, run_underlying hn, sizeOf, typeInfo, hi, asInt, asIntOf, show IntKind.i64.wrap 0 = 0 from rfl]
    · have hr := Lib.run_append_nil_zeros (P := P) w t tn ty e i (.int .u8 0) .i64 kn u.un hn hi hz k hk (by rw [hs]; omega) (by omega) (by rw [hb]; omega)
      have hgr := grown 0 (by simpa using hk) (Value.ownBlock (.slice none 0 0))
      simp only [List.length_nil, Nat.zero_add, List.map_nil, Array.empty_append] at hgr
      exact ⟨_, _, hr, hgr.1, hgr.2⟩
  · by_cases hroom : xs.length + k ≤ cap
    · rcases Nat.eq_zero_or_pos k with hk | hk
      · subst hk
        refine ⟨_, w, ?_, by simpa using hown, World.grownBy.refl w _⟩
        have hc' : xs.length ≤ cap := by omega
        simp [Builtin.append_, run_underlying u.un, run_underlying hn, sizeOf, typeInfo, hi, asInt, asIntOf, show IntKind.i64.wrap 0 = 0 from rfl, hc', storeCells]
      · have hns : ¬ (k * i.size = 0) := Nat.mul_ne_zero (by omega) (by rw [hs]; omega)
        have hst := run_storeCells_at P g xs.length e ((List.replicate k (0 : Int)).map (Value.int .u8)) 0 cur w hg (by simp; omega) (ints_oneCell .u8 _)
        simp only [Nat.add_zero] at hst
        have hk0 : k ≠ 0 := by omega
        refine ⟨.slice (some ⟨g, 0, none⟩) (xs.length + k) cap, w.setRow g (cur.toList.take xs.length ++ (List.replicate k (0 : Int)).map (Value.int .u8) ++ cur.toList.drop (xs.length + ((List.replicate k (0 : Int)).map (Value.int .u8)).length)).toArray, ?_, ⟨⟨by simp, .inr ⟨g, cap, _, by simp, hbg, setRow_heap w g cur _ e _ hg, by simpa using hroom, hcm, ?_, ?_⟩⟩, hx2⟩, ⟨rfl, rfl, rfl, by simp, fun j _ hj => setRow_other w g j _ (fun e => hj (by simp [Value.ownBlock, e]))⟩⟩
        · rw [← zero_cells] at hst
          simp [Builtin.append_, run_underlying u.un, run_underlying hn, sizeOf, typeInfo, zeroValue, hi, hz, hs, hk0, asInt, asIntOf, hw, hneg, h48i, hroom, Addr.add_lit, hst]
          rw [zero_cells, size_zeroCells]
          simp [Value.cells]
        · simp only [List.size_toArray, List.length_append, List.length_take, List.length_drop, Array.length_toList, List.length_map, List.length_replicate]
          omega
        · simp only [List.length_append, List.length_replicate, List.map_append]
          rw [List.take_append_of_le_length (by simp; omega)]
          rw [List.take_of_length_le (by simp; omega), show List.take xs.length cur.toList = xs.map (Value.int .u8) by simpa using htake]
    · have hk : 0 < k := by omega
      have hold : (Builtin.firstCells i.size xs.length (.slice (some ⟨g, 0, none⟩) xs.length cap)).run P w.drew = .ok (xs.map (Value.int .u8)).toArray w.drew := by
        have := run_firstCells_some (P := P) w.drew i.size xs.length ⟨g, 0, none⟩ xs.length cap (xs.map (Value.int .u8)) (by rw [hs]; simp) (fun j u hj => (hown.1.drew).cells rfl j u hj)
        exact this
      have hr := Lib.run_append_grow_zeros (P := P) w t tn ty e i (.int .u8 0) .i64 kn u.un hn hi hz (some ⟨g, 0, none⟩) xs.length cap (xs.map (Value.int .u8)) hold k hk (by rw [hs]; omega) (by omega) (by omega) (by rw [hb]; omega) (by
        have := nextslicecap_le (need := xs.length + k) (old := cap) (by omega)
        rw [hb]
        omega)
      have hgr := grown cap (by omega) (Value.ownBlock (.slice (some ⟨g, 0, none⟩) xs.length cap))
      exact ⟨_, _, hr, hgr.1, hgr.2⟩

theorem wp_appz {t tn e : TypeId} {kn : IntKind} (u : U8 P t e) (hn : P.underlying tn = some (.int kn)) {ops : Array Oper} {rest : List Oper} {o : Oper} {a : Act} {w : World} {Q : Exit → Act → World → Prop} (hw : Region.wanted o (yielded ops a.tmps) = true) (s x : Operand)
    (ho : o.op = .call { callee := .builtin .append, args := #[s, x], argTypes := #[t, tn] }) {base k : Nat} {v : Value} {xs : List Int} (hv : a.eval s = v) (hx : a.eval x = .int .i64 (k : Int)) (hown : Own w base e v xs) (hle : xs.length + k ≤ 140737488355328) (hbase : base ≤ w.heap.size)
    (h : ∀ v' w', Own w' base e v' (xs ++ List.replicate k 0) → Kp (fun k => base ≤ k) w w' → wpList P ops Q rest (a.put o.dst v') w') : wpList P ops Q (o :: rest) a w := by
  subst hv
  refine BigFrame.wpList_want hw fun K hK => ?_
  obtain ⟨v', w', hrun, h2, h3⟩ := run_appz (P := P) (ty := o.type) u hn w k hown hle hbase
  unfold Oper.wp execOp
  simp only [ho, resolve, invoke, builtin, Sem.run_bind, Sem.run_pure, Result.andThen_ok, List.map_toArray, List.map_cons, List.map_nil, hx, hrun]
  exact hK _ _ (h v' w' h2 ((Kp.refl _ _).grown h3 fun k hk => .inl (hown.at_ k hk)))
end
end Go.Proofs.YtgfkbkonelphaaaGreatDoor
