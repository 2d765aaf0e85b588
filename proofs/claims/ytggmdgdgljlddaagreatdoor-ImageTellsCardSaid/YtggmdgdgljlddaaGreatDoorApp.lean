/-
  append over bytes of the call's own, with where the answer lies: only that block is written. Nothing of a program is named here. (After Bytes' run_app.)
-/
import Derived.Test.YtggmdgdgljlddaaGreatDoorBytes
namespace Go.Proofs.YtggmdgdgljlddaaGreatDoor
open Go.RowKit

section
variable {P : Program}
theorem run_app2 {t ty e : TypeId} (u : U8 P t e) (w : World) {base : Nat} {v x : Value} {xs ys : List Int} {Pb : Nat → Prop} (hown : Own w base e v xs) (hx : Byt w Pb x ys)
    (hle : xs.length + ys.length ≤ 140737488355328) (hbase : base ≤ w.heap.size) :
    ∃ v' w', (Builtin.append_ #[t, t] ty #[v, x]).run P w = .ok v' w' ∧ Own w' base e v' (xs ++ ys) ∧ w.grownBy w' v.ownBlock ∧ (v'.ownBlock = v.ownBlock ∨ v'.ownBlock = some w.heap.size) := by
  obtain ⟨i, hi, hz, hs, hb⟩ := info_parts u.info
  obtain ⟨A, c, rfl, hc, hm, hys, h⟩ := hx
  have hb2 : ∀ z ∈ xs ++ ys, 0 ≤ z ∧ z ≤ 255 := fun z hz => by
    rcases List.mem_append.1 hz with h | h
    · exact hown.2 z h
    · exact hys z h
  rcases A with _ | ad
  · have h0 : ys = [] := by
      rcases ys with _ | ⟨y, ys⟩
      · rfl
      · obtain ⟨b, o, h, _⟩ := h (by simp)
        cases h
    subst h0
    refine ⟨v, w, ?_, by simpa using hown, World.grownBy.refl w _, .inl rfl⟩
    rcases hown.1.2 with ⟨rfl, h0⟩ | ⟨g, cap, cur, rfl, _, _, hnc, _⟩
    · simp [Builtin.append_, run_underlying u.un, sizeOf, typeInfo, hi, Builtin.lenOf, Builtin.firstCells]
    · simp [Builtin.append_, run_underlying u.un, sizeOf, typeInfo, hi, Builtin.lenOf, Builtin.firstCells, hnc, storeCells]
  · have hcell : ∀ j q, (ys.map (Value.int .u8))[j]? = some q → w.cell? (ad.add j) = some q := by
      intro j q hq
      have hj : j < ys.length := by
        rcases Nat.lt_or_ge j ys.length with h | h
        · exact h
        · rw [List.getElem?_eq_none (by simpa using h)] at hq; cases hq
      obtain ⟨b, o, he, _, _, hcell⟩ := h (by omega)
      cases he
      have ha : (⟨b, o, none⟩ : Addr).add j = ⟨b, o + j, none⟩ := by unfold Addr.add; split <;> simp_all
      rw [ha, hcell j hj, ← hq]
      simp [List.getElem?_map, List.getElem?_eq_getElem hj]
    obtain ⟨v', w', hrun, h2, h3, _, h5⟩ := run_append_own_at (P := P) w base t ty e i (.int .u8 0) 1 1 u.un hi hz hs hb rfl (by omega) v xs.length _ hown.1 ad ys.length c (ys.map (Value.int .u8)) (by simp) hcell
      (ints_oneCell .u8 ys) (by simp only [maxLen]; omega) (by omega) hbase
    exact ⟨v', w', hrun, ⟨by simpa using h2, hb2⟩, h3, h5⟩

theorem wp_app2 {t e : TypeId} (u : U8 P t e) {ops : Array Oper} {rest : List Oper} {o : Oper} {a : Act} {w : World} {Q : Exit → Act → World → Prop} (hw : Region.wanted o (yielded ops a.tmps) = true) (s x : Operand)
    (ho : o.op = .call { callee := .builtin .append, args := #[s, x], argTypes := #[t, t] }) {base : Nat} {xs ys : List Int} {Pb : Nat → Prop}
    (hown : Own w base e (a.eval s) xs) (hx : Byt w Pb (a.eval x) ys) (hle : xs.length + ys.length ≤ 140737488355328) (hbase : base ≤ w.heap.size)
    (h : ∀ v' w', Own w' base e v' (xs ++ ys) → Kp (fun k => (a.eval s).ownBlock = some k) w w' → (v'.ownBlock = (a.eval s).ownBlock ∨ v'.ownBlock = some w.heap.size) → wpList P ops Q rest (a.put o.dst v') w') : wpList P ops Q (o :: rest) a w := by
  refine BigFrame.wpList_want hw fun K hK => ?_
  obtain ⟨v', w', hrun, h2, h3, h4⟩ := run_app2 (P := P) (ty := o.type) u w hown hx hle hbase
  unfold Oper.wp execOp
  simp only [ho, resolve, invoke, builtin, Sem.run_bind, Sem.run_pure, Result.andThen_ok, List.map_toArray, List.map_cons, List.map_nil, hrun]
  exact hK _ _ (h v' w' h2 ((Kp.refl _ _).grown h3 fun k hk => .inl hk) h4)
end
/-- Not in that block. -/
def Off (g : Nat) (v : Value) : Prop := ∀ k, v.ownBlock = some k → k ≠ g
theorem Off.app {g : Nat} {v v' : Value} {w : World} (h : Off g v) (hg : g < w.heap.size) (h' : v'.ownBlock = v.ownBlock ∨ v'.ownBlock = some w.heap.size) : Off g v' := fun k hk => by
  rcases h' with e | e
  · exact h k (e ▸ hk)
  · rw [e] at hk
    cases hk
    omega
theorem Off.own {w : World} {base : Nat} {e : TypeId} {v : Value} {xs : List Int} (h : Own w base e v xs) : Off w.heap.size v := fun k hk => by have := (h.1.lt k hk).2; omega
end Go.Proofs.YtggmdgdgljlddaaGreatDoor
