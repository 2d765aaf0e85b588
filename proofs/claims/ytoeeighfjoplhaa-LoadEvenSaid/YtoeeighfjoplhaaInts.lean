/-
  Slices of int that the call itself owns, and the law of append over them: nothing of a program is named here but the numbers of two types, which are arguments.
-/
import Derived.Test.YtoeeighfjoplhaaWords
import Derived.Test.YtoeeighfjoplhaaArgs
namespace Go.Proofs.Ytoeeighfjoplhaa
open Go.RowKit

/-- Of a program: t is a type of slices of e, and e is int. -/
structure IsInts (P : Program) (t e : TypeId) : Prop where
  un : P.underlying t = some (.slice e)
  info : (P.info? e).map (fun i => (i.zero, i.size, i.bytes)) = some (some (.int .i64 0), 1, 8)

def OwnI (w : World) (base : Nat) (e : TypeId) (v : Value) (xs : List Int) : Prop := w.ownsRow base e 1 v xs.length (xs.map (Value.int .i64))

section
variable {w w' : World} {base : Nat} {e : TypeId} {v : Value} {xs : List Int}
theorem OwnI.nil (w : World) (base : Nat) (e : TypeId) : OwnI w base e (.slice none 0 0) [] := World.ownsRow_nil w base e 1
theorem OwnI.sl {P : Nat → Prop} (h : OwnI w base e v xs) (hP : ∀ i, base ≤ i → P i) : Sl (Value.int .i64) 0 w P v xs := by
  rcases h.2 with ⟨rfl, h0⟩ | ⟨g, cap, cur, rfl, hb, hg, hl, hm, hs, ht⟩
  · have : xs = [] := List.eq_nil_of_length_eq_zero h0
    subst this
    exact Sl.nil _ _ w P
  · refine ⟨some ⟨g, 0, none⟩, cap, rfl, hl, hm, fun _ => ⟨g, 0, rfl, (Array.getElem?_eq_some_iff.1 hg).1, hP g hb, fun j hj => ?_⟩⟩
    have := World.ownsRow.cellAt h j (by simpa using hj)
    rw [Nat.zero_add, this]
    simp [List.getElem?_map, List.getD, List.getElem?_eq_getElem hj]
theorem OwnI.alloc (h : OwnI w base e v xs) (o : Obj) : OwnI (w.alloc o) base e v xs := World.ownsRow.alloc h o
theorem OwnI.kp {S : Nat → Prop} (h : OwnI w base e v xs) (k : Kp S w w') (hs : ∀ i, base ≤ i → ¬ S i) : OwnI w' base e v xs := by
  refine ⟨h.1, ?_⟩
  rcases h.2 with hn | ⟨g, cap, cur, rfl, hb, hg, r⟩
  · exact .inl hn
  · exact .inr ⟨g, cap, cur, rfl, hb, (k.block g (Array.getElem?_eq_some_iff.1 hg).1 (hs g hb)).trans hg, r⟩
theorem OwnI.form (h : OwnI w base e v xs) {n : Nat} (hl : xs.length = n) : ∃ A c, v = .slice A n c := by
  subst hl
  rcases h.2 with ⟨rfl, h0⟩ | ⟨g, cap, cur, rfl, _⟩
  · exact ⟨none, 0, by rw [h0]⟩
  · exact ⟨_, _, rfl⟩
end

/-- 'l = append(l, x)' onto a slice of the call's own: the value lies in a block that was just laid. -/
theorem wp_appI {P : Program} {t e : TypeId} (u : IsInts P t e) {ops : Array Oper} {rest : List Oper} {o : Oper} {a : Act} {w : World} {Q : Exit → Act → World → Prop} (hw : Region.wanted o (yielded ops a.tmps) = true) (s x : Operand)
    (ho : o.op = .call { callee := .builtin .append, args := #[s, x], argTypes := #[t, t] }) {base : Nat} {xs : List Int} {y : Int} {v : Value} (hv : a.eval s = v)
    (hown : OwnI w base e v xs) (hx : a.eval x = .slice (some ⟨w.heap.size, 0, none⟩) 1 1) (hle : xs.length ≤ 1000000) (hbase : base ≤ w.heap.size)
    (h : ∀ v' w', OwnI w' base e v' (xs ++ [y]) → Kp (fun k => base ≤ k) w w' → wpList P ops Q rest (a.put o.dst v') w') : wpList P ops Q (o :: rest) a (w.alloc (.cells #[.int .i64 y] e)) := by
  refine BigFrame.wpList_want hw fun K hK => ?_
  obtain ⟨i, hi, hz, hs, hb⟩ := info_parts u.info
  obtain ⟨v', w', hrun, r1, r2, _⟩ := run_append_own_at (P := P) (w.alloc (.cells #[.int .i64 y] e)) base t o.type e i (.int .i64 0) 1 8 u.un hi hz hs hb rfl (by decide) v xs.length _ (hown.alloc _) ⟨w.heap.size, 0, none⟩ 1 1 [.int .i64 y] rfl
    (cell_one_new _ _ _) (by simp [Value.oneCell']) (by unfold maxLen; omega) (by omega) (by simp; omega)
  unfold Oper.wp execOp
  simp only [ho, hv, hx, resolve, invoke, builtin, Sem.run_bind, Sem.run_pure, Result.andThen_ok, List.map_toArray, List.map_cons, List.map_nil, hrun]
  refine hK _ _ (h v' w' ?_ ((((Kp.refl _ w).alloc _)).grown r2 fun k hk => .inl ?_))
  · unfold OwnI
    rw [List.length_append, List.map_append]
    exact r1
  · rcases hown.2 with ⟨rfl, _⟩ | ⟨g, cap, cur, rfl, hb, _⟩
    · simp [Value.ownBlock] at hk
    · have : g = k := by simpa [Value.ownBlock] using hk
      omega
end Go.Proofs.Ytoeeighfjoplhaa
