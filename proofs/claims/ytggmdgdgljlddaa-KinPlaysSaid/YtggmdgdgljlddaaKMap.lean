/-
  A map by ints in memory, of whatever plain elements: what it holds by a function, looked up, stored into, deleted from, counted. Nothing of a program is named here (after text QMap).
-/
import Derived.Test.YtggmdgdgljlddaaOwn
import Derived.Test.YtggmdgdgljlddaaHeld
import Derived.Maps.OwnSet
namespace Go.Proofs.Ytggmdgdgljlddaa
open Go.RowKit

section
variable {P : Program} {tk tv tm : TypeId} {α : Type} {ev : α → Value} {enc : α → DataW Unit} {z : α}

/-- What is known of the map's type and its elements: how an element lies, how it reads, the one that is told of a key that is not there. -/
structure KM (P : Program) (tm tk tv : TypeId) (ev : α → Value) (enc : α → DataW Unit) (z : α) : Prop where
  und : P.underlying tm = some (.map tk tv)
  key : P.underlying tk = some (.int .i64)
  zero : ∀ w, (zeroValue tv).run P w = .ok (ev z) w
  inj : ∀ a b, enc a = enc b → a = b
  evj : ∀ a b, ev a = ev b → a = b

open Classical in
/-- How an element reads. -/
noncomputable def RV (ev : α → Value) (enc : α → DataW Unit) (v : Value) : Option (DataW Unit × List MemPlace) := if h : ∃ a, ev a = v then some (enc h.choose, []) else none
theorem RV_ev (K : KM P tm tk tv ev enc z) (a : α) : RV ev enc (ev a) = some (enc a, []) := by
  have h : ∃ c, ev c = ev a := ⟨a, rfl⟩
  unfold RV
  rw [dif_pos h, K.evj _ _ h.choose_spec]
theorem RV_is (K : KM P tm tk tv ev enc z) {v : Value} {a : α} {ps : List MemPlace} (h : RV ev enc v = some (enc a, ps)) : v = ev a := by
  unfold RV at h
  split at h
  · rename_i hx
    simp only [Option.some.injEq, Prod.mk.injEq] at h
    rw [← K.inj _ _ h.1]
    exact hx.choose_spec.symm
  · cases h
theorem wfK {k : Int} (h : I64 k) : (Lit.int .i64 k).wf = true := WalkArith.wf_i64 (by unfold I64 at h; omega)
theorem KM.keyed (K : KM P tm tk tv ev enc z) : Maps.Keyed P tk := Maps.int_keyed K.key
theorem KM.keyOf (K : KM P tm tk tv ev enc z) {k : Int} (h : I64 k) : keyOf P tk (.int .i64 k) = some (.int .i64 k) := Maps.keyOf_int_mk K.key (wfK h)
theorem keyLitK {k : Int} : WideAt.IsKeyLit (.int .i64 k) := trivial

/-- Block b is a map that holds just what f says; n keys. -/
def Mk (P : Program) (tk : TypeId) (ev : α → Value) (enc : α → DataW Unit) (w : World) (b : Nat) (f : Int → Option α) (n : Nat) : Prop :=
  ∃ D : DataW Unit, w.ownsMap P tk (RV ev enc) b n D ∧ Maps.size D = n ∧ (∀ k, Maps.has D (.int .i64 k) = (f k).isSome) ∧ ∀ k a, f k = some a → ∀ y, D.atKey (.int .i64 k) y = enc a

variable {w w' : World} {b n : Nat} {f : Int → Option α} {S : Nat → Prop}
theorem Mk.lt (h : Mk P tk ev enc w b f n) : b < w.heap.size := by
  obtain ⟨D, h1, _⟩ := h
  exact h1.lt
theorem Mk.kp (h : Mk P tk ev enc w b f n) (k : Kp S w w') (hb : ¬ S b) : Mk P tk ev enc w' b f n := by
  obtain ⟨D, ⟨es, clock, e1, e2⟩, h2⟩ := h
  exact ⟨D, ⟨es, clock, (k.block b (Array.getElem?_eq_some_iff.1 e1).1 hb).trans e1, e2⟩, h2⟩
theorem Mk.kp0 (h : Mk P tk ev enc w b f n) (k : Kp No w w') : Mk P tk ev enc w' b f n := h.kp k fun h => h
theorem Mk.new (w : World) : Mk P tk ev enc (w.alloc (.map #[] 0)) w.heap.size (fun _ => none) 0 :=
  ⟨_, World.ownsMap_made w _ _ _, rfl, fun _ => rfl, fun _ _ h => by cases h⟩
theorem Mk.look_some (K : KM P tm tk tv ev enc z) (h : Mk P tk ev enc w b f n) {k : Int} (hk : I64 k) {a : α} (hm : f k = some a) (c : Bool) :
    (Instr.lookup tm (.map (some b)) (.int .i64 k) c).run P w = .ok (if c then .tuple #[ev a, .bool true] else ev a) w := by
  obtain ⟨D, h1, h2, h3, h4⟩ := h
  cases c with
  | true =>
    obtain ⟨v, ps, hrun, hv⟩ := h1.look_ok K.keyed K.und (K.zero w) (RV_ev K z) (K.keyOf hk)
    rw [h4 k a hm] at hv
    rw [h3, hm, RV_is K hv] at hrun
    simpa using hrun
  | false =>
    obtain ⟨v, ps, hrun, hv⟩ := h1.lookup K.keyed K.und (K.zero w) (RV_ev K z) (K.keyOf hk)
    rw [h4 k a hm] at hv
    rw [RV_is K hv] at hrun
    simpa using hrun
theorem Mk.look_none (K : KM P tm tk tv ev enc z) (h : Mk P tk ev enc w b f n) {k : Int} (hk : I64 k) (hm : f k = none) (c : Bool) :
    (Instr.lookup tm (.map (some b)) (.int .i64 k) c).run P w = .ok (if c then .tuple #[ev z, .bool false] else ev z) w := by
  obtain ⟨D, h1, h2, h3, h4⟩ := h
  have hn : Maps.has D (.int .i64 k) = false := by rw [h3, hm]; rfl
  cases c with
  | true =>
    obtain ⟨v, ps, hrun, hv⟩ := h1.look_ok K.keyed K.und (K.zero w) (RV_ev K z) (K.keyOf hk)
    rw [Maps.atKey_of_not_has hn] at hv
    rw [hn, RV_is K hv] at hrun
    simpa using hrun
  | false =>
    obtain ⟨v, ps, hrun, hv⟩ := h1.lookup K.keyed K.und (K.zero w) (RV_ev K z) (K.keyOf hk)
    rw [Maps.atKey_of_not_has hn] at hv
    rw [RV_is K hv] at hrun
    simpa using hrun
theorem Mk.len (K : KM P tm tk tv ev enc z) (h : Mk P tk ev enc w b f n) (ty : TypeId) : (Builtin.len_ #[tm] ty #[.map (some b)]).run P w = .ok (.int .i64 (n : Int)) w := by
  obtain ⟨D, h1, h2, _⟩ := h
  rw [h1.len K.und ty, h2]
theorem ownsMap_tight {R : Value → Option (DataW Unit × List MemPlace)} {D : DataW Unit} {m : Nat} (h : w.ownsMap P tk R b n D) (hm : Maps.size D = m) : w.ownsMap P tk R b m D := by
  obtain ⟨es, clock, hb, F, hs, rfl⟩ := h
  refine ⟨es, clock, hb, F, ?_, rfl⟩
  simp [Maps.size, length_sorted] at hm
  omega
theorem Mk.put (K : KM P tm tk tv ev enc z) (h : Mk P tk ev enc w b f n) {x : Int} (a : α) (hk : I64 x) (hl : n < maxLen) :
    ∃ w', (Instr.mapUpdate tm (.map (some b)) (.int .i64 x) (ev a)).run P w = .ok () w' ∧ Mk P tk ev enc w' b (fun k => if k = x then some a else f k) (if (f x).isSome then n else n + 1) ∧ Kp (Only b) w w' := by
  obtain ⟨D, h1, h2, h3, h4⟩ := h
  obtain ⟨w', hrun, g1, g2⟩ := h1.update K.keyed K.und hl (K.keyOf hk) (RV_ev K a)
  refine ⟨w', hrun, ⟨_, ownsMap_tight g1 ?_, ?_, fun k => ?_, fun k m' hm' y => ?_⟩, (Kp.refl _ w).grown g2 fun k e => .inl (by cases e; rfl)⟩
  · rw [Maps.size_put (h1.tidy K.keyed), h3, h2]
  · rw [Maps.size_put (h1.tidy K.keyed), h3, h2]
  · dsimp only
    by_cases e : k = x
    · subst e
      rw [Maps.has_put_same h1.isMap keyLitK, if_pos rfl]
      rfl
    · rw [Maps.has_put_other (by simpa using e), h3, if_neg e]
  · dsimp only at hm'
    by_cases e : k = x
    · subst e
      rw [if_pos rfl] at hm'
      cases hm'
      exact Maps.atKey_put_same h1.isMap keyLitK _ y
    · rw [if_neg e] at hm'
      rw [Maps.atKey_put_other (by simpa using e)]
      exact h4 k m' hm' y
theorem Mk.del (K : KM P tm tk tv ev enc z) (h : Mk P tk ev enc w b f n) {x : Int} (hk : I64 x) (ty : TypeId) :
    ∃ w', (Builtin.delete_ #[tm, tk] ty #[.map (some b), .int .i64 x]).run P w = .ok (.tuple #[]) w' ∧ Mk P tk ev enc w' b (fun k => if k = x then none else f k) (if (f x).isSome then n - 1 else n) ∧ Kp (Only b) w w' := by
  obtain ⟨D, h1, h2, h3, h4⟩ := h
  obtain ⟨w', hrun, g1, g2⟩ := h1.drop K.keyed K.und (K.keyOf hk) ty
  have hsz : Maps.size (D.del (.int .i64 x)) = if (f x).isSome then n - 1 else n := by
    have := Maps.size_del (h1.tidy K.keyed) (k := .int .i64 x)
    rw [h3, h2] at this
    split at this <;> rename_i hx <;> simp [hx] <;> omega
  refine ⟨w', hrun, ⟨_, ownsMap_tight g1 hsz, hsz, fun k => ?_, fun k m' hm' y => ?_⟩, (Kp.refl _ w).grown g2.grown fun k e => .inl (by cases e; rfl)⟩
  · dsimp only
    by_cases e : k = x
    · subst e
      rw [Maps.has_del_same, if_pos rfl]
      rfl
    · rw [Maps.has_del_other (by simpa using e), h3, if_neg e]
  · dsimp only at hm'
    by_cases e : k = x
    · rw [if_pos e] at hm'
      cases hm'
    · rw [if_neg e] at hm'
      rw [Maps.atKey_del_other (by simpa using e)]
      exact h4 k m' hm' y
end
end Go.Proofs.Ytggmdgdgljlddaa
