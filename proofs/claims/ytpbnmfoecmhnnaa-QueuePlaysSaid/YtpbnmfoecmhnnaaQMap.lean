/-
  Members of a queue as plain things; a map of them in memory: what it holds by a list, looked up, stored into, deleted from, counted.
-/
import Derived.Test.YtpbnmfoecmhnnaaOwn
import Derived.Test.YtpbnmfoecmhnnaaHeld
import Derived.Test.YtpbnmfoecmhnnaaChecked
import Derived.Maps.OwnSet
namespace Go.Proofs.Ytpbnmfoecmhnnaa
open Go.RowKit

/-- A member: its number, its weight, how far it is (or ahead it is), what is left over. -/
structure Mb where
  id : Int
  w : Int
  v : Int
  r : Int
theorem Mb.ext' {a b : Mb} (h1 : a.id = b.id) (h2 : a.w = b.w) (h3 : a.v = b.v) (h4 : a.r = b.r) : a = b := by
  cases a
  cases b
  simp only at h1 h2 h3 h4
  simp [*]
instance : DecidableEq Mb := fun a b => if h : a.id = b.id ∧ a.w = b.w ∧ a.v = b.v ∧ a.r = b.r then isTrue (Mb.ext' h.1 h.2.1 h.2.2.1 h.2.2.2) else isFalse (by rintro rfl; exact h ⟨rfl, rfl, rfl, rfl⟩)
def mb0 : Mb := ⟨0, 0, 0, 0⟩

/-- Who has a number. -/
def finM (l : List Mb) (k : Int) : Option Mb := l.find? fun m => decide (m.id = k)
theorem finM_id {l : List Mb} {k : Int} {m : Mb} (h : finM l k = some m) : m.id = k := by simpa using List.find?_some h
theorem finM_mem {l : List Mb} {k : Int} {m : Mb} (h : finM l k = some m) : m ∈ l := List.mem_of_find?_eq_some h
theorem finM_none {l : List Mb} {k : Int} (h : finM l k = none) : ∀ m ∈ l, m.id ≠ k := fun m hm e => by
  have := List.find?_eq_none.1 h m hm
  simp [e] at this
theorem finM_of {l : List Mb} (hd : l.Pairwise fun a b => a.id ≠ b.id) {m : Mb} (hm : m ∈ l) : finM l m.id = some m := by
  induction l with
  | nil => cases hm
  | cons x l ih =>
    rw [List.pairwise_cons] at hd
    unfold finM
    rw [List.find?_cons]
    rcases List.mem_cons.1 hm with rfl | hm
    · simp
    · have : x.id ≠ m.id := hd.1 m hm
      simp only [this, decide_false]
      exact ih hd.2 hm
theorem finM_not {l : List Mb} {k : Int} (h : ∀ m ∈ l, m.id ≠ k) : finM l k = none := List.find?_eq_none.2 fun m hm => by simpa using h m hm

def ev (m : Mb) : Value := .agg #[.int .i64 m.w, .int .i64 m.v, .int .i64 m.r]
def encM (m : Mb) : DataW Unit := .agg [.lit (.int .i64 m.w), .lit (.int .i64 m.v), .lit (.int .i64 m.r)]
/-- How an element of the map reads. -/
def RM : Value → Option (DataW Unit × List MemPlace)
  | .agg cs => match cs.toList with
    | [.int .i64 a, .int .i64 b, .int .i64 c] => some (.agg [.lit (.int .i64 a), .lit (.int .i64 b), .lit (.int .i64 c)], [])
    | _ => none
  | _ => none
theorem RM_ev (m : Mb) : RM (ev m) = some (encM m, []) := rfl
theorem RM_inv {v : Value} {d : DataW Unit} {ps : List MemPlace} (h : RM v = some (d, ps)) : ∃ a b c, v = .agg #[.int .i64 a, .int .i64 b, .int .i64 c] ∧ d = .agg [.lit (.int .i64 a), .lit (.int .i64 b), .lit (.int .i64 c)] := by
  unfold RM at h
  split at h
  · rename_i cs
    split at h
    · rename_i a b c hc
      simp only [Option.some.injEq, Prod.mk.injEq] at h
      refine ⟨a, b, c, ?_, h.1.symm⟩
      congr 1
      apply Array.toList_inj.1
      rw [hc]
    · cases h
  · cases h
theorem RM_is {v : Value} {m : Mb} {ps : List MemPlace} (h : RM v = some (encM m, ps)) : v = ev m := by
  obtain ⟨a, b, c, rfl, hd⟩ := RM_inv h
  unfold encM at hd
  simp only [DataW.agg.injEq, List.cons.injEq, DataW.lit.injEq, Lit.int.injEq, and_true, true_and] at hd
  obtain ⟨h1, h2, h3⟩ := hd
  rw [ev, h1, h2, h3]

theorem underM : Try.prog.underlying 114 = some (.map 3 123) := by kernel_rfl
theorem underI : Try.prog.underlying 3 = some (.int .i64) := by kernel_rfl
theorem keyI : Maps.Keyed Try.prog 3 := Maps.int_keyed underI
theorem zeroM (w : World) : (zeroValue 123).run Try.prog w = .ok (ev mb0) w := by kernel_rfl
theorem wfI {k : Int} (h : I64 k) : (Lit.int .i64 k).wf = true := WalkArith.wf_i64 (by unfold I64 at h; omega)
theorem keyOfI {k : Int} (h : I64 k) : keyOf Try.prog 3 (.int .i64 k) = some (.int .i64 k) := Maps.keyOf_int_mk underI (wfI h)
theorem keyLitI {k : Int} : WideAt.IsKeyLit (.int .i64 k) := trivial

/-- Block b is a map that holds just these members, by their numbers. -/
def Mp (w : World) (b : Nat) (l : List Mb) : Prop :=
  ∃ D : DataW Unit, w.ownsMap Try.prog 3 RM b l.length D ∧ Maps.size D = l.length ∧ (∀ k, Maps.has D (.int .i64 k) = (finM l k).isSome) ∧ ∀ k m, finM l k = some m → ∀ z, D.atKey (.int .i64 k) z = encM m

section
variable {w w' : World} {b : Nat} {l l' : List Mb} {S : Nat → Prop}
theorem Mp.lt (h : Mp w b l) : b < w.heap.size := by
  obtain ⟨D, h1, _⟩ := h
  exact h1.lt
theorem Mp.kp (h : Mp w b l) (k : Kp S w w') (hb : ¬ S b) : Mp w' b l := by
  obtain ⟨D, ⟨es, clock, e1, e2⟩, h2⟩ := h
  exact ⟨D, ⟨es, clock, (k.block b (Array.getElem?_eq_some_iff.1 e1).1 hb).trans e1, e2⟩, h2⟩
theorem Mp.new (w : World) : Mp (w.alloc (.map #[] 0)) w.heap.size [] :=
  ⟨_, World.ownsMap_made w _ _ _, rfl, fun _ => rfl, fun _ _ h => by cases h⟩
theorem Mp.look_some (h : Mp w b l) {k : Int} (hk : I64 k) {m : Mb} (hm : finM l k = some m) (c : Bool) :
    (Instr.lookup 114 (.map (some b)) (.int .i64 k) c).run Try.prog w = .ok (if c then .tuple #[ev m, .bool true] else ev m) w := by
  obtain ⟨D, h1, h2, h3, h4⟩ := h
  cases c with
  | true =>
    obtain ⟨v, ps, hrun, hv⟩ := h1.look_ok keyI underM (zeroM w) (RM_ev mb0) (keyOfI hk)
    rw [h4 k m hm] at hv
    rw [h3, hm, RM_is hv] at hrun
    simpa using hrun
  | false =>
    obtain ⟨v, ps, hrun, hv⟩ := h1.lookup keyI underM (zeroM w) (RM_ev mb0) (keyOfI hk)
    rw [h4 k m hm] at hv
    rw [RM_is hv] at hrun
    simpa using hrun
theorem Mp.look_none (h : Mp w b l) {k : Int} (hk : I64 k) (hm : finM l k = none) :
    (Instr.lookup 114 (.map (some b)) (.int .i64 k) true).run Try.prog w = .ok (.tuple #[ev mb0, .bool false]) w := by
  obtain ⟨D, h1, h2, h3, h4⟩ := h
  obtain ⟨v, ps, hrun, hv⟩ := h1.look_ok keyI underM (zeroM w) (RM_ev mb0) (keyOfI hk)
  have hn : Maps.has D (.int .i64 k) = false := by rw [h3, hm]; rfl
  rw [Maps.atKey_of_not_has hn] at hv
  rw [hn, RM_is hv] at hrun
  exact hrun
theorem Mp.len (h : Mp w b l) (ty : TypeId) : (Builtin.len_ #[114] ty #[.map (some b)]).run Try.prog w = .ok (.int .i64 (l.length : Int)) w := by
  obtain ⟨D, h1, h2, _⟩ := h
  rw [h1.len underM ty, h2]
theorem World.ownsMap.tight {D : DataW Unit} {n m : Nat} (h : w.ownsMap Try.prog 3 RM b n D) (hm : Maps.size D = m) : w.ownsMap Try.prog 3 RM b m D := by
  obtain ⟨es, clock, hb, F, hs, rfl⟩ := h
  refine ⟨es, clock, hb, F, ?_, rfl⟩
  simp [Maps.size, length_sorted] at hm
  omega
theorem Mp.put (h : Mp w b l) (m : Mb) (hk : I64 m.id) (hl : l.length < maxLen) (hlen : l'.length = if (finM l m.id).isSome then l.length else l.length + 1) (hf : ∀ k, finM l' k = if k = m.id then some m else finM l k) :
    ∃ w', (Instr.mapUpdate 114 (.map (some b)) (.int .i64 m.id) (ev m)).run Try.prog w = .ok () w' ∧ Mp w' b l' ∧ Kp (Only b) w w' := by
  obtain ⟨D, h1, h2, h3, h4⟩ := h
  obtain ⟨w', hrun, g1, g2⟩ := h1.update keyI underM hl (keyOfI hk) (RM_ev m)
  refine ⟨w', hrun, ⟨_, World.ownsMap.tight g1 ?_, ?_, fun k => ?_, fun k m' hm' z => ?_⟩, (Kp.refl _ w).grown g2 fun k e => .inl (by cases e; rfl)⟩
  · rw [Maps.size_put (h1.tidy keyI), h3, h2]
    exact hlen.symm
  · rw [Maps.size_put (h1.tidy keyI), h3, h2]
    exact hlen.symm
  · by_cases e : k = m.id
    · subst e
      rw [Maps.has_put_same h1.isMap keyLitI, hf, if_pos rfl]
      rfl
    · rw [Maps.has_put_other (by simpa using e), h3, hf, if_neg e]
  · rw [hf] at hm'
    by_cases e : k = m.id
    · subst e
      rw [if_pos rfl] at hm'
      cases hm'
      exact Maps.atKey_put_same h1.isMap keyLitI _ z
    · rw [if_neg e] at hm'
      rw [Maps.atKey_put_other (by simpa using e)]
      exact h4 k m' hm' z
theorem Mp.del (h : Mp w b l) {x : Int} (hk : I64 x) (hlen : l'.length + (if (finM l x).isSome then 1 else 0) = l.length) (hf : ∀ k, finM l' k = if k = x then none else finM l k) (ty : TypeId) :
    ∃ w', (Builtin.delete_ #[114, 3] ty #[.map (some b), .int .i64 x]).run Try.prog w = .ok (.tuple #[]) w' ∧ Mp w' b l' ∧ Kp (Only b) w w' := by
  obtain ⟨D, h1, h2, h3, h4⟩ := h
  obtain ⟨w', hrun, g1, g2⟩ := h1.drop keyI underM (keyOfI hk) ty
  have hsz : Maps.size (D.del (.int .i64 x)) = l'.length := by
    have := Maps.size_del (h1.tidy keyI) (k := .int .i64 x)
    rw [h3, h2] at this
    omega
  refine ⟨w', hrun, ⟨_, World.ownsMap.tight g1 hsz, hsz, fun k => ?_, fun k m' hm' z => ?_⟩, (Kp.refl _ w).grown g2.grown fun k e => .inl (by cases e; rfl)⟩
  · by_cases e : k = x
    · subst e
      rw [Maps.has_del_same, hf, if_pos rfl]
      rfl
    · rw [Maps.has_del_other (by simpa using e), h3, hf, if_neg e]
  · rw [hf] at hm'
    by_cases e : k = x
    · rw [if_pos e] at hm'
      cases hm'
    · rw [if_neg e] at hm'
      rw [Maps.atKey_del_other (by simpa using e)]
      exact h4 k m' hm' z
end
end Go.Proofs.Ytpbnmfoecmhnnaa
