/-
  A region that draws its order, whose last operation waits for all others: the others in whatever order, then the last one. With a class of worlds that every call of the others keeps (so they may make memory), one walk in the order of the text serves all orders. Nothing of a program is named here.
-/
import Derived.Test.YtoeeighfjoplhaaWords
import Derived.Deep.Quiet
import Derived.Tactics
namespace Go.Proofs.Ytoeeighfjoplhaa

/-- The last one waits for all others; what the others wait for, and their guards, stand ahead of them. -/
def lastB (l : List Oper) (o : Oper) : Bool :=
  (List.range l.length).all (fun i => o.after.any fun e => Region.binds .any e && e.on == i) && o.after.all (fun e => decide (e.on < l.length)) &&
  (List.range l.length).all (fun j => match l[j]? with | some x => x.after.all (fun e => decide (e.on < j)) | none => true) &&
  l.all fun x => match x.guard with | none => true | some (j, _) => decide (j < l.length)

structure Last (l : List Oper) (o : Oper) : Prop where
  waits : ∀ i, i < l.length → ∃ e ∈ o.after, Region.binds .any e = true ∧ e.on = i
  below : ∀ e ∈ o.after, e.on < l.length
  back : ∀ (j : Nat) x, l[j]? = some x → ∀ e ∈ x.after, e.on < j
  guards : ∀ x ∈ l, ∀ j b, x.guard = some (j, b) → j < l.length
theorem last_of {l : List Oper} {o : Oper} (h : lastB l o = true) : Last l o := by
  unfold lastB at h
  simp only [Bool.and_eq_true] at h
  obtain ⟨⟨⟨h1, h2⟩, h3⟩, h4⟩ := h
  refine ⟨fun i hi => ?_, fun e he => ?_, fun j x hj e he => ?_, fun x hx j b hg => ?_⟩
  · obtain ⟨e, he, hb⟩ := Array.any_eq_true'.1 (List.all_eq_true.1 h1 i (List.mem_range.2 hi))
    simp only [Bool.and_eq_true, beq_iff_eq] at hb
    exact ⟨e, he, hb.1, hb.2⟩
  · exact of_decide_eq_true (Array.all_eq_true_iff_forall_mem.1 h2 e he)
  · have := List.all_eq_true.1 h3 j (List.mem_range.2 (List.getElem?_eq_some_iff.1 hj).1)
    rw [hj] at this
    exact of_decide_eq_true (Array.all_eq_true_iff_forall_mem.1 this e he)
  · have := List.all_eq_true.1 h4 x hx
    rw [hg] at this
    exact of_decide_eq_true this

section
variable {P : Program} {Q : Exit → Act → World → Prop} {l : List Oper} {o : Oper}

/-- What is asked behind the others: the last one. -/
def Then (P : Program) (Q : Exit → Act → World → Prop) (l : List Oper) (o : Oper) : Exit → Act → World → Prop
  | .normal, a, w => wpOp P (l ++ [o]).toArray Q l.length (Q .normal) a w
  | e, a, w => Q e a w

theorem op_inC {i : Nat} (h : i < l.length) : (l ++ [o]).toArray[i]? = l.toArray[i]? := by
  simp only [List.getElem?_toArray]
  exact List.getElem?_append_left h
theorem op_last : (l ++ [o]).toArray[l.length]? = some o := by simp

theorem Last.wanted (hL : Last l o) {x : Oper} (hx : x ∈ l) (t : Array Value) : Region.wanted x (yielded (l ++ [o]).toArray t) = Region.wanted x (yielded l.toArray t) := by
  unfold Region.wanted
  cases hg : x.guard with
  | none => rfl
  | some p =>
    obtain ⟨j, b⟩ := p
    simp only [yielded, op_inC (o := o) (hL.guards x hx j b hg)]

theorem Last.op (hL : Last l o) {i : Nat} (hi : i < l.length) {K K' : Act → World → Prop} {a : Act} {w : World} (hK : ∀ a w, K a w → K' a w) (h : wpOp P l.toArray (Then P Q l o) i K a w) : wpOp P (l ++ [o]).toArray Q i K' a w := by
  obtain ⟨x, hx⟩ : ∃ x, l[i]? = some x := ⟨l[i], List.getElem?_eq_getElem hi⟩
  have e1 : l.toArray[i]? = some x := by simpa using hx
  unfold wpOp at h ⊢
  rw [op_inC hi, e1]
  rw [e1] at h
  simp only [hL.wanted (List.mem_of_getElem? hx)]
  simp only at h
  split
  · rename_i hw
    simp only [hw, if_true] at h
    rcases h with h | ⟨h1, h2⟩
    · refine .inl ?_
      unfold Oper.wp at h ⊢
      generalize (execOp a.eval x).run P w = r at h
      cases r with
      | ok n w' =>
        cases n <;> simp only [Oper.upon] at h ⊢
        case value => exact hK _ _ h
        case skip => exact hK _ _ h
        case defer => exact hK _ _ h
        case enter f args =>
          refine Calls.mono h fun e w'' he => ?_
          cases e with
          | returned v => exact hK _ _ he
          | panicked c => exact he
          | outgrown => exact he
        case row r args => exact Rows.mono h fun _ _ he => hK _ _ he
      | halt x w' =>
        cases x <;> simp only [Oper.upon] at h ⊢
        case panic v => exact h
    · exact .inr ⟨h1, h2⟩
  · rename_i hw
    simp only [hw] at h
    exact hK _ _ h

section
variable {L : Array Bool} (hs : L.size = l.length)
include hs
theorem push_at {i : Nat} {c d : Bool} (hi : i < l.length) : (L.push c).getD i d = L.getD i d := by
  simp only [Array.getD_eq_getD_getElem?]
  rw [Array.getElem?_push, if_neg (by omega)]
theorem push_end : (L.push false).getD l.length true = false := by
  simp only [Array.getD_eq_getD_getElem?]
  rw [Array.getElem?_push, if_pos hs.symm]
  rfl

theorem Last.ready_in (hL : Last l o) {i : Nat} (hi : i < l.length) : i ∈ Region.ready .any (l ++ [o]).toArray (L.push false) ↔ i ∈ Region.ready .any l.toArray L := by
  rw [mem_ready, mem_ready, op_inC hi, push_at hs hi]
  constructor
  · rintro ⟨h1, x, hx, h2⟩
    exact ⟨h1, x, hx, fun e he hb => by rw [← push_at hs (Nat.lt_trans (hL.back i x (by simpa using hx) e he) hi)]; exact h2 e he hb⟩
  · rintro ⟨h1, x, hx, h2⟩
    exact ⟨h1, x, hx, fun e he hb => by rw [push_at hs (Nat.lt_trans (hL.back i x (by simpa using hx) e he) hi)]; exact h2 e he hb⟩
theorem Last.ready_end (hL : Last l o) : l.length ∈ Region.ready .any (l ++ [o]).toArray (L.push false) ↔ ∀ i, i < l.length → L.getD i false = true := by
  rw [mem_ready, op_last, push_end hs]
  constructor
  · rintro ⟨_, x, hx, h⟩ i hi
    cases hx
    obtain ⟨e, he, hb, hon⟩ := hL.waits i hi
    have := h e he hb
    rwa [hon, push_at hs hi] at this
  · exact fun h => ⟨rfl, o, rfl, fun e he _ => by rw [push_at hs (hL.below e he)]; exact h _ (hL.below e he)⟩
theorem Last.all_of (hL : Last l o) (h : Region.ready .any l.toArray L = []) : ∀ i, i < l.length → L.getD i false = true := by
  intro i
  induction i using Nat.strongRecOn with
  | _ i ih =>
    intro hi
    cases hl : L.getD i false with
    | true => rfl
    | false =>
      exfalso
      have hl' : L.getD i true = false := by
        have : i < L.size := by omega
        simp [this] at hl ⊢
        exact hl
      have : i ∈ Region.ready .any l.toArray L := mem_ready.2 ⟨hl', l[i], by simp [List.getElem?_eq_getElem hi], fun e he _ =>
        ih e.on (hL.back i _ (List.getElem?_eq_getElem hi) e he) (Nat.lt_trans (hL.back i _ (List.getElem?_eq_getElem hi) e he) hi)⟩
      rw [h] at this
      cases this
theorem none_of (h : ∀ i, i < l.length → L.getD i false = true) : Region.ready .any l.toArray L = [] ∧ Region.ready .any (l ++ [o]).toArray (L.push true) = [] := by
  have hb : ∀ i, i < l.length → L.getD i true = true := fun i hi => by
    have h1 := h i hi
    have : i < L.size := by omega
    simp [this] at h1 ⊢
    exact h1
  constructor
  · refine List.eq_nil_iff_forall_not_mem.2 fun i hi => ?_
    obtain ⟨h1, x, hx, _⟩ := mem_ready.1 hi
    have hlt : i < l.length := by
      have := (Array.getElem?_eq_some_iff.1 hx).1
      simpa using this
    rw [hb i hlt] at h1
    cases h1
  · refine List.eq_nil_iff_forall_not_mem.2 fun i hi => ?_
    obtain ⟨h1, x, hx, _⟩ := mem_ready.1 hi
    have hlt : i < l.length + 1 := by
      have := (Array.getElem?_eq_some_iff.1 hx).1
      simpa using this
    by_cases hi' : i < l.length
    · rw [push_at hs hi', hb i hi'] at h1
      cases h1
    · have : i = L.size := by omega
      subst this
      simp at h1
end

theorem Last.any (hL : Last l o) : ∀ (fuel : Nat) (L : Array Bool) (a : Act) (w : World), L.size = l.length → wpAny P .any l.toArray (Then P Q l o) fuel L a w → wpAny P .any (l ++ [o]).toArray Q (fuel + 1) (L.push false) a w := by
  have fin : ∀ (fuel : Nat) (L : Array Bool) (a : Act) (w : World), L.size = l.length → (∀ i, i < l.length → L.getD i false = true) → Then P Q l o .normal a w →
      wpOp P (l ++ [o]).toArray Q l.length (wpAny P .any (l ++ [o]).toArray Q fuel ((L.push false).setIfInBounds l.length true)) a w := fun fuel L a w hs hall h => by
    refine wpOp_mono (fun a' w' h' => ?_) h
    have e : (L.push false).setIfInBounds l.length true = L.push true := by
      rw [← hs]
      simp [Array.setIfInBounds, Array.set_push]
    rw [e]
    exact wpAny_done (none_of hs hall).2 h' fuel
  have step : ∀ (fuel : Nat) (L : Array Bool) (a : Act) (w : World), L.size = l.length →
      (Region.ready .any l.toArray L = [] → Then P Q l o .normal a w) → (∀ i ∈ Region.ready .any l.toArray L, wpOp P (l ++ [o]).toArray Q i (wpAny P .any (l ++ [o]).toArray Q fuel ((L.push false).setIfInBounds i true)) a w) →
      wpAny P .any (l ++ [o]).toArray Q (fuel + 1) (L.push false) a w := fun fuel L a w hs h0 h1 => by
    have mem : ∀ i ∈ Region.ready .any (l ++ [o]).toArray (L.push false), wpOp P (l ++ [o]).toArray Q i (wpAny P .any (l ++ [o]).toArray Q fuel ((L.push false).setIfInBounds i true)) a w := fun i hi => by
      have hlt : i < l.length + 1 := by
        obtain ⟨_, x, hx, _⟩ := mem_ready.1 hi
        have := (Array.getElem?_eq_some_iff.1 hx).1
        simpa using this
      by_cases hi' : i < l.length
      · exact h1 i ((hL.ready_in hs hi').1 hi)
      · obtain rfl : i = l.length := by omega
        have hall := (hL.ready_end hs).1 hi
        exact fin fuel L a w hs hall (h0 (none_of (o := o) hs hall).1)
    refine ⟨fun hn => ?_, mem⟩
    exfalso
    have hr : Region.ready .any l.toArray L = [] := List.eq_nil_iff_forall_not_mem.2 fun i hi => by
      have hlt : i < l.length := by
        obtain ⟨_, x, hx, _⟩ := mem_ready.1 hi
        have := (Array.getElem?_eq_some_iff.1 hx).1
        simpa using this
      have := (hL.ready_in hs hlt).2 hi
      rw [hn] at this
      cases this
    have := (hL.ready_end hs).2 (hL.all_of hs hr)
    rw [hn] at this
    cases this
  intro fuel
  induction fuel with
  | zero => exact fun L a w hs h => step 0 L a w hs (fun _ => h.2) (fun i hi => by rw [h.1] at hi; cases hi)
  | succ fuel ih =>
    refine fun L a w hs h => step (fuel + 1) L a w hs h.1 fun i hi => ?_
    have hlt : i < l.length := by
      obtain ⟨_, x, hx, _⟩ := mem_ready.1 hi
      have := (Array.getElem?_eq_some_iff.1 hx).1
      simpa using this
    refine hL.op hlt (fun a' w' h' => ?_) (h.2 i hi)
    have e : (L.push false).setIfInBounds i true = (L.setIfInBounds i true).push false := by
      have : i < L.size := by omega
      simp [Array.setIfInBounds, this, Nat.lt_succ_of_lt this, Array.set_push]
    rw [e]
    exact ih _ a' w' (by simpa using hs) h'

/-- What asks a slot that nothing was laid into is not wanted. -/
theorem unwanted {x : Oper} {ops : Array Oper} {t : Array Value} {j : Nat} {b : Bool} (hg : x.guard = some (j, b)) (hy : yielded ops t j = none) : Region.wanted x (yielded ops t) = false := by
  unfold Region.wanted
  rw [hg]
  simp [hy]

/-- One operation that yields its value in whatever world of the class. -/
theorem cl_val {ops : Array Oper} {C : World → Prop} {R : Act → Prop} {rest : List Oper} {a : Act} {v : Value} (hg : Region.wanted o (yielded ops a.tmps) = true) (hv : ∀ w, C w → (execOp a.eval o).run P w = .ok (.value v) w) (h : wpQuiet P ops C R rest (a.put o.dst v)) : wpQuiet P ops C R (o :: rest) a := by
  unfold wpQuiet
  rw [if_pos hg]
  exact ⟨v, fun w hw => by unfold Oper.quietAt; rw [hv w hw]; exact ⟨rfl, rfl⟩, h⟩
/-- A call that hands back its value and keeps the class. -/
theorem cl_call {ops : Array Oper} {C : World → Prop} {R : Act → Prop} {rest : List Oper} {a : Act} {v : Value} {f : FuncId} {args : Array Value} (hg : Region.wanted o (yielded ops a.tmps) = true) (hr : ∀ w, C w → (execOp a.eval o).run P w = .ok (.enter f args) w)
    (hc : ∀ w, C w → Calls P f args w fun e w' => e = .returned v ∧ C w') (h : wpQuiet P ops C R rest (a.put o.dst v)) : wpQuiet P ops C R (o :: rest) a := by
  unfold wpQuiet
  rw [if_pos hg]
  exact ⟨v, fun w hw => by unfold Oper.quietAt; rw [hr w hw]; exact ⟨rfl, hc w hw⟩, h⟩
/-- An operation whose guard does not want it. -/
theorem cl_skip {ops : Array Oper} {C : World → Prop} {R : Act → Prop} {rest : List Oper} {a : Act} (hg : Region.wanted o (yielded ops a.tmps) = false) (h : wpQuiet P ops C R rest (a.put o.dst undef)) : wpQuiet P ops C R (o :: rest) a := by
  unfold wpQuiet
  rw [if_neg (by rw [hg]; exact Bool.false_ne_true)]
  exact h
theorem cl_nil {ops : Array Oper} {C : World → Prop} {R : Act → Prop} {a : Act} (h : R a) : wpQuiet P ops C R [] a := h

/-- One walk of all but the last operation in the order of the text, in whatever world of the class; then the last one. -/
theorem region_class {id : Nat} {a : Act} {w : World} {full : List Oper} (C : World → Prop) (n : Nat) (hn : full.drop n = [o]) (hm : P.follows .mixedOrders = true) (hB : Region.lexB .any (full.take n).toArray = true) (hT : lastB (full.take n) o = true) (hC : C w.drew)
    (h : wpQuiet P (full.take n).toArray C (fun a' => ∀ w', C w' → wpList P full.toArray Q [o] a' w') (full.take n) a) : (Code.region id full.toArray true).wp P Q a w := by
  have e : full = full.take n ++ [o] := by rw [← hn, List.take_append_drop]
  generalize full.take n = l at *
  subst e
  have hL := last_of hT
  simp only [Region.lexB, Bool.and_eq_true] at hB
  refine wp_region_any hm ?_
  have h1 := wpAnyQ_lex (C := C) (md := .any) hB.1 l 0 (Array.replicate l.length false) a (by simp) (by simpa using hB.2) h
  have h2 : wpAny P .any l.toArray (Then P Q l o) l.length (Array.replicate l.length false) a w.drew := wpAny_of_quiet (fun a' w' hw' h => by
    have := h w' hw'
    show wpOp P (l ++ [o]).toArray Q l.length (Q .normal) a' w'
    unfold wpOp
    rw [op_last]
    exact this) _ _ _ _ hC h1
  have h3 := hL.any _ _ _ _ (by simp) h2
  have e2 : (Array.replicate l.length false).push false = Array.replicate (l ++ [o]).toArray.size false := by simp [Array.replicate_succ]
  rw [e2] at h3
  simpa using h3
/-- The same where no last operation waits for the others: all of them in whatever world of the class. -/
theorem region_all {id : Nat} {a : Act} {w : World} {full : List Oper} (C : World → Prop) (hm : P.follows .mixedOrders = true) (hB : Region.lexB .any full.toArray = true) (hC : C w.drew)
    (h : wpQuiet P full.toArray C (fun a' => ∀ w', C w' → Q .normal a' w') full a) : (Code.region id full.toArray true).wp P Q a w := wp_region_quiet hm hB hC (by simpa using h)
end
end Go.Proofs.Ytoeeighfjoplhaa
