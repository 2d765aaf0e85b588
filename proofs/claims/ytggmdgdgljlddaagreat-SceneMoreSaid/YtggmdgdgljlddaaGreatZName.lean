/-
  ZRen ZName: texts laid into one.
-/
import Derived.Test.YtggmdgdgljlddaaGreatZParts
import Derived.Shelf.SlicesG.Turned

/-
  Contract of renamed.
-/
namespace Go.Proofs.YtggmdgdgljlddaaGreat
open Go.RowKit Go.Shelf

/-- A group, a task, with other numbers. -/
def shG (y : Int) (g : GS) : GS := ⟨g.id + y, if g.par = 0 then 0 else g.par + y, g.wt, g.pd, g.qt, g.us⟩
def shT (y : Int) (t : TS) : TS := ⟨t.id + y, t.gr + y, t.wt, t.co, t.sl, t.ra, t.lv, t.lr⟩
theorem Rw.imp {α : Type} {n : Nat} {f : α → Nat → Value} {d : α} {w : World} {P Q : Nat → Prop} {v : Value} {xs : List α} (h : Rw n f d w P v xs) (hq : ∀ i, P i → Q i) : Rw n f d w Q v xs := by
  obtain ⟨A, c, rfl, h1, h2, h3⟩ := h
  refine ⟨A, c, rfl, h1, h2, fun h0 => ?_⟩
  obtain ⟨b, o, rfl, g1, g2, g3⟩ := h3 h0
  exact ⟨b, o, rfl, g1, hq _ g2, g3⟩
theorem Sce.any {w : World} {P : Nat → Prop} {v : Value} {gs : List GS} {ts : List TS} (h : Sce w P v gs ts) : Sce w Anyb v gs ts := by
  obtain ⟨vg, vt, rfl, h1, h2⟩ := h
  exact ⟨vg, vt, rfl, h1.any, h2.any⟩
def Sm (x : Int) : Prop := 0 ≤ x ∧ x ≤ 1048576
end Go.Proofs.YtggmdgdgljlddaaGreat

/-
  Contract of Rename.
-/
namespace Go.Proofs.YtggmdgdgljlddaaGreat
open Go.RowKit Go.Shelf

theorem results_cell2 {fn : Func} {p q : Tmp} {ty : TypeId} (h : fn.results = #[.cell p ty, .tmp q]) (tmps : Array Value) (P : Program) (w : World) :
    (results fn tmps).run P w = ((asAddr (tmps.getD p undef)).run P w).andThen fun a w₁ => ((loadVar ty a).run P w₁).andThen fun v w₂ => .ok (.tuple #[v, tmps.getD q undef]) w₂ := by
  simp only [results, h]
  simp [Sem.run_bind, Result.andThen]
theorem fold_max (l : List Int) : ∀ a : Int, (l.foldl max a = a ∨ l.foldl max a ∈ l) ∧ a ≤ l.foldl max a ∧ ∀ x ∈ l, x ≤ l.foldl max a := by
  induction l with
  | nil => exact fun a => ⟨.inl rfl, Int.le_refl _, fun x hx => by cases hx⟩
  | cons y l ih =>
    intro a
    rw [List.foldl_cons]
    obtain ⟨h1, h2, h3⟩ := ih (max a y)
    refine ⟨?_, by omega, fun x hx => ?_⟩
    · rcases h1 with h1 | h1
      · rw [h1]
        by_cases e : y ≤ a
        · exact .inl (by omega)
        · exact .inr (by rw [show max a y = y by omega]; exact List.mem_cons_self)
      · exact .inr (List.mem_cons_of_mem _ h1)
    · rcases List.mem_cons.1 hx with e | hx
      · rw [e]
        omega
      · exact h3 x hx
theorem maxOf_mem {l : List Int} (h : l ≠ []) : Lib.maxOf l ∈ l := by
  cases l with
  | nil => exact absurd rfl h
  | cons y l =>
    rcases (fold_max (y :: l) y).1 with e | e
    · show (y :: l).foldl max y ∈ y :: l
      rw [e]
      exact List.mem_cons_self
    · exact e
theorem maxOf_le {l : List Int} : ∀ x ∈ l, x ≤ Lib.maxOf l := (fold_max l (l.headD 0)).2.2
/-- Of a scene that can be all numbers are small. -/
theorem ok_sm {gs : List GS} {ts : List TS} (h : checkS gs ts = 0) : (∀ g ∈ gs, Sm g.id ∧ Sm g.par) ∧ (∀ t ∈ ts, Sm t.id ∧ Sm t.gr) ∧ gs.length ≤ 4096 ∧ ts.length ≤ 4096 ∧ 0 < gs.length := by
  cases gs with
  | nil =>
    have h2 : (2 : Int) = 0 := h
    exact absurd h2 (by decide)
  | cons g0 gt =>
    obtain ⟨h1, h2, h3, h4, h5, h6⟩ := check0 h
    have hid : ∀ g ∈ g0 :: gt, Sm g.id := fun g hg => by
      have : wrongG g = false := by
        cases e : wrongG g with
        | false => rfl
        | true => exact absurd (.inl (List.any_eq_true.2 ⟨g, hg, e⟩)) h2
      unfold wrongG numB at this
      simp only [Bool.or_eq_false_iff, Bool.not_eq_false', Bool.and_eq_true, decide_eq_true_eq] at this
      unfold Sm
      omega
    have hin : ∀ x : Int, x ∈ (g0 :: gt).map (·.id) → Sm x := fun x hx => by
      obtain ⟨g, hg, rfl⟩ := List.mem_map.1 hx
      exact hid g hg
    unfold lostB at h4
    simp only [Bool.or_eq_true, not_or, List.any_eq_true, not_exists, not_and] at h4
    obtain ⟨⟨a1, a2⟩, a3⟩ := h4
    refine ⟨fun g hg => ⟨hid g hg, ?_⟩, fun t ht => ⟨?_, ?_⟩, by omega, by omega, by simp⟩
    · have := a2 g hg
      simp only [Bool.and_eq_true, Bool.not_eq_true', decide_eq_false_iff_not, bne_iff_ne, ne_eq, not_and, Classical.not_not] at this
      by_cases hp : g.par = 0
      · rw [hp]
        unfold Sm
        omega
      · exact hin _ (this hp)
    · have : wrongT t = false := by
        cases e : wrongT t with
        | false => rfl
        | true => exact absurd (.inr (List.any_eq_true.2 ⟨t, ht, e⟩)) h2
      unfold wrongT numB at this
      simp only [Bool.or_eq_false_iff, Bool.not_eq_false', Bool.and_eq_true, decide_eq_true_eq] at this
      unfold Sm
      omega
    · have := a3 t ht
      simp only [Bool.not_eq_true', decide_eq_false_iff_not, Classical.not_not] at this
      exact hin _ this
/-- What is told of a scene and a number. -/
noncomputable def renE (gs : List GS) (ts : List TS) (y : Int) : Int := if y < 0 ∨ 1048576 < y then 1 else if checkS gs ts ≠ 0 then checkS gs ts else if 1048576 < Lib.maxOf (idsOf gs ts) + y then 6 else 0
theorem max_sm {gs : List GS} {ts : List TS} (h : checkS gs ts = 0) : Sm (Lib.maxOf (idsOf gs ts)) := by
  obtain ⟨h1, h2, _, _, h5⟩ := ok_sm h
  have hne : idsOf gs ts ≠ [] := by
    unfold idsOf
    intro e
    have := congrArg List.length e
    rw [List.length_append, List.length_map, List.length_nil] at this
    omega
  have := maxOf_mem hne
  unfold idsOf at this ⊢
  rcases List.mem_append.1 this with h | h
  · obtain ⟨g, hg, e⟩ := List.mem_map.1 h
    rw [← e]
    exact (h1 g hg).1
  · obtain ⟨t, ht, e⟩ := List.mem_map.1 h
    rw [← e]
    exact (h2 t ht).1
end Go.Proofs.YtggmdgdgljlddaaGreat
