/-
  What a text of runs spells: plain facts, nothing of a program is named here.
-/
import Derived.Test.YtjmnclneopofhaaDoorMaskTxt
namespace Go.Proofs.YtjmnclneopofhaaDoor

/-- The cores from one number up to another. -/
def spv (a b : Int) : Nat := wth (up b) b &&& (18446744073709551615 - up a)
def sp (f l : Nat) : Nat := spv (f : Int) (l : Int)
theorem spv_U64 (a b : Int) : U64 (spv a b) := (wth_U64 (up_U64 b) b).and
theorem sp_bit (f l i : Nat) (hl : l < 64) (hi : i < 64) : (sp f l).testBit i = decide (f ≤ i ∧ i ≤ l) := by
  unfold sp spv
  rw [Nat.testBit_and, not_bit (up_U64 _) i hi, wth_bit, up_bit, up_bit]
  rw [← Bool.decide_or, ← decide_not, ← Bool.decide_and]
  apply decide_eq_decide.2
  omega

def orAll (ps : List (Nat × Nat)) : Nat := ps.foldl (fun x p => x ||| sp p.1 p.2) 0
theorem orAll_snoc (ps : List (Nat × Nat)) (p : Nat × Nat) : orAll (ps ++ [p]) = orAll ps ||| sp p.1 p.2 := by
  unfold orAll
  rw [List.foldl_append]
  rfl
theorem orAll_U64 (ps : List (Nat × Nat)) : U64 (orAll ps) := by
  unfold orAll
  suffices h : ∀ x, U64 x → U64 (ps.foldl (fun x p => x ||| sp p.1 p.2) x) from h 0 U64.zero
  induction ps with
  | nil => exact fun x h => h
  | cons p ps ih => exact fun x h => ih _ (h.or (spv_U64 _ _))
theorem orAll_bit (ps : List (Nat × Nat)) (i : Nat) (hi : i < 64) (h : ∀ p ∈ ps, p.2 < 64) : (orAll ps).testBit i = true ↔ ∃ p ∈ ps, p.1 ≤ i ∧ i ≤ p.2 := by
  unfold orAll
  suffices hx : ∀ x, (ps.foldl (fun x p => x ||| sp p.1 p.2) x).testBit i = true ↔ x.testBit i = true ∨ ∃ p ∈ ps, p.1 ≤ i ∧ i ≤ p.2 by
    rw [hx 0, Nat.zero_testBit]
    simp
  induction ps with
  | nil => intro x; simp
  | cons p ps ih =>
    intro x
    rw [List.foldl_cons, ih (fun q hq => h q (List.mem_cons_of_mem _ hq)), Nat.testBit_or, sp_bit _ _ _ (h p List.mem_cons_self) hi]
    simp only [Bool.or_eq_true, decide_eq_true_eq, List.mem_cons]
    constructor
    · rintro ((h1 | h1) | ⟨q, h1, h2⟩)
      · exact .inl h1
      · exact .inr ⟨p, .inl rfl, h1⟩
      · exact .inr ⟨q, .inr h1, h2⟩
    · rintro (h1 | ⟨q, rfl | h1, h2⟩)
      · exact .inl (.inl h1)
      · exact .inl (.inr h2)
      · exact .inr ⟨q, h1, h2⟩

/-- The runs of a set. -/
def prs (s : Nat) : List (Nat × Nat) := (fst s).map fun i => (i.val, lst s i.val)
/-- Runs that can be. -/
def Ok (ps : List (Nat × Nat)) : Prop := ∀ p ∈ ps, p.1 ≤ p.2 ∧ p.2 < 64
theorem prs_ok {s : Nat} (hs : U64 s) : Ok (prs s) := by
  intro p hp
  obtain ⟨i, _, rfl⟩ := List.mem_map.1 hp
  exact ⟨lst_le hs _, lst_lt hs i.isLt⟩
theorem prs_or {s : Nat} (hs : U64 s) : orAll (prs s) = s := by
  apply (orAll_U64 _).ext hs
  intro i hi
  apply Bool.eq_iff_iff.2
  rw [orAll_bit _ i hi fun p hp => (prs_ok hs p hp).2]
  constructor
  · rintro ⟨p, hp, h1, h2⟩
    obtain ⟨j, hj, rfl⟩ := List.mem_map.1 hp
    exact lst_in hs (bg_in hs ((fst_mem j).1 hj)) h1 h2
  · intro hb
    obtain ⟨f, h1, h2, h3⟩ := run_of hs i hb
    exact ⟨(f, lst s f), List.mem_map.2 ⟨⟨f, by omega⟩, (fst_mem _).2 h2, rfl⟩, h1, lst_far hs h3 (bg_in hs h2)⟩

def jn (ps : List (Nat × Nat)) : List UInt8 := Lib.join (ps.map fun p => rt p.1 p.2) [44]
theorem prs_jn (s : Nat) : jn (prs s) = Lib.join (txl s) [44] := by
  unfold jn prs txl
  rw [List.map_map]
  rfl
theorem prs_ne {s : Nat} (hs : U64 s) (hz : s ≠ 0) : prs s ≠ [] := fun h => fst_ne hs hz (List.map_eq_nil_iff.1 h)

theorem cut_rt (f l : Nat) (hfl : f ≤ l) (hl : l < 64) : Lib.cut (rt f l) [45] = if f = l then (Lib.decDigits f, [], false) else (Lib.decDigits f, Lib.decDigits l, true) := by
  have hn := (dec_no f (by omega)).1
  unfold rt
  split
  · exact cut_miss _ _ hn
  · exact cut_hit _ _ _ hn
theorem cut_jn (p : Nat × Nat) (ps : List (Nat × Nat)) (h : Ok (p :: ps)) : Lib.cut (jn (p :: ps)) [44] = (rt p.1 p.2, if ps = [] then [] else jn ps, !ps.isEmpty) := by
  have hp := h p List.mem_cons_self
  have hn := (rt_no p.1 p.2 (by omega) hp.2).1
  cases ps with
  | nil => exact cut_miss _ _ (by unfold jn; rw [List.map_singleton, Lib.join_one]; exact hn) |>.trans (by unfold jn; rw [List.map_singleton, Lib.join_one]; rfl)
  | cons q ps =>
    have h1 : jn (p :: q :: ps) = rt p.1 p.2 ++ 44 :: jn (q :: ps) := by
      unfold jn
      rw [List.map_cons, List.map_cons, join_two]
    rw [h1, cut_hit _ _ _ hn, if_neg (by simp)]
    rfl

/-- What a number is, that a run's text told. -/
def Tells (t : List UInt8) (r : Nat) : Prop := (∀ f l, f ≤ l → l < 64 → t = rt f l → r = sp f l) ∧ (t = [45] → r = 0)
/-- Where the reader is: x is what was read, the next run stands ahead, the others in the rest. -/
def Part (t : List UInt8) (x : Nat) (run rest : List UInt8) (more : Bool) : Prop := (∀ ps, ps ≠ [] → Ok ps → t = jn ps →
  ∃ done p todo, ps = done ++ p :: todo ∧ x = orAll done ∧ run = rt p.1 p.2 ∧ more = !todo.isEmpty ∧ (todo ≠ [] → rest = jn todo)) ∧ (t = [45] → run = [45] ∧ x = 0 ∧ more = false)
theorem Part.start (t : List UInt8) : Part t 0 (Lib.cut t [44]).1 (Lib.cut t [44]).2.1 (Lib.cut t [44]).2.2 := by
  refine ⟨fun ps hne hok ht => ?_, fun ht => by subst ht; exact ⟨rfl, rfl, rfl⟩⟩
  cases ps with
  | nil => exact absurd rfl hne
  | cons p ps =>
    subst ht
    rw [cut_jn p ps hok]
    exact ⟨[], p, ps, rfl, rfl, rfl, rfl, fun h => if_neg h⟩
theorem Part.step {t : List UInt8} {x r : Nat} {run rest : List UInt8} (h : Part t x run rest true) (hr : Tells run r) : Part t (x ||| r) (Lib.cut rest [44]).1 (Lib.cut rest [44]).2.1 (Lib.cut rest [44]).2.2 := by
  refine ⟨fun ps hne hok ht => ?_, fun ht => by cases (h.2 ht).2.2⟩
  obtain ⟨done, p, todo, rfl, rfl, hrun, hm, hrest⟩ := h.1 ps hne hok ht
  have hp := hok p (by simp)
  cases todo with
  | nil => cases hm
  | cons q todo =>
    have hq : Ok (q :: todo) := fun z hz => hok z (by simp at hz ⊢; right; right; exact hz)
    rw [hrest (by simp), cut_jn q todo hq]
    exact ⟨done ++ [p], q, todo, by simp, by rw [orAll_snoc, hr.1 p.1 p.2 hp.1 hp.2 hrun], rfl, rfl, fun h => if_neg h⟩
theorem Part.stop {t : List UInt8} {x r : Nat} {run rest : List UInt8} (h : Part t x run rest false) (hr : Tells run r) (ps : List (Nat × Nat)) (hne : ps ≠ []) (hok : Ok ps) (ht : t = jn ps) : x ||| r = orAll ps := by
  obtain ⟨done, p, todo, rfl, rfl, hrun, hm, _⟩ := h.1 ps hne hok ht
  have hp := hok p (by simp)
  cases todo with
  | cons q todo => cases hm
  | nil => rw [orAll_snoc, hr.1 p.1 p.2 hp.1 hp.2 hrun]
/-- What is read of a set's text is the set. -/
def Reads (t : List UInt8) (r : Nat) : Prop := ∀ s, U64 s → t = txt s → r = s
theorem Part.reads {t : List UInt8} {x r : Nat} {run rest : List UInt8} (h : Part t x run rest false) (hr : Tells run r) : Reads t (x ||| r) := by
  intro s hs ht
  by_cases hz : s = 0
  · subst hz
    obtain ⟨h1, h2, _⟩ := h.2 ht
    rw [h2, hr.2 h1]
    rfl
  rw [← prs_or hs]
  refine h.stop hr (prs s) (prs_ne hs hz) (prs_ok hs) ?_
  rw [prs_jn, ht]
  unfold txt
  rw [if_neg hz]
end Go.Proofs.YtjmnclneopofhaaDoor
