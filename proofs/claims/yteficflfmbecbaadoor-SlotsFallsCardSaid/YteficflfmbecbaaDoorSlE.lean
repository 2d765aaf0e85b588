/-
  What is found behind a commit, a deletion, or a crash in one: nothing of Go is named here. (crashed_at and look_crashed are disk's own.)
-/
import Derived.Test.YteficflfmbecbaaDoorSlD
namespace Go.Proofs.YteficflfmbecbaaDoor

theorem crashed_at {s : Ds} (keep : List Bool) {i : Nat} (hi : i < s.k.length) : (crashed s keep).k.getD i [] = if (s.c (i : Int)).isSome = true ∧ keep.getD (cnt s.c i) false = true then look s i else s.k.getD i [] := by
  have e1 : (crashed s keep).k.getD i [] = look (dropS s keep (waits s).length) i := kept_at (dropS s keep (waits s).length) hi
  rw [e1]
  show (dropAt s keep (waits s).length (i : Int)).getD (s.k.getD i []) = _
  unfold dropAt look
  rw [Int.toNat_natCast]
  cases hc : s.c (i : Int) with
  | none =>
    rw [if_neg (show ¬ ((none : Option (List Int)).isSome = true ∧ keep.getD (cnt s.c i) false = true) by simp)]
    split <;> rfl
  | some l =>
    have hr : cnt s.c i < (waits s).length := by
      have := rank_at (c := s.c) hi (by rw [hc]; rfl)
      unfold waits
      rw [List.length_map]
      exact (List.getElem?_eq_some_iff.1 this).1
    cases hk : keep.getD (cnt s.c i) false with
    | false =>
      rw [if_pos ⟨hr, rfl⟩, if_neg (by simp)]
      rfl
    | true =>
      rw [if_neg (by simp), if_pos ⟨rfl, rfl⟩]
theorem look_crashed {s : Ds} (keep : List Bool) {i : Nat} (hi : i < s.k.length) : look (crashed s keep) i = if (s.c (i : Int)).isSome = true ∧ keep.getD (cnt s.c i) false = true then look s i else s.k.getD i [] := crashed_at keep hi
theorem crashed_len (s : Ds) (keep : List Bool) : (crashed s keep).k.length = s.k.length := by
  show (kept (dropS s keep (waits s).length)).length = s.k.length
  rw [kept_len]
  rfl
theorem getD_none {l : List (List Int)} {j : Nat} (h : l.length ≤ j) : l.getD j [] = [] := by rw [List.getD_eq_getElem?_getD, List.getElem?_eq_none h]; rfl
theorem look_out {s : Ds} (keep : List Bool) {j : Nat} (h : s.k.length ≤ j) : look (crashed s keep) j = s.k.getD j [] := by
  show (none : Option (List Int)).getD ((crashed s keep).k.getD j []) = _
  rw [Option.getD_none, getD_none (by rw [crashed_len]; exact h), getD_none h]
/-- Behind a crash a sector is as it was kept, or as it waited. -/
theorem look_crash (s : Ds) (keep : List Bool) (j : Nat) : look (crashed s keep) j = look s j ∨ look (crashed s keep) j = s.k.getD j [] := by
  by_cases h : j < s.k.length
  · rw [look_crashed keep h]
    split
    · exact .inl rfl
    · exact .inr rfl
  · exact .inr (look_out keep (by omega))
theorem look_crash_none {s : Ds} (keep : List Bool) {j : Nat} (hc : s.c (j : Int) = none) : look (crashed s keep) j = s.k.getD j [] := by
  rcases look_crash s keep j with h | h
  · rw [h]
    unfold look
    rw [hc]
    rfl
  · exact h
theorem look_none {s : Ds} {j : Nat} (hc : s.c (j : Int) = none) : look s j = s.k.getD j [] := by
  unfold look
  rw [hc]
  rfl
theorem look_flushed (s : Ds) (j : Nat) (hj : j < s.k.length) : look (flushed s) j = look s j := by
  show (none : Option (List Int)).getD ((flushed s).k.getD j []) = _
  rw [Option.getD_none]
  exact kept_at s hj
theorem flushed_len (s : Ds) : (flushed s).k.length = s.k.length := kept_len s
theorem look_flushed' (s : Ds) (j : Nat) (hc : s.k.length ≤ j → s.c (j : Int) = none) : look (flushed s) j = look s j := by
  by_cases hj : j < s.k.length
  · exact look_flushed s j hj
  · rw [look_none (hc (by omega)), getD_none (show s.k.length ≤ j by omega)]
    show (none : Option (List Int)).getD ((flushed s).k.getD j []) = _
    rw [Option.getD_none, getD_none (by rw [flushed_len]; omega)]

section
variable {s : Ds} {V0 : Nat → List Int} {h a : Nat} {has has' : Bool} {img img' : List Int}
theorem SameBut.still {V : Nat → List Int} (hS : SameBut V V0 h ((a + 1) % 2)) (hG : Good V0 h a has img has' img') : opn V h = (a, has, img) := by
  have hr := hS.rest (by omega)
  refine hG.still (hr.1 _ (by omega)) ?_ (hr.1 _ (by omega))
  rw [show a % 2 = 1 - (a + 1) % 2 by omega]
  exact hr.2
/-- With the head, too, it is the next age. -/
theorem SameBut.next {V V' : Nat → List Int} {q : Bool} {i : List Int} (hS : SameBut V V0 h ((a + 1) % 2)) (hG : Good V0 h a has img has' img') (hV : ∀ j, j ≠ (a + 1) % 2 → V' j = V j) (hh : V' ((a + 1) % 2) = hsec (a + 1) q i) (hsl : (slotB V h ((a + 1) % 2)).take i.length = i) (h5 : i.length ≤ 64 * h) (h6 : q = false → i = []) (ha : a + 1 ≤ 1099511627776) : Good V' h (a + 1) q i has img := by
  have hr := hS.rest (by omega)
  have hsb : ∀ k, slotB V' h k = slotB V h k := fun k => slotB_eq fun x _ => hV _ (by omega)
  refine hG.next ha ?_ ?_ hh ?_ h5 h6
  · rw [hV _ (by omega)]
    exact hr.1 _ (by omega)
  · rw [hsb, show a % 2 = 1 - (a + 1) % 2 by omega]
    exact hr.2
  · rw [hsb]
    exact hsl
/-- What comes of a head that is to be written. -/
structure Came (s0 : Ds) (V0 : Nat → List Int) (h a : Nat) (has : Bool) (img : List Int) (q : Bool) (i : List Int) (p : Ds × Bool) : Prop where
  len : p.1.k.length = s0.k.length
  arm : p.1.armed = s0.armed
  on : s0.armed = false → p.2 = true
  yes : p.2 = true → (∀ j : Nat, p.1.c (j : Int) = none) ∧ Good (look p.1) h (a + 1) q i has img
  no : p.2 = false → ∀ keep, opn (look (crashed p.1 keep)) h = (a, has, img) ∨ opn (look (crashed p.1 keep)) h = (a + 1, q, i)
theorem off_on {s : Ds} (h : s.armed = false) : off s = false := by unfold off; rw [h]; rfl
theorem sealD_is {q : Bool} {i : List Int} (hc : ∀ j : Nat, s.c (j : Int) = none) (hn : 2 ≤ s.k.length) (hS : SameBut (look s) V0 h ((a + 1) % 2)) (hG : Good V0 h a has img has' img') (hsl : (slotB (look s) h ((a + 1) % 2)).take i.length = i) (h5 : i.length ≤ 64 * h) (h6 : q = false → i = []) (ha : a + 1 ≤ 1099511627776) :
    Came s V0 h a has img q i (sealD s (a + 1) q i) := by
  have hstill : ∀ t : Ds, t.k = s.k → (∀ j : Nat, t.c (j : Int) = none) → ∀ keep, opn (look (crashed t keep)) h = (a, has, img) := fun t hk hct keep => by
    refine SameBut.still (V0 := V0) (fun j hj => ?_) hG
    rw [look_crash_none keep (hct j), hk, ← look_none (hc j)]
    exact hS j hj
  have hwr : ∀ j : Nat, look (wrote s (((a + 1) % 2 : Nat) : Int) (hhead (a + 1) q i)) j = if j = (a + 1) % 2 then hsec (a + 1) q i else look s j := fun j => by rw [look_wr, pad_head]
  unfold sealD andThen wrs
  by_cases ho : off s = true
  · rw [if_pos ho]
    exact ⟨rfl, rfl, fun hf => (by rw [off_on hf] at ho; cases ho), fun hf => (by cases hf), fun _ keep => .inl (hstill _ rfl hc keep)⟩
  · rw [if_neg ho]
    simp only [wrs, if_true]
    unfold fls
    by_cases ho2 : off (wrote s (((a + 1) % 2 : Nat) : Int) (hhead (a + 1) q i)) = true
    · rw [if_pos ho2]
      refine ⟨rfl, rfl, fun hf => (by rw [off_on (s := wrote s _ _) hf] at ho2; cases ho2), fun hf => (by cases hf), fun _ keep => ?_⟩
      have hoth : ∀ j, j ≠ (a + 1) % 2 → look (crashed (calld (wrote s (((a + 1) % 2 : Nat) : Int) (hhead (a + 1) q i))) keep) j = look s j := fun j hj => by
        rw [look_crash_none keep, look_none (hc j)]
        · rfl
        · show (if (j : Int) = (((a + 1) % 2 : Nat) : Int) then some (pad (hhead (a + 1) q i)) else s.c (j : Int)) = none
          rw [if_neg (by omega)]
          exact hc j
      rcases look_crash (calld (wrote s (((a + 1) % 2 : Nat) : Int) (hhead (a + 1) q i))) keep ((a + 1) % 2) with hk | hk
      · right
        refine (hS.next (q := q) (i := i) hG hoth ?_ hsl h5 h6 ha).found
        rw [hk, look_calld, hwr, if_pos rfl]
      · left
        refine SameBut.still (V0 := V0) (fun j hj => ?_) hG
        by_cases hjj : j = (a + 1) % 2
        · subst hjj
          rw [hk]
          show s.k.getD _ [] = _
          rw [← look_none (hc _)]
          exact hS _ hj
        · rw [hoth j hjj]
          exact hS j hj
    · rw [if_neg ho2]
      refine ⟨by rw [flushed_len]; rfl, rfl, fun _ => rfl, fun _ => ⟨fun j => rfl, ?_⟩, fun hf => (by cases hf)⟩
      have hfl : ∀ j : Nat, look (flushed (calld (wrote s (((a + 1) % 2 : Nat) : Int) (hhead (a + 1) q i)))) j = look (wrote s (((a + 1) % 2 : Nat) : Int) (hhead (a + 1) q i)) j := fun j => by
        rw [look_flushed' _ j, look_calld]
        intro hj
        show (if (j : Int) = (((a + 1) % 2 : Nat) : Int) then some (pad (hhead (a + 1) q i)) else s.c (j : Int)) = none
        have hj2 : s.k.length ≤ j := hj
        rw [if_neg (by omega)]
        exact hc j
      refine hS.next (q := q) (i := i) hG (fun j hj => by rw [hfl, hwr, if_neg hj]) (by rw [hfl, hwr, if_pos rfl]) hsl h5 h6 ha
end
end Go.Proofs.YteficflfmbecbaaDoor
