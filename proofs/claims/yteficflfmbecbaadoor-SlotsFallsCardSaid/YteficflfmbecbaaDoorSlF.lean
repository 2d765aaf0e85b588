/-
  What is found behind a commit, or a crash in one: nothing of Go is named here.
-/
import Derived.Test.YteficflfmbecbaaDoorSlE
namespace Go.Proofs.YteficflfmbecbaaDoor

section
variable {s : Ds} {h a : Nat} {has has' : Bool} {img img' : List Int}
theorem parts_short {i x : List Int} {j : Nat} (hx : (parts i)[j]? = some x) : x.length ≤ 64 := by
  unfold parts at hx
  rw [List.getElem?_map] at hx
  cases hr : (List.range ((i.length + 63) / 64))[j]? with
  | none => rw [hr] at hx; cases hx
  | some y =>
    rw [hr] at hx
    cases hx
    rw [List.length_take]
    omega
theorem comD_is {i : List Int} (hc : ∀ j : Nat, s.c (j : Int) = none) (hn : 2 + 2 * h ≤ s.k.length) (hsec : ∀ l ∈ s.k, l.length = 64) (hG : Good (look s) h a has img has' img') (hl : i.length ≤ 64 * h) (ha : a + 1 ≤ 1099511627776) : Came s (look s) h a has img true i (comD s h (a + 1) i) := by
  have hpar : (a + 1) % 2 < 2 := Nat.mod_lt _ (by decide)
  have hpm : (a + 1) % 2 * h ≤ h := by
    rcases (show (a + 1) % 2 = 0 ∨ (a + 1) % 2 = 1 by omega) with e | e <;> rw [e] <;> omega
  have hpl : (parts i).length ≤ h := by rw [parts_len]; omega
  obtain ⟨m, hm1, hm2, hk, hcW, harm, hon⟩ := wrs_is (parts i) s (2 + (a + 1) % 2 * h)
  have hout : ∀ j, ¬ (2 + (a + 1) % 2 * h ≤ j ∧ j < 2 + (a + 1) % 2 * h + h) → (wrs s (2 + (a + 1) % 2 * h) (parts i)).1.c (j : Int) = none := fun j hj => by
    rw [hcW, if_neg (by omega)]
    exact hc j
  have hstill : ∀ t : Ds, t.k = (wrs s (2 + (a + 1) % 2 * h) (parts i)).1.k → t.c = (wrs s (2 + (a + 1) % 2 * h) (parts i)).1.c → ∀ keep, opn (look (crashed t keep)) h = (a, has, img) := fun t hk2 hc2 keep => by
    refine SameBut.still (V0 := look s) (fun j hj => ?_) hG
    rw [look_crash_none keep (by rw [hc2]; exact hout j hj), hk2, hk, ← look_none (hc j)]
  unfold comD
  generalize hW : wrs s (2 + (a + 1) % 2 * h) (parts i) = W at *
  obtain ⟨t, b⟩ := W
  cases b with
  | false =>
    simp only [andThen, Bool.false_eq_true, if_false]
    exact ⟨by rw [hk], harm, fun hf => hon hf, fun hf => (by cases hf), fun _ keep => .inl (hstill t rfl rfl keep)⟩
  | true =>
    simp only at hk hcW harm hout hstill
    have hmm := hm2 rfl
    simp only [andThen, if_true]
    unfold fls
    by_cases ho : off t = true
    · rw [if_pos ho]
      simp only [Bool.false_eq_true, if_false]
      refine ⟨by show t.k.length = _; rw [hk], harm, fun hf => ?_, fun hf => (by cases hf), fun _ keep => .inl (hstill (calld t) rfl rfl keep)⟩
      rw [off_on (s := t) (by rw [harm, hf])] at ho
      cases ho
    · rw [if_neg ho]
      simp only [if_true]
      have hfl : ∀ j : Nat, look (flushed (calld t)) j = look t j := fun j => by
        rw [look_flushed' _ j, look_calld]
        intro hj
        have hj2 : t.k.length ≤ j := hj
        rw [hk] at hj2
        exact hout j (by omega)
      have hlt : ∀ j : Nat, look t j = if 2 + (a + 1) % 2 * h ≤ j ∧ j < 2 + (a + 1) % 2 * h + m then (((parts i)[j - (2 + (a + 1) % 2 * h)]?).map pad).getD (s.k.getD j []) else s.k.getD j [] := fun j => by
        unfold look
        rw [hcW, hk]
        split
        · rfl
        · rw [hc j]
          rfl
      have hS : SameBut (look (flushed (calld t))) (look s) h ((a + 1) % 2) := fun j hj => by
        rw [hfl, hlt, if_neg (by omega), look_none (hc j)]
      have hp : ∀ x y, (parts i)[x]? = some y → look (flushed (calld t)) (2 + (a + 1) % 2 * h + x) = pad y := fun x y hy => by
        have hx : x < (parts i).length := (List.getElem?_eq_some_iff.1 hy).1
        rw [hfl, hlt, if_pos (by omega), show 2 + (a + 1) % 2 * h + x - (2 + (a + 1) % 2 * h) = x by omega, hy]
        rfl
      have hs : ∀ x, x < h → (look (flushed (calld t)) (2 + (a + 1) % 2 * h + x)).length = 64 := fun x hx => by
        by_cases hxm : x < (parts i).length
        · have hy : (parts i)[x]? = some (parts i)[x] := List.getElem?_eq_getElem hxm
          rw [hp x _ hy]
          exact pad_len (parts_short hy)
        · rw [hfl, hlt, if_neg (by omega)]
          refine hsec _ ?_
          have : 2 + (a + 1) % 2 * h + x < s.k.length := by omega
          simp [List.getD, this]
      have hsl := slot_parts (V := look (flushed (calld t))) (k := (a + 1) % 2) hs hl hp
      have hC := sealD_is (s := flushed (calld t)) (V0 := look s) (q := true) (i := i) (fun j => rfl) (by rw [flushed_len]; show 2 ≤ t.k.length; rw [hk]; omega) hS hG hsl hl (fun hf => by cases hf) ha
      refine ⟨hC.len.trans (by rw [flushed_len]; show t.k.length = _; rw [hk]), hC.arm.trans harm, fun hf => hC.on (harm.trans hf), hC.yes, hC.no⟩
/-- A deletion: no slot is touched. -/
theorem delD_is (hc : ∀ j : Nat, s.c (j : Int) = none) (hn : 2 ≤ s.k.length) (hG : Good (look s) h a has img has' img') (ha : a + 1 ≤ 1099511627776) : Came s (look s) h a has img false [] (sealD s (a + 1) false []) :=
  sealD_is hc hn (fun _ _ => rfl) hG (by simp) (by simp) (fun _ => rfl) ha
/-- A new disk. -/
theorem good_new {n : Nat} (hn : 2 ≤ n) (hh : 64 * h ≤ 4294967295) : Good (look (dsN n)) h 0 false [] false [] := by
  have hz : ∀ j, j < 2 → look (dsN n) j = zsec := fun j hj => by
    unfold look dsN
    simp only [Option.getD_none]
    rw [List.getD_eq_getElem?_getD, List.getElem?_replicate, if_pos (by omega)]
    rfl
  exact ⟨.inl ⟨rfl, hz _ (by omega), rfl, rfl⟩, .inl ⟨rfl, hz _ (by omega), rfl, rfl⟩, hh⟩
end
end Go.Proofs.YteficflfmbecbaaDoor
