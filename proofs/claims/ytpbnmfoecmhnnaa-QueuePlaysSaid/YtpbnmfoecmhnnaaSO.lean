/-
  Contracts: awake, the document's Less; what is done with a shelf.
-/
import Derived.Test.YtpbnmfoecmhnnaaSN
namespace Go.Proofs.Ytpbnmfoecmhnnaa
open Go.RowKit

section
variable {w w' : World} {g b c n top : Nat} {nd nd' : Nat → Nd} {S : Nat → Prop}

/-- The blocks from one on. -/
def Up (B : Nat) : Nat → Prop := fun k => B ≤ k
theorem Kp.up {a w w' : World} {B : Nat} (h : Kp No a w) (k : Kp (Up B) w w') (hB : a.heap.size ≤ B) : Kp No a w' := h.step k fun i hi e => by
  have : B ≤ i := e
  omega
theorem put_in {B : Nat} {l l' : List It} {v : Bool} (h : Shf w g (Up B) l) (hl : l.length < 1000000) (hB : B ≤ w.heap.size) (x : It) (hv : (!decide (x ∈ l)) = v) (hl' : putL l x = l') :
    Calls Try.prog 22 #[.pointer (some ⟨g, 0, none⟩), .agg #[.int .i64 x.key, .int .i64 x.id]] w fun e w' => e = .returned (.bool v) ∧ Kp (Up B) w w' ∧ Shf w' g (Up B) l' :=
  (Put_any h hl x).mono fun e w' ⟨h1, h2, h3⟩ => ⟨by rw [h1, hv], h2, by rw [← hl']; exact h3.mono fun i _ hi => hi.elim id fun h => Nat.le_trans hB h⟩
theorem drop_in {B : Nat} {l l' : List It} {v : Bool} (h : Shf w g (Up B) l) (x : It) (hv : decide (x ∈ l) = v) (hl' : dropL l x = l') :
    Calls Try.prog 20 #[.pointer (some ⟨g, 0, none⟩), .agg #[.int .i64 x.key, .int .i64 x.id]] w fun e w' => e = .returned (.bool v) ∧ Kp (Up B) w w' ∧ Shf w' g (Up B) l' :=
  (Drop_any h x).mono fun e w' ⟨h1, h2, h3⟩ => ⟨by rw [h1, hv], h2, by rw [← hl']; exact h3⟩
theorem at_is {l : List It} (h : Shf w g S l) (k : Nat) (hk : k < l.length) (y : It) (hy : l.getD k it0 = y) :
    Calls Try.prog 27 #[.pointer (some ⟨g, 0, none⟩), .int .i64 (k : Int)] w fun e w' => e = .returned (.tuple #[.agg #[.int .i64 y.key, .int .i64 y.id], .bool true]) ∧ Kp No w w' := by
  subst hy
  exact at_in h k hk

theorem rank_is {l : List It} (h : Shf w g S l) (x : It) (r : Nat) (hr : rnk l x = r) :
    Calls Try.prog 30 #[.pointer (some ⟨g, 0, none⟩), .agg #[.int .i64 x.key, .int .i64 x.id]] w fun e w' => e = .returned (.int .i64 (r : Int)) ∧ Kp No w w' := by
  subst hr
  exact Rank_any h x

set_option maxRecDepth 100000 in
theorem awake_any (w : World) : Calls Try.prog 17 #[] w fun e w' => e = .returned (.bool true) ∧ Kp No w w' := by
  go_enter Try.func17, Try.ntmps17
  go_wp2_with fail
  refine (New_any w).mono ?_
  rintro e w1 ⟨rfl, rfl⟩
  have h1 := Shf.new (S := Up w.heap.size) w (Nat.le_refl _)
  have k1 := (Kp.refl No w).alloc (.cells #[.slice none 0 0, .int .i64 0] 97)
  generalize w.alloc (.cells #[.slice none 0 0, .int .i64 0] 97) = w1 at h1 k1 ⊢
  go_wp2_with fail
  refine (put_in h1 (by simp) k1.size ⟨2, 7⟩ (v := true) (l' := [⟨2, 7⟩]) (by decide) (by decide)).mono ?_
  rintro e w2 ⟨rfl, k2, h2⟩
  have k2 := k1.up k2 (Nat.le_refl _)
  clear k1 h1
  go_wp2_with fail
  refine (put_in h2 (by simp) k2.size ⟨1, 9⟩ (v := true) (l' := [⟨1, 9⟩, ⟨2, 7⟩]) (by decide) (by decide)).mono ?_
  rintro e w3 ⟨rfl, k3, h3⟩
  have k3 := k2.up k3 (Nat.le_refl _)
  clear k2 h2
  go_wp2_with fail
  refine (put_in h3 (by simp) k3.size ⟨2, 3⟩ (v := true) (l' := [⟨1, 9⟩, ⟨2, 3⟩, ⟨2, 7⟩]) (by decide) (by decide)).mono ?_
  rintro e w4 ⟨rfl, k4, h4⟩
  have k4 := k3.up k4 (Nat.le_refl _)
  clear k3 h3
  go_wp2_with fail
  refine (at_is h4 1 (by simp) ⟨2, 3⟩ rfl).mono ?_
  rintro e w5 ⟨rfl, k5⟩
  have h5 := h4.kp0 k5
  have k5 := k4.trans k5
  clear k4 h4
  go_wp2_with fail
  have h6 := h5.kp0 ((Kp.refl No w5).alloc (.cells #[.int .i64 2, .int .i64 3] 24))
  have k6 := k5.alloc (.cells #[.int .i64 2, .int .i64 3] 24)
  refine (rank_is h6 ⟨2, 4⟩ 2 (by decide)).mono ?_
  rintro e w7 ⟨rfl, k7⟩
  go_wp2_with fail
  refine (Len_any (h6.kp0 k7)).mono ?_
  rintro e w8 ⟨rfl, rfl⟩
  go_wp2_with fail
  go_ret
  exact ⟨rfl, k6.trans k7⟩

/-- What is done with a shelf. -/
structure Op where
  x : It
  out : Bool
def oc (o : Op) : Nat → Value
  | 0 => .int .i64 o.x.key
  | 1 => .int .i64 o.x.id
  | _ => .bool o.out
def op0 : Op := ⟨it0, false⟩
def play1 (l : List It) (o : Op) : List It := if o.out then dropL l o.x else putL l o.x
def play (ops : List Op) : List It := ops.foldl play1 []
theorem play_snoc (ops : List Op) (o : Op) : play (ops ++ [o]) = play1 (play ops) o := by simp [play]
theorem putL_len (l : List It) (x : It) : (putL l x).length ≤ l.length + 1 := by
  unfold putL
  split
  · omega
  · have h1 := List.length_filter_le (fun y => ltB y x) l
    simp only [List.length_append, List.length_cons]
    have : (l.filter fun y => ltB y x).length + (l.filter fun y => ltB x y).length ≤ l.length := by
      clear h1
      induction l with
      | nil => simp
      | cons a l ih =>
        rename_i hx
        have := ih (fun h => hx (List.mem_cons.2 (.inr h)))
        simp only [List.filter_cons, List.length_cons]
        cases h1 : ltB a x with
        | true =>
          rw [ltB_asymm h1]
          simp
          omega
        | false =>
          cases ltB x a <;> simp <;> omega
    omega
theorem play1_len (l : List It) (o : Op) : (play1 l o).length ≤ l.length + 1 := by
  unfold play1
  split
  · have := List.length_filter_le (fun y => decide (y ≠ o.x)) l
    unfold dropL
    omega
  · exact putL_len l o.x
theorem play_len (ops : List Op) : (play ops).length ≤ ops.length := by
  suffices H : ∀ l : List It, (ops.foldl play1 l).length ≤ l.length + ops.length by simpa [play] using H []
  induction ops with
  | nil => simp
  | cons o ops ih =>
    intro l
    have h1 := ih (play1 l o)
    have h2 := play1_len l o
    simp only [List.foldl_cons, List.length_cons]
    omega
theorem take_at {α : Type} (l : List α) (d : α) {k : Nat} (h : k < l.length) : l.take (k + 1) = l.take k ++ [l.getD k d] := by
  rw [List.take_succ_eq_append_getElem h]
  simp [List.getD, h]

theorem refless_any (x y : It) (w : World) :
    Calls Try.prog 33 #[.agg #[.int .i64 x.key, .int .i64 x.id], .agg #[.int .i64 y.key, .int .i64 y.id]] w fun e w' => e = .returned (.bool (ltB x y)) ∧ Kp No w w' := by
  by_cases h1 : x.key = y.key
  · have H := hid (show ltB x y = decide (x.id < y.id) by unfold ltB; rw [h1]; simp)
    have d2 : (x.key != y.key) = false := by simp [h1]
    clear h1
    go_enter Try.func33, Try.ntmps33
    go_wp2
    go_ret
    rw [H.out]
    exact ⟨rfl, ((Kp.refl No w).alloc _).alloc _⟩
  · have H := hid (show ltB x y = decide (x.key < y.key) by unfold ltB; simp [h1])
    have d2 : (x.key != y.key) = true := by simp [h1]
    go_enter Try.func33, Try.ntmps33
    go_wp2
    go_ret
    rw [H.out]
    exact ⟨rfl, ((Kp.refl No w).alloc _).alloc _⟩
end
end Go.Proofs.Ytpbnmfoecmhnnaa
