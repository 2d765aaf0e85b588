/-
  Contracts of cmp.Compare, and of slices.ContainsFunc and slices.Equal at groups and tasks.
-/
import Derived.Test.YtggmdgdgljlddaaGreatZEq
import Derived.Test.YtggmdgdgljlddaaGreatShelf
import Derived.Test.YtggmdgdgljlddaaGreatOwn
import Derived.Shelf.SlicesQ.IndexFunc
namespace Go.Proofs.YtggmdgdgljlddaaGreat
open Go.RowKit Go.Shelf

theorem kp_of_below {w w' : World} (h : Below w.heap.size w w') : Kp No w w' := ⟨h.os, h.tape, h.output, h.size, fun k hk _ => h.block k hk⟩
theorem gc_one (g : GS) (i : Nat) : (gc g i).oneCell' = true := by
  match i with
  | 0 => rfl
  | 1 => rfl
  | 2 => rfl
  | 3 => rfl
  | 4 => rfl
  | 5 => rfl
  | _ + 6 => rfl
theorem tc_one (t : TS) (i : Nat) : (tc t i).oneCell' = true := by
  match i with
  | 0 => rfl
  | 1 => rfl
  | 2 => rfl
  | 3 => rfl
  | 4 => rfl
  | 5 => rfl
  | 6 => rfl
  | 7 => rfl
  | _ + 8 => rfl
def cmpI (a b : Int) : Int := if a < b then -1 else if b < a then 1 else 0
theorem cmp_any (a b : Int) (w : World) : Calls Tryz.prog 22 #[.int .i64 a, .int .i64 b] w fun e w' => e = .returned (.int .i64 (cmpI a b)) ∧ w' = w := by
  have na : (a != a) = false := by simp
  have nb : (b != b) = false := by simp
  by_cases h1 : a < b
  · have H := hid (show cmpI a b = -1 by unfold cmpI; rw [if_pos h1])
    go_enter Tryz.func22, Tryz.ntmps22
    go_wp2
    go_ret
    exact ⟨by rw [H.out]; rfl, rfl⟩
  · by_cases h2 : b < a
    · have H := hid (show cmpI a b = 1 by unfold cmpI; rw [if_neg h1, if_pos h2])
      go_enter Tryz.func22, Tryz.ntmps22
      go_wp2
      go_ret
      exact ⟨by rw [H.out]; rfl, rfl⟩
    · have H := hid (show cmpI a b = 0 by unfold cmpI; rw [if_neg h1, if_neg h2])
      go_enter Tryz.func22, Tryz.ntmps22
      go_wp2
      go_ret
      exact ⟨by rw [H.out]; rfl, rfl⟩
theorem cmp_is {a b c : Int} (h : cmpI a b = c) (w : World) : Calls Tryz.prog 22 #[.int .i64 a, .int .i64 b] w fun e w' => e = .returned (.int .i64 c) ∧ w' = w := by
  rw [← h]
  exact cmp_any a b w
theorem allEq_dec {α : Type} [DecidableEq α] : ∀ (xs ys : List α), Lib.allEq (fun x y => decide (x = y)) xs ys = decide (xs = ys)
  | [], [] => rfl
  | [], _ :: _ => rfl
  | _ :: _, [] => rfl
  | x :: xs, y :: ys => by
    rw [Lib.allEq, allEq_dec xs ys, Bool.eq_iff_iff]
    simp

section
variable {w w' : World} {S P Q : Nat → Prop} {v u : Value} {xs ys : List GS}
theorem Rw.cellsG {b o c : Nat} (h : Rw 6 gc gs0 w P (.slice (some ⟨b, o, none⟩) xs.length c) xs) : ∀ j, j < xs.length → ∀ i v, (ge xs[j]!)[i]? = some v → w.cell? ⟨b, o + j * 6 + i, none⟩ = some v := by
  intro j hj i v hi
  obtain ⟨hi6, _⟩ := List.getElem?_eq_some_iff.1 hi
  rw [ge_len] at hi6
  have := h.cell (i := i) (Kp.refl No w) hj hi6 rfl
  rw [Nat.add_assoc, this]
  have e : xs[j]! = xs.getD j gs0 := by simp [List.getD, hj]
  rw [← e]
  unfold gc
  rw [List.getD, hi]
  rfl
set_option maxRecDepth 100000 in
theorem index0G (A : Option Addr) (c : Nat) (fv : Value) (w : World) : Calls Tryz.prog 24 #[.slice A 0 c, fv] w fun e w' => e = .returned (.int .i64 (-1)) ∧ w' = w := by
  go_enter Tryz.func24, Tryz.ntmps24
  go_wp2
  refine wp_loop_rounds 1 ?_
  rw [rounds_succ]
  go_wp2
  go_ret
  exact ⟨rfl, rfl⟩
set_option maxRecDepth 100000 in
theorem any0G (A : Option Addr) (c : Nat) (fv : Value) (w : World) : Calls Tryz.prog 10 #[.slice A 0 c, fv] w fun e w' => e = .returned (.bool false) ∧ w' = w := by
  go_enter Tryz.func10, Tryz.ntmps10
  go_wp2_with (go_at_call 24; refine (index0G A c fv w).mono ?_; rintro e w' ⟨rfl, rfl⟩)
  go_ret
  exact ⟨rfl, rfl⟩
theorem anyG_any (h : Rw 6 gc gs0 w P v xs) (p : GS → Bool) (g : Nat) (lb : Array Value) (eg : ∀ args w, (callFunc g args).run Tryz.prog w = .ok (.enter g args) w)
    (hp : PredBelow Tryz.prog g lb (fun x => .agg (ge x).toArray) p w) : Calls Tryz.prog 10 #[v, .func (.func g) #[] lb] w fun e w' => e = .returned (.bool (xs.any p)) ∧ Kp No w w' := by
  have h0 := h
  obtain ⟨A, c, rfl, hc, hm, hx⟩ := h
  unfold maxLen at hm
  by_cases h00 : xs = []
  · subst h00
    refine (any0G A c _ w).mono ?_
    rintro e w' ⟨rfl, rfl⟩
    exact ⟨rfl, Kp.refl _ _⟩
  · obtain ⟨b, o, rfl, hb, _, _⟩ := hx (List.length_pos_iff.2 h00)
    have := AnyQ.slices_ContainsFunc Tryz.anyG 6 Tryz.isAgg37 Tryz.sizeOf37 ge ge_len p g lb eg b o xs.length c xs w hp (Nat.le_refl _) (by omega) hb h0.cellsG
    refine Calls.mono this ?_
    rintro e w' ⟨rfl, hw⟩
    rw [List.take_length]
    exact ⟨rfl, kp_of_below hw⟩
set_option maxRecDepth 100000 in
theorem eql0G (A B : Option Addr) (c d n m : Nat) (hne : n ≠ m) (w : World) : Calls Tryz.prog 35 #[.slice A n c, .slice B m d] w fun e w' => e = .returned (.bool false) ∧ w' = w := by
  have hn : ((n : Int) != (m : Int)) = true := by rw [bne_iff_ne]; omega
  go_enter Tryz.func35, Tryz.ntmps35
  go_wp2
  go_ret
  exact ⟨rfl, rfl⟩
set_option maxRecDepth 100000 in
theorem eql1G (A B : Option Addr) (c d : Nat) (w : World) : Calls Tryz.prog 35 #[.slice A 0 c, .slice B 0 d] w fun e w' => e = .returned (.bool true) ∧ w' = w := by
  go_enter Tryz.func35, Tryz.ntmps35
  go_wp2
  refine wp_loop_rounds 1 ?_
  rw [rounds_succ]
  go_wp2
  go_ret
  exact ⟨rfl, rfl⟩
theorem eqlG_any (h : Rw 6 gc gs0 w P v xs) (h' : Rw 6 gc gs0 w Q u ys) : Calls Tryz.prog 35 #[v, u] w fun e w' => e = .returned (.bool (decide (xs = ys))) ∧ ∃ q, w' = w.drewN q := by
  have h0 := h
  have h0' := h'
  obtain ⟨A, c, rfl, hc, hm, hx⟩ := h
  obtain ⟨B, d, rfl, hd, hn, hy⟩ := h'
  unfold maxLen at hm hn
  by_cases hne : xs.length = ys.length
  · by_cases h00 : xs = []
    · subst h00
      have : ys = [] := List.eq_nil_of_length_eq_zero hne.symm
      subst this
      refine (eql1G A B c d w).mono ?_
      rintro e w' ⟨rfl, rfl⟩
      exact ⟨rfl, 0, rfl⟩
    · obtain ⟨b, o, rfl, hb, _, _⟩ := hx (List.length_pos_iff.2 h00)
      obtain ⟨b', o', rfl, hb', _, _⟩ := hy (by rw [← hne]; exact List.length_pos_iff.2 h00)
      have := AnyQ.slices_Equal Tryz.eqlG 6 Tryz.isAgg37 Tryz.sizeOf37 ge ge_len eqG neqG b o xs.length c b' o' ys.length d xs ys w (Nat.le_refl _) (Nat.le_refl _) (by omega) (by omega) h0.cellsG h0'.cellsG
      refine Calls.mono this ?_
      rintro e w' ⟨rfl, hw⟩
      rw [List.take_length, List.take_length]
      exact ⟨by rw [← allEq_dec]; rfl, hw⟩
  · refine (eql0G A B c d _ _ hne w).mono ?_
    rintro e w' ⟨rfl, rfl⟩
    have : ¬ xs = ys := fun e => hne (by rw [e])
    exact ⟨by simp [this], 0, rfl⟩
end

section
variable {w w' : World} {S P Q : Nat → Prop} {v u : Value} {xs ys : List TS}
theorem Rw.cellsT {b o c : Nat} (h : Rw 8 tc ts0 w P (.slice (some ⟨b, o, none⟩) xs.length c) xs) : ∀ j, j < xs.length → ∀ i v, (te xs[j]!)[i]? = some v → w.cell? ⟨b, o + j * 8 + i, none⟩ = some v := by
  intro j hj i v hi
  obtain ⟨hi6, _⟩ := List.getElem?_eq_some_iff.1 hi
  rw [te_len] at hi6
  have := h.cell (i := i) (Kp.refl No w) hj hi6 rfl
  rw [Nat.add_assoc, this]
  have e : xs[j]! = xs.getD j ts0 := by simp [List.getD, hj]
  rw [← e]
  unfold tc
  rw [List.getD, hi]
  rfl
set_option maxRecDepth 100000 in
theorem index0T (A : Option Addr) (c : Nat) (fv : Value) (w : World) : Calls Tryz.prog 27 #[.slice A 0 c, fv] w fun e w' => e = .returned (.int .i64 (-1)) ∧ w' = w := by
  go_enter Tryz.func27, Tryz.ntmps27
  go_wp2
  refine wp_loop_rounds 1 ?_
  rw [rounds_succ]
  go_wp2
  go_ret
  exact ⟨rfl, rfl⟩
set_option maxRecDepth 100000 in
theorem any0T (A : Option Addr) (c : Nat) (fv : Value) (w : World) : Calls Tryz.prog 12 #[.slice A 0 c, fv] w fun e w' => e = .returned (.bool false) ∧ w' = w := by
  go_enter Tryz.func12, Tryz.ntmps12
  go_wp2_with (go_at_call 27; refine (index0T A c fv w).mono ?_; rintro e w' ⟨rfl, rfl⟩)
  go_ret
  exact ⟨rfl, rfl⟩
theorem anyT_any (h : Rw 8 tc ts0 w P v xs) (p : TS → Bool) (g : Nat) (lb : Array Value) (eg : ∀ args w, (callFunc g args).run Tryz.prog w = .ok (.enter g args) w)
    (hp : PredBelow Tryz.prog g lb (fun x => .agg (te x).toArray) p w) : Calls Tryz.prog 12 #[v, .func (.func g) #[] lb] w fun e w' => e = .returned (.bool (xs.any p)) ∧ Kp No w w' := by
  have h0 := h
  obtain ⟨A, c, rfl, hc, hm, hx⟩ := h
  unfold maxLen at hm
  by_cases h00 : xs = []
  · subst h00
    refine (any0T A c _ w).mono ?_
    rintro e w' ⟨rfl, rfl⟩
    exact ⟨rfl, Kp.refl _ _⟩
  · obtain ⟨b, o, rfl, hb, _, _⟩ := hx (List.length_pos_iff.2 h00)
    have := AnyQ.slices_ContainsFunc Tryz.anyT 8 Tryz.isAgg41 Tryz.sizeOf41 te te_len p g lb eg b o xs.length c xs w hp (Nat.le_refl _) (by omega) hb h0.cellsT
    refine Calls.mono this ?_
    rintro e w' ⟨rfl, hw⟩
    rw [List.take_length]
    exact ⟨rfl, kp_of_below hw⟩
set_option maxRecDepth 100000 in
theorem eql0T (A B : Option Addr) (c d n m : Nat) (hne : n ≠ m) (w : World) : Calls Tryz.prog 36 #[.slice A n c, .slice B m d] w fun e w' => e = .returned (.bool false) ∧ w' = w := by
  have hn : ((n : Int) != (m : Int)) = true := by rw [bne_iff_ne]; omega
  go_enter Tryz.func36, Tryz.ntmps36
  go_wp2
  go_ret
  exact ⟨rfl, rfl⟩
set_option maxRecDepth 100000 in
theorem eql1T (A B : Option Addr) (c d : Nat) (w : World) : Calls Tryz.prog 36 #[.slice A 0 c, .slice B 0 d] w fun e w' => e = .returned (.bool true) ∧ w' = w := by
  go_enter Tryz.func36, Tryz.ntmps36
  go_wp2
  refine wp_loop_rounds 1 ?_
  rw [rounds_succ]
  go_wp2
  go_ret
  exact ⟨rfl, rfl⟩
theorem eqlT_any (h : Rw 8 tc ts0 w P v xs) (h' : Rw 8 tc ts0 w Q u ys) : Calls Tryz.prog 36 #[v, u] w fun e w' => e = .returned (.bool (decide (xs = ys))) ∧ ∃ q, w' = w.drewN q := by
  have h0 := h
  have h0' := h'
  obtain ⟨A, c, rfl, hc, hm, hx⟩ := h
  obtain ⟨B, d, rfl, hd, hn, hy⟩ := h'
  unfold maxLen at hm hn
  by_cases hne : xs.length = ys.length
  · by_cases h00 : xs = []
    · subst h00
      have : ys = [] := List.eq_nil_of_length_eq_zero hne.symm
      subst this
      refine (eql1T A B c d w).mono ?_
      rintro e w' ⟨rfl, rfl⟩
      exact ⟨rfl, 0, rfl⟩
    · obtain ⟨b, o, rfl, hb, _, _⟩ := hx (List.length_pos_iff.2 h00)
      obtain ⟨b', o', rfl, hb', _, _⟩ := hy (by rw [← hne]; exact List.length_pos_iff.2 h00)
      have := AnyQ.slices_Equal Tryz.eqlT 8 Tryz.isAgg41 Tryz.sizeOf41 te te_len eqT neqT b o xs.length c b' o' ys.length d xs ys w (Nat.le_refl _) (Nat.le_refl _) (by omega) (by omega) h0.cellsT h0'.cellsT
      refine Calls.mono this ?_
      rintro e w' ⟨rfl, hw⟩
      rw [List.take_length, List.take_length]
      exact ⟨by rw [← allEq_dec]; rfl, hw⟩
  · refine (eql0T A B c d _ _ hne w).mono ?_
    rintro e w' ⟨rfl, rfl⟩
    have : ¬ xs = ys := fun e => hne (by rw [e])
    exact ⟨by simp [this], 0, rfl⟩
end
end Go.Proofs.YtggmdgdgljlddaaGreat
