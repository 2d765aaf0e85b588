/-
  Words for memory: nothing of a program is named here. Blk, and the steps of Kp, are after the guide's pages of lemmas to copy (extra-words, extra-small), turned; Byt is after their 'Reads'. 'Kp S a w': from a to w only blocks in S, and new ones, have turned. 'Byt w P v xs': the slice value v reads as the bytes xs, which lie in a block of P.
-/
import Derived.Below
import Derived.Calls
import Derived.WalkKit
import Derived.Laws.OwnMore
import Derived.Maps.AppendAt
import Derived.Deep.AppendLies
import Derived.Deep.Draws
import Derived.ScopeJumps
namespace Go.Proofs.Ytoeeighfjoplhaa
open Go.RowKit

theorem hid {p : Prop} (h : p) : Hid p := h

def lenOf : Value → Nat | .slice _ n _ => n | _ => 0

structure Kp (S : Nat → Prop) (a w : World) : Prop where
  os : w.os = a.os
  tape : w.tape = a.tape
  output : w.output = a.output
  size : a.heap.size ≤ w.heap.size
  block : ∀ k, k < a.heap.size → ¬ S k → w.heap[k]? = a.heap[k]?

def No : Nat → Prop := fun _ => False
def Only (g : Nat) : Nat → Prop := fun k => k = g
def Anyb : Nat → Prop := fun _ => True

section
variable {S T : Nat → Prop} {a b w w' : World}
theorem Kp.refl (S : Nat → Prop) (w : World) : Kp S w w := ⟨rfl, rfl, rfl, Nat.le_refl _, fun _ _ _ => rfl⟩
theorem Kp.trans (h : Kp S a b) (k : Kp S b w) : Kp S a w :=
  ⟨k.os.trans h.os, k.tape.trans h.tape, k.output.trans h.output, Nat.le_trans h.size k.size, fun i hi hs => (k.block i (Nat.lt_of_lt_of_le hi h.size) hs).trans (h.block i hi hs)⟩
theorem Kp.mono (h : Kp S a w) (hs : ∀ k, k < a.heap.size → S k → T k) : Kp T a w := ⟨h.os, h.tape, h.output, h.size, fun k hk ht => h.block k hk (fun x => ht (hs k hk x))⟩
theorem Kp.all (h : Kp No a w) : Kp S a w := h.mono fun _ _ f => f.elim
/-- A step that turns old blocks of its own start only in T, seen from further back. -/
theorem Kp.step (h : Kp S a b) (k : Kp T b w) (hs : ∀ i, i < a.heap.size → T i → S i) : Kp S a w :=
  ⟨k.os.trans h.os, k.tape.trans h.tape, k.output.trans h.output, Nat.le_trans h.size k.size, fun i hi hn => (k.block i (Nat.lt_of_lt_of_le hi h.size) (fun x => hn (hs i hi x))).trans (h.block i hi hn)⟩
theorem Kp.drew (h : Kp S a w) : Kp S a w.drew := ⟨h.os, h.tape, h.output, h.size, h.block⟩
theorem Kp.drewN (h : Kp S a w) (n : Nat) : Kp S a (w.drewN n) := ⟨h.os, h.tape, h.output, h.size, h.block⟩
theorem Kp.alloc (h : Kp S a w) (o : Obj) : Kp S a (w.alloc o) :=
  ⟨h.os, h.tape, h.output, Nat.le_trans h.size (by simp), fun i hi hn => (Below.heap_alloc w o i (Nat.lt_of_lt_of_le hi h.size)).trans (h.block i hi hn)⟩
theorem Kp.setCell (h : Kp S a w) {p : Addr} (hp : S p.block ∨ a.heap.size ≤ p.block) (u : Value) : Kp S a (w.setCell p u) :=
  ⟨h.os, h.tape, h.output, by simpa [World.setCell] using h.size, fun i hi hn => (Below.heap_setCell w p u i (by
    rintro rfl
    rcases hp with hp | hp
    · exact hn hp
    · omega)).trans (h.block i hi hn)⟩
theorem Kp.set1 (g i : Nat) (w : World) (u : Value) : Kp (Only g) w (w.setCell ⟨g, i, none⟩ u) := (Kp.refl (Only g) w).setCell (p := ⟨g, i, none⟩) (.inl rfl) u
theorem Kp.grown {row : Option Nat} (h : Kp S a w) (hg : w.grownBy w' row) (hr : ∀ k, row = some k → S k ∨ a.heap.size ≤ k) : Kp S a w' :=
  ⟨hg.os.trans h.os, hg.tape.trans h.tape, hg.output.trans h.output, Nat.le_trans h.size hg.size, fun i hi hn => (hg.block i (Nat.lt_of_lt_of_le hi h.size) (fun e => by
    rcases hr i e.symm with x | x
    · exact hn x
    · omega)).trans (h.block i hi hn)⟩
theorem Kp.below (h : Kp No a w) : Below a.heap.size a w := ⟨h.os, h.tape, h.output, h.size, fun k hk => h.block k hk id⟩
theorem Kp.cell (h : Kp S a w) {p : Addr} (hp : p.block < a.heap.size) (hn : ¬ S p.block) : w.cell? p = a.cell? p := World.cell?_of_block (h.block p.block hp hn)
end

/-- A block that is known whole, none of it frozen. -/
def Blk (w : World) (g : Nat) (t : TypeId) (cs : Array Value) : Prop := w.heap[g]? = some (.cells cs t (0, 0))
section
variable {S : Nat → Prop} {a w : World} {g : Nat} {t : TypeId} {cs : Array Value}
theorem Blk.lt (h : Blk w g t cs) : g < w.heap.size := (Array.getElem?_eq_some_iff.1 h).1
theorem Blk.cell (h : Blk w g t cs) (i : Nat) : w.cell? ⟨g, i, none⟩ = cs[i]? := cell_of_row w g i cs t (0, 0) h
theorem Blk.frozen (h : Blk w g t cs) (i : Nat) : w.frozen? ⟨g, i, none⟩ = false := by
  unfold Blk at h
  simp [World.frozen?, h]
theorem Blk.new (w : World) (t : TypeId) (cs : Array Value) : Blk (w.alloc (.cells cs t)) w.heap.size t cs := heap_alloc_new w _
theorem Blk.kp (h : Blk a g t cs) (k : Kp S a w) (hn : ¬ S g) : Blk w g t cs := (k.block g h.lt hn).trans h
theorem Blk.put (h : Blk w g t cs) (i : Nat) (u : Value) : Blk (w.setCell ⟨g, i, none⟩ u) g t (cs.setIfInBounds i u) := by
  unfold Blk at h ⊢
  simp [World.setCell, Array.getElem?_modify, h]
end

def Byt (w : World) (P : Nat → Prop) (v : Value) (xs : List Int) : Prop :=
  ∃ A c, v = .slice A xs.length c ∧ xs.length ≤ c ∧ c ≤ maxLen ∧ (∀ x ∈ xs, 0 ≤ x ∧ x ≤ 255) ∧
    (0 < xs.length → ∃ b o, A = some ⟨b, o, none⟩ ∧ b < w.heap.size ∧ P b ∧ ∀ j, j < xs.length → w.cell? ⟨b, o + j, none⟩ = some (.int .u8 (xs.getD j 0)))

section
variable {S P Q : Nat → Prop} {a w : World} {v : Value} {xs ys : List Int}
theorem Byt.nil (w : World) (P : Nat → Prop) : Byt w P (.slice none 0 0) [] := ⟨none, 0, rfl, by simp, by simp, by simp, by simp⟩
theorem Byt.kp (h : Byt a P v xs) (k : Kp S a w) (hn : ∀ i, P i → ¬ S i) : Byt w P v xs := by
  obtain ⟨A, c, rfl, hc, hm, hx, h⟩ := h
  refine ⟨A, c, rfl, hc, hm, hx, fun h0 => ?_⟩
  obtain ⟨b, o, rfl, hb, hp, hcell⟩ := h h0
  exact ⟨b, o, rfl, Nat.lt_of_lt_of_le hb k.size, hp, fun j hj => (k.cell (p := ⟨b, o + j, none⟩) hb (hn b hp)).trans (hcell j hj)⟩
theorem Byt.mono (h : Byt w P v xs) (hq : ∀ i, i < w.heap.size → P i → Q i) : Byt w Q v xs := by
  obtain ⟨A, c, rfl, hc, hm, hx, h⟩ := h
  refine ⟨A, c, rfl, hc, hm, hx, fun h0 => ?_⟩
  obtain ⟨b, o, rfl, hb, hp, hcell⟩ := h h0
  exact ⟨b, o, rfl, hb, hq b hb hp, hcell⟩
/-- Below a bound: what is new later does not touch it. -/
theorem Byt.old (h : Byt w P v xs) : Byt w (fun i => P i ∧ i < w.heap.size) v xs := h.mono fun _ hi hp => ⟨hp, hi⟩
theorem Byt.bytes (h : Byt w P v xs) : ∀ x ∈ xs, 0 ≤ x ∧ x ≤ 255 := by
  obtain ⟨A, c, rfl, hc, hm, hx, h⟩ := h
  exact hx
theorem Byt.len_le (h : Byt w P v xs) : xs.length ≤ maxLen := by
  obtain ⟨A, c, rfl, hc, hm, hx, h⟩ := h
  omega
theorem Byt.take {A : Option Addr} {c n : Nat} (h : Byt w P (.slice A n c) xs) (k : Nat) (hk : k ≤ xs.length) : Byt w P (.slice A k c) (xs.take k) := by
  obtain ⟨A', c', he, hc, hm, hx, h⟩ := h
  injection he with e1 e2 e3
  subst e1 e3
  have hl : (xs.take k).length = k := by simp; omega
  refine ⟨A, c, by rw [hl], by omega, hm, fun x h => hx x (List.mem_of_mem_take h), fun h0 => ?_⟩
  obtain ⟨b, o, rfl, hb, hp, hcell⟩ := h (by omega)
  refine ⟨b, o, rfl, hb, hp, fun j hj => ?_⟩
  rw [hl] at hj
  rw [hcell j (by omega)]
  simp [List.getD, hj]
theorem Byt.drop {A : Option Addr} {c n : Nat} (h : Byt w P (.slice A n c) xs) (k : Nat) (hk : k ≤ xs.length) : Byt w P (.slice (A.map fun x => x.add k) (n - k) (c - k)) (xs.drop k) := by
  obtain ⟨A', c', he, hc, hm, hx, h⟩ := h
  injection he with e1 e2 e3
  subst e1 e2 e3
  have hl : (xs.drop k).length = xs.length - k := by simp
  refine ⟨_, _, by rw [hl], by omega, by omega, fun x h => hx x (List.mem_of_mem_drop h), fun h0 => ?_⟩
  obtain ⟨b, o, rfl, hb, hp, hcell⟩ := h (by omega)
  have ha : (⟨b, o, none⟩ : Addr).add k = ⟨b, o + k, none⟩ := by unfold Addr.add; split <;> simp_all
  refine ⟨b, o + k, by simp [ha], hb, hp, fun j hj => ?_⟩
  rw [Nat.add_assoc, hcell (k + j) (by omega)]
  simp [List.getD, List.getElem?_drop]
theorem Byt.empty (w : World) (P : Nat → Prop) (A : Option Addr) (c : Nat) (hc : c ≤ maxLen) : Byt w P (.slice A 0 c) [] := ⟨A, c, rfl, by simp, hc, by simp, by simp⟩
/-- What a call of our own owns reads as bytes. -/
theorem Byt.of_own {base : Nat} {e : TypeId} (h : w.ownsRow base e 1 v xs.length (xs.map (Value.int .u8))) (hx : ∀ x ∈ xs, 0 ≤ x ∧ x ≤ 255) (hP : ∀ i, base ≤ i → P i) : Byt w P v xs := by
  rcases h.2 with ⟨rfl, h0⟩ | ⟨g, cap, cur, rfl, hb, hg, hl, hm, hs, ht⟩
  · have : xs = [] := List.eq_nil_of_length_eq_zero h0
    subst this
    exact Byt.nil w P
  · refine ⟨some ⟨g, 0, none⟩, cap, rfl, hl, hm, hx, fun _ => ⟨g, 0, rfl, (Array.getElem?_eq_some_iff.1 hg).1, hP g hb, fun j hj => ?_⟩⟩
    have := h.cellAt j (by simpa using hj)
    rw [Nat.zero_add, this]
    simp [List.getElem?_map, List.getD, List.getElem?_eq_getElem hj]
end

/-- A scope whose label is come to from above, too: one walk of the pass serves both. -/
theorem wp_scope_pass {P : Program} {a : Act} {w : World} {Q : Exit → Act → World → Prop} {c rest : Code} (l : Nat) (J : Act → World → Prop) (μ : Act → World → Nat) (hf : findLabel c l = some (Code.skip.seq rest))
    (pass : ∀ a w, J a w → rest.wp P (Exit.jump l (fun a' w' => J a' w' ∧ μ a' w' < μ a w) Q) a w)
    (first : (∀ a w, J a w → rest.wp P (Exit.jump l J Q) a w) → c.wp P (Exit.jump l J Q) a w) : (Code.scope c).wp P Q a w :=
  wp_scope_jumps l J μ hf (first fun a w hJ => Code.wp_mono (fun e a' w' h => by
    cases e <;> simp only [Exit.jump] at h ⊢ <;> first | exact h | exact ⟨h.1, h.2.1⟩) (pass a w hJ)) fun a w hJ => wp_seq (wp_skip (pass a w hJ))

end Go.Proofs.Ytoeeighfjoplhaa
