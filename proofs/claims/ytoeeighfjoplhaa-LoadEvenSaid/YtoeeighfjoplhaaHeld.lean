/-
  Structs of two cells that lie in blocks of the call's own, kept through calls that make memory; small laws. Nothing of a program is named here.
-/
import Derived.Test.YtoeeighfjoplhaaWords
import Derived.IntWalk
import Derived.WalkMore
import Derived.Deep.QuietTactic
import Derived.BigQuiet
import Derived.BigRegion
import Derived.Deep.RegionWith
import Derived.Deep.RegionHeld3
namespace Go.Proofs.Ytoeeighfjoplhaa
open Go.RowKit

/-- What an int holds. -/
def I64 (c : Int) : Prop := -9223372036854775808 ≤ c ∧ c ≤ 9223372036854775807
theorem wrapI {x : Int} (h : I64 x) : IntKind.i64.wrap x = x := by
  unfold I64 at h
  simp only [IntKind.wrap, IntKind.bits, IntKind.signed]
  simp
  split <;> omega

theorem results_cell {fn : Func} {p : Tmp} {ty : TypeId} (h : fn.results = #[.cell p ty]) (tmps : Array Value) (P : Program) (w : World) :
    (results fn tmps).run P w = ((asAddr (tmps.getD p undef)).run P w).andThen fun a w₁ => (loadVar ty a).run P w₁ := by
  simp only [results, h]
  simp [Sem.run_bind, Result.andThen]

theorem kp_put {w w1 : World} {g i j : Nat} {a b : Value} (h : Kp No w w1) (hg : w.heap.size ≤ g) : Kp No w ((w1.setCell ⟨g, i, none⟩ a).setCell ⟨g, j, none⟩ b) :=
  (h.setCell (p := ⟨g, i, none⟩) (.inr hg) a).setCell (p := ⟨g, j, none⟩) (.inr hg) b

theorem Blk.two {w : World} {g : Nat} {t : TypeId} {a b : Value} (h : Blk w g t #[a, b]) : w.cell? ⟨g, 0, none⟩ = some a ∧ w.cell? ⟨g, 1, none⟩ = some b ∧ g < w.heap.size := ⟨h.cell 0, h.cell 1, h.lt⟩
theorem Blk.kp0 {a w : World} {g : Nat} {t : TypeId} {cs : Array Value} (h : Blk a g t cs) (k : Kp No a w) : Blk w g t cs := h.kp k fun h => h

/-- From a on nothing old has turned, and block g reads as it is said. -/
structure At (a : World) (g : Nat) (t : TypeId) (cs : Array Value) (w : World) : Prop where
  kept : Kp No a w
  blk : Blk w g t cs
section
variable {a w w' : World} {g : Nat} {t : TypeId} {cs : Array Value} {x y : Value}
theorem At.kp (h : At a g t cs w) (k : Kp No w w') : At a g t cs w' := ⟨h.1.trans k, h.2.kp0 k⟩
theorem At.drew (h : At a g t cs w) : At a g t cs w.drew := h.kp (Kp.refl No w).drew
theorem At.all (h : At a g t #[x, y] w) : w.cell? ⟨g, 0, none⟩ = some x ∧ w.cell? ⟨g, 1, none⟩ = some y ∧ At a g t #[x, y] w := ⟨h.2.cell 0, h.2.cell 1, h⟩
theorem At.step (k : Kp No w w') (h : At a g t #[x, y] w) : w'.cell? ⟨g, 0, none⟩ = some x ∧ w'.cell? ⟨g, 1, none⟩ = some y ∧ At a g t #[x, y] w' := (h.kp k).all
theorem At.stepc (k : Kp No w w') (h : w.cell? ⟨g, 0, none⟩ = some x ∧ w.cell? ⟨g, 1, none⟩ = some y ∧ At a g t #[x, y] w) : w'.cell? ⟨g, 0, none⟩ = some x ∧ w'.cell? ⟨g, 1, none⟩ = some y ∧ At a g t #[x, y] w' := (h.2.2.kp k).all
end

/-- Two structs of two cells, kept. -/
structure At2 (a : World) (t : TypeId) (g p : Nat) (x y x' y' : Value) (w : World) : Prop where
  kept : Kp No a w
  one : Blk w g t #[x, y]
  two : Blk w p t #[x', y']
section
variable {a w w' : World} {t : TypeId} {g p : Nat} {x y x' y' : Value}
theorem At2.kp (h : At2 a t g p x y x' y' w) (k : Kp No w w') : At2 a t g p x y x' y' w' := ⟨h.kept.trans k, h.one.kp0 k, h.two.kp0 k⟩
theorem At2.all (h : At2 a t g p x y x' y' w) : w.cell? ⟨g, 0, none⟩ = some x ∧ w.cell? ⟨g, 1, none⟩ = some y ∧ w.cell? ⟨p, 0, none⟩ = some x' ∧ w.cell? ⟨p, 1, none⟩ = some y' ∧ At2 a t g p x y x' y' w := ⟨h.one.cell 0, h.one.cell 1, h.two.cell 0, h.two.cell 1, h⟩
theorem At2.stepc (k : Kp No w w') (h : w.cell? ⟨g, 0, none⟩ = some x ∧ w.cell? ⟨g, 1, none⟩ = some y ∧ w.cell? ⟨p, 0, none⟩ = some x' ∧ w.cell? ⟨p, 1, none⟩ = some y' ∧ At2 a t g p x y x' y' w) :
    w'.cell? ⟨g, 0, none⟩ = some x ∧ w'.cell? ⟨g, 1, none⟩ = some y ∧ w'.cell? ⟨p, 0, none⟩ = some x' ∧ w'.cell? ⟨p, 1, none⟩ = some y' ∧ At2 a t g p x y x' y' w' := (h.2.2.2.2.kp k).all
end

theorem At2.put2 {a w : World} {t : TypeId} {g p : Nat} {x y x' y' : Value} (h : At2 a t g p x y x' y' w) (hn : g ≠ p) (hp : a.heap.size ≤ p) (u z : Value) : At2 a t g p x y u z ((w.setCell ⟨p, 0, none⟩ u).setCell ⟨p, 1, none⟩ z) :=
  ⟨kp_put h.kept hp, (h.one.kp (Kp.set1 _ _ _ _) hn).kp (Kp.set1 _ _ _ _) hn, (h.two.put 0 u).put 1 z⟩

section
variable {a w w' : World} {t : TypeId} {g p : Nat} {x y x' y' : Value}
theorem At2.allf (h : At2 a t g p x y x' y' w) : w.cell? ⟨g, 0, none⟩ = some x ∧ w.cell? ⟨g, 1, none⟩ = some y ∧ w.cell? ⟨p, 0, none⟩ = some x' ∧ w.cell? ⟨p, 1, none⟩ = some y' ∧ w.frozen? ⟨p, 0, none⟩ = false ∧ w.frozen? ⟨p, 1, none⟩ = false ∧ At2 a t g p x y x' y' w :=
  ⟨h.one.cell 0, h.one.cell 1, h.two.cell 0, h.two.cell 1, h.two.frozen 0, h.two.frozen 1, h⟩
theorem At2.stepf (k : Kp No w w') (h : w.cell? ⟨g, 0, none⟩ = some x ∧ w.cell? ⟨g, 1, none⟩ = some y ∧ w.cell? ⟨p, 0, none⟩ = some x' ∧ w.cell? ⟨p, 1, none⟩ = some y' ∧ w.frozen? ⟨p, 0, none⟩ = false ∧ w.frozen? ⟨p, 1, none⟩ = false ∧ At2 a t g p x y x' y' w) :
    w'.cell? ⟨g, 0, none⟩ = some x ∧ w'.cell? ⟨g, 1, none⟩ = some y ∧ w'.cell? ⟨p, 0, none⟩ = some x' ∧ w'.cell? ⟨p, 1, none⟩ = some y' ∧ w'.frozen? ⟨p, 0, none⟩ = false ∧ w'.frozen? ⟨p, 1, none⟩ = false ∧ At2 a t g p x y x' y' w' := (h.2.2.2.2.2.2.kp k).allf
end
theorem At.putc {a w : World} {t : TypeId} {g p : Nat} {x y : Value} (h : w.cell? ⟨g, 0, none⟩ = some x ∧ w.cell? ⟨g, 1, none⟩ = some y ∧ At a g t #[x, y] w) (hn : g ≠ p) (hp : a.heap.size ≤ p) (u z : Value) :
    ((w.setCell ⟨p, 0, none⟩ u).setCell ⟨p, 1, none⟩ z).cell? ⟨g, 0, none⟩ = some x ∧ ((w.setCell ⟨p, 0, none⟩ u).setCell ⟨p, 1, none⟩ z).cell? ⟨g, 1, none⟩ = some y ∧ At a g t #[x, y] ((w.setCell ⟨p, 0, none⟩ u).setCell ⟨p, 1, none⟩ z) :=
  At.all ⟨kp_put h.2.2.kept hp, (h.2.2.blk.kp (Kp.set1 _ _ _ _) hn).kp (Kp.set1 _ _ _ _) hn⟩
theorem At2.at1 {a w : World} {t : TypeId} {g p : Nat} {x y x' y' : Value} (h : At2 a t g p x y x' y' w) : w.cell? ⟨g, 0, none⟩ = some x ∧ w.cell? ⟨g, 1, none⟩ = some y ∧ At a g t #[x, y] w := At.all ⟨h.kept, h.one⟩
theorem At2.putc {a w : World} {t : TypeId} {g p q : Nat} {x y x' y' : Value} (h : w.cell? ⟨g, 0, none⟩ = some x ∧ w.cell? ⟨g, 1, none⟩ = some y ∧ w.cell? ⟨p, 0, none⟩ = some x' ∧ w.cell? ⟨p, 1, none⟩ = some y' ∧ At2 a t g p x y x' y' w) (hg : g ≠ q) (hp : p ≠ q) (hq : a.heap.size ≤ q) (u z : Value) :
    ((w.setCell ⟨q, 0, none⟩ u).setCell ⟨q, 1, none⟩ z).cell? ⟨g, 0, none⟩ = some x ∧ ((w.setCell ⟨q, 0, none⟩ u).setCell ⟨q, 1, none⟩ z).cell? ⟨g, 1, none⟩ = some y ∧ ((w.setCell ⟨q, 0, none⟩ u).setCell ⟨q, 1, none⟩ z).cell? ⟨p, 0, none⟩ = some x' ∧ ((w.setCell ⟨q, 0, none⟩ u).setCell ⟨q, 1, none⟩ z).cell? ⟨p, 1, none⟩ = some y' ∧ At2 a t g p x y x' y' ((w.setCell ⟨q, 0, none⟩ u).setCell ⟨q, 1, none⟩ z) :=
  At2.all ⟨kp_put h.2.2.2.2.kept hq, (h.2.2.2.2.one.kp (Kp.set1 _ _ _ _) hg).kp (Kp.set1 _ _ _ _) hg, (h.2.2.2.2.two.kp (Kp.set1 _ _ _ _) hp).kp (Kp.set1 _ _ _ _) hp⟩
theorem At.put2 {a w : World} {t : TypeId} {g : Nat} {x y : Value} (h : At a g t #[x, y] w) (hg : a.heap.size ≤ g) (u z : Value) : At a g t #[u, z] ((w.setCell ⟨g, 0, none⟩ u).setCell ⟨g, 1, none⟩ z) :=
  ⟨kp_put h.kept hg, (h.blk.put 0 u).put 1 z⟩
theorem Blk.next {w : World} {g h : Nat} {t : TypeId} {cs : Array Value} (b : Blk w g t cs) (e : g = h) : Blk w h t cs := e ▸ b
theorem At2.start (w : World) (t : TypeId) (x y x' y' : Value) : At2 w t w.heap.size (w.heap.size + 1) x y x' y' ((w.alloc (.cells #[x, y] t)).alloc (.cells #[x', y'] t)) :=
  ⟨((Kp.refl No w).alloc _).alloc _, (Blk.new w t #[x, y]).kp0 ((Kp.refl No _).alloc _), (Blk.new (w.alloc (.cells #[x, y] t)) t #[x', y']).next (by simp)⟩

end Go.Proofs.Ytoeeighfjoplhaa
