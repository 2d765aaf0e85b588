/-
  Contract of kids: the groups below each one, falling by number, in a map.
-/
import Derived.Test.YtjmaingpiieioaaGreatZSort
import Derived.Test.YtjmaingpiieioaaGreatKMap
import Derived.Test.YtjmaingpiieioaaGreatStill
namespace Go.Proofs.YtjmaingpiieioaaGreat
open Go.RowKit Go.Shelf

/-- A row's place. -/
structure Rd where
  b : Option Nat
  n : Nat
  c : Nat
def rd0 : Rd := ⟨none, 0, 0⟩
def ra (b : Option Nat) : Option Addr := b.map fun k => ⟨k, 0, none⟩
def rsl (x : Rd) : Value := .slice (ra x.b) x.n x.c
def rnum : Option Nat → Int
  | none => -1
  | some k => (k : Int)
def renc (x : Rd) : DataW Unit := .agg [.lit (.int .i64 (rnum x.b)), .lit (.int .i64 (x.n : Int)), .lit (.int .i64 (x.c : Int))]
theorem rnum_inj {a b : Option Nat} (h : rnum a = rnum b) : a = b := by
  cases a <;> cases b <;> simp [rnum] at h ⊢ <;> omega
theorem rK : KM Tryz.prog 91 3 22 rsl renc rd0 where
  und := by kernel_rfl
  key := by kernel_rfl
  zero := fun w => by kernel_rfl
  inj := fun a b h => by
    unfold renc at h
    simp only [DataW.agg.injEq, List.cons.injEq, DataW.lit.injEq, Lit.int.injEq, and_true, true_and] at h
    obtain ⟨h2, h3, h4⟩ := h
    cases a
    cases b
    have h2 := rnum_inj h2
    simp only at h2 h3 h4
    simp only [Rd.mk.injEq]
    exact ⟨h2, by omega, by omega⟩
  evj := fun a b h => by
    unfold rsl ra at h
    simp only [Value.slice.injEq] at h
    obtain ⟨h2, h3, h4⟩ := h
    rcases a with ⟨b1, n, c⟩
    rcases b with ⟨b2, n', c'⟩
    cases b1 <;> cases b2 <;> simp_all

/-- The map at m holds a row for each number; their blocks are of base on, and unlike. -/
structure Km (w : World) (base m : Nat) (f : Int → Option Rd) (F : Int → List GS) (cnt : Nat) : Prop where
  mp : Mk Tryz.prog 3 rsl renc w m f cnt
  row : ∀ x a, f x = some a → Ow w base 51 6 gc (rsl a) (F x)
  non : ∀ x, f x = none → F x = []
  own : ∀ x a k, f x = some a → a.b = some k → k ≠ m
  dis : ∀ x y a a' k, f x = some a → f y = some a' → x ≠ y → a.b = some k → a'.b ≠ some k
theorem rsl_own (a : Rd) : (rsl a).ownBlock = a.b := by
  obtain ⟨b, n, c⟩ := a
  cases b <;> rfl
section
variable {w w' : World} {S P Q : Nat → Prop} {base m cnt : Nat} {f : Int → Option Rd} {F : Int → List GS} {x : Int}
/-- What the map, and its rows, lie in. -/
def Kin (m : Nat) (f : Int → Option Rd) (i : Nat) : Prop := i = m ∨ ∃ x a, f x = some a ∧ a.b = some i
theorem Km.kp (h : Km w base m f F cnt) (k : Kp S w w') (hs : ∀ i, Kin m f i → ¬ S i) : Km w' base m f F cnt :=
  ⟨h.mp.kp k (hs m (.inl rfl)), fun x a e => (h.row x a e).kpx k fun i hi => hs i (.inr ⟨x, a, e, by rw [← rsl_own]; exact hi⟩), h.non, h.own, h.dis⟩
theorem Km.kp0 (h : Km w base m f F cnt) (k : Kp No w w') : Km w' base m f F cnt := h.kp k fun _ _ h => h
theorem Km.lt (h : Km w base m f F cnt) {i : Nat} (hi : Kin m f i) : i < w.heap.size := by
  rcases hi with rfl | ⟨x, a, e, hk⟩
  · exact h.mp.lt
  · exact ((h.row x a e).blk (by rw [rsl_own]; exact hk)).2.1
/-- What is looked up, in this world and in each later one. -/
theorem Km.look (h : Km w base m f F cnt) (hx : I64 x) : ∃ a : Rd, Ow w base 51 6 gc (rsl a) (F x) ∧ (f x = some a ∨ f x = none ∧ a = rd0) ∧ ∀ W, Kp No w W → (Instr.lookup 91 (.map (some m)) (.int .i64 x) false).run Tryz.prog W = .ok (rsl a) W := by
  cases e : f x with
  | some a => exact ⟨a, h.row x a e, .inl rfl, fun W k => Mk.look_some rK (h.mp.kp0 k) hx e false⟩
  | none =>
    refine ⟨rd0, ?_, .inr ⟨rfl, rfl⟩, fun W k => Mk.look_none rK (h.mp.kp0 k) hx e false⟩
    rw [h.non x e]
    exact Ow.nil _ _ _ _ _
theorem Km.lower {base' : Nat} (h : Km w base m f F cnt) (hb : base' ≤ base) : Km w base' m f F cnt := ⟨h.mp, fun x a e => (h.row x a e).lower hb, h.non, h.own, h.dis⟩
/-- A row that has grown by one, laid in anew. -/
theorem Km.put (h : Km w base m f F cnt) {a : Rd} {g : GS} {F' : Int → List GS} (hF : ∀ y, F' y = if y = x then F x ++ [g] else F y) (ha : f x = some a ∨ f x = none ∧ a = rd0) {v' : Value} {W W2 : World} {b c n : Nat} (hv : v' = .slice (some ⟨b, 0, none⟩) n c) (o : Ow W base 51 6 gc v' (F x ++ [g])) (kW : Kp (fun i => a.b = some i) w W)
    (p : v'.ownBlock = a.b ∨ ∀ k, v'.ownBlock = some k → w.heap.size ≤ k) {cnt' : Nat} (mp2 : Mk Tryz.prog 3 rsl renc W2 m (fun k => if k = x then some ⟨some b, n, c⟩ else f k) cnt') (k2 : Kp (Only m) W W2) (hml : m < w.heap.size) :
    Km W2 base m (fun k => if k = x then some ⟨some b, n, c⟩ else f k) F' cnt' := by
  subst hv
  have hr : (rsl ⟨some b, n, c⟩ : Value) = .slice (some ⟨b, 0, none⟩) n c := rfl
  have hold : ∀ y a', f y = some a' → y ≠ x → ∀ k, a'.b = some k → a.b ≠ some k := fun y a' hy hyx k hk => by
    rcases ha with ha | ⟨_, rfl⟩
    · exact fun e => h.dis y x a' a k hy ha hyx hk e
    · exact fun e => by cases e
  have hbm : b ≠ m := by
    rcases p with p | p
    · rcases ha with ha | ⟨_, rfl⟩
      · exact h.own x a b ha p.symm
      · cases p
    · have := p b rfl
      omega
  have hbo : ∀ y a', f y = some a' → y ≠ x → a'.b ≠ some b := fun y a' hy hyx e => by
    rcases p with p | p
    · exact hold y a' hy hyx b e p.symm
    · have h1 := p b rfl
      have h2 := ((h.row y a' hy).blk (by rw [rsl_own]; exact e)).2.1
      omega
  refine ⟨mp2, fun y a' hy => ?_, fun y hy => ?_, fun y a' k hy hk => ?_, fun y z a1 a2 k hy hz hyz hk => ?_⟩
  · rw [hF y]
    by_cases e : y = x
    · subst e
      simp only [if_true] at hy ⊢
      cases hy
      rw [hr]
      exact o.kpx k2 fun i hi e => by
        cases hi
        exact hbm e
    · simp only [e, if_false] at hy ⊢
      exact ((h.row y a' hy).kpx kW fun i hi e2 => hold y a' hy e i (by rw [← rsl_own]; exact hi) e2).kpx k2 fun i hi e2 => h.own y a' i hy (by rw [← rsl_own]; exact hi) e2
  · rw [hF y]
    by_cases e : y = x
    · simp [e] at hy
    · simp only [e, if_false] at hy ⊢
      exact h.non y hy
  · by_cases e : y = x
    · simp only [e, if_true] at hy
      cases hy
      cases hk
      exact hbm
    · simp only [e, if_false] at hy
      exact h.own y a' k hy hk
  · by_cases e : y = x
    · simp only [e, if_true] at hy
      cases hy
      cases hk
      have hzx : z ≠ x := fun e2 => hyz (e.trans e2.symm)
      simp only [hzx, if_false] at hz
      exact hbo z a2 hz hzx
    · simp only [e, if_false] at hy
      by_cases e2 : z = x
      · simp only [e2, if_true] at hz
        cases hz
        intro e3
        cases e3
        exact hbo y a1 hy e hk
      · simp only [e2, if_false] at hz
        exact h.dis y z a1 a2 k hy hz hyz hk
end
/-- The groups below x among those that were seen. -/
def below (l : List GS) (x : Int) : List GS := l.filter fun g => decide (g.par = x)
theorem below_snoc (l : List GS) (g : GS) (y : Int) : below (l ++ [g]) y = if y = g.par then below l g.par ++ [g] else below l y := by
  unfold below
  rw [List.filter_append]
  by_cases e : y = g.par
  · rw [if_pos e, e]
    simp
  · rw [if_neg e]
    simp [Ne.symm e]
end Go.Proofs.YtjmaingpiieioaaGreat
