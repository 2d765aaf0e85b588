/-
  A tree of groups in memory: a map of groups, each with its row of kids in a block of its own; contracts of New, Has, Parent, Kids.
-/
import Derived.Test.YtggmdgdgljlddaaNRow
import Derived.Test.YtggmdgdgljlddaaKMap
import Derived.Test.YtggmdgdgljlddaaTail
import Derived.Test.YtggmdgdgljlddaaArgs
import Derived.Test.YtggmdgdgljlddaaChecked
namespace Go.Proofs.Ytggmdgdgljlddaa
open Go.RowKit

/-- A group as it lies in the map. -/
structure Gr where
  p : Int
  b : Option Nat
  n : Nat
  c : Nat
def gr0 : Gr := ⟨0, none, 0, 0⟩
def gev (x : Gr) : Value := .agg #[.int .i64 x.p, gsl x.b x.n x.c]
def bnum : Option Nat → Int
  | none => -1
  | some k => (k : Int)
def genc (x : Gr) : DataW Unit := .agg [.lit (.int .i64 x.p), .lit (.int .i64 (bnum x.b)), .lit (.int .i64 (x.n : Int)), .lit (.int .i64 (x.c : Int))]
theorem bnum_inj {a b : Option Nat} (h : bnum a = bnum b) : a = b := by
  cases a <;> cases b <;> simp [bnum] at h ⊢ <;> omega
theorem gK : KM Try.prog 44 3 43 gev genc gr0 where
  und := by kernel_rfl
  key := by kernel_rfl
  zero := fun w => by kernel_rfl
  inj := fun a b h => by
    unfold genc at h
    simp only [DataW.agg.injEq, List.cons.injEq, DataW.lit.injEq, Lit.int.injEq, and_true, true_and] at h
    obtain ⟨h1, h2, h3, h4⟩ := h
    cases a
    cases b
    have h2 := bnum_inj h2
    simp only at h1 h2 h3 h4
    simp only [Gr.mk.injEq]
    exact ⟨h1, h2, by omega, by omega⟩
  evj := fun a b h => by
    unfold gev gsl ga at h
    simp only [Value.agg.injEq, Array.mk.injEq, List.cons.injEq, Value.int.injEq, Value.slice.injEq, true_and, and_true] at h
    obtain ⟨h1, h2, h3, h4⟩ := h
    rcases a with ⟨p, b1, n, c⟩
    rcases b with ⟨p', b2, n', c'⟩
    cases b1 <;> cases b2 <;> simp_all

@[go_sem] theorem field_kids (x : Value) (A : Option Addr) (n c : Nat) (w : World) : (Instr.field 43 (.agg #[x, .slice A n c]) 1).run Try.prog w = .ok (.slice A n c) w := by kernel_rfl

/-- What the map holds, for a tree. -/
structure Fo (w : World) (S : Nat → Prop) (g m : Nat) (f : Int → Option Gr) (T : Tre) : Prop where
  same : ∀ x, (f x).isSome = (T x).isSome
  row : ∀ x a, f x = some a → ∃ q, T x = some q ∧ a.p = q.1 ∧ RowI w a.b a.n a.c q.2
  own : ∀ x a k, f x = some a → a.b = some k → S k ∧ k ≠ g ∧ k ≠ m
  dis : ∀ x y a a' k, f x = some a → f y = some a' → x ≠ y → a.b = some k → a'.b ≠ some k
/-- The tree at g, its map at m, all its blocks in S. -/
structure Kf (w : World) (S : Nat → Prop) (g m : Nat) (f : Int → Option Gr) (T : Tre) (cnt : Nat) : Prop where
  hd : Blk w g 46 #[.map (some m)]
  mp : Mk Try.prog 3 gev genc w m f cnt
  fo : Fo w S g m f T
  sg : S g
  sm : S m
  gm : g ≠ m
def Kn (w : World) (S : Nat → Prop) (g m : Nat) (T : Tre) (cnt : Nat) : Prop := ∃ f, Kf w S g m f T cnt
section
variable {w w' : World} {S S' Q : Nat → Prop} {g m cnt : Nat} {f : Int → Option Gr} {T : Tre} {x : Int}
theorem Fo.kp (h : Fo w S g m f T) (k : Kp Q w w') (hs : ∀ i, S i → ¬ Q i) : Fo w' S g m f T :=
  ⟨h.same, fun x a e => by
    obtain ⟨q, h1, h2, h3⟩ := h.row x a e
    exact ⟨q, h1, h2, h3.kp k fun i hi => hs i (h.own x a i e hi).1⟩, h.own, h.dis⟩
theorem Kf.kp (h : Kf w S g m f T cnt) (k : Kp Q w w') (hs : ∀ i, S i → ¬ Q i) : Kf w' S g m f T cnt :=
  ⟨h.hd.kp k (hs g h.sg), h.mp.kp k (hs m h.sm), h.fo.kp k hs, h.sg, h.sm, h.gm⟩
theorem Kf.kp0 (h : Kf w S g m f T cnt) (k : Kp No w w') : Kf w' S g m f T cnt := h.kp k fun _ _ h => h
theorem Kf.mono (h : Kf w S g m f T cnt) (hs : ∀ i, S i → S' i) : Kf w S' g m f T cnt :=
  ⟨h.hd, h.mp, ⟨h.fo.same, h.fo.row, fun x a k e hk => ⟨hs k (h.fo.own x a k e hk).1, (h.fo.own x a k e hk).2⟩, h.fo.dis⟩, hs g h.sg, hs m h.sm, h.gm⟩
theorem Kf.narrow (h : Kf w S g m f T cnt) : Kf w (fun i => S i ∧ i < w.heap.size) g m f T cnt :=
  ⟨h.hd, h.mp, ⟨h.fo.same, h.fo.row, fun x a k e hk => by
    obtain ⟨q, _, _, hr⟩ := h.fo.row x a e
    have hlt : k < w.heap.size := by rw [hk] at hr; exact hr.lt
    exact ⟨⟨(h.fo.own x a k e hk).1, hlt⟩, (h.fo.own x a k e hk).2⟩, h.fo.dis⟩, ⟨h.sg, h.hd.lt⟩, ⟨h.sm, h.mp.lt⟩, h.gm⟩
theorem Kn.kp (h : Kn w S g m T cnt) (k : Kp Q w w') (hs : ∀ i, S i → ¬ Q i) : Kn w' S g m T cnt := by obtain ⟨f, h⟩ := h; exact ⟨f, h.kp k hs⟩
theorem Kn.kp0 (h : Kn w S g m T cnt) (k : Kp No w w') : Kn w' S g m T cnt := h.kp k fun _ _ h => h
theorem Kn.mono (h : Kn w S g m T cnt) (hs : ∀ i, S i → S' i) : Kn w S' g m T cnt := by obtain ⟨f, h⟩ := h; exact ⟨f, h.mono hs⟩
theorem Kn.narrow (h : Kn w S g m T cnt) : Kn w (fun i => S i ∧ i < w.heap.size) g m T cnt := by obtain ⟨f, h⟩ := h; exact ⟨f, h.narrow⟩
theorem Kn.lt (h : Kn w S g m T cnt) : g < w.heap.size ∧ m < w.heap.size := by obtain ⟨f, h⟩ := h; exact ⟨h.hd.lt, h.mp.lt⟩
/-- What is looked up. -/
theorem Kf.look (h : Kf w S g m f T cnt) (hx : I64 x) (c : Bool) : ∃ a : Gr, a.p = (if (T x).isSome then par T x else 0) ∧ RowI w a.b a.n a.c (kidsT T x) ∧ (f x = some a ∨ f x = none ∧ a = gr0) ∧
    (Instr.lookup 44 (.map (some m)) (.int .i64 x) c).run Try.prog w = .ok (if c then .tuple #[gev a, .bool (T x).isSome] else gev a) w := by
  have hs := h.fo.same x
  cases hf : f x with
  | none =>
    rw [hf] at hs
    have hT : T x = none := by
      cases e : T x with
      | none => rfl
      | some q => rw [e] at hs; cases hs
    refine ⟨gr0, by rw [hT]; rfl, by rw [kids_none hT]; exact RowI.nil w, .inr ⟨rfl, rfl⟩, ?_⟩
    rw [Mk.look_none gK h.mp hx hf c, hT]
    rfl
  | some a =>
    obtain ⟨q, h1, h2, h3⟩ := h.fo.row x a hf
    refine ⟨a, by rw [h1, par_some h1]; exact h2, by rw [kids_some h1]; exact h3, .inl rfl, ?_⟩
    rw [Mk.look_some gK h.mp hx hf c, h1]
    rfl

theorem Kf.cell (h : Kf w S g m f T cnt) : w.cell? ⟨g, 0, none⟩ = some (.map (some m)) := h.hd.cell 0
theorem has_any (h : Kn w S g m T cnt) (hx : I64 x) : Calls Try.prog 13 #[.pointer (some ⟨g, 0, none⟩), .int .i64 x] w fun e w' => e = .returned (.bool (T x).isSome) ∧ Kp No w w' := by
  obtain ⟨f, h⟩ := h
  have c0 := h.cell
  obtain ⟨a, hp, hr, hf, hl⟩ := h.look hx true
  obtain ⟨p, b, n, c⟩ := a
  unfold gev gsl at hl
  simp only [if_true] at hl
  clear hp hf
  obtain ⟨q, hq⟩ : ∃ q, (T x).isSome = q := ⟨_, rfl⟩
  rw [hq] at hl ⊢
  clear h hr hq
  go_enter Try.func13, Try.ntmps13
  go_wp2
  go_ret
  exact ⟨rfl, (Kp.refl No w).alloc _⟩
theorem parent_any (h : Kn w S g m T cnt) (hx : I64 x) : Calls Try.prog 15 #[.pointer (some ⟨g, 0, none⟩), .int .i64 x] w fun e w' => e = .returned (.int .i64 (par T x)) ∧ Kp No w w' := by
  obtain ⟨f, h⟩ := h
  have c0 := h.cell
  obtain ⟨a, hp, hr, hf, hl⟩ := h.look hx true
  obtain ⟨p, b, n, c⟩ := a
  unfold gev gsl at hl
  simp only [if_true] at hl
  simp only at hp
  clear hf
  cases hq : T x with
  | none =>
    rw [par_none hq]
    rw [hq] at hl
    simp only [Option.isSome_none] at hl
    clear h hr hq hp
    go_enter Try.func15, Try.ntmps15
    go_wp2
    go_ret
    exact ⟨rfl, (Kp.refl No w).alloc _⟩
  | some q =>
    rw [hq] at hl hp
    simp only [Option.isSome_some, if_true] at hl hp
    obtain ⟨P, hP⟩ : ∃ P, par T x = P := ⟨_, rfl⟩
    rw [hP] at hp ⊢
    subst hp
    clear h hr hq hP
    go_enter Try.func15, Try.ntmps15
    go_wp2
    go_ret
    exact ⟨rfl, (Kp.refl No w).alloc _⟩
theorem kids_any (h : Kn w S g m T cnt) (hx : I64 x) (hl : (kidsT T x).length ≤ 100000000) : Calls Try.prog 19 #[.pointer (some ⟨g, 0, none⟩), .int .i64 x] w fun e w' => ∃ b n c, e = .returned (gsl b n c) ∧ RowI w' b n c (kidsT T x) ∧ (∀ k, b = some k → w.heap.size ≤ k) ∧ Kp No w w' := by
  obtain ⟨f, h⟩ := h
  have c0 := h.cell
  obtain ⟨a, hp, hr, hf, hlk⟩ := h.look hx false
  obtain ⟨p, b, n, c⟩ := a
  have HR := hid hr
  unfold gev gsl at hlk
  simp only [Bool.false_eq_true, if_false] at hlk
  clear h hr hp hf
  go_enter Try.func19, Try.ntmps19
  go_wp2_with (first
    | (go_at_call 28
       refine (clone_row HR.out hl).mono ?_
       rintro e w1 ⟨b', c', rfl, r1, hb, k1⟩
       have R1 := hid (And.intro r1 (And.intro hb k1))
       clear r1 hb k1
       unfold gsl))
  go_ret
  exact ⟨_, _, _, rfl, R1.out.1, R1.out.2.1, R1.out.2.2⟩
end
end Go.Proofs.Ytggmdgdgljlddaa
