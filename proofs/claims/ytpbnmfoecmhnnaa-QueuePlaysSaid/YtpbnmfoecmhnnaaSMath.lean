/-
  Trees whose nodes lie in an array, plain mathematics: items and their order; nodes; trees of places, what the nodes say of them; ways down a tree; balance. Nothing of a program is named here.
-/
import Derived.Below
namespace Go.Proofs.Ytpbnmfoecmhnnaa

structure It where
  key : Int
  id : Int
instance : DecidableEq It := fun a b => if h : a.key = b.key ∧ a.id = b.id then isTrue (by cases a; cases b; simp at h; simp [h]) else isFalse (by rintro rfl; exact h ⟨rfl, rfl⟩)
/-- Chapter 4's order. -/
def ltB (a b : It) : Bool := decide (a.key < b.key) || (decide (a.key = b.key) && decide (a.id < b.id))
theorem ltB_iff {a b : It} : ltB a b = true ↔ a.key < b.key ∨ (a.key = b.key ∧ a.id < b.id) := by simp [ltB]
theorem ltB_irr (a : It) : ltB a a = false := by simp [ltB]
theorem ltB_trans {a b c : It} (h : ltB a b = true) (k : ltB b c = true) : ltB a c = true := by rw [ltB_iff] at *; omega
theorem ltB_asymm {a b : It} (h : ltB a b = true) : ltB b a = false := by
  cases k : ltB b a with
  | false => rfl
  | true => rw [ltB_iff] at *; omega
theorem ltB_ne {a b : It} (h : ltB a b = true) : a ≠ b := by
  rintro rfl
  rw [ltB_irr] at h
  cases h
theorem ltB_tri (a b : It) : ltB a b = true ∨ a = b ∨ ltB b a = true := by
  cases a with
  | mk k i => cases b with
    | mk k' i' =>
      simp only [ltB_iff, It.mk.injEq]
      omega

structure Nd where
  it : It
  lo : Nat
  hi : Nat
  many : Nat
  deep : Nat

inductive BT where
  | nil
  | node (p : Nat) (l r : BT)

def BT.root : BT → Nat
  | .nil => 0
  | .node p _ _ => p
/-- The places, in order. -/
def BT.pls : BT → List Nat
  | .nil => []
  | .node p l r => l.pls ++ p :: r.pls
def BT.sz (t : BT) : Nat := t.pls.length
def BT.ht : BT → Nat
  | .nil => 0
  | .node _ l r => max l.ht r.ht + 1
theorem BT.sz_node (p : Nat) (l r : BT) : (BT.node p l r).sz = l.sz + 1 + r.sz := by simp [BT.sz, BT.pls]; omega
theorem BT.ht_le (t : BT) : t.ht ≤ t.sz := by
  induction t with
  | nil => simp [BT.ht]
  | node p l r hl hr => rw [BT.sz_node]; simp only [BT.ht]; omega

def upd (nd : Nat → Nd) (p : Nat) (x : Nd) : Nat → Nd := fun q => if q = p then x else nd q
theorem upd_same (nd : Nat → Nd) (p : Nat) (x : Nd) : upd nd p x p = x := by simp [upd]
theorem upd_ne (nd : Nat → Nd) {p q : Nat} (x : Nd) (h : q ≠ p) : upd nd p x q = nd q := by simp [upd, h]

/-- What the nodes say of a tree is so. -/
def Tr (nd : Nat → Nd) : BT → Prop
  | .nil => True
  | .node p l r => (nd p).lo = l.root ∧ (nd p).hi = r.root ∧ (nd p).many = l.sz + 1 + r.sz ∧ (nd p).deep = max l.ht r.ht + 1 ∧ Tr nd l ∧ Tr nd r
/-- Two nodes have all but the item in common. -/
def Shp (x y : Nd) : Prop := x.lo = y.lo ∧ x.hi = y.hi ∧ x.many = y.many ∧ x.deep = y.deep
theorem Tr.ext {nd nd' : Nat → Nd} : ∀ {t : BT}, Tr nd t → (∀ p ∈ t.pls, Shp (nd p) (nd' p)) → Tr nd' t
  | .nil, _, _ => trivial
  | .node p l r, h, e => by
    obtain ⟨h1, h2, h3, h4, hl, hr⟩ := h
    obtain ⟨e1, e2, e3, e4⟩ := e p (by simp [BT.pls])
    exact ⟨e1 ▸ h1, e2 ▸ h2, e3 ▸ h3, e4 ▸ h4, hl.ext fun q hq => e q (by simp [BT.pls, hq]), hr.ext fun q hq => e q (by simp [BT.pls, hq])⟩
theorem Shp.refl (x : Nd) : Shp x x := ⟨rfl, rfl, rfl, rfl⟩
theorem Tr.upd {nd : Nat → Nd} {t : BT} {p : Nat} (h : Tr nd t) (hp : p ∉ t.pls) (x : Nd) : Tr (Go.Proofs.Ytpbnmfoecmhnnaa.upd nd p x) t :=
  h.ext fun q hq => by rw [upd_ne nd x (by rintro rfl; exact hp hq)]; exact Shp.refl _

/-- Places of an array of n. -/
def In (n : Nat) (l : List Nat) : Prop := ∀ p ∈ l, 1 ≤ p ∧ p ≤ n
theorem In.mono {n m : Nat} {l : List Nat} (h : In n l) (hm : n ≤ m) : In m l := fun p hp => ⟨(h p hp).1, Nat.le_trans (h p hp).2 hm⟩
theorem sub_len {l m : List Nat} (hn : l.Nodup) (hs : ∀ x ∈ l, x ∈ m) : l.length ≤ m.length := by
  induction l generalizing m with
  | nil => simp
  | cons x t ih =>
    rw [List.nodup_cons] at hn
    have hx := hs x (by simp)
    have := ih (m := m.erase x) hn.2 fun y hy => (List.mem_erase_of_ne (by rintro rfl; exact hn.1 hy)).2 (hs y (by simp [hy]))
    rw [List.length_erase_of_mem hx] at this
    have : 0 < m.length := List.length_pos_of_mem hx
    simp only [List.length_cons]
    omega
theorem In.len {n : Nat} {l : List Nat} (h : In n l) (hn : l.Nodup) : l.length ≤ n := by
  have := sub_len (m := List.range' 1 n) hn fun x hx => by rw [List.mem_range'_1]; have := h x hx; omega
  simpa using this
theorem In.full {n : Nat} {l : List Nat} (h : In n l) (hn : l.Nodup) (hl : l.length = n) {p : Nat} (h1 : 1 ≤ p) (h2 : p ≤ n) : p ∈ l := by
  refine Decidable.byContradiction fun hp => ?_
  have := In.len (n := n) (l := p :: l) (fun q hq => by
    rcases List.mem_cons.1 hq with rfl | hq
    · exact ⟨h1, h2⟩
    · exact h q hq) (List.nodup_cons.2 ⟨hp, hn⟩)
  simp at this
  omega

theorem BT.in_l {p q : Nat} {l r : BT} (h : q ∈ l.pls) : q ∈ (BT.node p l r).pls := by simp [BT.pls, h]
theorem BT.in_r {p q : Nat} {l r : BT} (h : q ∈ r.pls) : q ∈ (BT.node p l r).pls := by simp [BT.pls, h]
theorem BT.in_p {p : Nat} {l r : BT} : p ∈ (BT.node p l r).pls := by simp [BT.pls]
theorem BT.in_iff {p q : Nat} {l r : BT} : q ∈ (BT.node p l r).pls ↔ q ∈ l.pls ∨ q = p ∨ q ∈ r.pls := by simp [BT.pls]
theorem In.l {n p : Nat} {l r : BT} (h : In n (BT.node p l r).pls) : In n l.pls := fun q hq => h q (BT.in_l hq)
theorem In.r {n p : Nat} {l r : BT} (h : In n (BT.node p l r).pls) : In n r.pls := fun q hq => h q (BT.in_r hq)
theorem In.p {n p : Nat} {l r : BT} (h : In n (BT.node p l r).pls) : 1 ≤ p ∧ p ≤ n := h p BT.in_p
theorem In.mk {n p : Nat} {l r : BT} (h1 : In n l.pls) (h2 : 1 ≤ p ∧ p ≤ n) (h3 : In n r.pls) : In n (BT.node p l r).pls := fun q hq => by
  rcases BT.in_iff.1 hq with h | rfl | h
  · exact h1 q h
  · exact h2
  · exact h3 q h
structure Nod (p : Nat) (l r : BT) : Prop where
  pl : p ∉ l.pls
  pr : p ∉ r.pls
  lr : ∀ q ∈ l.pls, q ∉ r.pls
  nl : l.pls.Nodup
  nr : r.pls.Nodup
theorem nod_iff {p : Nat} {l r : BT} : (BT.node p l r).pls.Nodup ↔ Nod p l r := by
  simp only [BT.pls, List.nodup_append, List.nodup_cons, List.mem_cons]
  constructor
  · rintro ⟨h1, ⟨h2, h3⟩, h4⟩
    exact ⟨fun h => h4 p h p (.inl rfl) rfl, h2, fun q hq hr => h4 q hq q (.inr hr) rfl, h1, h3⟩
  · intro h
    refine ⟨h.nl, ⟨h.pr, h.nr⟩, fun a ha b hb => ?_⟩
    rcases hb with rfl | hb
    · rintro rfl; exact h.pl ha
    · rintro rfl; exact h.lr a ha hb
theorem In.szle {n p : Nat} {l r : BT} (h : In n (BT.node p l r).pls) (hn : (BT.node p l r).pls.Nodup) : l.sz + 1 + r.sz ≤ n := by
  have := h.len hn
  rwa [show (BT.node p l r).pls.length = (BT.node p l r).sz from rfl, BT.sz_node] at this

/-- Neither side is deeper than the other one by more than one. -/
def Bal : BT → Prop
  | .nil => True
  | .node _ l r => l.ht ≤ r.ht + 1 ∧ r.ht ≤ l.ht + 1 ∧ Bal l ∧ Bal r

/-- A step down: the place, the side, and what lies on the other one. -/
structure Fr where
  p : Nat
  s : Nat
  o : BT
def plug1 (f : Fr) (t : BT) : BT := if f.s = 0 then .node f.p t f.o else .node f.p f.o t
/-- The tree, of what lies at a way's end: the last step first. -/
def plug : List Fr → BT → BT
  | [], t => t
  | f :: fs, t => plug fs (plug1 f t)
def lc : List Fr → List Nat
  | [] => []
  | f :: fs => lc fs ++ (if f.s = 0 then [] else f.o.pls ++ [f.p])
def rc : List Fr → List Nat
  | [] => []
  | f :: fs => (if f.s = 0 then f.p :: f.o.pls else []) ++ rc fs
theorem plug_pls (fs : List Fr) (t : BT) : (plug fs t).pls = lc fs ++ (t.pls ++ rc fs) := by
  induction fs generalizing t with
  | nil => simp [plug, lc, rc]
  | cons f fs ih =>
    simp only [plug, ih, lc, rc, plug1]
    by_cases h : f.s = 0 <;> simp [h, BT.pls]
theorem plug_app (fs gs : List Fr) (t : BT) : plug (fs ++ gs) t = plug gs (plug fs t) := by
  induction fs generalizing t with
  | nil => rfl
  | cons f fs ih => simp [plug, ih]
theorem lc_app (fs gs : List Fr) : lc (fs ++ gs) = lc gs ++ lc fs := by
  induction fs with
  | nil => simp [lc]
  | cons f fs ih => simp [lc, ih]
theorem rc_app (fs gs : List Fr) : rc (fs ++ gs) = rc fs ++ rc gs := by
  induction fs with
  | nil => simp [rc]
  | cons f fs ih => simp [rc, ih]
/-- What the nodes say of the sides that lie off a way is so. -/
def TrF (nd : Nat → Nd) : List Fr → Prop
  | [] => True
  | f :: fs => (f.s = 0 ∧ (nd f.p).hi = f.o.root ∨ f.s = 1 ∧ (nd f.p).lo = f.o.root) ∧ Tr nd f.o ∧ TrF nd fs
def Sds : List Fr → Prop
  | [] => True
  | f :: fs => (f.s = 0 ∨ f.s = 1) ∧ Sds fs
theorem Tr.plug1 {nd : Nat → Nd} {f : Fr} {t : BT} (hs : f.s = 0 ∨ f.s = 1) (h : Tr nd (plug1 f t)) : Tr nd t ∧ (f.s = 0 ∧ (nd f.p).hi = f.o.root ∨ f.s = 1 ∧ (nd f.p).lo = f.o.root) ∧ Tr nd f.o := by
  unfold Go.Proofs.Ytpbnmfoecmhnnaa.plug1 at h
  rcases hs with hs | hs
  · rw [if_pos hs] at h
    obtain ⟨h1, h2, h3, h4, hl, hr⟩ := h
    exact ⟨hl, .inl ⟨hs, h2⟩, hr⟩
  · rw [if_neg (by omega)] at h
    obtain ⟨h1, h2, h3, h4, hl, hr⟩ := h
    exact ⟨hr, .inr ⟨hs, h1⟩, hl⟩
theorem Tr.plug {nd : Nat → Nd} {fs : List Fr} {t : BT} (hs : Sds fs) (h : Tr nd (plug fs t)) : Tr nd t ∧ TrF nd fs := by
  induction fs generalizing t with
  | nil => exact ⟨h, trivial⟩
  | cons f fs ih =>
    obtain ⟨h1, h2⟩ := ih hs.2 h
    obtain ⟨h3, h4, h5⟩ := h1.plug1 hs.1
    exact ⟨h3, h4, h5, h2⟩
def fpl : List Fr → List Nat
  | [] => []
  | f :: fs => f.p :: (f.o.pls ++ fpl fs)
theorem mem_fpl {fs : List Fr} {q : Nat} : q ∈ fpl fs ↔ q ∈ lc fs ∨ q ∈ rc fs := by
  induction fs with
  | nil => simp [fpl, lc, rc]
  | cons f fs ih =>
    simp only [fpl, lc, rc, List.mem_cons, List.mem_append, ih]
    by_cases h : f.s = 0 <;> simp [h] <;> grind
theorem TrF.ext {nd nd' : Nat → Nd} {fs : List Fr} (h : TrF nd fs) (e : ∀ p ∈ fpl fs, Shp (nd p) (nd' p)) : TrF nd' fs := by
  induction fs with
  | nil => trivial
  | cons f fs ih =>
    obtain ⟨h1, h2, h3⟩ := h
    obtain ⟨e1, e2, e3, e4⟩ := e f.p (by simp [fpl])
    exact ⟨by rw [← e1, ← e2]; exact h1, h2.ext fun q hq => e q (by simp [fpl, hq]), ih h3 fun q hq => e q (by simp [fpl, hq])⟩

/-- Balance along a way, at whose end a tree of a height lay. -/
def BalF : List Fr → Nat → Prop
  | [], _ => True
  | f :: fs, h => Bal f.o ∧ h ≤ f.o.ht + 1 ∧ f.o.ht ≤ h + 1 ∧ BalF fs (max h f.o.ht + 1)
theorem Bal.plug {fs : List Fr} {t : BT} (h : Bal (plug fs t)) : Bal t ∧ BalF fs t.ht := by
  induction fs generalizing t with
  | nil => exact ⟨h, trivial⟩
  | cons f fs ih =>
    obtain ⟨h1, h2⟩ := ih h
    unfold plug1 at h1 h2
    split at h1
    · rename_i hs
      rw [if_pos hs] at h2
      obtain ⟨a, b, c, d⟩ := h1
      exact ⟨c, d, a, b, h2⟩
    · rename_i hs
      rw [if_neg hs] at h2
      obtain ⟨a, b, c, d⟩ := h1
      refine ⟨d, c, b, a, ?_⟩
      rw [Nat.max_comm]
      exact h2
/-- Two heights differ by one at most. -/
def Near (a b : Nat) : Prop := a ≤ b + 1 ∧ b ≤ a + 1

/-- What level leaves of a tree with two sides. -/
structure Lev (l r t : BT) : Prop where
  bal : Bal l → Bal r → l.ht ≤ r.ht + 2 → r.ht ≤ l.ht + 2 → Bal t
  low : Bal l → Bal r → l.ht ≤ r.ht + 2 → r.ht ≤ l.ht + 2 → max l.ht r.ht ≤ t.ht ∧ t.ht ≤ max l.ht r.ht + 1
  flat : l.ht ≤ r.ht + 1 → r.ht ≤ l.ht + 1 → t.ht = max l.ht r.ht + 1
theorem lev_no (p : Nat) (l r : BT) (h1 : l.ht ≤ r.ht + 1) (h2 : r.ht ≤ l.ht + 1) : Lev l r (.node p l r) :=
  ⟨fun a b _ _ => ⟨h1, h2, a, b⟩, fun _ _ _ _ => by simp only [BT.ht]; omega, fun _ _ => rfl⟩
theorem lev_l1 (p q : Nat) (a b r : BT) (h1 : r.ht + 1 < (BT.node q a b).ht) (h2 : b.ht ≤ a.ht) : Lev (.node q a b) r (.node q a (.node p b r)) := by
  refine ⟨fun hl hr k1 k2 => ?_, fun hl hr k1 k2 => ?_, fun k1 _ => by omega⟩
  · obtain ⟨x1, x2, x3, x4⟩ := hl
    simp only [BT.ht] at *
    refine ⟨?_, ?_, x3, ?_, ?_, x4, hr⟩ <;> (try simp only [BT.ht]) <;> omega
  · obtain ⟨x1, x2, x3, x4⟩ := hl
    simp only [BT.ht] at *
    omega
theorem lev_l2 (p q m : Nat) (a x y r : BT) (h1 : r.ht + 1 < (BT.node q a (.node m x y)).ht) (h2 : a.ht < (BT.node m x y).ht) : Lev (.node q a (.node m x y)) r (.node m (.node q a x) (.node p y r)) := by
  refine ⟨fun hl hr k1 k2 => ?_, fun hl hr k1 k2 => ?_, fun k1 _ => by omega⟩
  · obtain ⟨x1, x2, x3, x4, x5, x6, x7⟩ := hl
    simp only [BT.ht] at *
    refine ⟨?_, ?_, ⟨?_, ?_, x3, x6⟩, ⟨?_, ?_, x7, hr⟩⟩ <;> (try simp only [BT.ht]) <;> omega
  · obtain ⟨x1, x2, x3, x4, x5, x6, x7⟩ := hl
    simp only [BT.ht] at *
    omega
theorem lev_r1 (p q : Nat) (a b l : BT) (h1 : l.ht + 1 < (BT.node q b a).ht) (h2 : b.ht ≤ a.ht) : Lev l (.node q b a) (.node q (.node p l b) a) := by
  refine ⟨fun hl hr k1 k2 => ?_, fun hl hr k1 k2 => ?_, fun _ k1 => by omega⟩
  · obtain ⟨x1, x2, x3, x4⟩ := hr
    simp only [BT.ht] at *
    refine ⟨?_, ?_, ⟨?_, ?_, hl, x3⟩, x4⟩ <;> (try simp only [BT.ht]) <;> omega
  · obtain ⟨x1, x2, x3, x4⟩ := hr
    simp only [BT.ht] at *
    omega
theorem lev_r2 (p q m : Nat) (a x y l : BT) (h1 : l.ht + 1 < (BT.node q (.node m y x) a).ht) (h2 : a.ht < (BT.node m y x).ht) : Lev l (.node q (.node m y x) a) (.node m (.node p l y) (.node q x a)) := by
  refine ⟨fun hl hr k1 k2 => ?_, fun hl hr k1 k2 => ?_, fun _ k1 => by omega⟩
  · obtain ⟨x1, x2, ⟨x5, x6, x7, x8⟩, x4⟩ := hr
    simp only [BT.ht] at *
    refine ⟨?_, ?_, ⟨?_, ?_, hl, x7⟩, ⟨?_, ?_, x8, x4⟩⟩ <;> (try simp only [BT.ht]) <;> omega
  · obtain ⟨x1, x2, ⟨x5, x6, x7, x8⟩, x4⟩ := hr
    simp only [BT.ht] at *
    omega
/-- A step up, with what level leaves. -/
theorem Lev.up {f : Fr} {t t' l r : BT} {ho : Nat} (hs : f.s = 0 ∧ l = t ∧ r = f.o ∨ f.s = 1 ∧ l = f.o ∧ r = t) (h : Lev l r t') (hb : Bal t) (ho1 : Bal f.o) (ho2 : ho ≤ f.o.ht + 1) (ho3 : f.o.ht ≤ ho + 1) (hn : Near ho t.ht) :
    Bal t' ∧ Near (max ho f.o.ht + 1) t'.ht := by
  unfold Near at *
  rcases hs with ⟨_, rfl, rfl⟩ | ⟨_, rfl, rfl⟩
  · have h1 := h.bal hb ho1 (by omega) (by omega)
    have h2 := h.low hb ho1 (by omega) (by omega)
    have h3 := h.flat
    refine ⟨h1, ?_⟩
    by_cases c1 : l.ht ≤ f.o.ht + 1
    · by_cases c2 : f.o.ht ≤ l.ht + 1
      · have := h3 c1 c2; omega
      · omega
    · omega
  · have h1 := h.bal ho1 hb (by omega) (by omega)
    have h2 := h.low ho1 hb (by omega) (by omega)
    have h3 := h.flat
    refine ⟨h1, ?_⟩
    by_cases c1 : f.o.ht ≤ r.ht + 1
    · by_cases c2 : r.ht ≤ f.o.ht + 1
      · have := h3 c1 c2; omega
      · omega
    · omega

/-- A tree has so many items at least, and at most, by its height. -/
theorem Bal.low {t : BT} (h : Bal t) : 2 ^ ((t.ht + 1) / 2) ≤ t.sz + 1 := by
  suffices H : ∀ n (t : BT), t.ht = n → Bal t → 2 ^ ((n + 1) / 2) ≤ t.sz + 1 from H _ t rfl h
  intro n
  induction n using Nat.strongRecOn with
  | _ n ih =>
    intro t hn hb
    cases t with
    | nil => simp [BT.ht] at hn; subst hn; simp
    | node p l r =>
      obtain ⟨h1, h2, h3, h4⟩ := hb
      rw [BT.sz_node]
      simp only [BT.ht] at hn
      rcases Nat.lt_or_ge n 2 with h | h
      · have : n = 1 := by omega
        subst this
        simp
        omega
      · have e : (n + 1) / 2 = (n - 2 + 1) / 2 + 1 := by omega
        have low : ∀ s : BT, n - 2 ≤ s.ht → s.ht < n → Bal s → 2 ^ ((n - 2 + 1) / 2) ≤ s.sz + 1 := fun s a b c => by
          have := ih s.ht b s rfl c
          exact Nat.le_trans (Nat.pow_le_pow_right (by omega) (by omega)) this
        have k1 := low l (by omega) (by omega) h3
        have k2 := low r (by omega) (by omega) h4
        rw [e, Nat.pow_succ]
        omega
theorem BT.high (t : BT) : t.sz + 1 ≤ 2 ^ t.ht := by
  induction t with
  | nil => simp [BT.sz, BT.pls, BT.ht]
  | node p l r hl hr =>
    rw [BT.sz_node]
    simp only [BT.ht, Nat.pow_succ]
    have k1 : 2 ^ l.ht ≤ 2 ^ max l.ht r.ht := Nat.pow_le_pow_right (by omega) (by omega)
    have k2 : 2 ^ r.ht ≤ 2 ^ max l.ht r.ht := Nat.pow_le_pow_right (by omega) (by omega)
    omega
end Go.Proofs.Ytpbnmfoecmhnnaa
