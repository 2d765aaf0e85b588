/-
  Plain facts on trees of groups: parents, kids that rise, paths, what is below, how deep. Nothing of Go is named here.
-/
namespace Go.Proofs.Ytggmdgdgljlddaa

/-- A tree: of each group that is there its parent, and its kids. -/
abbrev Tre := Int → Option (Int × List Int)
def par (T : Tre) (x : Int) : Int := match T x with | some q => q.1 | none => -1
def kidsT (T : Tre) (x : Int) : List Int := match T x with | some q => q.2 | none => []
/-- A tree that can be, and how deep each group is. -/
structure WT (T : Tre) (D : Int → Nat) : Prop where
  top : ∃ ks, T 0 = some (-1, ks)
  rg : ∀ x q, T x = some q → x ≠ 0 → 1 ≤ x ∧ x ≤ 1048576
  kid : ∀ x q, T x = some q → ∀ y, y ∈ q.2 ↔ ∃ ks, T y = some (x, ks)
  srt : ∀ x q, T x = some q → q.2.Pairwise (· < ·)
  up : ∀ x q, T x = some q → x ≠ 0 → ∃ q', T q.1 = some q'
  d0 : D 0 = 0
  dp : ∀ x q, T x = some q → x ≠ 0 → D x = D q.1 + 1 ∧ D x ≤ 16

def pth (T : Tre) : Nat → Int → List Int
  | 0, _ => []
  | n + 1, x => if par T x = -1 then [] else x :: pth T n (par T x)
def path (T : Tre) (x : Int) : List Int := pth T 17 x
def und (T : Tre) : Nat → Int → Nat → List (Int × Nat)
  | 0, _, _ => []
  | n + 1, x, d => (x, d) :: (kidsT T x).flatMap fun y => und T n y (d + 1)
def Und (T : Tre) (x : Int) (d : Nat) : List (Int × Nat) := und T 17 x d
def places (T : Tre) (x : Int) : List (Int × Nat) := if (T x).isSome then Und T x 0 else []
def under (T : Tre) (x : Int) : List Int := (places T x).map (·.1)
def tall (T : Tre) (x : Int) : Int := (places T x).foldl (fun a p => max a (p.2 : Int)) (-1)

section
variable {T : Tre} {D : Int → Nat}
theorem par_some {x : Int} {q : Int × List Int} (h : T x = some q) : par T x = q.1 := by unfold par; rw [h]
theorem par_none {x : Int} (h : T x = none) : par T x = -1 := by unfold par; rw [h]
theorem kids_some {x : Int} {q : Int × List Int} (h : T x = some q) : kidsT T x = q.2 := by unfold kidsT; rw [h]
theorem kids_none {x : Int} (h : T x = none) : kidsT T x = [] := by unfold kidsT; rw [h]
theorem WT.par0 (W : WT T D) : par T 0 = -1 := by obtain ⟨ks, h⟩ := W.top; exact par_some h
theorem WT.low (W : WT T D) {x : Int} {q : Int × List Int} (h : T x = some q) : 0 ≤ x ∧ x ≤ 1048576 := by
  by_cases hx : x = 0
  · omega
  · have := W.rg x q h hx
    omega
theorem WT.par_ne (W : WT T D) {x : Int} {q : Int × List Int} (h : T x = some q) (hx : x ≠ 0) : par T x ≠ -1 := by
  obtain ⟨q', h'⟩ := W.up x q h hx
  have := W.low h'
  rw [par_some h]
  omega
theorem WT.par_iff (W : WT T D) (x : Int) : par T x = -1 ↔ T x = none ∨ x = 0 := by
  constructor
  · intro h
    cases hx : T x with
    | none => exact .inl rfl
    | some q =>
      by_cases h0 : x = 0
      · exact .inr h0
      · exact absurd h (W.par_ne hx h0)
  · rintro (h | rfl)
    · exact par_none h
    · exact W.par0
theorem WT.d16 (W : WT T D) {x : Int} {q : Int × List Int} (h : T x = some q) : D x ≤ 16 := by
  by_cases hx : x = 0
  · subst hx; rw [W.d0]; omega
  · exact (W.dp x q h hx).2
theorem WT.pos (W : WT T D) {x : Int} {q : Int × List Int} (h : T x = some q) (hx : x ≠ 0) : 0 < D x := by have := (W.dp x q h hx).1; omega
theorem WT.kid_up (W : WT T D) {x y : Int} {q : Int × List Int} (h : T x = some q) (hy : y ∈ q.2) : ∃ ks, T y = some (x, ks) ∧ y ≠ 0 ∧ D y = D x + 1 := by
  obtain ⟨ks, hk⟩ := (W.kid x q h y).1 hy
  have h0 : y ≠ 0 := by
    rintro rfl
    obtain ⟨k0, e⟩ := W.top
    rw [hk] at e
    have := W.low h
    simp at e
    omega
  exact ⟨ks, hk, h0, (W.dp y _ hk h0).1⟩
theorem pth_same (W : WT T D) : ∀ n m x, D x ≤ n → D x ≤ m → pth T n x = pth T m x := by
  have z : ∀ m x, (T x = none ∨ x = 0) → pth T m x = [] := fun m x h => by
    cases m with
    | zero => rfl
    | succ m => unfold pth; rw [if_pos ((W.par_iff x).2 h)]
  intro n
  induction n with
  | zero =>
    intro m x h1 _
    have hx : T x = none ∨ x = 0 := by
      cases hq : T x with
      | none => exact .inl rfl
      | some q =>
        refine .inr ?_
        by_cases h0 : x = 0
        · exact h0
        · have := W.pos hq h0
          omega
    rw [z m x hx]
    rfl
  | succ n ih =>
    intro m x h1 h2
    by_cases hx : T x = none ∨ x = 0
    · rw [z _ x hx, z _ x hx]
    · cases hq : T x with
      | none => exact absurd (.inl hq) hx
      | some q =>
        have h0 : x ≠ 0 := fun h => hx (.inr h)
        have hd := (W.dp x q hq h0).1
        cases m with
        | zero => omega
        | succ m =>
          have hp := W.par_ne hq h0
          unfold pth
          rw [if_neg hp, if_neg hp, par_some hq, ih m q.1 (by omega) (by omega)]
theorem path_nil (W : WT T D) {x : Int} (h : T x = none ∨ x = 0) : path T x = [] := by
  unfold path pth
  rw [if_pos ((W.par_iff x).2 h)]
theorem path_cons (W : WT T D) {x : Int} {q : Int × List Int} (h : T x = some q) (hx : x ≠ 0) : path T x = x :: path T q.1 := by
  have hd := W.dp x q h hx
  have e : path T x = x :: pth T 16 q.1 := by
    unfold path
    rw [pth, if_neg (W.par_ne h hx), par_some h]
  rw [e, pth_same W 16 17 q.1 (by omega) (by omega)]
  rfl
/-- Up by up. -/
theorem WT.ind (W : WT T D) {C : Int → Prop} (h0 : C 0) (hs : ∀ x q, T x = some q → x ≠ 0 → C q.1 → C x) : ∀ x q, T x = some q → C x := by
  have : ∀ n x q, T x = some q → D x ≤ n → C x := by
    intro n
    induction n with
    | zero =>
      intro x q h hd
      by_cases hx : x = 0
      · subst hx; exact h0
      · have := W.pos h hx; omega
    | succ n ih =>
      intro x q h hd
      by_cases hx : x = 0
      · subst hx; exact h0
      · obtain ⟨q', h'⟩ := W.up x q h hx
        have := (W.dp x q h hx).1
        exact hs x q h hx (ih q.1 q' h' (by omega))
  exact fun x q h => this (D x) x q h (Nat.le_refl _)
theorem path_len (W : WT T D) {x : Int} {q : Int × List Int} (h : T x = some q) : (path T x).length = D x := by
  refine W.ind (C := fun x => (path T x).length = D x) ?_ ?_ x q h
  · rw [path_nil W (.inr rfl), W.d0]; rfl
  · intro x q h hx ih
    rw [path_cons W h hx, List.length_cons, ih, (W.dp x q h hx).1]
theorem path_mem (W : WT T D) {x y : Int} {q : Int × List Int} (h : T x = some q) (hy : y ∈ path T x) : (∃ q', T y = some q') ∧ y ≠ 0 ∧ D y ≤ D x := by
  revert y
  refine W.ind (C := fun x => ∀ {y}, y ∈ path T x → (∃ q', T y = some q') ∧ y ≠ 0 ∧ D y ≤ D x) ?_ ?_ x q h
  · intro y hy
    rw [path_nil W (.inr rfl)] at hy
    cases hy
  · intro x q h hx ih y hy
    rw [path_cons W h hx] at hy
    rcases List.mem_cons.1 hy with rfl | hy
    · exact ⟨⟨q, h⟩, hx, Nat.le_refl _⟩
    · obtain ⟨h1, h2, h3⟩ := ih hy
      have := (W.dp x q h hx).1
      exact ⟨h1, h2, by omega⟩
theorem path_self (W : WT T D) {x : Int} {q : Int × List Int} (h : T x = some q) (hx : x ≠ 0) : x ∈ path T x := by rw [path_cons W h hx]; exact List.mem_cons_self
theorem path_up (W : WT T D) {x y : Int} {q : Int × List Int} (h : T x = some q) (hx : x ≠ 0) (hn : y ≠ x) : y ∈ path T x ↔ y ∈ path T q.1 := by
  rw [path_cons W h hx, List.mem_cons]
  exact ⟨fun e => e.resolve_left hn, .inr⟩
theorem path_trans (W : WT T D) {x y z : Int} {q : Int × List Int} (h : T x = some q) (hy : y ∈ path T x) (hz : z ∈ path T y) : z ∈ path T x := by
  revert y
  refine W.ind (C := fun x => ∀ {y}, y ∈ path T x → z ∈ path T y → z ∈ path T x) ?_ ?_ x q h
  · intro y hy
    rw [path_nil W (.inr rfl)] at hy
    cases hy
  · intro x q h hx ih y hy hz
    rw [path_cons W h hx] at hy ⊢
    rcases List.mem_cons.1 hy with rfl | hy
    · rw [path_cons W h hx] at hz
      exact hz
    · exact List.mem_cons_of_mem _ (ih hy hz)
theorem path_uniq (W : WT T D) {x y z : Int} {q : Int × List Int} (h : T x = some q) (hy : y ∈ path T x) (hz : z ∈ path T x) (hd : D y = D z) : y = z := by
  revert y z
  refine W.ind (C := fun x => ∀ {y z}, y ∈ path T x → z ∈ path T x → D y = D z → y = z) ?_ ?_ x q h
  · intro y z hy
    rw [path_nil W (.inr rfl)] at hy
    cases hy
  · intro x q h hx ih y z hy hz hd
    obtain ⟨q', h'⟩ := W.up x q h hx
    have e := (W.dp x q h hx).1
    rw [path_cons W h hx] at hy hz
    rcases List.mem_cons.1 hy with hy1 | hy1
    · rcases List.mem_cons.1 hz with hz1 | hz1
      · rw [hy1, hz1]
      · have := (path_mem W h' hz1).2.2
        rw [hy1] at hd
        omega
    · rcases List.mem_cons.1 hz with hz1 | hz1
      · have := (path_mem W h' hy1).2.2
        rw [hz1] at hd
        omega
      · exact ih hy1 hz1 hd
theorem path_nodup (W : WT T D) {x : Int} {q : Int × List Int} (h : T x = some q) : (path T x).Nodup := by
  refine W.ind (C := fun x => (path T x).Nodup) ?_ ?_ x q h
  · rw [path_nil W (.inr rfl)]; exact List.nodup_nil
  · intro x q h hx ih
    obtain ⟨q', h'⟩ := W.up x q h hx
    rw [path_cons W h hx, List.nodup_cons]
    refine ⟨fun hm => ?_, ih⟩
    have := (path_mem W h' hm).2.2
    have := (W.dp x q h hx).1
    omega

theorem fm_congr {α β : Type} {f g : α → List β} : ∀ (l : List α), (∀ y ∈ l, f y = g y) → l.flatMap f = l.flatMap g
  | [], _ => rfl
  | x :: l, h => by rw [List.flatMap_cons, List.flatMap_cons, h x List.mem_cons_self, fm_congr l fun y hy => h y (List.mem_cons_of_mem _ hy)]
theorem und_same (W : WT T D) : ∀ n m x d, (∃ q, T x = some q) → 17 ≤ D x + n → 17 ≤ D x + m → und T n x d = und T m x d := by
  intro n
  induction n with
  | zero =>
    rintro m x d ⟨q, h⟩ h1
    have := W.d16 h
    omega
  | succ n ih =>
    rintro m x d ⟨q, h⟩ h1 h2
    cases m with
    | zero =>
      have := W.d16 h
      omega
    | succ m =>
      unfold und
      rw [kids_some h]
      congr 1
      have : ∀ y ∈ q.2, und T n y (d + 1) = und T m y (d + 1) := fun y hy => by
        obtain ⟨ks, hk, _, hd⟩ := W.kid_up h hy
        exact ih m y (d + 1) ⟨_, hk⟩ (by omega) (by omega)
      exact fm_congr _ this
theorem Und_eq (W : WT T D) {x : Int} {q : Int × List Int} (h : T x = some q) (d : Nat) : Und T x d = (x, d) :: q.2.flatMap fun y => Und T y (d + 1) := by
  have e : Und T x d = (x, d) :: (kidsT T x).flatMap fun y => und T 16 y (d + 1) := rfl
  rw [e, kids_some h]
  refine congrArg (List.cons (x, d)) (fm_congr _ fun y hy => ?_)
  obtain ⟨ks, hk, _, hd⟩ := W.kid_up h hy
  exact und_same W 16 17 y (d + 1) ⟨_, hk⟩ (by omega) (by omega)
theorem und_down (W : WT T D) : ∀ n x d, (∃ q, T x = some q) → ∀ y e, (y, e) ∈ und T n x d → (∃ q, T y = some q) ∧ D x ≤ D y ∧ e = d + (D y - D x) ∧ (x = 0 ∨ x ∈ path T y) := by
  intro n
  induction n with
  | zero => intro x d _ y e h; cases h
  | succ n ih =>
    rintro x d ⟨q, h⟩ y e hm
    unfold und at hm
    rw [kids_some h] at hm
    rcases List.mem_cons.1 hm with hm | hm
    · cases hm
      refine ⟨⟨q, h⟩, Nat.le_refl _, by omega, ?_⟩
      by_cases hx : x = 0
      · exact .inl hx
      · exact .inr (path_self W h hx)
    · obtain ⟨z, hz, hm⟩ := List.mem_flatMap.1 hm
      obtain ⟨ks, hk, z0, hd⟩ := W.kid_up h hz
      obtain ⟨⟨q', h'⟩, h2, h3, h4⟩ := ih z (d + 1) ⟨_, hk⟩ y e hm
      refine ⟨⟨q', h'⟩, by omega, by omega, ?_⟩
      by_cases hx : x = 0
      · exact .inl hx
      · refine .inr ?_
        rcases h4 with h4 | h4
        · exact absurd h4 z0
        · refine path_trans W h' h4 ?_
          rw [path_cons W hk z0]
          exact List.mem_cons_of_mem _ (path_self W h hx)
theorem und_kid (W : WT T D) : ∀ n x d, (∃ q, T x = some q) → 17 ≤ D x + n → ∀ p y, p ∈ (und T n x d).map (·.1) → y ∈ kidsT T p → y ∈ (und T n x d).map (·.1) := by
  intro n
  induction n with
  | zero => intro x d _ _ p y h; cases h
  | succ n ih =>
    rintro x d ⟨q, h⟩ hn p y hp hy
    unfold und at hp ⊢
    rw [kids_some h, List.map_cons, List.map_flatMap] at hp ⊢
    rcases List.mem_cons.1 hp with rfl | hp
    · rw [kids_some h] at hy
      obtain ⟨ks, hk, _, hd⟩ := W.kid_up h hy
      refine List.mem_cons_of_mem _ (List.mem_flatMap.2 ⟨y, hy, ?_⟩)
      have := W.d16 hk
      cases n with
      | zero => omega
      | succ n => unfold und; exact List.mem_cons_self
    · obtain ⟨z, hz, hp⟩ := List.mem_flatMap.1 hp
      obtain ⟨ks, hk, _, hd⟩ := W.kid_up h hz
      exact List.mem_cons_of_mem _ (List.mem_flatMap.2 ⟨z, hz, ih z (d + 1) ⟨_, hk⟩ (by omega) p y hp hy⟩)
theorem und_nodup (W : WT T D) : ∀ n x d, (∃ q, T x = some q) → ((und T n x d).map (·.1)).Nodup := by
  intro n
  induction n with
  | zero => intro x d _; exact List.nodup_nil
  | succ n ih =>
    rintro x d ⟨q, h⟩
    unfold und
    rw [kids_some h, List.map_cons, List.map_flatMap, List.nodup_cons]
    constructor
    · intro hm
      obtain ⟨z, hz, hm⟩ := List.mem_flatMap.1 hm
      obtain ⟨⟨y, e⟩, hm2, he⟩ := List.mem_map.1 hm
      simp only at he
      subst he
      obtain ⟨ks, hk, _, hd⟩ := W.kid_up h hz
      have := (und_down W n z (d + 1) ⟨_, hk⟩ _ _ hm2).2.1
      omega
    · unfold List.Nodup
      rw [List.pairwise_flatMap]
      refine ⟨fun z hz => ?_, ?_⟩
      · obtain ⟨ks, hk, _, hd⟩ := W.kid_up h hz
        exact ih z (d + 1) ⟨_, hk⟩
      · refine (W.srt x q h).imp_of_mem fun {z1 z2} hz1 hz2 hlt a ha b hb e => ?_
        subst e
        obtain ⟨⟨y, e1⟩, hm1, he1⟩ := List.mem_map.1 ha
        obtain ⟨⟨y2, e2⟩, hm2, he2⟩ := List.mem_map.1 hb
        simp only at he1 he2
        subst he1 he2
        obtain ⟨k1, hk1, n1, d1⟩ := W.kid_up h hz1
        obtain ⟨k2, hk2, n2, d2⟩ := W.kid_up h hz2
        obtain ⟨⟨qy, hq⟩, _, _, p1⟩ := und_down W n z1 (d + 1) ⟨_, hk1⟩ _ _ hm1
        obtain ⟨_, _, _, p2⟩ := und_down W n z2 (d + 1) ⟨_, hk2⟩ _ _ hm2
        clear ha hb
        have := path_uniq W hq (p1.resolve_left n1) (p2.resolve_left n2) (by omega)
        omega
/-- Who is below. -/
theorem mem_under (W : WT T D) {x y : Int} {q : Int × List Int} (h : T x = some q) : y ∈ under T x ↔ (∃ q', T y = some q') ∧ (x = 0 ∨ x ∈ path T y) := by
  unfold under places
  simp only [h, Option.isSome_some, if_true]
  constructor
  · intro hm
    obtain ⟨⟨y, e⟩, hm2, he⟩ := List.mem_map.1 hm
    simp only at he
    subst he
    obtain ⟨h1, _, _, h4⟩ := und_down W 17 x 0 ⟨_, h⟩ _ _ hm2
    exact ⟨h1, h4⟩
  · rintro ⟨⟨q', h'⟩, ha⟩
    have hd : ∀ d, x ∈ (Und T x d).map (·.1) := fun d => by rw [Und_eq W h]; exact List.mem_cons_self
    refine W.ind (C := fun y => (x = 0 ∨ x ∈ path T y) → y ∈ (Und T x 0).map (·.1)) ?_ ?_ y q' h' ha
    · intro ha
      rcases ha with rfl | ha
      · exact hd 0
      · rw [path_nil W (.inr rfl)] at ha
        cases ha
    · intro y qy hy hy0 ih ha
      by_cases e : x = y
      · subst e; exact hd 0
      · have := ih (ha.imp id fun ha => (path_up W hy hy0 e).1 ha)
        obtain ⟨qp, hp⟩ := W.up y qy hy hy0
        refine und_kid W 17 x 0 ⟨_, h⟩ (by omega) qy.1 y this ?_
        rw [kids_some hp]
        exact (W.kid _ _ hp y).2 ⟨qy.2, hy⟩
theorem under_nodup (W : WT T D) (x : Int) : (under T x).Nodup := by
  unfold under places
  split
  · rename_i h
    obtain ⟨q, hq⟩ := Option.isSome_iff_exists.1 h
    exact und_nodup W 17 x 0 ⟨_, hq⟩
  · exact List.nodup_nil
theorem under_head (W : WT T D) {x : Int} {q : Int × List Int} (h : T x = some q) : ∃ r, under T x = x :: r := by
  unfold under places
  simp only [h, Option.isSome_some, if_true]
  rw [Und_eq W h]
  exact ⟨_, rfl⟩
theorem under_none {x : Int} (h : T x = none) : under T x = [] := by
  unfold under places
  rw [h]
  rfl

theorem nodup_bd : ∀ (M : Nat) (l : List Int), l.Nodup → (∀ x ∈ l, 0 ≤ x ∧ x < (M : Int)) → l.length ≤ M := by
  intro M
  induction M with
  | zero =>
    intro l _ h
    cases l with
    | nil => simp
    | cons x l =>
      have := h x List.mem_cons_self
      omega
  | succ M ih =>
    intro l hn h
    by_cases hm : (M : Int) ∈ l
    · have := ih (l.erase M) (hn.erase _) fun x hx => by
        obtain ⟨h1, h2⟩ := hn.mem_erase_iff.1 hx
        have := h x h2
        omega
      rw [List.length_erase_of_mem hm] at this
      omega
    · have := ih l hn fun x hx => by
        have h1 := h x hx
        have : x ≠ M := fun e => hm (e ▸ hx)
        omega
      omega
theorem nodup_le : ∀ (l1 l2 : List Int), l1.Nodup → (∀ x ∈ l1, x ∈ l2) → l1.length ≤ l2.length
  | [], _, _, _ => by simp
  | x :: t, l2, hn, h => by
    rw [List.nodup_cons] at hn
    have hx := h x List.mem_cons_self
    have := nodup_le t (l2.erase x) hn.2 fun y hy => (List.mem_erase_of_ne (by rintro rfl; exact hn.1 hy)).2 (h y (List.mem_cons_of_mem _ hy))
    rw [List.length_erase_of_mem hx] at this
    have := List.length_pos_of_mem hx
    simp only [List.length_cons]
    omega
theorem under_len (W : WT T D) (x : Int) : (under T x).length ≤ 1048577 := by
  refine nodup_bd 1048577 _ (under_nodup W x) fun y hy => ?_
  cases h : T x with
  | none => rw [under_none h] at hy; cases hy
  | some q =>
    obtain ⟨⟨q', h'⟩, _⟩ := (mem_under W h).1 hy
    have := W.low h'
    omega
theorem kids_len (W : WT T D) (x : Int) : (kidsT T x).length ≤ 1048577 := by
  cases h : T x with
  | none => rw [kids_none h]; simp
  | some q =>
    rw [kids_some h]
    have hnd : q.2.Nodup := (W.srt x q h).imp fun h => by omega
    refine nodup_bd 1048577 _ hnd fun y hy => ?_
    obtain ⟨ks, hk, _⟩ := W.kid_up h hy
    have := W.low hk
    omega

/-- The greatest number of steps down. -/
theorem fold_max : ∀ (l : List (Int × Nat)) (a : Int), a ≤ l.foldl (fun a p => max a (p.2 : Int)) a ∧ (∀ p ∈ l, (p.2 : Int) ≤ l.foldl (fun a p => max a (p.2 : Int)) a) ∧ (l.foldl (fun a p => max a (p.2 : Int)) a = a ∨ ∃ p ∈ l, (p.2 : Int) = l.foldl (fun a p => max a (p.2 : Int)) a)
  | [], a => ⟨Int.le_refl _, (fun _ h => by cases h), .inl rfl⟩
  | x :: l, a => by
    obtain ⟨h1, h2, h3⟩ := fold_max l (max a (x.2 : Int))
    rw [List.foldl_cons]
    refine ⟨by omega, fun p hp => ?_, ?_⟩
    · rcases List.mem_cons.1 hp with rfl | hp
      · omega
      · exact h2 p hp
    · rcases h3 with h3 | ⟨p, hp, e⟩
      · rcases Int.le_total a (x.2 : Int) with h | h
        · exact .inr ⟨x, List.mem_cons_self, by omega⟩
        · exact .inl (by omega)
      · exact .inr ⟨p, List.mem_cons_of_mem _ hp, e⟩
theorem tall_none {x : Int} (h : T x = none) : tall T x = -1 := by
  unfold tall places
  rw [h]
  rfl
theorem tall_is (W : WT T D) {x : Int} {q : Int × List Int} (h : T x = some q) : 0 ≤ tall T x ∧ tall T x ≤ 16 ∧ (∀ y, y ∈ under T x → (D y : Int) - D x ≤ tall T x) ∧ ∃ y, y ∈ under T x ∧ tall T x = (D y : Int) - D x := by
  have hp : places T x = Und T x 0 := by unfold places; rw [h]; rfl
  obtain ⟨h1, h2, h3⟩ := fold_max (places T x) (-1)
  have hx0 : (x, 0) ∈ places T x := by rw [hp, Und_eq W h]; exact List.mem_cons_self
  have h0 : (0 : Int) ≤ tall T x := h2 _ hx0
  have hd : ∀ y e, (y, e) ∈ places T x → (∃ q, T y = some q) ∧ D x ≤ D y ∧ e = D y - D x := fun y e hm => by
    rw [hp] at hm
    obtain ⟨a, b, c, _⟩ := und_down W 17 x 0 ⟨_, h⟩ _ _ hm
    exact ⟨a, b, by omega⟩
  have hex : ∃ y, y ∈ under T x ∧ tall T x = (D y : Int) - D x := by
    rcases h3 with h3 | ⟨⟨y, e⟩, hm, h3⟩
    · have : tall T x = -1 := h3
      omega
    · obtain ⟨_, h5, h6⟩ := hd y e hm
      refine ⟨y, List.mem_map.2 ⟨_, hm, rfl⟩, ?_⟩
      show (places T x).foldl _ _ = _
      rw [← h3]
      simp only
      omega
  refine ⟨h0, ?_, fun y hy => ?_, hex⟩
  · obtain ⟨y, hy, e⟩ := hex
    obtain ⟨⟨q', h'⟩, _⟩ := (mem_under W h).1 hy
    have := W.d16 h'
    omega
  · obtain ⟨⟨y, e⟩, hm, he⟩ := List.mem_map.1 hy
    simp only at he
    subst he
    obtain ⟨_, h5, h6⟩ := hd y e hm
    have := h2 _ hm
    simp only at this
    show _ ≤ (places T x).foldl _ _
    omega
end
end Go.Proofs.Ytggmdgdgljlddaa
