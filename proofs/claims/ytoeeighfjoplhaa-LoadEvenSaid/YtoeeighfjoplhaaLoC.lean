/-
  Plain: places in the order of their seats; cores by their loads; lists in order are told by their members.
-/
import Derived.Test.YtoeeighfjoplhaaLoP
import Derived.Test.YtoeeighfjoplhaaLoB
namespace Go.Proofs.Ytoeeighfjoplhaa

/-- Two lists in one strict order with the same members are one. -/
theorem pair_ext {α : Type} {R : α → α → Prop} (irr : ∀ x, ¬ R x x) (tr : ∀ {x y z}, R x y → R y z → R x z) : ∀ {l l' : List α}, l.Pairwise R → l'.Pairwise R → (∀ x, x ∈ l ↔ x ∈ l') → l = l'
  | [], [], _, _, _ => rfl
  | [], y :: r, _, _, h => absurd ((h y).2 List.mem_cons_self) List.not_mem_nil
  | x :: l, [], _, _, h => absurd ((h x).1 List.mem_cons_self) List.not_mem_nil
  | x :: l, y :: r, p, q, h => by
    have p1 := List.pairwise_cons.1 p
    have q1 := List.pairwise_cons.1 q
    have e : x = y := by
      rcases List.mem_cons.1 ((h x).1 List.mem_cons_self) with e | e
      · exact e
      · rcases List.mem_cons.1 ((h y).2 List.mem_cons_self) with e2 | e2
        · exact e2.symm
        · exact absurd (tr (p1.1 y e2) (q1.1 x e)) (irr x)
    subst e
    congr 1
    refine pair_ext irr tr p1.2 q1.2 fun z => ⟨fun hz => ?_, fun hz => ?_⟩
    · rcases List.mem_cons.1 ((h z).1 (List.mem_cons_of_mem _ hz)) with e | e
      · subst e
        exact absurd (p1.1 z hz) (irr z)
      · exact e
    · rcases List.mem_cons.1 ((h z).2 (List.mem_cons_of_mem _ hz)) with e | e
      · subst e
        exact absurd (q1.1 z hz) (irr z)
      · exact e
/-- How a row reads behind a permutation. -/
theorem Pm.back {a b : Nat} {f g : Nat → Int} (p : Pm a b f g) : ∀ k, a ≤ k → k < b → ∃ q, a ≤ q ∧ q < b ∧ f k = g q := by
  induction p with
  | rfl' => exact fun k h1 h2 => ⟨k, h1, h2, rfl⟩
  | @sw g x y _ h1 h2 h3 h4 ih =>
    intro k hk hkb
    obtain ⟨q, q1, q2, q3⟩ := ih k hk hkb
    by_cases e : q = x
    · exact ⟨y, h3, h4, by rw [q3, e, swp2_r]⟩
    · by_cases e2 : q = y
      · exact ⟨x, h1, h2, by rw [q3, e2, swp2_l]⟩
      · exact ⟨q, q1, q2, by rw [q3, swp2_o _ e e2]⟩
/-- A row as a list. -/
def lst' (n : Nat) (f : Nat → Int) : List Int := (List.range n).map f
def rowf (ks : List Int) : Nat → Int := fun j => ks.getD j 0
theorem lst'_len (n : Nat) (f : Nat → Int) : (lst' n f).length = n := by simp [lst']
theorem lst'_at {n j : Nat} (f : Nat → Int) (h : j < n) : (lst' n f).getD j 0 = f j := by simp [lst', List.getD, h]
theorem mem_lst' {n : Nat} {f : Nat → Int} {x : Int} : x ∈ lst' n f ↔ ∃ j, j < n ∧ x = f j := by
  unfold lst'
  rw [List.mem_map]
  constructor
  · rintro ⟨j, hj, e⟩
    exact ⟨j, List.mem_range.1 hj, e.symm⟩
  · rintro ⟨j, hj, e⟩
    exact ⟨j, List.mem_range.2 hj, e.symm⟩
theorem mem_rowf {ks : List Int} {x : Int} : x ∈ ks ↔ ∃ j, j < ks.length ∧ x = rowf ks j := by
  constructor
  · intro h
    obtain ⟨j, hj, e⟩ := List.mem_iff_getElem.1 h
    exact ⟨j, hj, by rw [← e]; simp [rowf, List.getD, hj]⟩
  · rintro ⟨j, hj, e⟩
    rw [e]
    have : rowf ks j = ks[j] := by simp [rowf, List.getD, hj]
    rw [this]
    exact List.getElem_mem hj
theorem srt_pair {R : Int → Int → Prop} {n : Nat} {f : Nat → Int} (h : Srt R 0 n f) : (lst' n f).Pairwise R := by
  rw [List.pairwise_iff_getElem]
  intro i j hi hj hij
  rw [lst'_len] at hi hj
  simp only [lst', List.getElem_map, List.getElem_range]
  exact h i j (Nat.zero_le _) hij hj
theorem pair_srt {R : Int → Int → Prop} {ks : List Int} (h : ks.Pairwise R) : Srt R 0 ks.length (rowf ks) := fun i j _ hij hj => by
  have := List.pairwise_iff_getElem.1 h i j (by omega) hj hij
  have e1 : rowf ks i = ks[i] := by simp [rowf, List.getD, show i < ks.length by omega]
  have e2 : rowf ks j = ks[j] := by simp [rowf, List.getD, hj]
  rw [e1, e2]
  exact this
theorem nodup_dis {ks : List Int} (h : ks.Nodup) : Dis ks.length (rowf ks) := fun i j hi hj e => by
  have e1 : rowf ks i = ks[i] := by simp [rowf, List.getD, hi]
  have e2 : rowf ks j = ks[j] := by simp [rowf, List.getD, hj]
  rw [e1, e2] at e
  rcases Nat.lt_trichotomy i j with c | c | c
  · exact absurd e (List.pairwise_iff_getElem.1 h i j hi hj c)
  · exact c
  · exact absurd e.symm (List.pairwise_iff_getElem.1 h j i hj hi c)
theorem pm_mem {n : Nat} {f g : Nat → Int} (p : Pm 0 n f g) (x : Int) : x ∈ lst' n g ↔ x ∈ lst' n f := by
  rw [mem_lst', mem_lst']
  constructor
  · rintro ⟨j, hj, e⟩
    obtain ⟨q, _, q2, q3⟩ := p.all (P := fun x => ∃ q, 0 ≤ q ∧ q < n ∧ x = f q) (fun k h1 h2 => ⟨k, h1, h2, rfl⟩) j (Nat.zero_le _) hj
    exact ⟨q, q2, e.trans q3⟩
  · rintro ⟨j, hj, e⟩
    obtain ⟨q, _, q2, q3⟩ := p.back j (Nat.zero_le _) hj
    exact ⟨q, q2, e.trans q3⟩
theorem lst'_rowf (ks : List Int) : lst' ks.length (rowf ks) = ks := by
  refine List.ext_getElem (lst'_len _ _) fun i h1 h2 => ?_
  simp only [lst', List.getElem_map, List.getElem_range]
  simp [rowf, List.getD, h2]
theorem nodup_le : ∀ (l1 l2 : List Int), l1.Nodup → (∀ x ∈ l1, x ∈ l2) → l1.length ≤ l2.length
  | [], _, _, _ => by simp
  | x :: t, l2, hn, h => by
    rw [List.nodup_cons] at hn
    have hx := h x List.mem_cons_self
    have := nodup_le t (l2.erase x) hn.2 fun y hy => (List.mem_erase_of_ne (by rintro rfl; exact hn.1 hy)).2 (h y (List.mem_cons_of_mem _ hy))
    rw [List.length_erase_of_mem hx] at this
    have := List.length_pos_of_mem hx
    simp only [List.length_cons]
    omega
/-! ### Places by their seats -/
def idAt (ss : List St) (x : Int) : Int := (ss.getD x.toNat st0).id
def ordR (ss : List St) (x y : Int) : Prop := idAt ss x < idAt ss y ∨ (idAt ss x = idAt ss y ∧ x < y)
def plc (n : Nat) (x : Int) : Prop := ∃ i : Nat, i < n ∧ x = (i : Int)
def ordC (ss : List St) (x y : Int) : Int := ordI ss x.toNat y.toNat
theorem ordR_irr (ss : List St) (x : Int) : ¬ ordR ss x x := by
  rintro (h | ⟨_, h⟩) <;> omega
theorem ordR_tr {ss : List St} {x y z : Int} (h1 : ordR ss x y) (h2 : ordR ss y z) : ordR ss x z := by
  unfold ordR at *
  omega
theorem ord_tot (ss : List St) (n : Nat) : Tot (ordR ss) (plc n) (ordC ss) := by
  refine ⟨⟨fun h1 h2 => ordR_tr h1 h2⟩, ordR_irr ss, fun {x y} _ _ => ?_, fun {x y} hx hy => ?_⟩
  · unfold ordR
    omega
  · obtain ⟨i, _, rfl⟩ := hx
    obtain ⟨j, _, rfl⟩ := hy
    show orI (cmpI (ss.getD i st0).id (ss.getD j st0).id) (cmpI i j) < 0 ↔ _
    unfold ordR idAt
    simp only [Int.toNat_natCast]
    generalize (ss.getD i st0).id = a
    generalize (ss.getD j st0).id = b
    unfold orI cmpI
    by_cases h1 : a < b
    · simp [h1]
    · by_cases h2 : b < a
      · simp [h1, h2]
        omega
      · have e : a = b := by omega
        simp only [if_neg h1, if_neg h2, if_pos]
        by_cases h3 : (i : Int) < (j : Int)
        · simp [h3, e]
        · by_cases h4 : (j : Int) < (i : Int)
          · simp only [if_neg h3, if_pos h4]
            omega
          · simp only [if_neg h3, if_neg h4]
            omega
/-- The places of core k's seats, in order. -/
structure Rk (ss : List St) (k : Nat) (l : List Int) : Prop where
  mem : ∀ x, x ∈ l ↔ ∃ i : Nat, i < ss.length ∧ x = (i : Int) ∧ (ss.getD i st0).core = (k : Int)
  srt : l.Pairwise (ordR ss)
theorem Rk.one {ss : List St} {k : Nat} {l l' : List Int} (h : Rk ss k l) (h' : Rk ss k l') : l = l' := pair_ext (ordR_irr ss) ordR_tr h.srt h'.srt fun x => by rw [h.mem, h'.mem]
theorem Rk.nodup {ss : List St} {k : Nat} {l : List Int} (h : Rk ss k l) : l.Nodup := h.srt.imp fun {x y} hr e => by subst e; exact ordR_irr ss _ hr
theorem Rk.len {ss : List St} {k : Nat} {l : List Int} (h : Rk ss k l) : l.length ≤ ss.length := by
  have := nodup_le l ((List.range ss.length).map Int.ofNat) h.nodup fun x hx => by
    obtain ⟨i, hi, e, _⟩ := (h.mem x).1 hx
    exact List.mem_map.2 ⟨i, List.mem_range.2 hi, e.symm⟩
  simpa using this
end Go.Proofs.Ytoeeighfjoplhaa
