/-
  PA Fill PB PC: texts laid into one.
-/
import Derived.Test.YtggmdgdgljlddaaGreatDoorPUnp
import Derived.Laws.Cover3
import Derived.Test.YtggmdgdgljlddaaGreatDoorOwn
import Derived.Test.YtggmdgdgljlddaaGreatDoorHeld
import Derived.Laws.MakeOwn
import Derived.Test.YtggmdgdgljlddaaGreatDoorLeE
import Derived.Test.YtggmdgdgljlddaaGreatDoorApp

/-
  Contracts of the program's small functions of parcel: isLong, Find's closure, IndexFunc, ContainsFunc, rise, Clone, Find.
-/
namespace Go.Proofs.YtggmdgdgljlddaaGreatDoor
open Go.RowKit

section
variable {w w' : World} {P S : Nat → Prop} {s : Sv} {v : Value} {ss : List Sv}
def sag (s : Sv) : Value := .agg #[.int .i64 s.k, s.bv]
def long (s : Sv) : Bool := decide (65535 < s.bl.length)
def isKind (x : Int) (s : Sv) : Bool := s.k == x
theorem islong_any (h : Byt w P s.bv s.bl) : Calls Tryz.prog 30 #[sag s] w fun e w' => e = .returned (.bool (long s)) ∧ Kp No w w' := by
  obtain ⟨n, hn⟩ : ∃ n, s.bl.length = n := ⟨_, rfl⟩
  obtain ⟨A, c, he, hc, hm, _, _⟩ := h
  unfold maxLen at hm
  unfold sag long
  rw [he, hn]
  have HN := hid hn
  rw [hn] at hc
  clear he hn
  go_enter Tryz.func30, Tryz.ntmps30
  go_wp2
  go_ret
  exact ⟨by rw [show decide (65535 < n) = decide ((65535 : Int) < (n : Int)) from decide_eq_decide.2 (by omega)]; rfl, (Kp.refl _ _).alloc _⟩

/-- Which one is the first that is so. -/
def IdxPost (p : Sv → Bool) (ss : List Sv) (w : World) (e : Ending) (w' : World) : Prop :=
  Kp No w w' ∧ ((∃ j : Nat, j < ss.length ∧ e = .returned (.int .i64 (j : Int)) ∧ p (ss.getD j sv0) = true ∧ ∀ i, i < j → p (ss.getD i sv0) = false) ∨ (e = .returned (.int .i64 (-1)) ∧ ∀ i, i < ss.length → p (ss.getD i sv0) = false))

theorem index_long (h : Ps w P v ss) : Calls Tryz.prog 65 #[v, .func (.func 30) #[] #[]] w (IdxPost long ss w) := by
  obtain ⟨n, hn⟩ : ∃ n, ss.length = n := ⟨_, rfl⟩
  obtain ⟨A, c, rfl, hc, hm⟩ := h.form hn
  have HN := hid hn
  have HO := hid h
  clear hn h
  go_enter Tryz.func65, Tryz.ntmps65
  go_wp2
  go_loopw [8] (fun i w' => ∃ k : Nat, k ≤ n ∧ i = .int .i64 (k : Int) ∧ Hid (Kp No w w' ∧ ∀ i, i < k → long (ss.getD i sv0) = false)) (fun i _ => n - (intOf i).toNat)
  case atStart => exact ⟨0, Nat.zero_le _, rfl, hid ⟨Kp.refl _ _, fun j hj => by omega⟩⟩
  case round =>
    obtain ⟨k, hk, rfl, HT⟩ := hrel
    by_cases hkn : k < n
    · have HK := hid (show k < ss.length by rw [HN.out]; exact hkn)
      obtain ⟨b, o, rfl, ok, c0, c1⟩ := (HO.out.kp0 HT.out.1).at' (k := k) HK.out
      have HB := hid ok.b
      obtain ⟨s, hs⟩ : ∃ s, ss.getD k sv0 = s := ⟨_, rfl⟩
      have HS := hid hs
      rw [hs] at c0 c1 HB
      obtain ⟨bv, hbv⟩ : ∃ k, s.bv = k := ⟨_, rfl⟩
      obtain ⟨y, hy⟩ : ∃ k, s.k = k := ⟨_, rfl⟩
      have HE := hid (show sag s = .agg #[.int .i64 y, bv] by unfold sag; rw [hbv, hy])
      rw [hbv] at c1
      rw [hy] at c0
      obtain ⟨q, hq⟩ : ∃ q, long s = q := ⟨_, rfl⟩
      have HQ := hid hq
      have hsum := wrapI (x := (k : Int) + 1) (by unfold I64; omega)
      have hki : (k : Int) < (n : Int) := by omega
      clear ok hs hbv hy hq
      cases q with
      | true =>
        go_wp2_with (first
          | (go_at_call 30
             rw [← HE.out]
             refine (islong_any HB.out).mono ?_
             rintro e w2 ⟨rfl, k2⟩
             rw [HQ.out]
             have K2 := hid (HT.out.1.trans k2)
             clear k2))
        go_ret
        exact ⟨K2.out, .inl ⟨k, HK.out, rfl, by rw [HS.out]; exact HQ.out, HT.out.2⟩⟩
      | false =>
        go_wp2_with (first
          | (go_at_call 30
             rw [← HE.out]
             refine (islong_any HB.out).mono ?_
             rintro e w2 ⟨rfl, k2⟩
             rw [HQ.out]
             have K2 := hid (HT.out.1.trans k2)
             clear k2))
        go_roundw
        case rel =>
          refine ⟨k + 1, by omega, by go_num, hid ⟨K2.out, fun j hj => ?_⟩⟩
          by_cases hjk : j < k
          · exact HT.out.2 j hjk
          · rw [show j = k by omega, HS.out]; exact HQ.out
        case measure => simp [intOf]; omega
    · go_wp2
      go_ret
      exact ⟨HT.out.1, .inr ⟨rfl, fun i hi => HT.out.2 i (by have := HN.out; omega)⟩⟩

theorem contains_any (h : Ps w P v ss) : Calls Tryz.prog 29 #[v, .func (.func 30) #[] #[]] w fun e w' => e = .returned (.bool (ss.any long)) ∧ Kp No w w' := by
  have HO := hid h
  have HM := hid (show ∀ j, j < ss.length → ss.getD j sv0 ∈ ss from fun j hj => by simp [List.getD, hj])
  clear h
  go_enter Tryz.func29, Tryz.ntmps29
  go_wp2_with fail
  refine (index_long HO.out).mono ?_
  rintro e w1 ⟨k1, ⟨j, hj, rfl, hp, _⟩ | ⟨rfl, hall⟩⟩
  · have K1 := hid k1
    have HA := hid (show ss.any long = true from List.any_eq_true.2 ⟨_, HM.out j hj, hp⟩)
    have g1 : (0 : Int) ≤ (j : Int) := by omega
    clear k1 hp hj
    go_wp2
    go_ret
    rw [HA.out]
    exact ⟨rfl, K1.out⟩
  · have K1 := hid k1
    have HA := hid (show ss.any long = false by
      rw [List.any_eq_false]
      intro s hs
      obtain ⟨j, hj, rfl⟩ := List.getElem_of_mem hs
      have := hall j hj
      simpa [List.getD, hj] using this)
    clear k1 hall
    go_wp2
    go_ret
    rw [HA.out]
    exact ⟨rfl, K1.out⟩

theorem rise_any (h : Ps w P v ss) : Calls Tryz.prog 28 #[v] w fun e w' => e = .returned (.bool (risen 0 (ss.map sn))) ∧ Kp No w w' := by
  obtain ⟨n, hn⟩ : ∃ n, ss.length = n := ⟨_, rfl⟩
  obtain ⟨A, c, rfl, hc, hm⟩ := h.form hn
  have HN := hid hn
  have HO := hid h
  clear hn h
  go_enter Tryz.func28, Tryz.ntmps28
  go_wp2
  go_loopw [3, 8] (fun l i w' => ∃ (k : Nat) (y : Int), k ≤ n ∧ i = .int .i64 (k : Int) ∧ l = .int .i64 y ∧ Hid (Kp No w w' ∧ (∀ j, j < k → RiseAt 0 ss j) ∧ y = (match k with | 0 => 0 | i + 1 => (ss.getD i sv0).k) ∧ 0 ≤ y)) (fun _ i _ => n - (intOf i).toNat)
  case atStart => exact ⟨0, 0, Nat.zero_le _, rfl, rfl, hid ⟨Kp.refl _ _, fun j hj => by omega, rfl, by omega⟩⟩
  case round =>
    obtain ⟨k, y, hk, rfl, rfl, HT⟩ := hrel
    by_cases hkn : k < n
    · have HK := hid (show k < ss.length by rw [HN.out]; exact hkn)
      obtain ⟨b, o, rfl, ok, c0, c1⟩ := (HO.out.kp0 HT.out.1).at' (k := k) HK.out
      obtain ⟨nb, hnb⟩ : ∃ nb, (ss.getD k sv0).bl.length = nb := ⟨_, rfl⟩
      obtain ⟨B, bc, hbv, hbc, hbm⟩ := ok.form hnb
      obtain ⟨x, hx⟩ : ∃ q, (ss.getD k sv0).k = q := ⟨_, rfl⟩
      rw [hbv] at c1
      rw [hx] at c0
      have HX := hid hx
      have hsum := wrapI (x := (k : Int) + 1) (by unfold I64; omega)
      have hki : (k : Int) < (n : Int) := by omega
      have hR : RiseAt 0 ss k ↔ (y < x ∧ x ≤ 255) := by
        have h3 := HT.out.2.2
        unfold RiseAt
        rw [HX.out]
        cases k with
        | zero => simp only at h3 ⊢; omega
        | succ k => simp only at h3 ⊢; omega
      clear ok hbv hx hnb hbc hbm
      by_cases h1 : x ≤ y
      · have HB := hid (show risen 0 (ss.map sn) = false by
          cases hb : risen 0 (ss.map sn) with
          | false => rfl
          | true => have := hR.1 ((rise_iff ss 0).1 hb k HK.out); omega)
        clear hR
        go_wp2
        go_ret
        rw [HB.out]
        exact ⟨rfl, HT.out.1.alloc _⟩
      by_cases h2 : 255 < x
      · have HB := hid (show risen 0 (ss.map sn) = false by
          cases hb : risen 0 (ss.map sn) with
          | false => rfl
          | true => have := hR.1 ((rise_iff ss 0).1 hb k HK.out); omega)
        clear hR
        go_wp2
        go_ret
        rw [HB.out]
        exact ⟨rfl, HT.out.1.alloc _⟩
      have HR := hid (hR.2 (by omega))
      have HY := hid HT.out.2.2.2
      have HX0 := hid (show 0 ≤ x by have := HY.out; omega)
      clear hR
      go_wp2
      go_roundw
      case rel =>
        refine ⟨k + 1, x, by omega, by go_num, rfl, hid ⟨HT.out.1.alloc _, fun j hj => ?_, HX.out.symm, HX0.out⟩⟩
        by_cases hjk : j < k
        · exact HT.out.2.1 j hjk
        · rw [show j = k by omega]; exact HR.out
      case measure => simp [intOf]; omega
    · have HB := hid (show risen 0 (ss.map sn) = true from (rise_iff ss 0).2 fun j hj => HT.out.2.1 j (by have := HN.out; omega))
      go_wp2
      go_ret
      rw [HB.out]
      exact ⟨rfl, HT.out.1⟩

/-- What is found, by the program: bytes of its own. -/
def FndPost (ss : List Sv) (k : Int) (w : World) (e : Ending) (w' : World) : Prop :=
  Kp No w w' ∧ ((∃ u x, e = .returned (.tuple #[u, .bool true]) ∧ Own w' w.heap.size 5 u x ∧ find (ss.map sn) k = some x) ∨ (e = .returned (.tuple #[.slice none 0 0, .bool false]) ∧ find (ss.map sn) k = none))
end
end Go.Proofs.YtggmdgdgljlddaaGreatDoor

/-
  A row of structs that is made at once and laid one by one, in a block of its own. Nothing of a program is named here.
-/
namespace Go.Proofs.YtggmdgdgljlddaaGreatDoor
open Go.RowKit

/-- Cells laid one by one into a block that is known whole. -/
theorem Blk.fill {g : Nat} {t : TypeId} : ∀ (vs : List Value) (o : Nat) (w : World) (cs : Array Value), Blk w g t cs →
    ∃ cs' : Array Value, Blk (w.setCells g o vs) g t cs' ∧ cs'.size = cs.size ∧ ∀ j, cs'[j]? = if o ≤ j ∧ j < o + vs.length ∧ j < cs.size then vs[j - o]? else cs[j]?
  | [], o, _, cs, h => ⟨cs, h, rfl, fun j => by rw [if_neg (by simp only [List.length_nil]; omega)]⟩
  | v :: r, o, w, cs, h => by
    obtain ⟨cs', h1, h2, h3⟩ := Blk.fill r (o + 1) (w.setCell ⟨g, o, none⟩ v) _ (h.put o v)
    refine ⟨cs', h1, by simpa using h2, fun j => ?_⟩
    rw [h3 j]
    simp only [Array.size_setIfInBounds, List.length_cons]
    by_cases hj : j = o
    · subst hj
      rw [if_neg (by omega), Array.getElem?_setIfInBounds_self]
      split
      · rw [if_pos (by omega)]
        simp
      · rw [if_neg (by omega), Array.getElem?_eq_none (by omega)]
    · rw [Array.getElem?_setIfInBounds_ne (by omega)]
      by_cases h4 : o + 1 ≤ j ∧ j < o + 1 + r.length ∧ j < cs.size
      · rw [if_pos h4, if_pos (by omega)]
        obtain ⟨m, rfl⟩ : ∃ m, j = o + 1 + m := ⟨j - (o + 1), by omega⟩
        rw [show o + 1 + m - (o + 1) = m by omega, show o + 1 + m - o = m + 1 by omega]
        simp
      · rw [if_neg h4, if_neg (by omega)]
theorem Kp.fill {S : Nat → Prop} {a : World} {g : Nat} (hp : S g ∨ a.heap.size ≤ g) : ∀ (vs : List Value) (o : Nat) (w : World), Kp S a w → Kp S a (w.setCells g o vs)
  | [], _, _, h => h
  | v :: r, o, _, h => Kp.fill hp r (o + 1) _ (h.setCell (p := ⟨g, o, none⟩) hp v)

/-- The first ones of a row of m are laid. -/
def Fil {α : Type} (n : Nat) (f : α → Nat → Value) (d : α) (t : TypeId) (w : World) (g m : Nat) (xs : List α) : Prop :=
  ∃ cs, Blk w g t cs ∧ cs.size = m * n ∧ xs.length ≤ m ∧ ∀ j i, j < xs.length → i < n → cs[j * n + i]? = some (f (xs.getD j d) i)

section
variable {α : Type} {n : Nat} {f : α → Nat → Value} {d : α} {t : TypeId} {w w' : World} {g m : Nat} {xs : List α} {S P : Nat → Prop}
theorem Fil.lt (h : Fil n f d t w g m xs) : g < w.heap.size := by
  obtain ⟨cs, h, _⟩ := h
  exact h.lt
theorem Fil.kp (h : Fil n f d t w g m xs) (k : Kp S w w') (hn : ¬ S g) : Fil n f d t w' g m xs := by
  obtain ⟨cs, h, h2⟩ := h
  exact ⟨cs, h.kp k hn, h2⟩
theorem Fil.kp0 (h : Fil n f d t w g m xs) (k : Kp No w w') : Fil n f d t w' g m xs := h.kp k fun h => h
theorem Fil.cell (h : Fil n f d t w g m xs) {j i : Nat} (hj : j < xs.length) (hi : i < n) : w.cell? ⟨g, j * n + i, none⟩ = some (f (xs.getD j d) i) := by
  obtain ⟨cs, h, _, _, h2⟩ := h
  rw [h.cell, h2 j i hj hi]
theorem Fil.there (h : Fil n f d t w g m xs) {j i : Nat} (hj : j < m) (hi : i < n) : (w.cell? ⟨g, j * n + i, none⟩).isSome = true ∧ w.frozen? ⟨g, j * n + i, none⟩ = false := by
  obtain ⟨cs, h, hs, _, h2⟩ := h
  refine ⟨?_, h.frozen _⟩
  rw [h.cell]
  have : j * n + i < cs.size := by
    rw [hs]
    have : (j + 1) * n ≤ m * n := Nat.mul_le_mul_right _ hj
    rw [Nat.add_mul, Nat.one_mul] at this
    omega
  simp [this]
theorem Fil.new {cs : Array Value} (w : World) (t : TypeId) (hs : cs.size = m * n) : Fil n f d t (w.alloc (.cells cs t)) w.heap.size m [] := ⟨cs, Blk.new w t cs, hs, Nat.zero_le _, fun j i hj => by simp at hj⟩
theorem Fil.snoc (h : Fil n f d t w g m xs) (x : α) (hm : xs.length < m) (vs : List Value) (hv : vs = (List.range n).map (f x)) : Fil n f d t (w.setCells g (xs.length * n) vs) g m (xs ++ [x]) := by
  obtain ⟨cs, h, hs, hl, h2⟩ := h
  obtain ⟨cs', h3, h4, h5⟩ := Blk.fill vs (xs.length * n) w cs h
  have hvl : vs.length = n := by rw [hv]; simp
  refine ⟨cs', h3, by rw [h4, hs], by rw [List.length_append, List.length_singleton]; omega, fun j i hj hi => ?_⟩
  rw [List.length_append, List.length_singleton] at hj
  have hmn : (xs.length + 1) * n ≤ m * n := Nat.mul_le_mul_right _ hm
  rw [Nat.add_mul, Nat.one_mul] at hmn
  rw [h5, hvl, hs]
  by_cases e : j = xs.length
  · subst e
    rw [if_pos ⟨by omega, by omega, by omega⟩, show xs.length * n + i - xs.length * n = i by omega, hv]
    simp [List.getD, hi]
  · have hjl : j < xs.length := by omega
    have : (j + 1) * n ≤ xs.length * n := Nat.mul_le_mul_right _ hjl
    rw [Nat.add_mul, Nat.one_mul] at this
    rw [if_neg (by omega), h2 j i hjl hi]
    simp [List.getD, List.getElem?_append_left hjl]
theorem Fil.rw (h : Fil n f d t w g m xs) (hm : xs.length = m) (hM : m ≤ maxLen) (hP : P g) : Rw n f d w P (.slice (some ⟨g, 0, none⟩) m m) xs := by
  refine ⟨_, _, by rw [hm], by omega, hM, fun _ => ⟨g, 0, rfl, h.lt, hP, fun j i hj hi => ?_⟩⟩
  rw [Nat.zero_add]
  exact h.cell hj hi
end

section
variable {P : Program} {n bytes : Nat} {z : Value}
theorem run_rowm {t e : TypeId} (u : Us P t e n bytes z) (w : World) {m : Nat} (hm : bytes * m ≤ 281474976710656) (h63 : m ≤ 9223372036854775807) :
    (Instr.makeSlice t (.int .i64 (m : Int)) (.int .i64 (m : Int))).run P w = .ok (.slice (some ⟨w.heap.size, 0, none⟩) m m) (w.alloc (.cells (madeCells z.cells (m * n)) e)) := by
  obtain ⟨i, hi, hz, hs, hb⟩ := info_parts u.info
  have hr := run_make (P := P) w t e i z u.un hi hz .i64 .i64 (m : Int) (m : Int) (by omega) (Int.le_refl _) (by rw [hb, ← Int.natCast_mul]; omega) (by omega)
  rw [hs] at hr
  simpa using hr
theorem wp_rowm {α : Type} {f : α → Nat → Value} (d : α) {t e : TypeId} (u : Us P t e n bytes z) {ops : Array Oper} {rest : List Oper} {o : Oper} {a : Act} {w : World} {Q : Exit → Act → World → Prop} (hg : o.guard = none) (l c : Operand) (ho : o.op = .makeSlice t l c) {m : Nat}
    (hl : a.eval l = .int .i64 (m : Int)) (hc : a.eval c = .int .i64 (m : Int)) (hm : bytes * m ≤ 281474976710656) (h63 : m ≤ 9223372036854775807)
    (h : ∀ w', Fil n f d e w' w.heap.size m [] → Kp No w w' → w'.heap.size = w.heap.size + 1 → wpList P ops Q rest (a.put o.dst (.slice (some ⟨w.heap.size, 0, none⟩) m m)) w') : wpList P ops Q (o :: rest) a w := by
  refine wpList_plain hg fun K hK => ?_
  unfold Oper.wp
  simp only [execOp, ho, hl, hc, Sem.run_bind, run_rowm u w hm h63, Result.andThen_ok]
  exact hK _ _ (h _ (Fil.new w e (by rw [size_madeCells])) ((Kp.refl No w).alloc _) (by simp))
end
end Go.Proofs.YtggmdgdgljlddaaGreatDoor

/-
  Contracts of the program's small functions of parcel: row's put, seal, takeRow, sealed, HasPrefix.
-/
namespace Go.Proofs.YtggmdgdgljlddaaGreatDoor
open Go.RowKit

theorem dg_num (xs : List Int) (h : Bs xs) : dg (num xs) xs.length = xs := by
  induction xs with
  | nil => rfl
  | cons x r ih =>
    have hx := h x (by simp)
    have hr := ih fun y hy => h y (List.mem_cons_of_mem _ hy)
    rw [List.length_cons, dg, num, show (x + 256 * num r) % 256 = x by omega, show (x + 256 * num r) / 256 = num r by omega, hr]
theorem num_ck4 (xs : List Int) : num (ck4 xs) = (ck xs : Nat) := by
  unfold ck4
  rw [num_dg, show pw 4 = 4294967296 from rfl]
  have := ck_lt xs
  omega
theorem ck_word {xs ys : List Int} (hy : Bs ys) (h4 : ys.length = 4) : num ys = (ck xs : Nat) ↔ ys = ck4 xs := by
  constructor
  · intro h
    have := dg_num ys hy
    rw [h4, h] at this
    exact this.symm
  · rintro rfl
    exact num_ck4 xs
theorem num4 {ys : List Int} (hy : Bs ys) (h4 : ys.length = 4) : 0 ≤ num ys ∧ num ys < 4294967296 := by
  have := num_bd ys hy
  rw [h4, show pw 4 = 4294967296 from rfl] at this
  exact this
theorem str_iff {xs ys : List Int} (h : Bs xs) (h' : Bs ys) : (strOfNums xs).toList = (strOfNums ys).toList ↔ xs = ys := by
  constructor
  · intro e1
    rw [ByteArray.toList_eq, strOfNums_data, ByteArray.toList_eq, strOfNums_data] at e1
    have back : ∀ zs : List Int, Bs zs → (zs.map fun n => UInt8.ofNat n.toNat).map (fun x : UInt8 => (x.toNat : Int)) = zs := fun zs hz => by
      rw [List.map_map]
      conv => rhs; rw [← List.map_id zs]
      refine List.map_congr_left fun y hy => ?_
      have := hz y hy
      simp only [Function.comp_apply, id_eq, UInt8.toNat_ofNat']
      omega
    rw [← back xs h, e1, back ys h']
  · rintro rfl
    rfl
theorem u32w (x : Int) : IntKind.u32.wrap x = x % 4294967296 := by simp [IntKind.wrap, IntKind.bits, IntKind.signed]

/-- A row of the table, in memory. -/
def rc (e : En) : Nat → Value
  | 0 => .int .i64 e.k
  | 1 => .int .i64 (e.n : Int)
  | _ => .int .u32 (num e.c)
def en0 : En := ⟨0, 0, []⟩
theorem rc_one (e : En) (i : Nat) : (rc e i).oneCell' = true := by
  unfold rc
  split <;> rfl

section
variable {w w' : World} {P S T : Nat → Prop} {v u : Value} {xs ys : List Int}
theorem seal_any {base : Nat} (ht : Tab w) (hown : Own w base 5 v xs) (hb : base ≤ w.heap.size) (hl : xs.length ≤ 100000000) :
    Calls Tryz.prog 31 #[v] w fun e w' => ∃ u, e = .returned u ∧ Own w' base 5 u (xs ++ ck4 xs) ∧ Kp (fun k => base ≤ k) w w' := by
  have HT := hid ht
  have HO := hid hown
  have HB := hid (hown.byt (P := Anyb) fun _ _ => trivial)
  have HL := hid hl
  have HB0 := hid hb
  obtain ⟨A, c, rfl⟩ := hown.form
  obtain ⟨q, hq⟩ : ∃ q, ck xs = q := ⟨_, rfl⟩
  have hql := ck_lt xs
  rw [hq] at hql
  have HQ := hid hq
  have h4 : hw 4 = 4 := rfl
  have q64 : IntKind.u64.wrap (q : Int) = (q : Int) := by rw [u64w]; omega
  clear hq ht hown hl hb
  go_enter Tryz.func31, Tryz.ntmps31
  go_wp2_with (first
    | (go_at_call 33
       refine (of_any _ xs _ HB.out HT.out).mono ?_
       rintro e w1 ⟨rfl, rfl⟩
       rw [HQ.out])
    | (go_at_call 32
       refine (put_any (S := Anyb) _ [] _ 4 _ (Byt.nil _ _) (by omega) (by simp)).mono ?_
       rintro e w2 ⟨u2, rfl, o2, k2⟩
       rw [List.nil_append, h4, ← HQ.out] at o2
       have HU2 := hid (o2.byt (P := Anyb) fun _ _ => trivial)
       have HK2 := hid k2
       have HW2 := hid (HO.out.kp k2 fun _ _ h => h)
       clear o2 k2)
    | (at_builtin
       refine wp_app isU8 rfl (.tmp 3) (.tmp 7) rfl (base := base) (xs := xs) (ys := ck4 xs) (by exact HW2.out) (by exact HU2.out) (by rw [ck4_len]; have := HL.out; omega) (by have := HK2.out.size; have := HB0.out; omega) ?_
       intro v3 w3 o3 k3
       have HW3 := hid o3
       have HK3 := hid ((HK2.out.all (S := fun k => base ≤ k)).step k3 fun _ _ h => h)
       clear o3 k3))
  go_ret
  exact ⟨_, rfl, HW3.out, HK3.out⟩

theorem rowput_any {base : Nat} {k : Int} {n c : Nat} (hown : Own w base 5 v xs) (hb : base ≤ w.heap.size) (hl : xs.length ≤ 100000000) (hk : 0 ≤ k ∧ k ≤ 255) (hn : n ≤ 65535) (hc : c < 4294967296) :
    Calls Tryz.prog 34 #[.agg #[.int .i64 k, .int .i64 (n : Int), .int .u32 (c : Int)], v] w fun e w' => ∃ u, e = .returned u ∧ Own w' base 5 u (xs ++ (k :: (dg (n : Int) 2 ++ dg (c : Int) 4))) ∧ Kp (fun k => base ≤ k) w w' := by
  have HL := hid hl
  have HB0 := hid hb
  have HF0 := hid (Off.own hown)
  obtain ⟨A, cp, rfl⟩ := hown.form
  have h1 : hw 1 = 1 := rfl
  have h2 : hw 2 = 2 := rfl
  have h4 : hw 4 = 4 := rfl
  have q1 : IntKind.u64.wrap k = k := by rw [u64w]; omega
  have q2 : IntKind.u64.wrap (n : Int) = (n : Int) := by rw [u64w]; omega
  have q3 : IntKind.u64.wrap (c : Int) = (c : Int) := by rw [u64w]; omega
  have HD := hid (show dg k 1 = [k] by rw [dg, dg, show k % 256 = k by omega])
  obtain ⟨d2, hd2⟩ : ∃ d, dg (n : Int) 2 = d := ⟨_, rfl⟩
  obtain ⟨d4, hd4⟩ : ∃ d, dg (c : Int) 4 = d := ⟨_, rfl⟩
  obtain ⟨R, hR⟩ : ∃ R, xs ++ (k :: (d2 ++ d4)) = R := ⟨_, rfl⟩
  rw [hd2, hd4, hR]
  have HD2 := hid hd2
  have HD4 := hid hd4
  have HL2 := hid (show d2.length = 2 by rw [← hd2, dg_len])
  have HL4 := hid (show d4.length = 4 by rw [← hd4, dg_len])
  have HR := hid (show xs ++ [k] ++ d2 ++ d4 = R by rw [← hR]; simp [List.append_assoc])
  clear hd2 hd4 hR
  have K0 := hid ((Kp.refl (fun i => base ≤ i) w).alloc (.cells #[.int .i64 k, .int .i64 (n : Int), .int .u32 (c : Int)] 72))
  have HX := hid (hown.alloc (.cells #[.int .i64 k, .int .i64 (n : Int), .int .u32 (c : Int)] 72))
  have B0 := hid (Blk.new w 72 #[.int .i64 k, .int .i64 (n : Int), .int .u32 (c : Int)])
  have HS0 := hid (show (w.alloc (.cells #[.int .i64 k, .int .i64 (n : Int), .int .u32 (c : Int)] 72)).heap.size = w.heap.size + 1 by simp)
  clear hown hl hb
  go_enter Tryz.func34, Tryz.ntmps34
  go_upto_region 2 with (first
    | (go_at_call 32
       refine (put_any (S := Anyb) _ [] _ 1 _ (Byt.nil _ _) (by omega) (by simp)).mono ?_
       rintro e wp1 ⟨u2, rfl, o2, k2⟩
       rw [List.nil_append, h1, HD.out] at o2
       have HU1 := hid (o2.byt (P := Anyb) fun _ _ => trivial)
       have HKp1 := hid (K0.out.trans k2.all)
       have HWp1 := hid (HX.out.kp k2 fun _ _ h => h)
       have HBp1 := hid (B0.out.kp0 k2)
       clear o2 k2)
    | (at_builtin
       refine wp_app2 isU8 rfl (.tmp 5) (.tmp 9) rfl (base := base) (xs := xs) (ys := [k]) (by exact HWp1.out) (by exact HU1.out) (by have := HL.out; simp; omega) (by have := HKp1.out.size; have := HB0.out; omega) ?_
       intro va1 wa1 o3 k3 f3
       have HWa1 := hid o3
       have HFa1 := hid (HF0.out.app HBp1.out.lt f3)
       have HBa1 := hid (HBp1.out.kp k3 fun h => HF0.out _ h rfl)
       have HKa1 := hid (HKp1.out.step k3 fun i hi h => HWp1.out.at_ i h)
       have cc1 : wa1.cell? ⟨w.heap.size, 1, none⟩ = some (.int .i64 (n : Int)) := HBa1.out.cell 1
       clear o3 k3 f3))
  go_upto_region 3 with (first
    | (go_at_call 32
       refine (put_any (S := Anyb) _ [] _ 2 _ (Byt.nil _ _) (by omega) (by simp)).mono ?_
       rintro e wp2 ⟨u2, rfl, o2, k2⟩
       rw [List.nil_append, h2, HD2.out] at o2
       have HU2 := hid (o2.byt (P := Anyb) fun _ _ => trivial)
       have HKp2 := hid (HKa1.out.trans k2.all)
       have HWp2 := hid (HWa1.out.kp k2 fun _ _ h => h)
       have HBp2 := hid (HBa1.out.kp0 k2)
       clear o2 k2)
    | (at_builtin
       refine wp_app2 isU8 rfl (.tmp 11) (.tmp 15) rfl (base := base) (xs := xs ++ [k]) (ys := d2) (by exact HWp2.out) (by exact HU2.out) (by have := HL.out; have := HL2.out; have := HL4.out; simp; omega) (by have := HKp2.out.size; have := HB0.out; omega) ?_
       intro va2 wa2 o3 k3 f3
       have HWa2 := hid o3
       have HFa2 := hid (HFa1.out.app HBp2.out.lt f3)
       have HBa2 := hid (HBp2.out.kp k3 fun h => HFa1.out _ h rfl)
       have HKa2 := hid (HKp2.out.step k3 fun i hi h => HWp2.out.at_ i h)
       have cc2 : wa2.cell? ⟨w.heap.size, 2, none⟩ = some (.int .u32 (c : Int)) := HBa2.out.cell 2
       clear o3 k3 f3))
  go_wp2_with (first
    | (go_at_call 32
       refine (put_any (S := Anyb) _ [] _ 4 _ (Byt.nil _ _) (by omega) (by simp)).mono ?_
       rintro e wp3 ⟨u2, rfl, o2, k2⟩
       rw [List.nil_append, h4, HD4.out] at o2
       have HU3 := hid (o2.byt (P := Anyb) fun _ _ => trivial)
       have HKp3 := hid (HKa2.out.trans k2.all)
       have HWp3 := hid (HWa2.out.kp k2 fun _ _ h => h)
       have HBp3 := hid (HBa2.out.kp0 k2)
       clear o2 k2)
    | (at_builtin
       refine wp_app2 isU8 rfl (.tmp 17) (.tmp 21) rfl (base := base) (xs := xs ++ [k] ++ d2) (ys := d4) (by exact HWp3.out) (by exact HU3.out) (by have := HL.out; have := HL2.out; have := HL4.out; simp; omega) (by have := HKp3.out.size; have := HB0.out; omega) ?_
       intro va3 wa3 o3 k3 f3
       have HWa3 := hid o3
       have HFa3 := hid (HFa2.out.app HBp3.out.lt f3)
       have HBa3 := hid (HBp3.out.kp k3 fun h => HFa2.out _ h rfl)
       have HKa3 := hid (HKp3.out.step k3 fun i hi h => HWp3.out.at_ i h)
       clear o3 k3 f3))
  go_ret
  have := HWa3.out
  rw [HR.out] at this
  exact ⟨_, rfl, this, HKa3.out⟩
end
end Go.Proofs.YtggmdgdgljlddaaGreatDoor

/-
  Contracts of the program's small functions of parcel: takeRow, sealed, Equal, HasPrefix.
-/
namespace Go.Proofs.YtggmdgdgljlddaaGreatDoor
open Go.RowKit

section
variable {w w' : World} {P S T : Nat → Prop} {v u : Value} {xs ys : List Int}
theorem nx_ok {m : Nat} (h : m ≤ xs.length) : nxP xs 0 m = xs.take m ∧ nxR xs 0 m = xs.drop m ∧ nxE xs 0 m = 0 := by
  unfold nxP nxR nxE
  rw [if_pos ⟨rfl, by omega, by omega⟩, if_pos ⟨rfl, by omega, by omega⟩, if_pos rfl, if_neg (by omega), if_neg (by omega)]
  exact ⟨by simp, by simp, rfl⟩

/-- Seven bytes are read as a row. -/
def enRd (xs : List Int) : En := ⟨xs.getD 0 0, (xs.getD 1 0 + 256 * xs.getD 2 0).toNat, (xs.drop 3).take 4⟩
theorem take_one {xs : List Int} (h : 1 ≤ xs.length) : num (xs.take 1) = xs.getD 0 0 := by
  match xs, h with
  | x :: r, _ => simp [num]
theorem take_two {xs : List Int} (h : 3 ≤ xs.length) : num ((xs.drop 1).take 2) = xs.getD 1 0 + 256 * xs.getD 2 0 := by
  match xs, h with
  | x :: y :: z :: r, _ => simp [num]
theorem getD_bs {xs : List Int} (h : Bs xs) (i : Nat) : 0 ≤ xs.getD i 0 ∧ xs.getD i 0 ≤ 255 := getD_rg h i

theorem takerow_any {g : Nat} (h : Rd w g xs 0) (hb : Bs xs) (hl : 7 ≤ xs.length) :
    Calls Tryz.prog 98 #[.pointer (some ⟨g, 0, none⟩)] w fun e w' => e = .returned (.agg #[rc (enRd xs) 0, rc (enRd xs) 1, rc (enRd xs) 2]) ∧ Rd w' g (xs.drop 7) 0 ∧ Kp (Only g) w w' := by
  have hg := h.lt
  have H1 := nx_ok (xs := xs) (m := 1) (by omega)
  have H2 := nx_ok (xs := xs.drop 1) (m := 2) (by simp; omega)
  have H4 := nx_ok (xs := xs.drop 3) (m := 4) (by simp; omega)
  rw [List.drop_drop] at H2 H4
  have e1 := take_one (xs := xs) (by omega)
  have e2 := take_two (xs := xs) (by omega)
  have b0 := getD_bs hb 0
  have b1 := getD_bs hb 1
  have b2 := getD_bs hb 2
  have b4 := num4 (ys := (xs.drop 3).take 4) (fun y hy => hb y (List.mem_of_mem_drop (List.mem_of_mem_take hy))) (by simp; omega)
  obtain ⟨k, hk⟩ : ∃ k, xs.getD 0 0 = k := ⟨_, rfl⟩
  obtain ⟨n, hn⟩ : ∃ n, xs.getD 1 0 + 256 * xs.getD 2 0 = n := ⟨_, rfl⟩
  obtain ⟨c, hc⟩ : ∃ c, num ((xs.drop 3).take 4) = c := ⟨_, rfl⟩
  have hn0 : 0 ≤ n ∧ n ≤ 65535 := by omega
  have HE := hid (show (.agg #[rc (enRd xs) 0, rc (enRd xs) 1, rc (enRd xs) 2] : Value) = .agg #[.int .i64 k, .int .i64 n, .int .u32 c] by
    have : ((xs.getD 1 0 + 256 * xs.getD 2 0).toNat : Int) = n := by omega
    simp only [rc, enRd, hk, this, hc])
  rw [hk] at e1 b0
  rw [hn] at e2
  rw [hc] at b4
  have P1 := hid (show num (nxP xs 0 ((1 : Nat) : Int)) = k by rw [H1.1, e1])
  have P2 := hid (show num (nxP (xs.drop 1) 0 ((2 : Nat) : Int)) = n by rw [H2.1, e2])
  have P4 := hid (show num (nxP (xs.drop 3) 0 ((4 : Nat) : Int)) = c by rw [H4.1, hc])
  have HH1 := hid H1
  have HH2 := hid H2
  have HH4 := hid H4
  have q1 : IntKind.i64.wrap k = k := wrapI (by unfold I64; omega)
  have q2 : IntKind.i64.wrap n = n := wrapI (by unfold I64; omega)
  have q4 : IntKind.u32.wrap c = c := by rw [u32w]; omega
  have R0 := hid (h.kp ((Kp.refl No w).alloc (.cells #[.int .i64 0, .int .i64 0, .int .u32 0] 72)) fun _ _ h => h)
  have K0 := hid (((Kp.refl No w).alloc (.cells #[.int .i64 0, .int .i64 0, .int .u32 0] 72)).all (S := Only g))
  have B0 := hid (Blk.new w 72 #[.int .i64 0, .int .i64 0, .int .u32 0])
  have HG := hid hg
  clear h hb hl hg H1 H2 H4 e1 e2 b1 b2 hk hn hc
  go_enter Tryz.func98, Tryz.ntmps98
  go_upto_region 2 with (first
    | (go_at_call 97
       refine (take_any g xs 0 1 _ R0.out).mono ?_
       rintro e w1 ⟨rfl, r1, k1⟩
       rw [show hw 1 = 1 from rfl, HH1.out.2.1, HH1.out.2.2] at r1
       rw [show hw 1 = 1 from rfl, P1.out]
       have R1 := hid r1
       have K1 := hid (K0.out.trans k1)
       have B1 := hid (B0.out.kp k1 fun h => by have := HG.out; unfold Only at h; omega)
       clear r1 k1))
  go_upto_region 3 with (first
    | (go_at_call 97
       refine (take_any g (xs.drop 1) 0 2 _ R1.out).mono ?_
       rintro e w2 ⟨rfl, r1, k1⟩
       rw [show hw 2 = 2 from rfl, HH2.out.2.1, HH2.out.2.2] at r1
       rw [show hw 2 = 2 from rfl, P2.out]
       have R2 := hid r1
       have K2 := hid (K1.out.trans k1)
       have B2 := hid (B1.out.kp k1 fun h => by have := HG.out; unfold Only at h; omega)
       clear r1 k1))
  go_wp2_with (first
    | (go_at_call 97
       refine (take_any g (xs.drop 3) 0 4 _ R2.out).mono ?_
       rintro e w3 ⟨rfl, r1, k1⟩
       rw [show hw 4 = 4 from rfl, HH4.out.2.1, HH4.out.2.2] at r1
       rw [show hw 4 = 4 from rfl, P4.out]
       have R3 := hid r1
       have K3 := hid (K2.out.trans k1)
       have B3 := hid (B2.out.kp k1 fun h => by have := HG.out; unfold Only at h; omega)
       have c0 : w3.cell? ⟨w.heap.size, 0, none⟩ = some (.int .i64 0) := B3.out.cell 0
       have c1 : w3.cell? ⟨w.heap.size, 1, none⟩ = some (.int .i64 0) := B3.out.cell 1
       have c2 : w3.cell? ⟨w.heap.size, 2, none⟩ = some (.int .u32 0) := B3.out.cell 2
       have f0 := B3.out.frozen 0
       have f1 := B3.out.frozen 1
       have f2 := B3.out.frozen 2
       clear r1 k1))
  have B4 := ((B3.out.put 0 (.int .i64 k)).put 1 (.int .i64 n)).put 2 (.int .u32 c)
  have K4 := ((((Kp.refl (Only w.heap.size) w3).setCell (p := ⟨w.heap.size, 0, none⟩) (.inl rfl) (.int .i64 k)).setCell (p := ⟨w.heap.size, 1, none⟩) (.inl rfl) (.int .i64 n)).setCell (p := ⟨w.heap.size, 2, none⟩) (.inl rfl) (.int .u32 c))
  have R4 := hid (R3.out.kpg K4 fun i hi h => by have := HG.out; unfold Only at h; omega)
  have K5 := hid (K3.out.step K4 fun i hi h => by unfold Only at h; omega)
  clear c0 c1 c2 f0 f1 f2
  generalize ((w3.setCell ⟨w.heap.size, 0, none⟩ (.int .i64 k)).setCell ⟨w.heap.size, 1, none⟩ (.int .i64 n)).setCell ⟨w.heap.size, 2, none⟩ (.int .u32 c) = w6 at B4 K4 R4 K5 ⊢
  have d0 : w6.cell? ⟨w.heap.size, 0, none⟩ = some (.int .i64 k) := B4.cell 0
  have d1 : w6.cell? ⟨w.heap.size, 1, none⟩ = some (.int .i64 n) := B4.cell 1
  have d2 : w6.cell? ⟨w.heap.size, 2, none⟩ = some (.int .u32 c) := B4.cell 2
  refine bodyPost_ret (v := .agg #[.int .i64 k, .int .i64 n, .int .u32 c]) ?_ rfl ⟨by rw [HE.out], R4.out, K5.out⟩
  clear B4 K4
  rw [results_cell rfl]
  go_simp

theorem sealed_any {m : Nat} (ht : Tab w) (h : Byt w S v xs) (hm : 0 < m) (hl : m + 4 ≤ xs.length) :
    Calls Tryz.prog 96 #[v, .int .i64 (m : Int)] w fun e w' => e = .returned (.bool (decide ((xs.drop m).take 4 = ck4 (xs.take m)))) ∧ Kp No w w' := by
  have HT := hid ht
  have HO := hid h
  have hbs : Bs xs := h.bytes
  obtain ⟨A, c, rfl, hc, hmx, _, hr⟩ := h
  unfold maxLen at hmx
  obtain ⟨b, o, rfl, hb, hS, _⟩ := hr (by omega)
  have HB4 := hid (HO.out.part (i := m) (m := 4) hl)
  have HBm := hid (HO.out.take m (by omega))
  have hcw := ck_word (xs := xs.take m) (ys := (xs.drop m).take 4) (fun y hy => hbs y (List.mem_of_mem_drop (List.mem_of_mem_take hy))) (by simp; omega)
  have h4 := num4 (ys := (xs.drop m).take 4) (fun y hy => hbs y (List.mem_of_mem_drop (List.mem_of_mem_take hy))) (by simp; omega)
  have H4 := nx_ok (xs := (xs.drop m).take 4) (m := 4) (by simp; omega)
  have hlen4 : ((xs.drop m).take 4).length = 4 := by simp; omega
  obtain ⟨n, hn⟩ : ∃ n, xs.length = n := ⟨_, rfl⟩
  rw [hn] at hl hc ⊢
  obtain ⟨ys, hys⟩ : ∃ ys, (xs.drop m).take 4 = ys := ⟨_, rfl⟩
  obtain ⟨zs, hzs⟩ : ∃ zs, xs.take m = zs := ⟨_, rfl⟩
  rw [hys] at H4 HB4 hcw h4 hlen4 ⊢
  rw [hzs] at HBm hcw ⊢
  obtain ⟨N, hN⟩ : ∃ N, num ys = N := ⟨_, rfl⟩
  obtain ⟨q, hq⟩ : ∃ q, ck zs = q := ⟨_, rfl⟩
  rw [hN] at hcw h4
  rw [hq] at hcw
  have HQ := hid hq
  have HN := hid (show num (nxP ys 0 ((4 : Nat) : Int)) = N by rw [H4.1, List.take_of_length_le (by omega), hN])
  have HR := hid (show decide (ys = ck4 zs) = (N == (q : Int)) by
    rw [show (N == (q : Int)) = decide (N = (q : Int)) from rfl]
    exact decide_eq_decide.2 hcw.symm)
  have HL := hid hlen4
  have b1 := wrapI (x := (m : Int) + 4) (by unfold I64; omega)
  have b2 : ((m : Int) + 4).toNat = m + 4 := by omega
  have b3 : (m : Int) ≤ (m : Int) + 4 := by omega
  have b4 : (m : Int) + 4 ≤ (c : Int) := by omega
  have b5 : m + 4 - m = 4 := by omega
  have b6 : ¬ c - m = 0 := by omega
  have b7 : ¬ c ≤ m := by omega
  have b8 : (m : Int) ≤ (c : Int) := by omega
  have q4 : IntKind.u32.wrap N = N := by rw [u32w]; omega
  clear hys hzs hN hq hcw hlen4 H4 hr hbs ht hn
  rw [HR.out]
  go_enter Tryz.func96, Tryz.ntmps96
  go_wp2_with (first
    | (go_at_call 61
       refine (new_any _ ys _ HB4.out (by have := HL.out; omega)).mono ?_
       rintro e w1 ⟨g, rfl, hg, r1, k1⟩
       have R1 := hid r1
       have K1 := hid k1
       have HG := hid hg
       clear r1 k1 hg)
    | (go_at_call 97
       refine (take_any g ys 0 4 _ R1.out).mono ?_
       rintro e w2 ⟨rfl, r2, k2⟩
       rw [show hw 4 = 4 from rfl, HN.out]
       have K2 := hid (K1.out.step k2 fun i hi h => by have := HG.out; unfold Only at h; omega)
       have HBm2 := hid (HBm.out.kp0 K2.out)
       have HT2 := hid (HT.out.kp0 K2.out)
       clear r2 k2)
    | (go_at_call 33
       refine (of_any _ zs _ HBm2.out HT2.out).mono ?_
       rintro e w3 ⟨rfl, rfl⟩
       rw [HQ.out]))
  go_ret
  exact ⟨rfl, K2.out⟩

theorem equal_any (h : Byt w S v xs) (h' : Byt w T u ys) (hx : 0 < xs.length) (hy : 0 < ys.length) :
    Calls Tryz.prog 122 #[v, u] w fun e w' => e = .returned (.bool (decide (xs = ys))) ∧ w' = w := by
  have hs := str_iff h.bytes h'.bytes
  obtain ⟨A, c, rfl, hc, hm, _, hr⟩ := h
  obtain ⟨A', c', rfl, hc', hm', _, hr'⟩ := h'
  obtain ⟨b, o, rfl, _, _, hcell⟩ := hr hx
  obtain ⟨b', o', rfl, _, _, hcell'⟩ := hr' hy
  have hcv : (convert 28 9 (.slice (some ⟨b, o, none⟩) xs.length c)).run Tryz.prog w = .ok (.string (strOfNums xs)) w :=
    run_convert_bytes_arg w 28 5 (by kernel_rfl) (by kernel_rfl) b o _ c xs rfl hcell 9 (by kernel_rfl)
  have hcv' : (convert 28 9 (.slice (some ⟨b', o', none⟩) ys.length c')).run Tryz.prog w = .ok (.string (strOfNums ys)) w :=
    run_convert_bytes_arg w 28 5 (by kernel_rfl) (by kernel_rfl) b' o' _ c' ys rfl hcell' 9 (by kernel_rfl)
  generalize strOfNums xs = s1 at hcv hs
  generalize strOfNums ys = s2 at hcv' hs
  have HS := hid (show decide (xs = ys) = (s1.toList == s2.toList) from by
    rw [show (s1.toList == s2.toList) = decide (s1.toList = s2.toList) by rw [Bool.eq_iff_iff]; simp]
    exact decide_eq_decide.2 hs.symm)
  rw [HS.out]
  generalize xs.length = n at hcv ⊢
  generalize ys.length = n' at hcv' ⊢
  clear hs hcell hcell' hr hr' hc hc' hm hm' hx hy
  go_enter Tryz.func122, Tryz.ntmps122
  go_wp2
  go_ret
  exact ⟨rfl, rfl⟩

theorem prefix_any (h : Byt w S v xs) (h' : Byt w T u ys) (hy : 0 < ys.length) (hl : ys.length ≤ xs.length) :
    Calls Tryz.prog 95 #[v, u] w fun e w' => e = .returned (.bool (decide (xs.take ys.length = ys))) ∧ w' = w := by
  have HO := hid h
  have HO' := hid h'
  obtain ⟨A, c, rfl, hc, hm, _, hr⟩ := h
  obtain ⟨A', c', rfl, hc', hm', _, hr'⟩ := h'
  have HT := hid (HO.out.take ys.length hl)
  have HL1 := hid (show 0 < (xs.take ys.length).length by simp; omega)
  have HY := hid hy
  unfold maxLen at hm hm'
  obtain ⟨n, hn⟩ : ∃ n, xs.length = n := ⟨_, rfl⟩
  obtain ⟨m, hm2⟩ : ∃ n, ys.length = n := ⟨_, rfl⟩
  obtain ⟨q, hq⟩ : ∃ q, decide (xs.take ys.length = ys) = q := ⟨_, rfl⟩
  have HQ := hid hq
  rw [hn] at hc hl HO ⊢
  rw [hm2] at hc' hl HT HL1 HQ HO' ⊢
  rw [HQ.out]
  clear hr hr' hn hm2 hq hy
  have g1 : (m : Int) ≤ (n : Int) := by omega
  have g2 : (m : Int) ≤ (c : Int) := by omega
  have HE := hid (equal_any HT.out HO'.out HL1.out HY.out)
  go_enter Tryz.func95, Tryz.ntmps95
  go_wp2_with (first
    | (go_at_call 122
       refine (HE.out).mono ?_
       rintro e w1 ⟨rfl, rfl⟩
       rw [HQ.out]))
  go_ret
  exact ⟨rfl, rfl⟩
end
end Go.Proofs.YtggmdgdgljlddaaGreatDoor
