/-
  Rows that the call owns, each element in one cell; a store and what it had, one behind the other.
-/
import Derived.Test.YtgfkbkonelphaaaGreatDoorSlV
import Derived.Test.YtgfkbkonelphaaaGreatDoorSlF
import Derived.Test.YtgfkbkonelphaaaGreatDoorSlDM
namespace Go.Proofs.YtgfkbkonelphaaaGreatDoor

theorem bs_getD {xs : List Int} (h : Bs xs) (i : Nat) : 0 ≤ xs.getD i 0 ∧ xs.getD i 0 ≤ 255 := by
  rw [List.getD_eq_getElem?_getD]
  cases hi : xs[i]? with
  | none => simp
  | some y => exact h y (List.mem_of_getElem? hi)
theorem rotL_turn {l : List Int} (h : Bs l) (t : Nat) : rotL l t = turn l t := by
  unfold rotL turn
  have hb := bs_getD h (t / 8)
  obtain ⟨n, hn⟩ : ∃ n : Nat, l.getD (t / 8) 0 = (n : Int) := ⟨(l.getD (t / 8) 0).toNat, by omega⟩
  rw [hn, flip_nat (by omega) (by omega), Int.toNat_natCast]
theorem rotL_twice {l : List Int} (h : Sec l) {t : Nat} (ht : t < 512) : rotL (rotL l t) t = l := by
  have hl : t / 8 < l.length := by rw [h.len]; omega
  have hb := bs_getD h.rg (t / 8)
  unfold rotL
  rw [getD_set_self hl, List.set_set, flip_twice (by omega) hb.1 hb.2]
  exact List.ext_getElem? fun y => by
    rw [List.getElem?_set]
    split
    · rename_i e
      subst e
      simp [List.getD, hl]
    · rfl
section
variable {s : Ds} {V V' : Nat → List Int} {h k a i t : Nat} {has has' : Bool} {img img' : List Int}
theorem rot_twice (hsec : ∀ l ∈ s.k, Sec l) (hi : i < s.k.length) (ht : t < 512) : rotted (rotted s i t) i t = s := by
  unfold rotted
  have e : (s.k.set i (rotL (s.k.getD i []) t)).set i (rotL ((s.k.set i (rotL (s.k.getD i []) t)).getD i []) t) = s.k := by
    rw [getD_set_self hi, List.set_set, rotL_twice (hsec _ (by simp [List.getD, hi])) ht]
    exact List.ext_getElem? fun y => by
      rw [List.getElem?_set]
      split
      · rename_i e
        subst e
        simp [List.getD, hi]
      · rfl
  simp only [e]
theorem look_rot (hc : ∀ j : Nat, s.c (j : Int) = none) (hi : i < s.k.length) (t j : Nat) : look (rotted s i t) j = if j = i then rotL (look s i) t else look s j := by
  have e1 : look (rotted s i t) j = (rotted s i t).k.getD j [] := look_none (s := rotted s i t) (hc j)
  rw [e1, look_none (hc i), look_none (hc j)]
  show (s.k.set i (rotL (s.k.getD i []) t)).getD j [] = _
  by_cases e : j = i
  · subst e
    rw [if_pos rfl, getD_set_self hi]
  · rw [if_neg e, getD_set_ne fun x => e x.symm]
/-- A bit of a sector of a slot is one of the slot. -/
theorem slotB_turn {x u : Nat} (hx : x < h) (hu : u < 512) (hl : ∀ i, i < h → (V (2 + k * h + i)).length = 64) (hV : ∀ i, i < h → V' (2 + k * h + i) = if i = x then turn (V (2 + k * h + x)) u else V (2 + k * h + i)) : slotB V' h k = turn (slotB V h k) (512 * x + u) := by
  have hl' : ∀ i, i < h → (V' (2 + k * h + i)).length = 64 := fun i hi => by
    rw [hV i hi]
    split
    · rw [turn_len]
      exact hl x hx
    · exact hl i hi
  have e1 : slotB V h k = segs V (2 + k * h) h := rfl
  have e2 : slotB V' h k = segs V' (2 + k * h) h := rfl
  have n1 := segs_len (V := V) (b := 2 + k * h) (n := h) hl
  have n2 := segs_len (V := V') (b := 2 + k * h) (n := h) hl'
  have d1 : (512 * x + u) / 8 = 64 * x + u / 8 := by omega
  have d2 : (512 * x + u) % 8 = u % 8 := by omega
  rw [e1, e2]
  unfold turn
  rw [d1, d2]
  have hat := segs_at (V := V) (b := 2 + k * h) (n := h) (x := 64 * x + u / 8) hl (by omega)
  rw [show (64 * x + u / 8) / 64 = x by omega, show (64 * x + u / 8) % 64 = u / 8 by omega] at hat
  refine List.ext_getElem? fun y => ?_
  by_cases hy : y < 64 * h
  · rw [segs_at hl' hy, hV _ (by omega), List.getElem?_set]
    by_cases hyx : y / 64 = x
    · rw [if_pos hyx]
      unfold turn
      rw [List.getElem?_set]
      by_cases hyu : u / 8 = y % 64
      · rw [if_pos hyu, if_pos (by rw [hl x hx]; omega), if_pos (show 64 * x + u / 8 = y by omega), if_pos (by rw [n1]; omega)]
        rw [List.getD_eq_getElem?_getD, List.getD_eq_getElem?_getD, hat]
      · rw [if_neg hyu, if_neg (by omega), segs_at hl hy, hyx]
    · rw [if_neg hyx, if_neg (by omega), segs_at hl hy]
  · rw [List.getElem?_eq_none (by omega), List.getElem?_eq_none (by rw [List.length_set]; omega)]

/-- A bit of the newest head is turned over: what was there before it is found. -/
theorem falls_head (hc : ∀ j : Nat, s.c (j : Int) = none) (hn : 2 ≤ s.k.length) (hG : Good (look s) h a has img has' img') (ha : 1 ≤ a) (ht : t < 200) : opn (look (rotted s (a % 2) t)) h = (a - 1, has', img') := by
  have ha2 : a % 2 < s.k.length := by omega
  have hV := look_rot (t := t) hc ha2
  rcases hG.new with ⟨h0, _⟩ | ⟨_, _, _, hV1, _, _, _⟩
  · omega
  · refine hG.back ha (turned_head hV1 t ht ?_) ?_ ?_
    · rw [hV, if_pos rfl]
      refine rotL_turn ?_ t
      rw [hV1]
      exact hsec_bs _ _ _
    · rw [hV, if_neg (by omega)]
    · exact slotB_eq fun i hi => by rw [hV, if_neg (by omega)]
/-- A bit of the newest image is turned over: what was there before it is found. -/
theorem falls_image {at' : Nat} (hc : ∀ j : Nat, s.c (j : Int) = none) (hn : 2 + 2 * h ≤ s.k.length) (hsec : ∀ l ∈ s.k, Sec l) (hG : Good (look s) h a has img has' img') (ha : 1 ≤ a) (hat : at' < 8 * img.length) : opn (look (rotted s (2 + a % 2 * h + at' / 512) (at' % 512))) h = (a - 1, has', img') := by
  have ha2 : a % 2 < 2 := Nat.mod_lt _ (by decide)
  have hah : a % 2 * h ≤ h := by
    rcases (show a % 2 = 0 ∨ a % 2 = 1 by omega) with e | e <;> rw [e] <;> omega
  rcases hG.new with ⟨h0, _⟩ | ⟨_, ha40, _, hV1, hs1, hl1, hf1⟩
  · omega
  have hx : at' / 512 < h := by omega
  have hV := look_rot (i := 2 + a % 2 * h + at' / 512) (t := at' % 512) hc (by omega)
  have hsl : ∀ j, j < s.k.length → Sec (look s j) := fun j hj => by
    rw [look_none (hc j)]
    exact hsec _ (by simp [List.getD, hj])
  have hht : has = true := by
    cases hq : has with
    | true => rfl
    | false =>
      have := hf1 hq
      rw [this] at hat
      simp at hat
  subst hht
  have hl : ∀ i, i < h → (look s (2 + a % 2 * h + i)).length = 64 := fun i hi => (hsl _ (by omega)).len
  have hbs : Bs img := by
    rw [← hs1]
    intro x hx
    have hx := List.mem_of_mem_take hx
    unfold slotB at hx
    obtain ⟨i, hi, hxi⟩ := List.mem_flatMap.1 hx
    exact (hsl _ (by have := List.mem_range.1 hi; omega)).rg x hxi
  refine hG.back ha (turned_image hV1 ha40 (by have := hG.room; omega) hbs at' (by omega) ?_ ?_) ?_ ?_
  · rw [hV, if_neg (by omega)]
  · have e := slotB_turn (V := look s) (V' := look (rotted s (2 + a % 2 * h + at' / 512) (at' % 512))) (k := a % 2) (u := at' % 512) hx (by omega) hl fun i hi => by
      rw [hV]
      by_cases hix : i = at' / 512
      · subst hix
        rw [if_pos rfl, if_pos rfl]
        exact rotL_turn (hsl _ (by omega)).rg _
      · rw [if_neg (by omega), if_neg hix]
    rw [e, show 512 * (at' / 512) + at' % 512 = at' by omega, turn_take (by omega), hs1]
  · rw [hV, if_neg (by omega)]
  · refine slotB_eq fun i hi => ?_
    rw [hV, if_neg]
    rcases (show a % 2 = 0 ∧ (a + 1) % 2 = 1 ∨ a % 2 = 1 ∧ (a + 1) % 2 = 0 by omega) with ⟨e, e'⟩ | ⟨e, e'⟩
    · rw [e, e']
      omega
    · rw [e, e']
      omega
end
end Go.Proofs.YtgfkbkonelphaaaGreatDoor

namespace Go.Proofs.YtgfkbkonelphaaaGreatDoor
open Go.RowKit

/-- A block of cells of that type. -/
def Te (w : World) (e : TypeId) (i : Nat) : Prop := ∃ cs fr, w.heap[i]? = some (.cells cs e fr)
theorem Te.uniq {w : World} {e e' : TypeId} {i : Nat} (h : Te w e i) (h' : Te w e' i) : e = e' := by
  obtain ⟨c, f, h⟩ := h
  obtain ⟨c', f', h'⟩ := h'
  rw [h] at h'
  injection h' with h'
  injection h' with _ h2
theorem Blk.te {w : World} {g : Nat} {t : TypeId} {cs : Array Value} (h : Blk w g t cs) : Te w t g := ⟨cs, _, h⟩
/-- A row that the call owns, each element in one cell. -/
def Rv (w : World) (base : Nat) (e : TypeId) (v : Value) (vs : List Value) : Prop := w.ownsRow base e 1 v vs.length vs
section
variable {w w' : World} {S : Nat → Prop} {base k : Nat} {e : TypeId} {v : Value} {vs : List Value}
theorem Rv.nil (w : World) (base : Nat) (e : TypeId) : Rv w base e (.slice none 0 0) [] := World.ownsRow_nil w base e 1
theorem Rv.te (h : Rv w base e v vs) (hk : v.ownBlock = some k) : Te w e k ∧ base ≤ k := by
  rcases h.2 with ⟨rfl, _⟩ | ⟨g, cap, cur, rfl, hb, hh, _⟩
  · cases hk
  · cases hk
    exact ⟨⟨cur, _, hh⟩, hb⟩
theorem Rv.kp (h : Rv w base e v vs) (kk : Kp S w w') (hs : ∀ i, Te w e i → base ≤ i → ¬ S i) : Rv w' base e v vs := by
  refine ⟨h.1, ?_⟩
  rcases h.2 with hn | ⟨g, cap, cur, rfl, hb, hg, r⟩
  · exact .inl hn
  · exact .inr ⟨g, cap, cur, rfl, hb, (kk.block g (Array.getElem?_eq_some_iff.1 hg).1 (hs g ⟨cur, _, hg⟩ hb)).trans hg, r⟩
theorem Rv.kp0 (h : Rv w base e v vs) (kk : Kp No w w') : Rv w' base e v vs := h.kp kk fun _ _ _ h => h
theorem Rv.formN {n : Nat} (h : Rv w base e v vs) (hl : vs.length = n) : ∃ A c, v = .slice A n c := by
  subst hl
  rcases h.2 with ⟨rfl, h0⟩ | ⟨g, cap, cur, rfl, _⟩
  · exact ⟨none, 0, by rw [h0]⟩
  · exact ⟨_, _, rfl⟩
/-- How it reads. -/
theorem Rv.spot (h : Rv w base e v vs) {n : Nat} (hl : vs.length = n) (h0 : 0 < n) : ∃ g c, v = .slice (some ⟨g, 0, none⟩) n c ∧ n ≤ c ∧ ∀ j, j < n → w.cell? ⟨g, j, none⟩ = some (vs.getD j undef) := by
  subst hl
  rcases h.2 with ⟨rfl, h1⟩ | ⟨g, cap, cur, rfl, hb, hg, hl, hm, hs, ht⟩
  · omega
  · refine ⟨g, cap, rfl, hl, fun j hj => ?_⟩
    have := World.ownsRow.cellAt h j (by omega)
    rw [this]
    simp [List.getD, hj]
variable {P : Program} {t : TypeId} {bytes : Nat} {z : Value}
theorem run_row1 {ty : TypeId} (u : Us P t e 1 bytes z) (w : World) {q : Nat} {y : Value} (hown : Rv w base e v vs) (hq : w.cell? ⟨q, 0, none⟩ = some y) (h1 : y.oneCell' = true) (hle : (vs.length + 1) * bytes ≤ 140737488355328) (h63 : vs.length + 1 ≤ maxLen) (hbase : base ≤ w.heap.size) :
    ∃ v' w', (Builtin.append_ #[t, t] ty #[v, .slice (some ⟨q, 0, none⟩) 1 1]).run P w = .ok v' w' ∧ Rv w' base e v' (vs ++ [y]) ∧ w.grownBy w' v.ownBlock := by
  obtain ⟨i, hi, hz, hs, hb⟩ := info_parts u.info
  obtain ⟨v', w', hrun, h2, h3, _, _⟩ := run_append_own_at (P := P) w base t ty e i z 1 bytes u.un hi hz hs hb u.zero u.pos v vs.length vs hown ⟨q, 0, none⟩ 1 1 [y] rfl (fun j x hx => by
    match j with
    | 0 =>
      have ha : (⟨q, 0, none⟩ : Addr).add 0 = ⟨q, 0, none⟩ := by unfold Addr.add; split <;> simp_all
      rw [ha, hq]
      simpa using hx
    | j + 1 => simp at hx) (fun x hx => by rw [List.mem_singleton.1 hx]; exact h1) h63 hle hbase
  refine ⟨v', w', hrun, ?_, h3⟩
  unfold Rv
  rw [List.length_append, List.length_singleton]
  exact h2
theorem wp_row1 (u : Us P t e 1 bytes z) {ops : Array Oper} {rest : List Oper} {o : Oper} {a : Act} {w : World} {Q : Exit → Act → World → Prop} (hw : Region.wanted o (yielded ops a.tmps) = true) (s x : Operand)
    (ho : o.op = .call { callee := .builtin .append, args := #[s, x], argTypes := #[t, t] }) {q : Nat} {y : Value} (hown : Rv w base e (a.eval s) vs) (hx : a.eval x = .slice (some ⟨q, 0, none⟩) 1 1) (hq : w.cell? ⟨q, 0, none⟩ = some y) (h1 : y.oneCell' = true)
    (hle : (vs.length + 1) * bytes ≤ 140737488355328) (h63 : vs.length + 1 ≤ maxLen) (hbase : base ≤ w.heap.size)
    (h : ∀ v' w', Rv w' base e v' (vs ++ [y]) → Kp (fun k => (a.eval s).ownBlock = some k) w w' → wpList P ops Q rest (a.put o.dst v') w') : wpList P ops Q (o :: rest) a w := by
  refine BigFrame.wpList_want hw fun K hK => ?_
  obtain ⟨v', w', hrun, h2, h3⟩ := run_row1 (P := P) (ty := o.type) u w hown hq h1 hle h63 hbase
  unfold Oper.wp execOp
  simp only [ho, hx, resolve, invoke, builtin, Sem.run_bind, Sem.run_pure, Result.andThen_ok, List.map_toArray, List.map_cons, List.map_nil, hrun]
  exact hK _ _ (h v' w' h2 ((Kp.refl _ _).grown h3 fun k hk => .inl hk))
end
theorem usI : Us Tryz.prog 80 3 1 8 (.int .i64 0) := ⟨by kernel_rfl, by kernel_rfl, by decide, by decide⟩
theorem usZ : Us Tryz.prog 37 4 1 1 (.bool false) := ⟨by kernel_rfl, by kernel_rfl, by decide, by decide⟩

section
variable {w w' : World} {P S : Nat → Prop} {q g b m n h a : Nat} {s : Ds} {r : Nat × Bool × List Int} {r' : Bool × List Int} {e : TypeId}
/-- The types of a store's blocks. -/
theorem Wd.sbT (d : Wd w q g b m n h s r r') {i : Nat} (hi : SB q g b m i) (ht : Te w e i) : e = 66 ∨ e = 62 ∨ e = 85 := by
  rcases hi with rfl | rfl | rfl | rfl
  · obtain ⟨iv, hb, _⟩ := (show Str _ _ _ _ _ _ _ _ _ from d.st).hd
    exact .inl (ht.uniq hb.te)
  · exact .inr (.inl (ht.uniq d.dk.hd.te))
  · obtain ⟨cs, hb, _⟩ := d.dk.kt
    exact .inr (.inr (ht.uniq hb.te))
  · obtain ⟨D, ⟨es, clock, e1, _⟩, _⟩ := d.dk.mp
    obtain ⟨cs, fr, h2⟩ := ht
    rw [e1] at h2
    cases h2
theorem Wd.kpe (d : Wd w q g b m n h s r r') (k : Kp S w w') (hS : ∀ i, S i → Te w e i) (h1 : e ≠ 66) (h2 : e ≠ 62) (h3 : e ≠ 85) (h4 : e ≠ 5) : Wd w' q g b m n h s r r' := by
  have hno : ∀ i, SB q g b m i → ¬ S i := fun i hi hs => by
    rcases d.sbT hi (hS i hs) with e | e | e
    · exact h1 e
    · exact h2 e
    · exact h3 e
  exact ⟨d.dk.kp k (hno g (.inr (.inl rfl))) (hno b (.inr (.inr (.inl rfl)))) (hno m (.inr (.inr (.inr rfl)))), Str.kpt d.st k (hno q (.inl rfl)) fun i _ ht hs => h4 ((hS i hs).uniq ht), d.on, d.cl, d.kl, d.hn, d.n4, d.gd⟩
theorem Wd.byu (d : Wd w q g b m n h s r r') {v : Value} {xs : List Int} (hb : Byu w Anyb v xs) (k : Kp (SB q g b m) w w') : Byu w' Anyb v xs := hb.kp k fun i _ ht hi => by
  rcases d.sbT hi ht with e | e | e
  · exact absurd e (by decide)
  · exact absurd e (by decide)
  · exact absurd e (by decide)

/-- What there was. -/
def h0 : Nat × Bool × List Int := (0, false, [])
structure Hi (r : Nat × Bool × List Int) (r' : Bool × List Int) (hs : List (Nat × Bool × List Int)) : Prop where
  len : hs.length = r.1 + 1
  last : hs.getD r.1 h0 = r
  prev : 1 ≤ r.1 → hs.getD (r.1 - 1) h0 = (r.1 - 1, r'.1, r'.2)
theorem Hi.snoc {hs : List (Nat × Bool × List Int)} (hh : Hi r r' hs) {r2 : Nat × Bool × List Int} (h2 : r2.1 = r.1 + 1) : Hi r2 r.2 (hs ++ [r2]) := by
  have hl := hh.len
  refine ⟨by rw [List.length_append, List.length_singleton, hl, h2], ?_, fun _ => ?_⟩
  · rw [h2, ← hl]
    simp [List.getD]
  · rw [h2, Nat.add_sub_cancel]
    have e := hh.last
    rw [List.getD_eq_getElem?_getD, List.getElem?_append_left (by omega), ← List.getD_eq_getElem?_getD, e]

/-- What the walk holds between two rounds: the store, and the rows of what there was. -/
structure FI (w0 : World) (q g b m k : Nat) (v9 v10 v11 : Value) (s : Ds) (r : Nat × Bool × List Int) (r' : Bool × List Int) (hs : List (Nat × Bool × List Int)) (us : List Value) (w : World) : Prop where
  wd : Wd w q g b m 40 19 s r r'
  le : r.1 ≤ k
  hi : Hi r r' hs
  ul : us.length = hs.length
  ra : Rv w w0.heap.size 3 v9 (hs.map fun x => .int .i64 (x.1 : Int))
  rb : Rv w w0.heap.size 4 v10 (hs.map fun x => .bool x.2.1)
  rc : Rv w w0.heap.size 36 v11 us
  by' : ∀ j, j < hs.length → Byu w Anyb (us.getD j undef) (hs.getD j h0).2.2
variable {w0 : World} {k : Nat} {v9 v10 v11 : Value} {hs : List (Nat × Bool × List Int)} {us : List Value}
theorem FI.kp0 (f : FI w0 q g b m k v9 v10 v11 s r r' hs us w) (kk : Kp No w w') : FI w0 q g b m k v9 v10 v11 s r r' hs us w' :=
  ⟨f.wd.kp0 kk, f.le, f.hi, f.ul, f.ra.kp0 kk, f.rb.kp0 kk, f.rc.kp0 kk, fun j hj => (f.by' j hj).kp0 kk⟩
/-- The rows, where the store has gone on. -/
structure FR (w0 : World) (q g b m : Nat) (v9 v10 v11 : Value) (s2 : Ds) (r r2 : Nat × Bool × List Int) (r' : Bool × List Int) (hs : List (Nat × Bool × List Int)) (us : List Value) (w : World) : Prop where
  wd : Wd w q g b m 40 19 s2 r2 r.2
  hi : Hi r r' hs
  ul : us.length = hs.length
  ra : Rv w w0.heap.size 3 v9 (hs.map fun x => .int .i64 (x.1 : Int))
  rb : Rv w w0.heap.size 4 v10 (hs.map fun x => .bool x.2.1)
  rc : Rv w w0.heap.size 36 v11 us
  by' : ∀ j, j < hs.length → Byu w Anyb (us.getD j undef) (hs.getD j h0).2.2
theorem FI.go {r2 : Nat × Bool × List Int} {s2 : Ds} (f : FI w0 q g b m k v9 v10 v11 s r r' hs us w) (kk : Kp (SB q g b m) w w') (hw : Wd w' q g b m 40 19 s2 r2 r.2) : FR w0 q g b m v9 v10 v11 s2 r r2 r' hs us w' := by
  have hn : ∀ e : TypeId, e ≠ 66 → e ≠ 62 → e ≠ 85 → ∀ i, Te w e i → w0.heap.size ≤ i → ¬ SB q g b m i := fun e h1 h2 h3 i ht _ hi => by
    rcases f.wd.sbT hi ht with e' | e' | e'
    · exact h1 e'
    · exact h2 e'
    · exact h3 e'
  exact ⟨hw, f.hi, f.ul, f.ra.kp kk (hn _ (by decide) (by decide) (by decide)), f.rb.kp kk (hn _ (by decide) (by decide) (by decide)), f.rc.kp kk (hn _ (by decide) (by decide) (by decide)), fun j hj => f.wd.byu (f.by' j hj) kk⟩
theorem FI.stay (f : FI w0 q g b m k v9 v10 v11 s r r' hs us w) (kk : Kp (SB q g b m) w w') (hw : Wd w' q g b m 40 19 s r r') : FI w0 q g b m (k + 1) v9 v10 v11 s r r' hs us w' := by
  have hn : ∀ e : TypeId, e ≠ 66 → e ≠ 62 → e ≠ 85 → ∀ i, Te w e i → w0.heap.size ≤ i → ¬ SB q g b m i := fun e h1 h2 h3 i ht _ hi => by
    rcases f.wd.sbT hi ht with e' | e' | e'
    · exact h1 e'
    · exact h2 e'
    · exact h3 e'
  exact ⟨hw, Nat.le_succ_of_le f.le, f.hi, f.ul, f.ra.kp kk (hn _ (by decide) (by decide) (by decide)), f.rb.kp kk (hn _ (by decide) (by decide) (by decide)), f.rc.kp kk (hn _ (by decide) (by decide) (by decide)), fun j hj => f.wd.byu (f.by' j hj) kk⟩
end
section
variable {w w' w0 : World} {q g b m : Nat} {s : Ds} {r r2 : Nat × Bool × List Int} {r' rr : Bool × List Int} {v9 v10 v11 v : Value} {l9 l10 l11 l : List Value} {bs : List (Value × List Int)} {hs : List (Nat × Bool × List Int)} {us : List Value}
/-- The rows, one by one. -/
structure GX (w0 : World) (q g b m : Nat) (v9 : Value) (l9 : List Value) (v10 : Value) (l10 : List Value) (v11 : Value) (l11 : List Value) (s : Ds) (r : Nat × Bool × List Int) (rr : Bool × List Int) (bs : List (Value × List Int)) (w : World) : Prop where
  wd : Wd w q g b m 40 19 s r rr
  ra : Rv w w0.heap.size 3 v9 l9
  rb : Rv w w0.heap.size 4 v10 l10
  rc : Rv w w0.heap.size 36 v11 l11
  by' : ∀ x ∈ bs, Byu w Anyb x.1 x.2
theorem GX.kp0 (f : GX w0 q g b m v9 l9 v10 l10 v11 l11 s r rr bs w) (k : Kp No w w') : GX w0 q g b m v9 l9 v10 l10 v11 l11 s r rr bs w' := ⟨f.wd.kp0 k, f.ra.kp0 k, f.rb.kp0 k, f.rc.kp0 k, fun x hx => (f.by' x hx).kp0 k⟩
theorem GX.more (f : GX w0 q g b m v9 l9 v10 l10 v11 l11 s r rr bs w) {u : Value} {xs : List Int} (h : Byu w Anyb u xs) : GX w0 q g b m v9 l9 v10 l10 v11 l11 s r rr (bs ++ [(u, xs)]) w := ⟨f.wd, f.ra, f.rb, f.rc, fun x hx => by
  rcases List.mem_append.1 hx with hx | hx
  · exact f.by' x hx
  · rw [List.mem_singleton.1 hx]
    exact h⟩
theorem GX.ap9 (f : GX w0 q g b m v9 l9 v10 l10 v11 l11 s r rr bs w) (k : Kp (fun i => v9.ownBlock = some i) w w') (h : Rv w' w0.heap.size 3 v l) : GX w0 q g b m v l v10 l10 v11 l11 s r rr bs w' := by
  have hT : ∀ i, v9.ownBlock = some i → Te w 3 i := fun i hi => (f.ra.te hi).1
  exact ⟨f.wd.kpe k hT (by decide) (by decide) (by decide) (by decide), h, f.rb.kp k fun i ht _ hs => absurd (ht.uniq (hT i hs)) (by decide), f.rc.kp k fun i ht _ hs => absurd (ht.uniq (hT i hs)) (by decide), fun x hx => (f.by' x hx).kp k fun i _ ht hs => absurd (Te.uniq ht (hT i hs)) (by decide)⟩
theorem GX.ap10 (f : GX w0 q g b m v9 l9 v10 l10 v11 l11 s r rr bs w) (k : Kp (fun i => v10.ownBlock = some i) w w') (h : Rv w' w0.heap.size 4 v l) : GX w0 q g b m v9 l9 v l v11 l11 s r rr bs w' := by
  have hT : ∀ i, v10.ownBlock = some i → Te w 4 i := fun i hi => (f.rb.te hi).1
  exact ⟨f.wd.kpe k hT (by decide) (by decide) (by decide) (by decide), f.ra.kp k fun i ht _ hs => absurd (ht.uniq (hT i hs)) (by decide), h, f.rc.kp k fun i ht _ hs => absurd (ht.uniq (hT i hs)) (by decide), fun x hx => (f.by' x hx).kp k fun i _ ht hs => absurd (Te.uniq ht (hT i hs)) (by decide)⟩
theorem GX.ap11 (f : GX w0 q g b m v9 l9 v10 l10 v11 l11 s r rr bs w) (k : Kp (fun i => v11.ownBlock = some i) w w') (h : Rv w' w0.heap.size 36 v l) : GX w0 q g b m v9 l9 v10 l10 v l s r rr bs w' := by
  have hT : ∀ i, v11.ownBlock = some i → Te w 36 i := fun i hi => (f.rc.te hi).1
  exact ⟨f.wd.kpe k hT (by decide) (by decide) (by decide) (by decide), f.ra.kp k fun i ht _ hs => absurd (ht.uniq (hT i hs)) (by decide), f.rb.kp k fun i ht _ hs => absurd (ht.uniq (hT i hs)) (by decide), h, fun x hx => (f.by' x hx).kp k fun i _ ht hs => absurd (Te.uniq ht (hT i hs)) (by decide)⟩
def prs (hs : List (Nat × Bool × List Int)) (us : List Value) : List (Value × List Int) := (List.range hs.length).map fun j => (us.getD j undef, (hs.getD j h0).2.2)
theorem FR.gx (f : FR w0 q g b m v9 v10 v11 s r r2 r' hs us w) : GX w0 q g b m v9 (hs.map fun x => .int .i64 (x.1 : Int)) v10 (hs.map fun x => .bool x.2.1) v11 us s r2 r.2 (prs hs us) w := ⟨f.wd, f.ra, f.rb, f.rc, fun x hx => by
  obtain ⟨j, hj, rfl⟩ := List.mem_map.1 hx
  exact f.by' j (List.mem_range.1 hj)⟩
theorem getD_app {α : Type} {l : List α} {x d : α} {j : Nat} (h : j < l.length) : (l ++ [x]).getD j d = l.getD j d := by rw [List.getD_eq_getElem?_getD, List.getElem?_append_left h, ← List.getD_eq_getElem?_getD]
theorem getD_end {α : Type} {l : List α} {x d : α} {j : Nat} (h : j = l.length) : (l ++ [x]).getD j d = x := by subst h; simp [List.getD]
theorem FI.of {k : Nat} {u : Value} (hh : Hi r r' hs) (hu : us.length = hs.length) (hk : r2.1 ≤ k) (h2 : r2.1 = r.1 + 1) (f : GX w0 q g b m v9 ((hs.map fun x => .int .i64 (x.1 : Int)) ++ [.int .i64 (r2.1 : Int)]) v10 ((hs.map fun x => .bool x.2.1) ++ [.bool r2.2.1]) v11 (us ++ [u]) s r2 r.2 (prs hs us ++ [(u, r2.2.2)]) w) : FI w0 q g b m k v9 v10 v11 s r2 r.2 (hs ++ [r2]) (us ++ [u]) w := by
  refine ⟨f.wd, hk, hh.snoc h2, by simp [hu], by rw [List.map_append]; exact f.ra, by rw [List.map_append]; exact f.rb, f.rc, fun j hj => ?_⟩
  rw [List.length_append, List.length_singleton] at hj
  by_cases hjl : j < hs.length
  · rw [getD_app (by omega), getD_app hjl]
    exact f.by' (us.getD j undef, (hs.getD j h0).2.2) (List.mem_append_left _ (List.mem_map.2 ⟨j, List.mem_range.2 hjl, rfl⟩))
  · have e : j = hs.length := by omega
    rw [getD_end (by omega), getD_end e]
    exact f.by' (u, r2.2.2) (by simp)
end
end Go.Proofs.YtgfkbkonelphaaaGreatDoor
