/-
  Plain facts: a scene as sections of bytes, and what sections are read as. Nothing of Go is named here.
-/
import Derived.Test.YtggmdgdgljlddaaGreatDoorZParts
import Derived.Test.YtggmdgdgljlddaaGreatDoorPMatb
import Derived.Test.YtggmdgdgljlddaaGreatDoorNum
namespace Go.Proofs.YtggmdgdgljlddaaGreatDoor

theorem jdg_num : ∀ (xs : List Int), (∀ x ∈ xs, 0 ≤ x ∧ x ≤ 255) → dg (num xs) xs.length = xs
  | [], _ => rfl
  | x :: r, h => by
    have hx := h x (List.mem_cons_self ..)
    have ih := jdg_num r fun y hy => h y (List.mem_cons_of_mem _ hy)
    rw [List.length_cons, num, dg, show (x + 256 * num r) % 256 = x by omega, show (x + 256 * num r) / 256 = num r by omega, ih]
theorem num_dg_in {n : Int} {k : Nat} (h : 0 ≤ n ∧ n < pw k) : num (dg n k) = n := by rw [num_dg, Int.emod_eq_of_lt h.1 h.2]
/-- The first so many of what begins with so many. -/
theorem take_dg (n : Int) (k : Nat) (r : List Int) : (dg n k ++ r).take k = dg n k := by
  rw [List.take_append_of_le_length (by rw [dg_len]; exact Nat.le_refl _), List.take_of_length_le (by rw [dg_len]; exact Nat.le_refl _)]
theorem drop_dg (n : Int) (k : Nat) (r : List Int) : (dg n k ++ r).drop k = r := by
  have h := dg_len k n
  conv => lhs; arg 1; rw [← h]
  rw [List.drop_left]
/-- Numbers, each in so many bytes. -/
def rowOf (l : List (Int × Nat)) : List Int := l.flatMap fun x => dg x.1 x.2

def flg (b : Bool) : Int := if b then 1 else 0
def grow (g : GS) : List Int := dg g.id 3 ++ (dg g.par 3 ++ dg g.wt 3)
def brow (g : GS) : List Int := dg g.pd 3 ++ (dg g.qt 3 ++ dg g.us 6)
def trow (t : TS) : List Int := dg t.id 3 ++ (dg t.gr 3 ++ (dg t.wt 3 ++ (dg (flg t.sl) 1 ++ (dg t.ra 6 ++ (dg t.lv 8 ++ dg t.lr 3)))))
def crow (t : TS) : List Int := dg t.co 8
theorem grow_row (g : GS) : rowOf [(g.id, 3), (g.par, 3), (g.wt, 3)] = grow g := by simp [rowOf, grow]
theorem brow_row (g : GS) : rowOf [(g.pd, 3), (g.qt, 3), (g.us, 6)] = brow g := by simp [rowOf, brow]
theorem trow_row (t : TS) : rowOf [(t.id, 3), (t.gr, 3), (t.wt, 3), (flg t.sl, 1), (t.ra, 6), (t.lv, 8), (t.lr, 3)] = trow t := by simp [rowOf, trow]
theorem crow_row (t : TS) : rowOf [(t.co, 8)] = crow t := by simp [rowOf, crow]
theorem grow_len (g : GS) : (grow g).length = 9 := by simp [grow, dg_len]
theorem brow_len (g : GS) : (brow g).length = 12 := by simp [brow, dg_len]
theorem trow_len (t : TS) : (trow t).length = 27 := by simp [trow, dg_len]
theorem crow_len (t : TS) : (crow t).length = 8 := by simp [crow, dg_len]
theorem flat_row {α : Type} {f : α → List Int} {k : Nat} (h : ∀ x, (f x).length = k) : ∀ l : List α, (l.flatMap f).length = k * l.length
  | [] => by simp
  | x :: l => by rw [List.flatMap_cons, List.length_append, h, flat_row h l, List.length_cons, Nat.mul_add]; omega
def bod1 (gs : List GS) : List Int := gs.flatMap grow
def bod2 (gs : List GS) : List Int := gs.flatMap brow
def bod3 (ts : List TS) : List Int := ts.flatMap trow
def bod4 (ts : List TS) : List Int := ts.flatMap crow
theorem bod1_len (gs : List GS) : (bod1 gs).length = 9 * gs.length := flat_row grow_len gs
theorem bod2_len (gs : List GS) : (bod2 gs).length = 12 * gs.length := flat_row brow_len gs
theorem bod3_len (ts : List TS) : (bod3 ts).length = 27 * ts.length := flat_row trow_len ts
theorem bod4_len (ts : List TS) : (bod4 ts).length = 8 * ts.length := flat_row crow_len ts
def secs (gs : List GS) (ts : List TS) : List Sn := [⟨1, bod1 gs⟩, ⟨2, bod2 gs⟩, ⟨3, bod3 ts⟩, ⟨4, bod4 ts⟩]
theorem Bs.flat {α : Type} {f : α → List Int} {l : List α} (h : ∀ x ∈ l, Bs (f x)) : Bs (l.flatMap f) := fun y hy => by
  obtain ⟨x, hx, hy⟩ := List.mem_flatMap.1 hy
  exact h x hx y hy
theorem Bs.dg (n : Int) (k : Nat) : Bs (dg n k) := fun x hx => dg_bytes k n x hx
theorem grow_bs (g : GS) : Bs (grow g) := (Bs.dg _ _).app ((Bs.dg _ _).app (Bs.dg _ _))
theorem brow_bs (g : GS) : Bs (brow g) := (Bs.dg _ _).app ((Bs.dg _ _).app (Bs.dg _ _))
theorem trow_bs (t : TS) : Bs (trow t) := (Bs.dg _ _).app ((Bs.dg _ _).app ((Bs.dg _ _).app ((Bs.dg _ _).app ((Bs.dg _ _).app ((Bs.dg _ _).app (Bs.dg _ _))))))
theorem crow_bs (t : TS) : Bs (crow t) := Bs.dg _ _
theorem secs_bs (gs : List GS) (ts : List TS) : ∀ s ∈ secs gs ts, Bs s.body := by
  intro s hs
  simp only [secs, List.mem_cons, List.not_mem_nil, or_false] at hs
  rcases hs with rfl | rfl | rfl | rfl
  · exact Bs.flat fun g _ => grow_bs g
  · exact Bs.flat fun g _ => brow_bs g
  · exact Bs.flat fun t _ => trow_bs t
  · exact Bs.flat fun t _ => crow_bs t
theorem secs_image_len (gs : List GS) (ts : List TS) : (image (secs gs ts)).length = 41 + 21 * gs.length + 35 * ts.length := by
  rw [image_len]
  simp only [secs, List.map_cons, List.map_nil, List.sum_cons, List.sum_nil, List.length_cons, List.length_nil, bod1_len, bod2_len, bod3_len, bod4_len]
  omega
/-- What is wrong with a scene's sections: only that one is too long. -/
theorem secs_wrong (gs : List GS) (ts : List TS) : wrong (secs gs ts) = if 65535 < 12 * gs.length ∨ 65535 < 27 * ts.length then 22 else 0 := by
  have h1 : risen 0 (secs gs ts) = true := by simp [secs, risen]
  unfold wrong
  rw [if_neg (by simp [secs]), if_neg (by rw [h1]; decide)]
  simp only [secs, List.all_cons, List.all_nil, bod1_len, bod2_len, bod3_len, bod4_len, Bool.and_true]
  by_cases h : 65535 < 12 * gs.length ∨ 65535 < 27 * ts.length
  · rw [if_pos h, if_pos]
    rw [Bool.eq_false_iff]
    intro e
    simp only [Bool.and_eq_true, decide_eq_true_eq] at e
    omega
  · rw [if_neg h, if_neg]
    rw [Bool.not_eq_false]
    simp only [Bool.and_eq_true, decide_eq_true_eq]
    omega
theorem secs_can {gs : List GS} {ts : List TS} (hg : gs.length ≤ 30) (ht : ts.length ≤ 30) : Can (secs gs ts) := (can_iff _).1 (by rw [secs_wrong, if_neg (by omega)])

/-! ### What is read -/
def gOf (a b : List Int) : GS := ⟨num (a.take 3), num ((a.drop 3).take 3), num (((a.drop 3).drop 3).take 3), num (b.take 3), num ((b.drop 3).take 3), num (((b.drop 3).drop 3).take 6)⟩
def gsOf : Nat → List Int → List Int → List GS
  | 0, _, _ => []
  | n + 1, a, b => gOf a b :: gsOf n (a.drop 9) (b.drop 12)
def aw (a : List Int) : Int := num ((((a.drop 3).drop 3).drop 3).take 1)
def w64 (x : Int) : Int := if 9223372036854775808 ≤ x then x - 18446744073709551616 else x
def tOf (a b : List Int) : TS :=
  ⟨num (a.take 3), num ((a.drop 3).take 3), num (((a.drop 3).drop 3).take 3), num (b.take 8), decide (aw a = 1), num (((((a.drop 3).drop 3).drop 3).drop 1).take 6), w64 (num ((((((a.drop 3).drop 3).drop 3).drop 1).drop 6).take 8)), num (((((((a.drop 3).drop 3).drop 3).drop 1).drop 6).drop 8).take 3)⟩
def tsOf : Nat → List Int → List Int → Option (List TS)
  | 0, _, _ => some []
  | n + 1, a, b => if aw a ≤ 1 then (tsOf n (a.drop 27) (b.drop 8)).map (tOf a b :: ·) else none
def pairB (n k m l : Nat) : Bool := decide (n = n / k * k) && decide (m = n / k * l)
def parse (a b c d : List Int) : Option (List GS × List TS) :=
  if pairB a.length 9 b.length 12 = true ∧ pairB c.length 27 d.length 8 = true then (tsOf (c.length / 27) c d).map fun ts => (gsOf (a.length / 9) a b, ts) else none
noncomputable def ofSecs : List Sn → Int × List GS × List TS
  | [a, b, c, d] => if a.kind = 1 ∧ b.kind = 2 ∧ c.kind = 3 ∧ d.kind = 4 then
      match parse a.body b.body c.body d.body with
      | none => (5, [], [])
      | some (gs, ts) => if checkS gs ts = 0 then (0, gs, ts) else (checkS gs ts, [], [])
    else (21, [], [])
  | _ => (21, [], [])
/-- What bytes are decoded as. -/
noncomputable def dec (xs : List Int) : Int × List GS × List TS := if (unp xs).1 = 0 then ofSecs (unp xs).2 else ((unp xs).1, [], [])
/-- What a scene is encoded as. -/
noncomputable def encE (gs : List GS) (ts : List TS) : Int := if checkS gs ts = 0 then wrong (secs gs ts) else checkS gs ts

/-- A scene's numbers fit. -/
structure GR (g : GS) : Prop where
  id : 0 ≤ g.id ∧ g.id < 16777216
  par : 0 ≤ g.par ∧ g.par < 16777216
  wt : 0 ≤ g.wt ∧ g.wt < 16777216
  pd : 0 ≤ g.pd ∧ g.pd < 16777216
  qt : 0 ≤ g.qt ∧ g.qt < 16777216
  us : 0 ≤ g.us ∧ g.us < 281474976710656
structure TR (t : TS) : Prop where
  id : 0 ≤ t.id ∧ t.id < 16777216
  gr : 0 ≤ t.gr ∧ t.gr < 16777216
  wt : 0 ≤ t.wt ∧ t.wt < 16777216
  co : 0 ≤ t.co ∧ t.co ≤ 18446744073709551615
  ra : 0 ≤ t.ra ∧ t.ra < 281474976710656
  lv : 0 ≤ t.lv ∧ t.lv < 9223372036854775808
  lr : 0 ≤ t.lr ∧ t.lr < 16777216
theorem pw3 : pw 3 = 16777216 := by decide
theorem pw1 : pw 1 = 256 := by decide
theorem pw6 : pw 6 = 281474976710656 := by decide
theorem pw8 : pw 8 = 18446744073709551616 := by decide
theorem gOf_row {g : GS} (h : GR g) (r s : List Int) : gOf (grow g ++ r) (brow g ++ s) = g := by
  unfold gOf grow brow
  simp only [List.append_assoc, take_dg, drop_dg]
  rw [num_dg_in (by rw [pw3]; exact h.id), num_dg_in (by rw [pw3]; exact h.par), num_dg_in (by rw [pw3]; exact h.wt), num_dg_in (by rw [pw3]; exact h.pd), num_dg_in (by rw [pw3]; exact h.qt), num_dg_in (by rw [pw6]; exact h.us)]
theorem drop_row {a : List Int} {k : Nat} (h : a.length = k) (r : List Int) : (a ++ r).drop k = r := by
  subst h
  exact List.drop_left
theorem gsOf_rows : ∀ {gs : List GS}, (∀ g ∈ gs, GR g) → ∀ r s, gsOf gs.length (bod1 gs ++ r) (bod2 gs ++ s) = gs
  | [], _, _, _ => rfl
  | g :: gs, h, r, s => by
    have e1 : bod1 (g :: gs) ++ r = grow g ++ (bod1 gs ++ r) := by unfold bod1; rw [List.flatMap_cons, List.append_assoc]
    have e2 : bod2 (g :: gs) ++ s = brow g ++ (bod2 gs ++ s) := by unfold bod2; rw [List.flatMap_cons, List.append_assoc]
    rw [e1, e2, List.length_cons, gsOf, gOf_row (h g (List.mem_cons_self ..)), drop_row (grow_len g), drop_row (brow_len g), gsOf_rows (fun x hx => h x (List.mem_cons_of_mem _ hx))]
theorem flg_bd (b : Bool) : 0 ≤ flg b ∧ flg b ≤ 1 := by cases b <;> decide
theorem aw_row (t : TS) (r : List Int) : aw (trow t ++ r) = flg t.sl := by
  unfold aw trow
  simp only [List.append_assoc, take_dg, drop_dg]
  have := flg_bd t.sl
  rw [num_dg_in (by rw [pw1]; omega)]
theorem tOf_row {t : TS} (h : TR t) (r s : List Int) : tOf (trow t ++ r) (crow t ++ s) = t := by
  have ha := aw_row t r
  unfold tOf
  rw [ha]
  unfold trow crow
  simp only [List.append_assoc, take_dg, drop_dg]
  have hv := h.lv
  rw [num_dg_in (by rw [pw3]; exact h.id), num_dg_in (by rw [pw3]; exact h.gr), num_dg_in (by rw [pw3]; exact h.wt), num_dg_in (by rw [pw8]; have := h.co; omega), num_dg_in (by rw [pw6]; exact h.ra), num_dg_in (by rw [pw8]; omega), num_dg_in (by rw [pw3]; exact h.lr)]
  have e1 : decide (flg t.sl = 1) = t.sl := by cases t.sl <;> decide
  have e2 : w64 t.lv = t.lv := by unfold w64; rw [if_neg (by omega)]
  rw [e1, e2]
theorem tsOf_rows : ∀ {ts : List TS}, (∀ t ∈ ts, TR t) → ∀ r s, tsOf ts.length (bod3 ts ++ r) (bod4 ts ++ s) = some ts
  | [], _, _, _ => rfl
  | t :: ts, h, r, s => by
    have e1 : bod3 (t :: ts) ++ r = trow t ++ (bod3 ts ++ r) := by unfold bod3; rw [List.flatMap_cons, List.append_assoc]
    have e2 : bod4 (t :: ts) ++ s = crow t ++ (bod4 ts ++ s) := by unfold bod4; rw [List.flatMap_cons, List.append_assoc]
    have hf := flg_bd t.sl
    rw [e1, e2, List.length_cons, tsOf, aw_row, if_pos hf.2, tOf_row (h t (List.mem_cons_self ..)), drop_row (trow_len t), drop_row (crow_len t), tsOf_rows (fun x hx => h x (List.mem_cons_of_mem _ hx))]
    rfl
theorem pairB_iff (n k m l : Nat) : pairB n k m l = true ↔ n = n / k * k ∧ m = n / k * l := by unfold pairB; simp
theorem parse_rows {gs : List GS} {ts : List TS} (hg : ∀ g ∈ gs, GR g) (ht : ∀ t ∈ ts, TR t) : parse (bod1 gs) (bod2 gs) (bod3 ts) (bod4 ts) = some (gs, ts) := by
  unfold parse
  rw [bod1_len, bod2_len, bod3_len, bod4_len, Nat.mul_div_cancel_left _ (by decide : 0 < 9), Nat.mul_div_cancel_left _ (by decide : 0 < 27),
    if_pos ⟨(pairB_iff ..).2 (by rw [Nat.mul_div_cancel_left _ (by decide : 0 < 9)]; omega), (pairB_iff ..).2 (by rw [Nat.mul_div_cancel_left _ (by decide : 0 < 27)]; omega)⟩]
  have h1 := tsOf_rows ht [] []
  have h2 := gsOf_rows hg [] []
  rw [List.append_nil, List.append_nil] at h1 h2
  rw [h1, h2]
  rfl
theorem ofSecs_secs {gs : List GS} {ts : List TS} (hg : ∀ g ∈ gs, GR g) (ht : ∀ t ∈ ts, TR t) : ofSecs (secs gs ts) = if checkS gs ts = 0 then (0, gs, ts) else (checkS gs ts, [], []) := by
  unfold secs ofSecs
  simp only [parse_rows hg ht, and_self, if_true]
/-- What was encoded is decoded. -/
theorem dec_image {gs : List GS} {ts : List TS} (hg : ∀ g ∈ gs, GR g) (ht : ∀ t ∈ ts, TR t) (hC : Can (secs gs ts)) (h : checkS gs ts = 0) : dec (image (secs gs ts)) = (0, gs, ts) := by
  unfold dec
  rw [unp_image hC, if_pos rfl, ofSecs_secs hg ht, if_pos h]

/-- The numbers of a scene that can be fit. -/
theorem check_fits {gs : List GS} {ts : List TS} (h : checkS gs ts = 0) (hco : ∀ t ∈ ts, 0 ≤ t.co ∧ t.co ≤ 18446744073709551615) : (∀ g ∈ gs, GR g) ∧ ∀ t ∈ ts, TR t := by
  cases gs with
  | nil =>
    have h2 : (2 : Int) = 0 := h
    exact absurd h2 (by decide)
  | cons g0 gt =>
    obtain ⟨h1, h2, h3, h4, h5, h6⟩ := check0 h
    have hg : ∀ g ∈ g0 :: gt, wrongG g = false := fun g hg => by
      rw [Bool.eq_false_iff]
      exact fun e => h2 (.inl (List.any_eq_true.2 ⟨g, hg, e⟩))
    have ht : ∀ t ∈ ts, wrongT t = false := fun t ht => by
      rw [Bool.eq_false_iff]
      exact fun e => h2 (.inr (List.any_eq_true.2 ⟨t, ht, e⟩))
    have hgb : ∀ g ∈ g0 :: gt, (1 ≤ g.id ∧ g.id ≤ 1048576 ∧ 1 ≤ g.wt ∧ g.wt ≤ 1048576) ∧ Rb g.pd g.qt g.us := fun g hm => by
      have := hg g hm
      unfold wrongG numB at this
      simp only [Bool.or_eq_false_iff, Bool.not_eq_false', Bool.and_eq_true, decide_eq_true_eq] at this
      exact ⟨⟨this.1.1.1.1, this.1.1.1.2, this.1.1.2, this.1.2⟩, this.2⟩
    have hin : ∀ x ∈ (g0 :: gt).map (·.id), 1 ≤ x ∧ x ≤ 1048576 := fun x hx => by
      obtain ⟨g, hm, rfl⟩ := List.mem_map.1 hx
      have := (hgb g hm).1
      exact ⟨this.1, this.2.1⟩
    have h4' : lostB g0 gt ts = false := by simpa using h4
    unfold lostB at h4'
    simp only [Bool.or_eq_false_iff] at h4'
    obtain ⟨⟨_, hl1⟩, hl2⟩ := h4'
    refine ⟨fun g hm => ?_, fun t hm => ?_⟩
    · obtain ⟨h7, h8⟩ := hgb g hm
      unfold Rb at h8
      have hp : 0 ≤ g.par ∧ g.par < 16777216 := by
        by_cases h0 : g.par = 0
        · rw [h0]; omega
        · have := List.any_eq_false.1 hl1 g hm
          have hmem : g.par ∈ (g0 :: gt).map (·.id) := Classical.byContradiction fun hn => this (by rw [decide_eq_false hn]; simp [h0])
          have := hin _ hmem
          omega
      exact ⟨by omega, hp, by omega, by omega, by omega, by omega⟩
    · have h7 := ht t hm
      unfold wrongT numB at h7
      simp only [Bool.or_eq_false_iff, Bool.not_eq_false', Bool.and_eq_true, decide_eq_true_eq, decide_eq_false_iff_not, pcan_iff] at h7
      have hb := pwt_bd t.wt
      have hp : 0 ≤ t.gr ∧ t.gr < 16777216 := by
        have := List.any_eq_false.1 hl2 t hm
        have hmem : t.gr ∈ (g0 :: gt).map (·.id) := Classical.byContradiction fun hn => this (by rw [decide_eq_false hn]; rfl)
        have := hin _ hmem
        omega
      exact ⟨by omega, hp, by omega, hco t hm, by omega, by omega, by omega⟩

/-! ### What is decoded, encoded, is the same bytes -/
theorem dg_take {a : List Int} {k : Nat} (hb : Bs a) (hl : k ≤ a.length) : dg (num (a.take k)) k = a.take k := by
  have h := jdg_num (a.take k) fun x hx => hb x (List.mem_of_mem_take hx)
  rwa [show (a.take k).length = k by rw [List.length_take]; omega] at h
theorem Bs.drop {a : List Int} (h : Bs a) (k : Nat) : Bs (a.drop k) := fun x hx => h x (List.mem_of_mem_drop hx)
theorem Bs.take {a : List Int} (h : Bs a) (k : Nat) : Bs (a.take k) := fun x hx => h x (List.mem_of_mem_take hx)
theorem take_add' (a : List Int) (i j : Nat) : a.take i ++ (a.drop i).take j = a.take (i + j) := (List.take_add ..).symm
theorem dg_w64 (n : Int) : dg (w64 n) 8 = dg n 8 := by
  rw [dg_eq, pw8]
  unfold w64
  split <;> omega
theorem num_lt {a : List Int} (hb : Bs a) (k : Nat) (hk : k ≤ 8) : 0 ≤ num (a.take k) ∧ num (a.take k) < pw k := by
  have h := num_bd (a.take k) (hb.take k)
  have : pw (a.take k).length ≤ pw k := by
    have hl : (a.take k).length ≤ k := by rw [List.length_take]; omega
    rcases pw_of k hk with h1 | h1 | h1 | h1 | h1 | h1 | h1 | h1 | h1 <;> rcases pw_of (a.take k).length (by omega) with h2 | h2 | h2 | h2 | h2 | h2 | h2 | h2 | h2 <;> omega
  omega
theorem grow_gOf {a b : List Int} (ha : Bs a) (hl : 9 ≤ a.length) : grow (gOf a b) = a.take 9 := by
  unfold grow gOf
  simp only
  rw [dg_take ha (by omega), dg_take (ha.drop 3) (by rw [List.length_drop]; omega), dg_take ((ha.drop 3).drop 3) (by rw [List.length_drop, List.length_drop]; omega), take_add', take_add']
theorem brow_gOf {a b : List Int} (hb : Bs b) (hl : 12 ≤ b.length) : brow (gOf a b) = b.take 12 := by
  unfold brow gOf
  simp only
  rw [dg_take hb (by omega), dg_take (hb.drop 3) (by rw [List.length_drop]; omega), dg_take ((hb.drop 3).drop 3) (by rw [List.length_drop, List.length_drop]; omega), take_add', take_add']
theorem crow_tOf {a b : List Int} (hb : Bs b) (hl : 8 ≤ b.length) : crow (tOf a b) = b.take 8 := dg_take hb hl
theorem flg_aw {n : Int} (h : 0 ≤ n ∧ n ≤ 1) : flg (decide (n = 1)) = n := by
  by_cases h1 : n = 1
  · subst h1; rfl
  · have : n = 0 := by omega
    subst this; rfl
theorem trow_tOf {a b : List Int} (ha : Bs a) (hl : 27 ≤ a.length) (hw : aw a ≤ 1) : trow (tOf a b) = a.take 27 := by
  have h0 := num_lt (((ha.drop 3).drop 3).drop 3) 1 (by decide)
  have h8 := num_lt (((((ha.drop 3).drop 3).drop 3).drop 1).drop 6) 8 (by decide)
  rw [pw8] at h8
  have e1 : flg (decide (aw a = 1)) = num ((((a.drop 3).drop 3).drop 3).take 1) := flg_aw ⟨h0.1, hw⟩
  unfold trow tOf
  simp only
  rw [e1, dg_w64]
  rw [dg_take ha (by omega), dg_take (ha.drop 3) (by simp only [List.length_drop]; omega), dg_take ((ha.drop 3).drop 3) (by simp only [List.length_drop]; omega),
    dg_take (((ha.drop 3).drop 3).drop 3) (by simp only [List.length_drop]; omega), dg_take ((((ha.drop 3).drop 3).drop 3).drop 1) (by simp only [List.length_drop]; omega),
    dg_take (((((ha.drop 3).drop 3).drop 3).drop 1).drop 6) (by simp only [List.length_drop]; omega), dg_take ((((((ha.drop 3).drop 3).drop 3).drop 1).drop 6).drop 8) (by simp only [List.length_drop]; omega)]
  simp only [take_add']
theorem bod_gsOf : ∀ (n : Nat) {a b : List Int}, Bs a → Bs b → a.length = n * 9 → b.length = n * 12 → bod1 (gsOf n a b) = a ∧ bod2 (gsOf n a b) = b
  | 0, a, b, _, _, h1, h2 => by
    have e1 : a = [] := List.eq_nil_of_length_eq_zero (by omega)
    have e2 : b = [] := List.eq_nil_of_length_eq_zero (by omega)
    subst e1 e2
    exact ⟨rfl, rfl⟩
  | n + 1, a, b, ha, hb, h1, h2 => by
    obtain ⟨i1, i2⟩ := bod_gsOf n (ha.drop 9) (hb.drop 12) (by rw [List.length_drop]; omega) (by rw [List.length_drop]; omega)
    unfold bod1 at i1 ⊢
    unfold bod2 at i2 ⊢
    rw [gsOf, List.flatMap_cons, List.flatMap_cons, i1, i2, grow_gOf ha (by omega), brow_gOf hb (by omega)]
    exact ⟨List.take_append_drop 9 a, List.take_append_drop 12 b⟩
theorem bod_tsOf : ∀ (n : Nat) {a b : List Int} {ts : List TS}, tsOf n a b = some ts → Bs a → Bs b → a.length = n * 27 → b.length = n * 8 → bod3 ts = a ∧ bod4 ts = b
  | 0, a, b, ts, h, _, _, h1, h2 => by
    have e1 : a = [] := List.eq_nil_of_length_eq_zero (by omega)
    have e2 : b = [] := List.eq_nil_of_length_eq_zero (by omega)
    cases h
    subst e1 e2
    exact ⟨rfl, rfl⟩
  | n + 1, a, b, ts, h, ha, hb, h1, h2 => by
    unfold tsOf at h
    by_cases hw : aw a ≤ 1
    · rw [if_pos hw, Option.map_eq_some_iff] at h
      obtain ⟨l, hl, rfl⟩ := h
      obtain ⟨i1, i2⟩ := bod_tsOf n hl (ha.drop 27) (hb.drop 8) (by rw [List.length_drop]; omega) (by rw [List.length_drop]; omega)
      unfold bod3 at i1 ⊢
      unfold bod4 at i2 ⊢
      rw [List.flatMap_cons, List.flatMap_cons, i1, i2, trow_tOf ha (by omega) hw, crow_tOf hb (by omega)]
      exact ⟨List.take_append_drop 27 a, List.take_append_drop 8 b⟩
    · rw [if_neg hw] at h
      cases h
theorem parse_back {a b c d : List Int} {gs : List GS} {ts : List TS} (ha : Bs a) (hb : Bs b) (hc : Bs c) (hd : Bs d) (h : parse a b c d = some (gs, ts)) : bod1 gs = a ∧ bod2 gs = b ∧ bod3 ts = c ∧ bod4 ts = d := by
  unfold parse at h
  by_cases hp : pairB a.length 9 b.length 12 = true ∧ pairB c.length 27 d.length 8 = true
  · rw [if_pos hp, Option.map_eq_some_iff] at h
    obtain ⟨l, hl, e⟩ := h
    obtain ⟨rfl, rfl⟩ := Prod.mk.inj e
    obtain ⟨p1, p2⟩ := hp
    rw [pairB_iff] at p1 p2
    obtain ⟨e1, e2⟩ := bod_gsOf (a.length / 9) ha hb p1.1 p1.2
    obtain ⟨e3, e4⟩ := bod_tsOf (c.length / 27) hl hc hd p2.1 p2.2
    exact ⟨e1, e2, e3, e4⟩
  · rw [if_neg hp] at h
    cases h
theorem ofSecs_zero {l : List Sn} {gs : List GS} {ts : List TS} (h : ofSecs l = (0, gs, ts)) : checkS gs ts = 0 ∧ ∃ a b c d, l = [⟨1, a⟩, ⟨2, b⟩, ⟨3, c⟩, ⟨4, d⟩] ∧ parse a b c d = some (gs, ts) := by
  match l, h with
  | [⟨k1, a⟩, ⟨k2, b⟩, ⟨k3, c⟩, ⟨k4, d⟩], h =>
    unfold ofSecs at h
    simp only at h
    by_cases hk : k1 = 1 ∧ k2 = 2 ∧ k3 = 3 ∧ k4 = 4
    · rw [if_pos hk] at h
      obtain ⟨rfl, rfl, rfl, rfl⟩ := hk
      cases hp : parse a b c d with
      | none => rw [hp] at h; simp at h
      | some x =>
        obtain ⟨gs', ts'⟩ := x
        rw [hp] at h
        simp only at h
        by_cases hz : checkS gs' ts' = 0
        · rw [if_pos hz] at h
          simp only [Prod.mk.injEq, true_and] at h
          obtain ⟨rfl, rfl⟩ := h
          exact ⟨hz, a, b, c, d, rfl, hp⟩
        · rw [if_neg hz] at h
          simp only [Prod.mk.injEq] at h
          exact absurd h.1 hz
    · rw [if_neg hk] at h
      simp at h
  | [], h => simp [ofSecs] at h
  | [_], h => simp [ofSecs] at h
  | [_, _], h => simp [ofSecs] at h
  | [_, _, _], h => simp [ofSecs] at h
  | _ :: _ :: _ :: _ :: _ :: _, h => simp [ofSecs] at h
/-- What is decoded, encoded, is the same bytes. -/
theorem dec_back {xs : List Int} (hb : Bs xs) {gs : List GS} {ts : List TS} (h : dec xs = (0, gs, ts)) : checkS gs ts = 0 ∧ Can (secs gs ts) ∧ image (secs gs ts) = xs := by
  unfold dec at h
  by_cases h0 : (unp xs).1 = 0
  · rw [if_pos h0] at h
    have hu : unp xs = (0, (unp xs).2) := by rw [← h0]
    obtain ⟨hC, hi⟩ := unp_zero hb hu
    obtain ⟨hz, a, b, c, d, hl, hp⟩ := ofSecs_zero h
    have hbs : ∀ s ∈ (unp xs).2, Bs s.body := fun s hs x hx => hb x (by
      rw [← hi]
      exact List.mem_append_right _ (List.mem_flatMap.2 ⟨s, hs, hx⟩))
    rw [hl] at hbs
    obtain ⟨e1, e2, e3, e4⟩ := parse_back (hbs ⟨1, a⟩ (by simp)) (hbs ⟨2, b⟩ (by simp)) (hbs ⟨3, c⟩ (by simp)) (hbs ⟨4, d⟩ (by simp)) hp
    have es : secs gs ts = (unp xs).2 := by rw [hl]; unfold secs; rw [e1, e2, e3, e4]
    rw [es]
    exact ⟨hz, hC, hi⟩
  · rw [if_neg h0] at h
    exact absurd (Prod.mk.inj h).1 h0
theorem dec_err {xs : List Int} (h : (dec xs).1 ≠ 0) : (dec xs).2 = ([], []) := by
  unfold dec at h ⊢
  by_cases h0 : (unp xs).1 = 0
  · rw [if_pos h0] at h ⊢
    generalize (unp xs).2 = l at h ⊢
    match l, h with
    | [⟨k1, a⟩, ⟨k2, b⟩, ⟨k3, c⟩, ⟨k4, d⟩], h =>
      unfold ofSecs at h ⊢
      simp only at h ⊢
      by_cases hk : k1 = 1 ∧ k2 = 2 ∧ k3 = 3 ∧ k4 = 4
      · rw [if_pos hk] at h ⊢
        cases hp : parse a b c d with
        | none => rfl
        | some x =>
          obtain ⟨gs', ts'⟩ := x
          rw [hp] at h
          simp only at h ⊢
          by_cases hz : checkS gs' ts' = 0
          · rw [if_pos hz] at h
            exact absurd rfl h
          · rw [if_neg hz]
      · rw [if_neg hk]
    | [], h => rfl
    | [_], h => rfl
    | [_, _], h => rfl
    | [_, _, _], h => rfl
    | _ :: _ :: _ :: _ :: _ :: _, h => rfl
  · rw [if_neg h0]
theorem dec_unp {xs : List Int} (h : (unp xs).1 ≠ 0) : (dec xs).1 ≠ 0 := by
  unfold dec
  rw [if_neg h]
  exact h
/-- What is read fits: each number is one that an int holds. -/
theorem gOf_bd {a b : List Int} (ha : Bs a) (hb : Bs b) : GR (gOf a b) := by
  have h1 := num_lt ha 3 (by decide)
  have h2 := num_lt (ha.drop 3) 3 (by decide)
  have h3 := num_lt ((ha.drop 3).drop 3) 3 (by decide)
  have h4 := num_lt hb 3 (by decide)
  have h5 := num_lt (hb.drop 3) 3 (by decide)
  have h6 := num_lt ((hb.drop 3).drop 3) 6 (by decide)
  rw [pw3] at h1 h2 h3 h4 h5
  rw [pw6] at h6
  exact ⟨h1, h2, h3, h4, h5, h6⟩
theorem gsOf_bd : ∀ (n : Nat) {a b : List Int}, Bs a → Bs b → ∀ g ∈ gsOf n a b, GR g
  | 0, _, _, _, _, g, h => by cases h
  | n + 1, a, b, ha, hb, g, h => by
    rcases List.mem_cons.1 h with rfl | h
    · exact gOf_bd ha hb
    · exact gsOf_bd n (ha.drop 9) (hb.drop 12) g h
theorem tOf_gr {a b : List Int} (ha : Bs a) : 0 ≤ (tOf a b).gr ∧ (tOf a b).gr < 16777216 := by
  have h2 := num_lt (ha.drop 3) 3 (by decide)
  rw [pw3] at h2
  exact h2
theorem tsOf_bd : ∀ (n : Nat) {a b : List Int} {ts : List TS}, tsOf n a b = some ts → Bs a → ∀ t ∈ ts, 0 ≤ t.gr ∧ t.gr < 16777216
  | 0, _, _, ts, h, _, t, ht => by
    cases h
    cases ht
  | n + 1, a, b, ts, h, ha, t, ht => by
    unfold tsOf at h
    by_cases hw : aw a ≤ 1
    · rw [if_pos hw, Option.map_eq_some_iff] at h
      obtain ⟨l, hl, rfl⟩ := h
      rcases List.mem_cons.1 ht with rfl | ht
      · exact tOf_gr ha
      · exact tsOf_bd n hl (ha.drop 27) t ht
    · rw [if_neg hw] at h
      cases h
theorem gsOf_len : ∀ (n : Nat) (a b : List Int), (gsOf n a b).length = n
  | 0, _, _ => rfl
  | n + 1, a, b => by rw [gsOf, List.length_cons, gsOf_len n]
theorem tsOf_len : ∀ (n : Nat) {a b : List Int} {ts : List TS}, tsOf n a b = some ts → ts.length = n
  | 0, _, _, ts, h => by cases h; rfl
  | n + 1, a, b, ts, h => by
    unfold tsOf at h
    by_cases hw : aw a ≤ 1
    · rw [if_pos hw, Option.map_eq_some_iff] at h
      obtain ⟨l, hl, rfl⟩ := h
      rw [List.length_cons, tsOf_len n hl]
    · rw [if_neg hw] at h
      cases h
end Go.Proofs.YtggmdgdgljlddaaGreatDoor
