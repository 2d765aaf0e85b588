/-
  Plain facts: the image of sections, and what any bytes are read as. Nothing of Go is named here.
-/
import Derived.Test.YthhikjgaljkfpaaDoorPWin
namespace Go.Proofs.YthhikjgaljkfpaaDoor

/-- A section. -/
structure Sn where
  kind : Int
  body : List Int
instance decSn (a b : Sn) : Decidable (a = b) := decidable_of_iff (a.kind = b.kind ∧ a.body = b.body) ⟨fun h => by
  cases a
  cases b
  simp only at h
  rw [h.1, h.2], fun h => by rw [h]; exact ⟨rfl, rfl⟩⟩
/-- What is wrong with sections: more than 16; a kind; a body. -/
def risen : Int → List Sn → Bool
  | _, [] => true
  | last, s :: l => decide (1 ≤ s.kind) && decide (s.kind ≤ 255) && decide (last < s.kind) && risen s.kind l
def wrong (l : List Sn) : Int := if 16 < l.length then 7 else if risen 0 l = false then 21 else if l.all (fun s => decide (s.body.length ≤ 65535)) = false then 22 else 0

def hdr (n : Nat) : List Int := [68, 80, 90, 49, (n : Int)]
/-- A section's place in the table. -/
def ent (s : Sn) : List Int := s.kind :: (dg (s.body.length : Int) 2 ++ ck4 s.body)
def tabl (l : List Sn) : List Int := l.flatMap ent
def front (l : List Sn) : List Int := hdr l.length ++ ck4 (hdr l.length) ++ tabl l
def bods (l : List Sn) : List Int := l.flatMap Sn.body
def image (l : List Sn) : List Int := front l ++ ck4 (front l) ++ bods l

theorem ent_len (s : Sn) : (ent s).length = 7 := by simp [ent, dg_len, ck4_len]
theorem tabl_len (l : List Sn) : (tabl l).length = 7 * l.length := by
  induction l with
  | nil => rfl
  | cons s l ih => rw [tabl, List.flatMap_cons, List.length_append, ent_len, ← tabl, ih, List.length_cons]; omega
theorem front_len (l : List Sn) : (front l).length = 9 + 7 * l.length := by
  unfold front
  rw [List.length_append, List.length_append, tabl_len, ck4_len]
  rfl
theorem bods_len (l : List Sn) : (bods l).length = (l.map fun s => s.body.length).sum := by
  induction l with
  | nil => rfl
  | cons s l ih => rw [bods, List.flatMap_cons, List.length_append, ← bods, ih]; simp
theorem image_len (l : List Sn) : (image l).length = 13 + 7 * l.length + (l.map fun s => s.body.length).sum := by
  unfold image
  rw [List.length_append, List.length_append, front_len, ck4_len, bods_len]
  omega

/-- A place in the table, read: a kind, how long, a check. -/
structure En where
  k : Int
  n : Nat
  c : List Int
def enOf (s : Sn) : En := ⟨s.kind, s.body.length, ck4 s.body⟩
def entAt (b : List Int) (i : Nat) : En := ⟨b.getD (9 + 7 * i) 0, (b.getD (10 + 7 * i) 0 + 256 * b.getD (11 + 7 * i) 0).toNat, (b.drop (12 + 7 * i)).take 4⟩
def ents (b : List Int) (many : Nat) : List En := (List.range many).map (entAt b)
def kinds : Int → List En → Bool
  | _, [] => true
  | last, e :: l => decide (last < e.k) && kinds e.k l
def total (l : List En) : Nat := (l.map En.n).sum
/-- The bodies, read by the table: none, if a check is another one. -/
def bodU : List En → List Int → Option (List Sn)
  | [], _ => some []
  | e :: l, r => if ck4 (r.take e.n) = e.c then (bodU l (r.drop e.n)).map fun m => ⟨e.k, r.take e.n⟩ :: m else none
/-- What bytes are read as. -/
def unp (b : List Int) : Int × List Sn :=
  if b.length < 9 then (2, []) else
  if b.take 4 ≠ [68, 80, 90, 49] then (20, []) else
  if (b.drop 5).take 4 ≠ ck4 (b.take 5) then (4, []) else
  if 16 < b.getD 4 0 then (7, []) else
  let m := (b.getD 4 0).toNat
  if b.length < 13 + 7 * m then (2, []) else
  if (b.drop (9 + 7 * m)).take 4 ≠ ck4 (b.take (9 + 7 * m)) then (4, []) else
  if kinds 0 (ents b m) = false then (21, []) else
  if b.length - (13 + 7 * m) < total (ents b m) then (2, []) else
  if total (ents b m) < b.length - (13 + 7 * m) then (3, []) else
  match bodU (ents b m) (b.drop (13 + 7 * m)) with
  | none => (4, [])
  | some l => (0, l)

structure Can (l : List Sn) : Prop where
  len : l.length ≤ 16
  rise : risen 0 l = true
  long : ∀ s ∈ l, s.body.length ≤ 65535
theorem can_iff (l : List Sn) : wrong l = 0 ↔ Can l := by
  unfold wrong
  constructor
  · intro h
    by_cases h1 : 16 < l.length
    · rw [if_pos h1] at h; omega
    · rw [if_neg h1] at h
      by_cases h2 : risen 0 l = false
      · rw [if_pos h2] at h; omega
      · rw [if_neg h2] at h
        by_cases h3 : l.all (fun s => decide (s.body.length ≤ 65535)) = false
        · rw [if_pos h3] at h; omega
        · refine ⟨by omega, by simpa using h2, fun s hs => ?_⟩
          have h3 : l.all (fun s => decide (s.body.length ≤ 65535)) = true := by simpa using h3
          exact of_decide_eq_true (List.all_eq_true.1 h3 s hs)
  · rintro ⟨h1, h2, h3⟩
    rw [if_neg (by omega), if_neg (by simp [h2]), if_neg]
    have : l.all (fun s => decide (s.body.length ≤ 65535)) = true := List.all_eq_true.2 fun s hs => decide_eq_true (h3 s hs)
    simp [this]
theorem risen_kinds {l : List Sn} : ∀ {last : Int}, risen last l = true → kinds last (l.map enOf) = true := by
  induction l with
  | nil => intro _ _; rfl
  | cons s l ih =>
    intro last h
    simp only [risen, Bool.and_eq_true] at h
    simp only [List.map_cons, kinds, Bool.and_eq_true]
    exact ⟨h.1.2, ih h.2⟩
theorem risen_rg {l : List Sn} : ∀ {last : Int}, risen last l = true → ∀ s ∈ l, 1 ≤ s.kind ∧ s.kind ≤ 255 := by
  induction l with
  | nil => intro _ _ s hs; cases hs
  | cons a l ih =>
    intro last h s hs
    simp only [risen, Bool.and_eq_true, decide_eq_true_eq] at h
    rcases List.mem_cons.1 hs with rfl | hs
    · exact h.1.1
    · exact ih h.2 s hs
theorem kinds_risen {l : List Sn} : ∀ {last : Int}, 0 ≤ last → kinds last (l.map enOf) = true → (∀ s ∈ l, s.kind ≤ 255) → risen last l = true := by
  induction l with
  | nil => intro _ _ _ _; rfl
  | cons s l ih =>
    intro last h0 h hk
    simp only [List.map_cons, kinds, Bool.and_eq_true, decide_eq_true_eq, enOf] at h
    simp only [risen, Bool.and_eq_true, decide_eq_true_eq]
    have := hk s (List.mem_cons_self ..)
    exact ⟨⟨⟨by omega, this⟩, h.1⟩, ih (by omega) h.2 fun x hx => hk x (List.mem_cons_of_mem _ hx)⟩

/-- The table, place by place. -/
theorem tabl_drop (l : List Sn) : ∀ i, (tabl l).drop (7 * i) = tabl (l.drop i) := by
  induction l with
  | nil => intro i; simp [tabl]
  | cons s l ih =>
    intro i
    cases i with
    | zero => rfl
    | succ i =>
      rw [tabl, List.flatMap_cons, show 7 * (i + 1) = (ent s).length + 7 * i by rw [ent_len]; omega, ← List.drop_drop, List.drop_left, List.drop_succ_cons]
      exact ih i
theorem two_bytes {n : Nat} (h : n ≤ 65535) : dg (n : Int) 2 = [((n % 256 : Nat) : Int), ((n / 256 : Nat) : Int)] := by
  simp only [dg, List.cons.injEq, and_true]
  omega
/-- Bytes that begin with an image's front. -/
theorem ents_front {l : List Sn} (h : ∀ s ∈ l, s.body.length ≤ 65535) (r : List Int) : ents (front l ++ r) l.length = l.map enOf := by
  refine List.ext_getElem (by simp [ents]) fun i h1 h2 => ?_
  have hi : i < l.length := by simpa using h2
  simp only [ents, List.getElem_map, List.getElem_range]
  have hd : (front l ++ r).drop (9 + 7 * i) = ent l[i] ++ (tabl (l.drop (i + 1)) ++ r) := by
    have e1 : front l ++ r = (hdr l.length ++ ck4 (hdr l.length)) ++ (tabl l ++ r) := by unfold front; rw [List.append_assoc]
    have e2 : (hdr l.length ++ ck4 (hdr l.length)).length = 9 := by rw [List.length_append, ck4_len]; rfl
    have e3 : tabl (l.drop i) = ent l[i] ++ tabl (l.drop (i + 1)) := by rw [List.drop_eq_getElem_cons hi]; rfl
    rw [e1, ← e2, ← List.drop_drop, List.drop_left, List.drop_append_of_le_length (by rw [tabl_len]; omega), tabl_drop, e3, List.append_assoc]
  have hat : ∀ j, (front l ++ r).getD (9 + 7 * i + j) 0 = (ent l[i] ++ (tabl (l.drop (i + 1)) ++ r)).getD j 0 := fun j => by
    rw [← hd, List.getD_eq_getElem?_getD, List.getD_eq_getElem?_getD, List.getElem?_drop]
  have hb := h l[i] (List.getElem_mem hi)
  have e0 := hat 0
  have e1 := hat 1
  have e2 := hat 2
  simp only [ent, two_bytes hb] at e0 e1 e2
  simp at e0 e1 e2
  have e3 : ((front l ++ r).drop (12 + 7 * i)).take 4 = ck4 l[i].body := by
    rw [show 12 + 7 * i = (9 + 7 * i) + 3 by omega, ← List.drop_drop, hd]
    simp only [ent, two_bytes hb, List.cons_append, List.nil_append, List.drop_succ_cons, List.drop_zero]
    rw [List.take_append_of_le_length (by rw [ck4_len]; omega), List.take_of_length_le (by rw [ck4_len]; omega)]
  unfold entAt enOf
  rw [e3, show 10 + 7 * i = 9 + 7 * i + 1 by omega, show 11 + 7 * i = 9 + 7 * i + 2 by omega]
  simp only [En.mk.injEq, List.getD_eq_getElem?_getD, and_true]
  refine ⟨by simpa using e0, ?_⟩
  rw [e1, e2]
  omega
theorem total_en (l : List Sn) : total (l.map enOf) = (bods l).length := by
  rw [bods_len, total, List.map_map]
  rfl
theorem bodU_bods (l : List Sn) (r : List Int) : bodU (l.map enOf) (bods l ++ r) = some l := by
  induction l with
  | nil => rfl
  | cons s l ih =>
    have e : bods (s :: l) ++ r = s.body ++ (bods l ++ r) := by rw [bods, List.flatMap_cons, List.append_assoc]; rfl
    have e1 : (s.body ++ (bods l ++ r)).take (enOf s).n = s.body := List.take_left
    have e2 : (s.body ++ (bods l ++ r)).drop (enOf s).n = bods l ++ r := List.drop_left
    rw [List.map_cons, e, bodU, e1, e2, if_pos (show ck4 s.body = (enOf s).c from rfl), ih]
    rfl
/-- What begins with a front and its check. -/
theorem unp_front {l : List Sn} (h : Can l) (r : List Int) : unp (front l ++ ck4 (front l) ++ r) =
    (if r.length < (bods l).length then (2, []) else if (bods l).length < r.length then (3, []) else match bodU (l.map enOf) r with | none => (4, []) | some k => (0, k) : Int × List Sn) := by
  have hlen : (front l ++ ck4 (front l) ++ r).length = 13 + 7 * l.length + r.length := by
    rw [List.length_append, List.length_append, front_len, ck4_len]
    omega
  have hf : front l ++ ck4 (front l) ++ r = hdr l.length ++ (ck4 (hdr l.length) ++ (tabl l ++ (ck4 (front l) ++ r))) := by
    simp [front]
  have t4 : (front l ++ ck4 (front l) ++ r).take 4 = [68, 80, 90, 49] := by rw [hf]; rfl
  have t5 : (front l ++ ck4 (front l) ++ r).take 5 = hdr l.length := by rw [hf]; rfl
  have d5 : ((front l ++ ck4 (front l) ++ r).drop 5).take 4 = ck4 (hdr l.length) := by
    rw [hf, show (5 : Nat) = (hdr l.length).length from rfl, List.drop_left, List.take_append_of_le_length (by rw [ck4_len]; omega), List.take_of_length_le (by rw [ck4_len]; omega)]
  have g4 : (front l ++ ck4 (front l) ++ r).getD 4 0 = (l.length : Int) := by rw [hf]; rfl
  have te : (front l ++ ck4 (front l) ++ r).take (9 + 7 * l.length) = front l := by rw [← front_len, List.append_assoc, List.take_left]
  have de : ((front l ++ ck4 (front l) ++ r).drop (9 + 7 * l.length)).take 4 = ck4 (front l) := by
    rw [← front_len, List.append_assoc, List.drop_left, List.take_append_of_le_length (by rw [ck4_len]; omega), List.take_of_length_le (by rw [ck4_len]; omega)]
  have dr : (front l ++ ck4 (front l) ++ r).drop (13 + 7 * l.length) = r := by
    have : 13 + 7 * l.length = (front l ++ ck4 (front l)).length := by rw [List.length_append, front_len, ck4_len]; omega
    rw [this, List.drop_left]
  have en := ents_front h.long (ck4 (front l) ++ r)
  rw [← List.append_assoc] at en
  unfold unp
  simp only [hlen, t4, t5, d5, g4, Int.toNat_natCast, te, de, dr, en, total_en, risen_kinds h.rise]
  have hn := h.len
  rw [if_neg (by omega), if_neg (by simp), if_neg (by simp), if_neg (by omega), if_neg (by omega), if_neg (by simp), if_neg (by simp), show 13 + 7 * l.length + r.length - (13 + 7 * l.length) = r.length by omega]
/-- What was packed is unpacked. -/
theorem unp_image {l : List Sn} (h : Can l) : unp (image l) = (0, l) := by
  unfold image
  rw [unp_front h, if_neg (Nat.lt_irrefl _), if_neg (Nat.lt_irrefl _)]
  have := bodU_bods l []
  rw [List.append_nil] at this
  rw [this]
/-- More behind it. -/
theorem unp_tail {l : List Sn} (h : Can l) {r : List Int} (hr : 0 < r.length) : unp (image l ++ r) = (3, []) := by
  have : image l ++ r = front l ++ ck4 (front l) ++ (bods l ++ r) := by unfold image; rw [List.append_assoc]
  rw [this, unp_front h, List.length_append, if_neg (by omega), if_pos (by omega)]
/-- Cut off. -/
theorem unp_cut {l : List Sn} (h : Can l) {c : Nat} (hc : c < (image l).length) : unp ((image l).take c) = (2, []) := by
  have hlen : ((image l).take c).length = c := by rw [List.length_take]; omega
  by_cases h1 : 13 + 7 * l.length ≤ c
  · have e : (image l).take c = front l ++ ck4 (front l) ++ (bods l).take (c - (13 + 7 * l.length)) := by
      unfold image
      have : (front l ++ ck4 (front l)).length = 13 + 7 * l.length := by rw [List.length_append, front_len, ck4_len]; omega
      rw [List.take_append, this, List.take_of_length_le (by rw [this]; exact h1)]
    have hb : (image l).length = 13 + 7 * l.length + (bods l).length := by rw [image_len, bods_len]
    rw [e, unp_front h, List.length_take, if_pos (by omega)]
  · by_cases h9 : c < 9
    · unfold unp
      rw [if_pos (by rw [hlen]; exact h9)]
    · have hf : image l = hdr l.length ++ (ck4 (hdr l.length) ++ (tabl l ++ (ck4 (front l) ++ bods l))) := by simp [image, front]
      have e9 : (image l).take 9 = hdr l.length ++ ck4 (hdr l.length) := by
        rw [hf, ← List.append_assoc, show (9 : Nat) = (hdr l.length ++ ck4 (hdr l.length)).length by rw [List.length_append, ck4_len]; rfl, List.take_left]
      have tt : ∀ j, j ≤ 9 → ((image l).take c).take j = (hdr l.length ++ ck4 (hdr l.length)).take j := fun j hj => by
        rw [← e9, List.take_take, List.take_take, Nat.min_eq_left (by omega), Nat.min_eq_left hj]
      have t4 : ((image l).take c).take 4 = [68, 80, 90, 49] := by rw [tt 4 (by omega)]; rfl
      have t5 : ((image l).take c).take 5 = hdr l.length := by rw [tt 5 (by omega)]; rfl
      have d5 : (((image l).take c).drop 5).take 4 = ck4 (hdr l.length) := by
        have : (((image l).take c).drop 5).take 4 = (((image l).take c).take 9).drop 5 := by rw [List.take_drop]
        rw [this, tt 9 (Nat.le_refl _), show (hdr l.length ++ ck4 (hdr l.length)).take 9 = hdr l.length ++ ck4 (hdr l.length) from List.take_of_length_le (by rw [List.length_append, ck4_len]; exact Nat.le_refl 9), show (5 : Nat) = (hdr l.length).length from rfl, List.drop_left]
      have g4 : ((image l).take c).getD 4 0 = (l.length : Int) := by
        have := congrArg (fun x : List Int => x.getD 4 0) t5
        simp only [List.getD_eq_getElem?_getD, List.getElem?_take_of_lt (show 4 < 5 by omega)] at this
        rw [List.getD_eq_getElem?_getD, this]
        rfl
      unfold unp
      simp only [hlen, t4, t5, d5, g4, Int.toNat_natCast]
      have hn := h.len
      rw [if_neg h9, if_neg (by simp), if_neg (by simp), if_neg (by omega), if_pos (by omega)]
end Go.Proofs.YthhikjgaljkfpaaDoor
