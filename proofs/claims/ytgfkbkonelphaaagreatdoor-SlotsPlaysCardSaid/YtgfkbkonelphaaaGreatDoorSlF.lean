/-
  SlD SlE SlF: texts laid into one.
-/
import Derived.Test.YtgfkbkonelphaaaGreatDoorDArm
import Derived.Test.YtgfkbkonelphaaaGreatDoorSlN

/-
  What a disk is behind a commit, a deletion, of which calls may fail; what is read of it then, and behind a crash. (Of a program it names the type of a disk's state alone.)
-/
namespace Go.Proofs.YtgfkbkonelphaaaGreatDoor

/-- Writes of sectors side by side, until one fails. -/
def wrs (s : Ds) (i : Nat) : List (List Int) → Ds × Bool
  | [] => (s, true)
  | x :: r => if off s then (calld s, false) else wrs (wrote s (i : Int) x) (i + 1) r
/-- A flush. -/
def fls (s : Ds) : Ds × Bool := if off s then (calld s, false) else (flushed (calld s), true)
/-- One after the other. -/
def andThen (p : Ds × Bool) (f : Ds → Ds × Bool) : Ds × Bool := if p.2 then f p.1 else p
def sealD (s : Ds) (age : Nat) (has : Bool) (img : List Int) : Ds × Bool := andThen (wrs s (age % 2) [hhead age has img]) fls
/-- An image, sector by sector. -/
def parts (img : List Int) : List (List Int) := (List.range ((img.length + 63) / 64)).map fun i => (img.drop (64 * i)).take 64
def comD (s : Ds) (h age : Nat) (img : List Int) : Ds × Bool := andThen (andThen (wrs s (2 + age % 2 * h) (parts img)) fls) fun t => sealD t age true img

theorem parts_len (img : List Int) : (parts img).length = (img.length + 63) / 64 := by simp [parts]
theorem parts_at {img : List Int} {i : Nat} (h : 64 * i < img.length) : (parts img)[i]? = some ((img.drop (64 * i)).take 64) := by
  unfold parts
  rw [List.getElem?_map, List.getElem?_range (by omega)]
  rfl

section
variable {s t : Ds} {i j n : Nat} {l : List (List Int)}
theorem wrote_k (s : Ds) (i : Int) (x : List Int) : (wrote s i x).k = s.k := rfl
theorem calld_k (s : Ds) : (calld s).k = s.k := rfl
theorem look_calld (s : Ds) (i : Nat) : look (calld s) i = look s i := rfl
theorem look_wr (s : Ds) (i j : Nat) (x : List Int) : look (wrote s (i : Int) x) j = if j = i then pad x else look s j := by
  unfold look wrote
  simp only
  by_cases h : j = i
  · subst h
    rw [if_pos rfl, if_pos rfl]
    rfl
  · rw [if_neg (by omega), if_neg h]
    rfl
/-- What writes do: those that came before the failing one wait; nothing is kept. -/
theorem wrs_is : ∀ (l : List (List Int)) (s : Ds) (i : Nat), ∃ m, m ≤ l.length ∧ ((wrs s i l).2 = true → m = l.length) ∧ (wrs s i l).1.k = s.k ∧
    (∀ j : Nat, (wrs s i l).1.c (j : Int) = if i ≤ j ∧ j < i + m then (l[j - i]?).map pad else s.c (j : Int)) ∧ (wrs s i l).1.armed = s.armed ∧ (s.armed = false → (wrs s i l).2 = true)
  | [], s, i => ⟨0, Nat.le_refl _, fun _ => rfl, rfl, fun j => by rw [if_neg (by omega)]; rfl, rfl, fun _ => rfl⟩
  | x :: r, s, i => by
    unfold wrs
    by_cases ho : off s = true
    · rw [if_pos ho]
      refine ⟨0, Nat.zero_le _, fun h => (by cases h), rfl, fun j => by rw [if_neg (by omega)]; rfl, rfl, fun h => ?_⟩
      unfold off at ho
      rw [h] at ho
      cases ho
    · rw [if_neg ho]
      obtain ⟨m, h1, h2, h3, h4, h5, h6⟩ := wrs_is r (wrote s (i : Int) x) (i + 1)
      refine ⟨m + 1, by simpa using h1, fun h => by rw [h2 h]; rfl, h3, fun j => ?_, h5, h6⟩
      rw [h4]
      by_cases hj : j = i
      · subst hj
        rw [if_neg (by omega), if_pos (by omega)]
        simp [wrote]
      · by_cases hr : i + 1 ≤ j ∧ j < i + 1 + m
        · rw [if_pos hr, if_pos (by omega), show j - i = (j - (i + 1)) + 1 by omega]
          rfl
        · rw [if_neg hr, if_neg (by omega)]
          unfold wrote
          simp only
          rw [if_neg (by omega)]

/-- Sectors side by side, as bytes. -/
def segs (V : Nat → List Int) (b n : Nat) : List Int := (List.range n).flatMap fun i => V (b + i)
theorem segs_succ (V : Nat → List Int) (b n : Nat) : segs V b (n + 1) = segs V b n ++ V (b + n) := by
  unfold segs
  rw [List.range_succ, List.flatMap_append]
  simp
theorem segs_len {V : Nat → List Int} {b n : Nat} (h : ∀ i, i < n → (V (b + i)).length = 64) : (segs V b n).length = 64 * n := by
  induction n with
  | zero => rfl
  | succ n ih => rw [segs_succ, List.length_append, ih fun i hi => h i (by omega), h n (by omega)]; omega
theorem segs_at {V : Nat → List Int} {b n x : Nat} (h : ∀ i, i < n → (V (b + i)).length = 64) (hx : x < 64 * n) : (segs V b n)[x]? = (V (b + x / 64))[x % 64]? := by
  induction n with
  | zero => omega
  | succ n ih =>
    have hl := segs_len (b := b) (n := n) fun i hi => h i (by omega)
    rw [segs_succ]
    by_cases hn : x < 64 * n
    · rw [List.getElem?_append_left (by omega), ih (fun i hi => h i (by omega)) hn]
    · rw [List.getElem?_append_right (by omega), hl, show x / 64 = n by omega, show x % 64 = x - 64 * n by omega]
/-- An image that was laid sector by sector is there. -/
theorem slot_parts {V : Nat → List Int} {h k : Nat} {img : List Int} (hs : ∀ i, i < h → (V (2 + k * h + i)).length = 64) (hl : img.length ≤ 64 * h) (hp : ∀ i x, (parts img)[i]? = some x → V (2 + k * h + i) = pad x) : (slotB V h k).take img.length = img := by
  have hlen := segs_len (V := V) (b := 2 + k * h) (n := h) hs
  refine List.ext_getElem? fun x => ?_
  by_cases hx : x < img.length
  · rw [List.getElem?_take_of_lt hx]
    have h1 := segs_at (V := V) (b := 2 + k * h) (n := h) (x := x) hs (by omega)
    have h2 : slotB V h k = segs V (2 + k * h) h := rfl
    rw [h2, h1, hp (x / 64) _ (parts_at (by omega))]
    unfold pad
    rw [List.getElem?_append_left (by rw [List.length_take, List.length_drop]; omega), List.getElem?_take_of_lt (by omega), List.getElem?_drop]
    congr 1
    omega
  · rw [List.getElem?_eq_none (by rw [List.length_take]; omega), List.getElem?_eq_none (by omega)]
theorem pad_head (a : Nat) (q : Bool) (img : List Int) : pad (hhead a q img) = hsec a q img := by
  unfold pad hsec
  rw [hhead_len]

/-- What differs only in sectors of one slot. -/
def SameBut (V V0 : Nat → List Int) (h k : Nat) : Prop := ∀ j, ¬ (2 + k * h ≤ j ∧ j < 2 + k * h + h) → V j = V0 j
theorem SameBut.rest {V V0 : Nat → List Int} {h k : Nat} (hS : SameBut V V0 h k) (hk : k < 2) : (∀ q, q < 2 → V q = V0 q) ∧ slotB V h (1 - k) = slotB V0 h (1 - k) := by
  refine ⟨fun q hq => hS q (by omega), slotB_eq fun i hi => hS _ ?_⟩
  rcases (show k = 0 ∨ k = 1 by omega) with rfl | rfl
  · simp only [Nat.sub_zero, Nat.one_mul, Nat.zero_mul]
    omega
  · simp only [Nat.sub_self, Nat.one_mul, Nat.zero_mul]
    omega
end
end Go.Proofs.YtgfkbkonelphaaaGreatDoor

/-
  What is found behind a commit, a deletion, or a crash in one: nothing of Go is named here. (crashed_at and look_crashed are disk's own.)
-/
namespace Go.Proofs.YtgfkbkonelphaaaGreatDoor

theorem crashed_at {s : Ds} (keep : List Bool) {i : Nat} (hi : i < s.k.length) : (crashed s keep).k.getD i [] = if (s.c (i : Int)).isSome = true ∧ keep.getD (cnt s.c i) false = true then look s i else s.k.getD i [] := by
  have e1 : (crashed s keep).k.getD i [] = look (dropS s keep (waits s).length) i := kept_at (dropS s keep (waits s).length) hi
  rw [e1]
  show (dropAt s keep (waits s).length (i : Int)).getD (s.k.getD i []) = _
  unfold dropAt look
  rw [Int.toNat_natCast]
  cases hc : s.c (i : Int) with
  | none =>
    rw [if_neg (show ¬ ((none : Option (List Int)).isSome = true ∧ keep.getD (cnt s.c i) false = true) by simp)]
    split <;> rfl
  | some l =>
    have hr : cnt s.c i < (waits s).length := by
      have := rank_at (c := s.c) hi (by rw [hc]; rfl)
      unfold waits
      rw [List.length_map]
      exact (List.getElem?_eq_some_iff.1 this).1
    cases hk : keep.getD (cnt s.c i) false with
    | false =>
      rw [if_pos ⟨hr, rfl⟩, if_neg (by simp)]
      rfl
    | true =>
      rw [if_neg (by simp), if_pos ⟨rfl, rfl⟩]
theorem look_crashed {s : Ds} (keep : List Bool) {i : Nat} (hi : i < s.k.length) : look (crashed s keep) i = if (s.c (i : Int)).isSome = true ∧ keep.getD (cnt s.c i) false = true then look s i else s.k.getD i [] := crashed_at keep hi
theorem crashed_len (s : Ds) (keep : List Bool) : (crashed s keep).k.length = s.k.length := by
  show (kept (dropS s keep (waits s).length)).length = s.k.length
  rw [kept_len]
  rfl
theorem getD_none {l : List (List Int)} {j : Nat} (h : l.length ≤ j) : l.getD j [] = [] := by rw [List.getD_eq_getElem?_getD, List.getElem?_eq_none h]; rfl
theorem look_out {s : Ds} (keep : List Bool) {j : Nat} (h : s.k.length ≤ j) : look (crashed s keep) j = s.k.getD j [] := by
  show (none : Option (List Int)).getD ((crashed s keep).k.getD j []) = _
  rw [Option.getD_none, getD_none (by rw [crashed_len]; exact h), getD_none h]
/-- Behind a crash a sector is as it was kept, or as it waited. -/
theorem look_crash (s : Ds) (keep : List Bool) (j : Nat) : look (crashed s keep) j = look s j ∨ look (crashed s keep) j = s.k.getD j [] := by
  by_cases h : j < s.k.length
  · rw [look_crashed keep h]
    split
    · exact .inl rfl
    · exact .inr rfl
  · exact .inr (look_out keep (by omega))
theorem look_crash_none {s : Ds} (keep : List Bool) {j : Nat} (hc : s.c (j : Int) = none) : look (crashed s keep) j = s.k.getD j [] := by
  rcases look_crash s keep j with h | h
  · rw [h]
    unfold look
    rw [hc]
    rfl
  · exact h
theorem look_none {s : Ds} {j : Nat} (hc : s.c (j : Int) = none) : look s j = s.k.getD j [] := by
  unfold look
  rw [hc]
  rfl
theorem look_flushed (s : Ds) (j : Nat) (hj : j < s.k.length) : look (flushed s) j = look s j := by
  show (none : Option (List Int)).getD ((flushed s).k.getD j []) = _
  rw [Option.getD_none]
  exact kept_at s hj
theorem flushed_len (s : Ds) : (flushed s).k.length = s.k.length := kept_len s
theorem look_flushed' (s : Ds) (j : Nat) (hc : s.k.length ≤ j → s.c (j : Int) = none) : look (flushed s) j = look s j := by
  by_cases hj : j < s.k.length
  · exact look_flushed s j hj
  · rw [look_none (hc (by omega)), getD_none (show s.k.length ≤ j by omega)]
    show (none : Option (List Int)).getD ((flushed s).k.getD j []) = _
    rw [Option.getD_none, getD_none (by rw [flushed_len]; omega)]

section
variable {s : Ds} {V0 : Nat → List Int} {h a : Nat} {has has' : Bool} {img img' : List Int}
theorem SameBut.still {V : Nat → List Int} (hS : SameBut V V0 h ((a + 1) % 2)) (hG : Good V0 h a has img has' img') : opn V h = (a, has, img) := by
  have hr := hS.rest (by omega)
  refine hG.still (hr.1 _ (by omega)) ?_ (hr.1 _ (by omega))
  rw [show a % 2 = 1 - (a + 1) % 2 by omega]
  exact hr.2
/-- With the head, too, it is the next age. -/
theorem SameBut.next {V V' : Nat → List Int} {q : Bool} {i : List Int} (hS : SameBut V V0 h ((a + 1) % 2)) (hG : Good V0 h a has img has' img') (hV : ∀ j, j ≠ (a + 1) % 2 → V' j = V j) (hh : V' ((a + 1) % 2) = hsec (a + 1) q i) (hsl : (slotB V h ((a + 1) % 2)).take i.length = i) (h5 : i.length ≤ 64 * h) (h6 : q = false → i = []) (ha : a + 1 ≤ 1099511627776) : Good V' h (a + 1) q i has img := by
  have hr := hS.rest (by omega)
  have hsb : ∀ k, slotB V' h k = slotB V h k := fun k => slotB_eq fun x _ => hV _ (by omega)
  refine hG.next ha ?_ ?_ hh ?_ h5 h6
  · rw [hV _ (by omega)]
    exact hr.1 _ (by omega)
  · rw [hsb, show a % 2 = 1 - (a + 1) % 2 by omega]
    exact hr.2
  · rw [hsb]
    exact hsl
/-- What comes of a head that is to be written. -/
structure Came (s0 : Ds) (V0 : Nat → List Int) (h a : Nat) (has : Bool) (img : List Int) (q : Bool) (i : List Int) (p : Ds × Bool) : Prop where
  len : p.1.k.length = s0.k.length
  arm : p.1.armed = s0.armed
  on : s0.armed = false → p.2 = true
  yes : p.2 = true → (∀ j : Nat, p.1.c (j : Int) = none) ∧ Good (look p.1) h (a + 1) q i has img
  no : p.2 = false → ∀ keep, opn (look (crashed p.1 keep)) h = (a, has, img) ∨ opn (look (crashed p.1 keep)) h = (a + 1, q, i)
theorem off_on {s : Ds} (h : s.armed = false) : off s = false := by unfold off; rw [h]; rfl
theorem sealD_is {q : Bool} {i : List Int} (hc : ∀ j : Nat, s.c (j : Int) = none) (hn : 2 ≤ s.k.length) (hS : SameBut (look s) V0 h ((a + 1) % 2)) (hG : Good V0 h a has img has' img') (hsl : (slotB (look s) h ((a + 1) % 2)).take i.length = i) (h5 : i.length ≤ 64 * h) (h6 : q = false → i = []) (ha : a + 1 ≤ 1099511627776) :
    Came s V0 h a has img q i (sealD s (a + 1) q i) := by
  have hstill : ∀ t : Ds, t.k = s.k → (∀ j : Nat, t.c (j : Int) = none) → ∀ keep, opn (look (crashed t keep)) h = (a, has, img) := fun t hk hct keep => by
    refine SameBut.still (V0 := V0) (fun j hj => ?_) hG
    rw [look_crash_none keep (hct j), hk, ← look_none (hc j)]
    exact hS j hj
  have hwr : ∀ j : Nat, look (wrote s (((a + 1) % 2 : Nat) : Int) (hhead (a + 1) q i)) j = if j = (a + 1) % 2 then hsec (a + 1) q i else look s j := fun j => by rw [look_wr, pad_head]
  unfold sealD andThen wrs
  by_cases ho : off s = true
  · rw [if_pos ho]
    exact ⟨rfl, rfl, fun hf => (by rw [off_on hf] at ho; cases ho), fun hf => (by cases hf), fun _ keep => .inl (hstill _ rfl hc keep)⟩
  · rw [if_neg ho]
    simp only [wrs, if_true]
    unfold fls
    by_cases ho2 : off (wrote s (((a + 1) % 2 : Nat) : Int) (hhead (a + 1) q i)) = true
    · rw [if_pos ho2]
      refine ⟨rfl, rfl, fun hf => (by rw [off_on (s := wrote s _ _) hf] at ho2; cases ho2), fun hf => (by cases hf), fun _ keep => ?_⟩
      have hoth : ∀ j, j ≠ (a + 1) % 2 → look (crashed (calld (wrote s (((a + 1) % 2 : Nat) : Int) (hhead (a + 1) q i))) keep) j = look s j := fun j hj => by
        rw [look_crash_none keep, look_none (hc j)]
        · rfl
        · show (if (j : Int) = (((a + 1) % 2 : Nat) : Int) then some (pad (hhead (a + 1) q i)) else s.c (j : Int)) = none
          rw [if_neg (by omega)]
          exact hc j
      rcases look_crash (calld (wrote s (((a + 1) % 2 : Nat) : Int) (hhead (a + 1) q i))) keep ((a + 1) % 2) with hk | hk
      · right
        refine (hS.next (q := q) (i := i) hG hoth ?_ hsl h5 h6 ha).found
        rw [hk, look_calld, hwr, if_pos rfl]
      · left
        refine SameBut.still (V0 := V0) (fun j hj => ?_) hG
        by_cases hjj : j = (a + 1) % 2
        · subst hjj
          rw [hk]
          show s.k.getD _ [] = _
          rw [← look_none (hc _)]
          exact hS _ hj
        · rw [hoth j hjj]
          exact hS j hj
    · rw [if_neg ho2]
      refine ⟨by rw [flushed_len]; rfl, rfl, fun _ => rfl, fun _ => ⟨fun j => rfl, ?_⟩, fun hf => (by cases hf)⟩
      have hfl : ∀ j : Nat, look (flushed (calld (wrote s (((a + 1) % 2 : Nat) : Int) (hhead (a + 1) q i)))) j = look (wrote s (((a + 1) % 2 : Nat) : Int) (hhead (a + 1) q i)) j := fun j => by
        rw [look_flushed' _ j, look_calld]
        intro hj
        show (if (j : Int) = (((a + 1) % 2 : Nat) : Int) then some (pad (hhead (a + 1) q i)) else s.c (j : Int)) = none
        have hj2 : s.k.length ≤ j := hj
        rw [if_neg (by omega)]
        exact hc j
      refine hS.next (q := q) (i := i) hG (fun j hj => by rw [hfl, hwr, if_neg hj]) (by rw [hfl, hwr, if_pos rfl]) hsl h5 h6 ha
end
end Go.Proofs.YtgfkbkonelphaaaGreatDoor

/-
  What is found behind a commit, or a crash in one: nothing of Go is named here.
-/
namespace Go.Proofs.YtgfkbkonelphaaaGreatDoor

section
variable {s : Ds} {h a : Nat} {has has' : Bool} {img img' : List Int}
theorem parts_short {i x : List Int} {j : Nat} (hx : (parts i)[j]? = some x) : x.length ≤ 64 := by
  unfold parts at hx
  rw [List.getElem?_map] at hx
  cases hr : (List.range ((i.length + 63) / 64))[j]? with
  | none => rw [hr] at hx; cases hx
  | some y =>
    rw [hr] at hx
    cases hx
    rw [List.length_take]
    omega
theorem comD_is {i : List Int} (hc : ∀ j : Nat, s.c (j : Int) = none) (hn : 2 + 2 * h ≤ s.k.length) (hsec : ∀ l ∈ s.k, l.length = 64) (hG : Good (look s) h a has img has' img') (hl : i.length ≤ 64 * h) (ha : a + 1 ≤ 1099511627776) : Came s (look s) h a has img true i (comD s h (a + 1) i) := by
  have hpar : (a + 1) % 2 < 2 := Nat.mod_lt _ (by decide)
  have hpm : (a + 1) % 2 * h ≤ h := by
    rcases (show (a + 1) % 2 = 0 ∨ (a + 1) % 2 = 1 by omega) with e | e <;> rw [e] <;> omega
  have hpl : (parts i).length ≤ h := by rw [parts_len]; omega
  obtain ⟨m, hm1, hm2, hk, hcW, harm, hon⟩ := wrs_is (parts i) s (2 + (a + 1) % 2 * h)
  have hout : ∀ j, ¬ (2 + (a + 1) % 2 * h ≤ j ∧ j < 2 + (a + 1) % 2 * h + h) → (wrs s (2 + (a + 1) % 2 * h) (parts i)).1.c (j : Int) = none := fun j hj => by
    rw [hcW, if_neg (by omega)]
    exact hc j
  have hstill : ∀ t : Ds, t.k = (wrs s (2 + (a + 1) % 2 * h) (parts i)).1.k → t.c = (wrs s (2 + (a + 1) % 2 * h) (parts i)).1.c → ∀ keep, opn (look (crashed t keep)) h = (a, has, img) := fun t hk2 hc2 keep => by
    refine SameBut.still (V0 := look s) (fun j hj => ?_) hG
    rw [look_crash_none keep (by rw [hc2]; exact hout j hj), hk2, hk, ← look_none (hc j)]
  unfold comD
  generalize hW : wrs s (2 + (a + 1) % 2 * h) (parts i) = W at *
  obtain ⟨t, b⟩ := W
  cases b with
  | false =>
    simp only [andThen, Bool.false_eq_true, if_false]
    exact ⟨by rw [hk], harm, fun hf => hon hf, fun hf => (by cases hf), fun _ keep => .inl (hstill t rfl rfl keep)⟩
  | true =>
    simp only at hk hcW harm hout hstill
    have hmm := hm2 rfl
    simp only [andThen, if_true]
    unfold fls
    by_cases ho : off t = true
    · rw [if_pos ho]
      simp only [Bool.false_eq_true, if_false]
      refine ⟨by show t.k.length = _; rw [hk], harm, fun hf => ?_, fun hf => (by cases hf), fun _ keep => .inl (hstill (calld t) rfl rfl keep)⟩
      rw [off_on (s := t) (by rw [harm, hf])] at ho
      cases ho
    · rw [if_neg ho]
      simp only [if_true]
      have hfl : ∀ j : Nat, look (flushed (calld t)) j = look t j := fun j => by
        rw [look_flushed' _ j, look_calld]
        intro hj
        have hj2 : t.k.length ≤ j := hj
        rw [hk] at hj2
        exact hout j (by omega)
      have hlt : ∀ j : Nat, look t j = if 2 + (a + 1) % 2 * h ≤ j ∧ j < 2 + (a + 1) % 2 * h + m then (((parts i)[j - (2 + (a + 1) % 2 * h)]?).map pad).getD (s.k.getD j []) else s.k.getD j [] := fun j => by
        unfold look
        rw [hcW, hk]
        split
        · rfl
        · rw [hc j]
          rfl
      have hS : SameBut (look (flushed (calld t))) (look s) h ((a + 1) % 2) := fun j hj => by
        rw [hfl, hlt, if_neg (by omega), look_none (hc j)]
      have hp : ∀ x y, (parts i)[x]? = some y → look (flushed (calld t)) (2 + (a + 1) % 2 * h + x) = pad y := fun x y hy => by
        have hx : x < (parts i).length := (List.getElem?_eq_some_iff.1 hy).1
        rw [hfl, hlt, if_pos (by omega), show 2 + (a + 1) % 2 * h + x - (2 + (a + 1) % 2 * h) = x by omega, hy]
        rfl
      have hs : ∀ x, x < h → (look (flushed (calld t)) (2 + (a + 1) % 2 * h + x)).length = 64 := fun x hx => by
        by_cases hxm : x < (parts i).length
        · have hy : (parts i)[x]? = some (parts i)[x] := List.getElem?_eq_getElem hxm
          rw [hp x _ hy]
          exact pad_len (parts_short hy)
        · rw [hfl, hlt, if_neg (by omega)]
          refine hsec _ ?_
          have : 2 + (a + 1) % 2 * h + x < s.k.length := by omega
          simp [List.getD, this]
      have hsl := slot_parts (V := look (flushed (calld t))) (k := (a + 1) % 2) hs hl hp
      have hC := sealD_is (s := flushed (calld t)) (V0 := look s) (q := true) (i := i) (fun j => rfl) (by rw [flushed_len]; show 2 ≤ t.k.length; rw [hk]; omega) hS hG hsl hl (fun hf => by cases hf) ha
      refine ⟨hC.len.trans (by rw [flushed_len]; show t.k.length = _; rw [hk]), hC.arm.trans harm, fun hf => hC.on (harm.trans hf), hC.yes, hC.no⟩
/-- A deletion: no slot is touched. -/
theorem delD_is (hc : ∀ j : Nat, s.c (j : Int) = none) (hn : 2 ≤ s.k.length) (hG : Good (look s) h a has img has' img') (ha : a + 1 ≤ 1099511627776) : Came s (look s) h a has img false [] (sealD s (a + 1) false []) :=
  sealD_is hc hn (fun _ _ => rfl) hG (by simp) (by simp) (fun _ => rfl) ha
/-- A new disk. -/
theorem good_new {n : Nat} (hn : 2 ≤ n) (hh : 64 * h ≤ 4294967295) : Good (look (dsN n)) h 0 false [] false [] := by
  have hz : ∀ j, j < 2 → look (dsN n) j = zsec := fun j hj => by
    unfold look dsN
    simp only [Option.getD_none]
    rw [List.getD_eq_getElem?_getD, List.getElem?_replicate, if_pos (by omega)]
    rfl
  exact ⟨.inl ⟨rfl, hz _ (by omega), rfl, rfl⟩, .inl ⟨rfl, hz _ (by omega), rfl, rfl⟩, hh⟩
end
end Go.Proofs.YtgfkbkonelphaaaGreatDoor
