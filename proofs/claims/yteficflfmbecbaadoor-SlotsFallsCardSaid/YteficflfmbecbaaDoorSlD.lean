/-
  What a disk is behind a commit, a deletion, of which calls may fail; what is read of it then, and behind a crash. (Of a program it names the type of a disk's state alone.)
-/
import Derived.Test.YteficflfmbecbaaDoorDArm
import Derived.Test.YteficflfmbecbaaDoorSlN
namespace Go.Proofs.YteficflfmbecbaaDoor

/-- Writes of sectors side by side, until one fails. -/
def wrs (s : Ds) (i : Nat) : List (List Int) → Ds × Bool
  | [] => (s, true)
  | x :: r => if off s then (calld s, false) else wrs (wrote s (i : Int) x) (i + 1) r
/-- A flush. -/
def fls (s : Ds) : Ds × Bool := if off s then (calld s, false) else (flushed (calld s), true)
/-- One after the other. -/
def andThen (p : Ds × Bool) (f : Ds → Ds × Bool) : Ds × Bool := if p.2 then f p.1 else p
def sealD (s : Ds) (age : Nat) (has : Bool) (img : List Int) : Ds × Bool := andThen (wrs s (age % 2) [hhead age has img]) fls
/-- An image, sector by sector. -/
def parts (img : List Int) : List (List Int) := (List.range ((img.length + 63) / 64)).map fun i => (img.drop (64 * i)).take 64
def comD (s : Ds) (h age : Nat) (img : List Int) : Ds × Bool := andThen (andThen (wrs s (2 + age % 2 * h) (parts img)) fls) fun t => sealD t age true img

theorem parts_len (img : List Int) : (parts img).length = (img.length + 63) / 64 := by simp [parts]
theorem parts_at {img : List Int} {i : Nat} (h : 64 * i < img.length) : (parts img)[i]? = some ((img.drop (64 * i)).take 64) := by
  unfold parts
  rw [List.getElem?_map, List.getElem?_range (by omega)]
  rfl

section
variable {s t : Ds} {i j n : Nat} {l : List (List Int)}
theorem wrote_k (s : Ds) (i : Int) (x : List Int) : (wrote s i x).k = s.k := rfl
theorem calld_k (s : Ds) : (calld s).k = s.k := rfl
theorem look_calld (s : Ds) (i : Nat) : look (calld s) i = look s i := rfl
theorem look_wr (s : Ds) (i j : Nat) (x : List Int) : look (wrote s (i : Int) x) j = if j = i then pad x else look s j := by
  unfold look wrote
  simp only
  by_cases h : j = i
  · subst h
    rw [if_pos rfl, if_pos rfl]
    rfl
  · rw [if_neg (by omega), if_neg h]
    rfl
/-- What writes do: those that came before the failing one wait; nothing is kept. -/
theorem wrs_is : ∀ (l : List (List Int)) (s : Ds) (i : Nat), ∃ m, m ≤ l.length ∧ ((wrs s i l).2 = true → m = l.length) ∧ (wrs s i l).1.k = s.k ∧
    (∀ j : Nat, (wrs s i l).1.c (j : Int) = if i ≤ j ∧ j < i + m then (l[j - i]?).map pad else s.c (j : Int)) ∧ (wrs s i l).1.armed = s.armed ∧ (s.armed = false → (wrs s i l).2 = true)
  | [], s, i => ⟨0, Nat.le_refl _, fun _ => rfl, rfl, fun j => by rw [if_neg (by omega)]; rfl, rfl, fun _ => rfl⟩
  | x :: r, s, i => by
    unfold wrs
    by_cases ho : off s = true
    · rw [if_pos ho]
      refine ⟨0, Nat.zero_le _, fun h => (by cases h), rfl, fun j => by rw [if_neg (by omega)]; rfl, rfl, fun h => ?_⟩
      unfold off at ho
      rw [h] at ho
      cases ho
    · rw [if_neg ho]
      obtain ⟨m, h1, h2, h3, h4, h5, h6⟩ := wrs_is r (wrote s (i : Int) x) (i + 1)
      refine ⟨m + 1, by simpa using h1, fun h => by rw [h2 h]; rfl, h3, fun j => ?_, h5, h6⟩
      rw [h4]
      by_cases hj : j = i
      · subst hj
        rw [if_neg (by omega), if_pos (by omega)]
        simp [wrote]
      · by_cases hr : i + 1 ≤ j ∧ j < i + 1 + m
        · rw [if_pos hr, if_pos (by omega), show j - i = (j - (i + 1)) + 1 by omega]
          rfl
        · rw [if_neg hr, if_neg (by omega)]
          unfold wrote
          simp only
          rw [if_neg (by omega)]

/-- Sectors side by side, as bytes. -/
def segs (V : Nat → List Int) (b n : Nat) : List Int := (List.range n).flatMap fun i => V (b + i)
theorem segs_succ (V : Nat → List Int) (b n : Nat) : segs V b (n + 1) = segs V b n ++ V (b + n) := by
  unfold segs
  rw [List.range_succ, List.flatMap_append]
  simp
theorem segs_len {V : Nat → List Int} {b n : Nat} (h : ∀ i, i < n → (V (b + i)).length = 64) : (segs V b n).length = 64 * n := by
  induction n with
  | zero => rfl
  | succ n ih => rw [segs_succ, List.length_append, ih fun i hi => h i (by omega), h n (by omega)]; omega
theorem segs_at {V : Nat → List Int} {b n x : Nat} (h : ∀ i, i < n → (V (b + i)).length = 64) (hx : x < 64 * n) : (segs V b n)[x]? = (V (b + x / 64))[x % 64]? := by
  induction n with
  | zero => omega
  | succ n ih =>
    have hl := segs_len (b := b) (n := n) fun i hi => h i (by omega)
    rw [segs_succ]
    by_cases hn : x < 64 * n
    · rw [List.getElem?_append_left (by omega), ih (fun i hi => h i (by omega)) hn]
    · rw [List.getElem?_append_right (by omega), hl, show x / 64 = n by omega, show x % 64 = x - 64 * n by omega]
/-- An image that was laid sector by sector is there. -/
theorem slot_parts {V : Nat → List Int} {h k : Nat} {img : List Int} (hs : ∀ i, i < h → (V (2 + k * h + i)).length = 64) (hl : img.length ≤ 64 * h) (hp : ∀ i x, (parts img)[i]? = some x → V (2 + k * h + i) = pad x) : (slotB V h k).take img.length = img := by
  have hlen := segs_len (V := V) (b := 2 + k * h) (n := h) hs
  refine List.ext_getElem? fun x => ?_
  by_cases hx : x < img.length
  · rw [List.getElem?_take_of_lt hx]
    have h1 := segs_at (V := V) (b := 2 + k * h) (n := h) (x := x) hs (by omega)
    have h2 : slotB V h k = segs V (2 + k * h) h := rfl
    rw [h2, h1, hp (x / 64) _ (parts_at (by omega))]
    unfold pad
    rw [List.getElem?_append_left (by rw [List.length_take, List.length_drop]; omega), List.getElem?_take_of_lt (by omega), List.getElem?_drop]
    congr 1
    omega
  · rw [List.getElem?_eq_none (by rw [List.length_take]; omega), List.getElem?_eq_none (by omega)]
theorem pad_head (a : Nat) (q : Bool) (img : List Int) : pad (hhead a q img) = hsec a q img := by
  unfold pad hsec
  rw [hhead_len]

/-- What differs only in sectors of one slot. -/
def SameBut (V V0 : Nat → List Int) (h k : Nat) : Prop := ∀ j, ¬ (2 + k * h ≤ j ∧ j < 2 + k * h + h) → V j = V0 j
theorem SameBut.rest {V V0 : Nat → List Int} {h k : Nat} (hS : SameBut V V0 h k) (hk : k < 2) : (∀ q, q < 2 → V q = V0 q) ∧ slotB V h (1 - k) = slotB V0 h (1 - k) := by
  refine ⟨fun q hq => hS q (by omega), slotB_eq fun i hi => hS _ ?_⟩
  rcases (show k = 0 ∨ k = 1 by omega) with rfl | rfl
  · simp only [Nat.sub_zero, Nat.one_mul, Nat.zero_mul]
    omega
  · simp only [Nat.sub_self, Nat.one_mul, Nat.zero_mul]
    omega
end
end Go.Proofs.YteficflfmbecbaaDoor
