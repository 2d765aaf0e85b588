/-
  Plain facts: a store on sectors: heads, slots, which head counts, what is found. Nothing of Go is named here. 'V i': the sixty-four bytes that are read of sector i; h: how many sectors a slot has.
-/
import Derived.Test.YteficflfmbecbaaDoorPWin
namespace Go.Proofs.YteficflfmbecbaaDoor

def zsec : List Int := List.replicate 64 0
/-- A head's first bytes, a head, its sector. -/
def hcore (age : Nat) (has : Bool) (img : List Int) : List Int := [68, 80, 90, 83] ++ dg (age : Int) 8 ++ [if has then 1 else 0] ++ dg (img.length : Int) 4 ++ dg ((if has then ck img else 0 : Nat) : Int) 4
def hhead (age : Nat) (has : Bool) (img : List Int) : List Int := hcore age has img ++ ck4 (hcore age has img)
def hsec (age : Nat) (has : Bool) (img : List Int) : List Int := hhead age has img ++ List.replicate 39 0
/-- A slot's bytes. -/
def slotB (V : Nat → List Int) (h k : Nat) : List Int := (List.range h).flatMap fun i => V (2 + k * h + i)
def fAge (l : List Int) : Int := num ((l.drop 4).take 8)
def fMany (l : List Int) : Int := num ((l.drop 13).take 4)
/-- The head in sector k, if it counts: age, whether there is an image, the image. -/
def hcnt (V : Nat → List Int) (h k : Nat) : Option (Nat × Bool × List Int) :=
  if fAge (V k) < 1 ∨ 1099511627776 < fAge (V k) ∨ fAge (V k) % 2 ≠ (k : Int) ∨ ((64 * h : Nat) : Int) < fMany (V k) ∨ 1 < (V k).getD 12 0 ∨ ((V k).getD 12 0 = 0 ∧ 0 < fMany (V k)) then none else
  if V k = hsec (fAge (V k)).toNat ((V k).getD 12 0 == 1) ((slotB V h k).take (fMany (V k)).toNat) then some ((fAge (V k)).toNat, (V k).getD 12 0 == 1, (slotB V h k).take (fMany (V k)).toNat) else none
/-- What is found. -/
def newer (a : Nat × Bool × List Int) : Option (Nat × Bool × List Int) → Nat × Bool × List Int
  | none => a
  | some b => if a.1 < b.1 then b else a
def opn (V : Nat → List Int) (h : Nat) : Nat × Bool × List Int := newer (newer (0, false, []) (hcnt V h 0)) (hcnt V h 1)

theorem hcore_len (age : Nat) (has : Bool) (img : List Int) : (hcore age has img).length = 21 := by simp [hcore, dg_len]
theorem hhead_len (age : Nat) (has : Bool) (img : List Int) : (hhead age has img).length = 25 := by rw [hhead, List.length_append, hcore_len, ck4_len]
theorem hsec_len (age : Nat) (has : Bool) (img : List Int) : (hsec age has img).length = 64 := by rw [hsec, List.length_append, hhead_len, List.length_replicate]
theorem hcore_bs (age : Nat) (has : Bool) (img : List Int) : Bs (hcore age has img) := by
  unfold hcore
  refine (((Bs.app ?_ (dg_bytes 8 _)).app ?_).app (dg_bytes 4 _)).app (dg_bytes 4 _)
  · intro x hx
    have : x = 68 ∨ x = 80 ∨ x = 90 ∨ x = 83 := by simpa using hx
    omega
  · intro x hx
    rw [List.mem_singleton.1 hx]
    split <;> omega
theorem hhead_bs (age : Nat) (has : Bool) (img : List Int) : Bs (hhead age has img) := (hcore_bs age has img).app (ck4_bs _)
theorem hsec_bs (age : Nat) (has : Bool) (img : List Int) : Bs (hsec age has img) := (hhead_bs age has img).app fun x hx => by rw [List.eq_of_mem_replicate hx]; omega
theorem num_dgn {n k : Nat} (h : (n : Int) < pw k) : num (dg (n : Int) k) = (n : Int) := by
  rw [num_dg]
  exact Int.emod_eq_of_lt (by omega) h

section
variable {V V' : Nat → List Int} {h k a : Nat} {has : Bool} {img : List Int}
theorem f_hsec (ha : a ≤ 1099511627776) (hi : img.length ≤ 4294967295) : fAge (hsec a has img) = (a : Int) ∧ fMany (hsec a has img) = (img.length : Int) ∧ (hsec a has img).getD 12 0 = (if has then 1 else 0) := by
  obtain ⟨C, hC⟩ : ∃ C, ck4 (hcore a has img) = C := ⟨_, rfl⟩
  have e : hsec a has img = [68, 80, 90, 83] ++ (dg (a : Int) 8 ++ ([if has then 1 else 0] ++ (dg (img.length : Int) 4 ++ (dg ((if has then ck img else 0 : Nat) : Int) 4 ++ (C ++ List.replicate 39 0))))) := by
    unfold hsec hhead
    rw [hC, hcore]
    simp only [List.append_assoc]
  have l8 := dg_len 8 (a : Int)
  have l4 := dg_len 4 (img.length : Int)
  refine ⟨?_, ?_, ?_⟩
  · unfold fAge
    rw [e, List.drop_left' (by rfl), List.take_left' l8]
    exact num_dgn (by rw [show pw 8 = 18446744073709551616 from rfl]; omega)
  · unfold fMany
    rw [e, show 13 = 4 + (8 + 1) from rfl, ← List.drop_drop, List.drop_left' (by rfl), ← List.drop_drop, List.drop_left' l8, List.drop_left' (by rfl), List.take_left' l4]
    exact num_dgn (by rw [show pw 4 = 4294967296 from rfl]; omega)
  · rw [e, List.getD_eq_getElem?_getD, List.getElem?_append_right (by simp), List.getElem?_append_right (by simp [dg_len])]
    simp [dg_len]
theorem f_zsec : fAge zsec = 0 := by decide
theorem hcnt_zero (hz : V k = zsec) : hcnt V h k = none := by
  unfold hcnt
  rw [if_pos]
  left
  rw [hz, f_zsec]
  decide
/-- A head that is written so, with its image in its slot, counts. -/
theorem hcnt_is (hV : V k = hsec a has img) (h1 : 1 ≤ a) (ha : a ≤ 1099511627776) (hk : a % 2 = k) (hl : img.length ≤ 64 * h) (hh : 64 * h ≤ 4294967295) (hf : has = false → img = []) (hs : (slotB V h k).take img.length = img) : hcnt V h k = some (a, has, img) := by
  obtain ⟨e1, e2, e3⟩ := f_hsec (has := has) (img := img) ha (by omega)
  unfold hcnt
  rw [hV, e1, e2, e3]
  simp only [Int.toNat_natCast, hs]
  have eb : ((if has = true then (1 : Int) else 0) == 1) = has := by cases has <;> rfl
  rw [eb, if_neg, if_pos rfl]
  intro hc
  rcases hc with hc | hc | hc | hc | hc | ⟨hc, hd⟩
  · omega
  · omega
  · exact hc (by omega)
  · omega
  · cases has <;> simp at hc
  · cases has with
    | true => simp at hc
    | false => rw [hf rfl] at hd; simp at hd
/-- What counts is written so. -/
theorem hcnt_inv {b : Nat × Bool × List Int} (hc : hcnt V h k = some b) : V k = hsec b.1 b.2.1 b.2.2 ∧ 1 ≤ b.1 ∧ b.1 ≤ 1099511627776 ∧ b.1 % 2 = k ∧ (b.1 : Int) = fAge (V k) ∧ b.2.2 = (slotB V h k).take (fMany (V k)).toNat ∧ fMany (V k) ≤ 64 * h := by
  unfold hcnt at hc
  split at hc
  · cases hc
  rename_i hn
  split at hc
  · rename_i he
    cases hc
    refine ⟨he, ?_, ?_, ?_, ?_, rfl, ?_⟩
    · have : ¬ fAge (V k) < 1 := fun h => hn (.inl h)
      simp only
      omega
    · have : ¬ 1099511627776 < fAge (V k) := fun h => hn (.inr (.inl h))
      simp only
      omega
    · have h1 : ¬ fAge (V k) < 1 := fun h => hn (.inl h)
      have h2 : ¬ fAge (V k) % 2 ≠ (k : Int) := fun h => hn (.inr (.inr (.inl h)))
      simp only
      omega
    · have h1 : ¬ fAge (V k) < 1 := fun h => hn (.inl h)
      simp only
      omega
    · have h1 : ¬ ((64 * h : Nat) : Int) < fMany (V k) := fun hh => hn (.inr (.inr (.inr (.inl hh))))
      omega
  · cases hc
end
end Go.Proofs.YteficflfmbecbaaDoor
