/-
  Contracts of disk's Write and Flush, on or off; what a head that is written comes to.
-/
import Derived.Test.YtgfkbkonelphaaaGreatDoorSlJ
import Derived.Deep.DeepFit
namespace Go.Proofs.YtgfkbkonelphaaaGreatDoor
open Go.RowKit

/-- The code of what came of a thing: 0, or that the disk is off. -/
def cod (q : Bool) : Int := if q then 0 else 19
theorem fls_code (s : Ds) : (fls s).2 = !off s := by
  unfold fls
  split
  · rename_i h; rw [h]; rfl
  · rename_i h; simp at h; rw [h]; rfl
theorem wrote_head (s : Ds) (i : Int) (a : Nat) (q : Bool) (img : List Int) : wrote s i (hsec a q img) = wrote s i (hhead a q img) := by
  have e : pad (hsec a q img) = pad (hhead a q img) := by
    rw [pad_head]
    unfold pad
    rw [hsec_len]
    simp
  unfold wrote
  rw [e]
/-- What one write comes to. -/
def wr1 (s : Ds) (i : Nat) (xs : List Int) : Ds × Bool := if off s then (calld s, false) else (wrote s (i : Int) xs, true)

section
variable {w w' : World} {P S : Nat → Prop} {q g b m h a N : Nat} {s : Ds} {has qb : Bool} {img I xs : List Int} {v iv : Value}
theorem write_st (h0 : Dk w g b m s) {i : Nat} (hi : i < s.k.length) (hv : Byt w P v xs) (hP : ¬ P g) (hl : xs.length ≤ 64) :
    Calls Tryz.prog 57 #[.pointer (some ⟨g, 0, none⟩), .int .i64 (i : Int), v] w fun e w' => e = .returned (.int .i64 (cod (wr1 s i xs).2)) ∧ Kp (DB g b m) w w' ∧ Dk w' g b m (wr1 s i xs).1 := by
  unfold wr1
  cases ho : off s with
  | true => exact (write_off h0 ho _ _).mono fun e w' ⟨he, k, d⟩ => ⟨he, k.mono fun _ _ e => .inl e, d⟩
  | false => exact (write_is h0 ho hi hv hP hl).mono fun e w' ⟨he, k, d⟩ => ⟨he, k.mono fun _ _ e => e.elim .inl fun e => .inr (.inr e), d⟩
theorem flush_st (h0 : Dk w g b m s) : Calls Tryz.prog 58 #[.pointer (some ⟨g, 0, none⟩)] w fun e w' => e = .returned (.int .i64 (cod (fls s).2)) ∧ Kp (DB g b m) w w' ∧ Dk w' g b m (fls s).1 := by
  unfold fls
  cases ho : off s with
  | true => exact (flush_off h0 ho).mono fun e w' ⟨he, k, d⟩ => ⟨he, k.mono fun _ _ e => .inl e, d⟩
  | false => exact (flush_is h0 ho).mono fun e w' ⟨he, k, d⟩ => ⟨he, k, d⟩
/-- All blocks of a store and its disk. -/
def SB (q g b m : Nat) : Nat → Prop := fun i => i = q ∨ DB g b m i
/-- What a store is behind a head that was written, or not. -/
def pick (p : Bool) (r r' : Nat × Bool × List Int) : Nat × Bool × List Int := if p then r else r'
def TuPost (q g b m h : Nat) (w : World) (r r' : Nat × Bool × List Int) (p : Ds × Bool) (e : Ending) (w' : World) : Prop := e = .returned (.int .i64 (cod p.2)) ∧ Kp (SB q g b m) w w' ∧ Dk w' g b m p.1 ∧ Sto w' q g b m h (pick p.2 r r')
theorem sealD_eq (s : Ds) (N : Nat) (qb : Bool) (I : List Int) : sealD s N qb I = if (wr1 s (N % 2) (hsec N qb I)).2 then fls (wr1 s (N % 2) (hsec N qb I)).1 else wr1 s (N % 2) (hsec N qb I) := by
  unfold sealD andThen wrs wr1
  cases ho : off s with
  | true => rfl
  | false => rw [wrote_head]; rfl
end
end Go.Proofs.YtgfkbkonelphaaaGreatDoor
