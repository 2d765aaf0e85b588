/-
  Contract of disk's Rot.
-/
import Derived.Test.YtndbkpmfimpgnaaDWr
import Derived.Laws.BitsAllLaws
namespace Go.Proofs.Ytndbkpmfimpgnaa
open Go.RowKit

/-- A bit of a byte turned over. -/
def flip (r : Nat) (x : Int) : Int := bits .xor .u8 x (IntKind.u8.wrap (2 ^ r))
theorem flip_nat {r x : Nat} (hr : r < 8) (hx : x < 256) : flip r (x : Int) = ((x ^^^ 2 ^ r : Nat) : Int) := by
  have hm8 : 2 ^ r < 2 ^ 8 := Nat.pow_lt_pow_right (by decide) hr
  have hw : IntKind.u8.wrap ((2 : Int) ^ r) = ((2 ^ r : Nat) : Int) := by
    rw [show ((2 : Int) ^ r) = ((2 ^ r : Nat) : Int) by rw [Int.natCast_pow]; rfl]
    clear hx
    generalize 2 ^ r = n at hm8
    simp only [IntKind.wrap, IntKind.bits, IntKind.signed]
    simp
    omega
  unfold flip
  rw [hw, u8_xor_nat x (2 ^ r) hx hm8]
theorem flip_rg {r : Nat} {x : Int} (hr : r < 8) (h0 : 0 ≤ x) (h1 : x ≤ 255) : 0 ≤ flip r x ∧ flip r x ≤ 255 := by
  obtain ⟨n, rfl⟩ : ∃ n : Nat, x = (n : Int) := ⟨x.toNat, by omega⟩
  rw [flip_nat hr (by omega)]
  have : n ^^^ 2 ^ r < 2 ^ 8 := Nat.xor_lt_two_pow (by omega) (Nat.pow_lt_pow_right (by decide) hr)
  omega
theorem flip_twice {r : Nat} {x : Int} (hr : r < 8) (h0 : 0 ≤ x) (h1 : x ≤ 255) : flip r (flip r x) = x := by
  obtain ⟨n, rfl⟩ : ∃ n : Nat, x = (n : Int) := ⟨x.toNat, by omega⟩
  have hl : n ^^^ 2 ^ r < 2 ^ 8 := Nat.xor_lt_two_pow (by omega) (Nat.pow_lt_pow_right (by decide) hr)
  rw [flip_nat hr (by omega), flip_nat hr (by omega), Nat.xor_assoc, Nat.xor_self, Nat.xor_zero]
theorem flip_ne {r : Nat} {x : Int} (hr : r < 8) (h0 : 0 ≤ x) (h1 : x ≤ 255) : flip r x ≠ x := by
  obtain ⟨n, rfl⟩ : ∃ n : Nat, x = (n : Int) := ⟨x.toNat, by omega⟩
  rw [flip_nat hr (by omega)]
  intro e
  have e : n ^^^ 2 ^ r = n := by omega
  have h2 : n ^^^ (n ^^^ 2 ^ r) = 2 ^ r := by rw [← Nat.xor_assoc, Nat.xor_self, Nat.zero_xor]
  rw [e, Nat.xor_self] at h2
  have := Nat.pow_pos (n := r) (show 0 < 2 by decide)
  omega

def rotL (l : List Int) (t : Nat) : List Int := l.set (t / 8) (flip (t % 8) (l.getD (t / 8) 0))
def rotted (s : Ds) (i t : Nat) : Ds := { s with k := s.k.set i (rotL (s.k.getD i []) t) }
theorem rotL_sec {l : List Int} (h : Sec l) (t : Nat) : Sec (rotL l t) := by
  refine ⟨by unfold rotL; rw [List.length_set]; exact h.len, fun x hx => ?_⟩
  rcases Nat.lt_or_ge (t / 8) l.length with hl | hl
  · have hb := h.rg (l.getD (t / 8) 0) (by simp [List.getD, hl])
    rcases List.mem_or_eq_of_mem_set hx with hx | rfl
    · exact h.rg x hx
    · exact flip_rg (by omega) hb.1 hb.2
  · unfold rotL at hx
    rw [List.set_eq_of_length_le hl] at hx
    exact h.rg x hx
theorem rotted_ok {s : Ds} (h : DOk s) {i : Nat} (hi : i < s.k.length) (t : Nat) : DOk (rotted s i t) := by
  have hl : (rotted s i t).k.length = s.k.length := by simp [rotted]
  refine ⟨by rw [hl]; exact h.len, fun l hm => ?_, fun j l hj => by rw [hl]; exact h.key j l hj, h.l0, h.l1⟩
  rcases List.mem_or_eq_of_mem_set hm with hm | rfl
  · exact h.sec l hm
  · exact rotL_sec (h.sec _ (by simp [List.getD, hi])) t

section
variable {w w' : World} {g b m : Nat} {s : Ds}
theorem rot_no (h : Dk w g b m s) {i t : Int} (hn : has s i = false ∨ t < 0 ∨ 512 ≤ t) : Calls Try.prog 17 #[.pointer (some ⟨g, 0, none⟩), .int .i64 i, .int .i64 t] w fun e w' => (∃ v, e = .returned v) ∧ w' = w := by
  go_enter Try.func17, Try.ntmps17
  go_wp2_with fail
  refine (has_any h i).mono ?_
  rintro e w ⟨rfl, rfl⟩
  cases hh : has s i with
  | false =>
    go_wp2
    exact bodyPost_end (results_none rfl _ _ _) rfl ⟨⟨_, rfl⟩, rfl⟩
  | true =>
    rw [hh] at hn
    rcases hn with hn | hn | hn
    · cases hn
    · have d := decide_eq_false (show ¬ 0 ≤ t by omega)
      clear hh
      go_wp2
      exact bodyPost_end (results_none rfl _ _ _) rfl ⟨⟨_, rfl⟩, rfl⟩
    · have d := decide_eq_false (show ¬ t < 512 by omega)
      have h0 : 0 ≤ t := by omega
      clear hh
      go_wp2
      exact bodyPost_end (results_none rfl _ _ _) rfl ⟨⟨_, rfl⟩, rfl⟩
set_option maxHeartbeats 1000000 in
set_option maxRecDepth 100000 in
theorem rot_is (h : Dk w g b m s) {i t : Nat} (hi : i < s.k.length) (ht : t < 512) : Calls Try.prog 17 #[.pointer (some ⟨g, 0, none⟩), .int .i64 (i : Int), .int .i64 (t : Int)] w fun e w' => (∃ v, e = .returned v) ∧ Kp (Only b) w w' ∧ Dk w' g b m (rotted s i t) := by
  have hh : has s (i : Int) = true := by unfold has; simp [hi]
  have hlen := h.ok.len
  have hA := h.lts
  have O := hid h
  obtain ⟨p, hpt⟩ : ∃ p, t / 8 = p := ⟨_, rfl⟩
  obtain ⟨r, hrt⟩ : ∃ r, t % 8 = r := ⟨_, rfl⟩
  have hq : (t : Int) / 8 = (p : Int) := by omega
  have hr : (t : Int).tmod 8 = (r : Int) := by rw [Int.tmod_eq_emod_of_nonneg (by omega)]; omega
  have hp : p < 64 := by omega
  have hr8 : r < 8 := by omega
  have hpi : (p : Int) < 64 := by omega
  have hri : (r : Int) < 8 := by omega
  have hwp := wrapI (x := (p : Int)) (by unfold I64; omega)
  have hwr := wrapI (x := (r : Int)) (by unfold I64; omega)
  have HP := hid hpt
  have HR := hid hrt
  clear hpt hrt
  go_enter Try.func17, Try.ntmps17
  go_wp2_with fail
  refine (has_any O.out _).mono ?_
  rintro e w ⟨rfl, rfl⟩
  rw [hh]
  go_wp2_with fail
  have D1 := hid (O.out.kp0 (Kp.refl No w).drew)
  have c0 := O.out.hd.cell 0
  simp at c0
  have cx := D1.out.kt.cell hi hp
  obtain ⟨x, hx⟩ : ∃ x, (s.k.getD i []).getD p 0 = x := ⟨_, rfl⟩
  rw [hx] at cx
  clear h
  refine region_tail 16 (by kernel_rfl) (by kernel_rfl) ?_
  simp only [List.take_succ_cons, List.take_zero, List.drop_succ_cons, List.drop_zero]
  repeat still_step
  refine wpStill_nil ?_
  have fx := O.out.kt.frozen (i * 64 + p)
  go_wp2
  refine bodyPost_end (results_none rfl _ _ _) rfl ⟨⟨_, rfl⟩, ?_⟩
  have hl := (O.out.ok.sec (s.k.getD i []) (by simp [List.getD, hi])).len
  have k := Kp.set1 b (i * 64 + p) w (.int .u8 (flip r x))
  have t1 := O.out.kt.put1 (i := p) (flip r x) hi hp hl
  have D2 : Dk (w.setCell ⟨b, i * 64 + p, none⟩ (.int .u8 (flip r x))) g b m (rotted s i t) := by
    have hlen2 : (rotted s i t).k.length = s.k.length := by simp [rotted]
    refine ⟨?_, ?_, ?_, O.out.gb, O.out.gm, O.out.bm, rotted_ok O.out.ok hi t⟩
    · rw [hlen2]
      exact O.out.hd.kp k fun e => O.out.gb e
    · have e : (rotted s i t).k = s.k.set i ((s.k.getD i []).set p (flip r x)) := by
        unfold rotted rotL
        rw [HP.out, HR.out, hx]
      rw [e]
      exact t1
    · rw [hlen2]
      exact O.out.mp.kp k fun e => O.out.bm (Eq.symm e)
  exact ⟨k.drew, D2.kp0 ((Kp.refl No _).drew)⟩
end
end Go.Proofs.Ytndbkpmfimpgnaa
