/-
  How the document reads a text, byte by byte: plain facts, nothing of a program is named here.
-/
import Derived.Test.YtjmnclneopofhaaDoorMaskRd
import Derived.Test.YtjmnclneopofhaaDoorMaskOf
namespace Go.Proofs.YtjmnclneopofhaaDoor

/-- The cores from one number up to another, and below 64. -/
def rng (a b : Int) : List Int := (List.range (min b 63 + 1 - a).toNat).map fun (j : Nat) => a + (j : Int)
theorem rng_mem (a b x : Int) : x ∈ rng a b ↔ a ≤ x ∧ x ≤ b ∧ x < 64 := by
  unfold rng
  rw [List.mem_map]
  constructor
  · rintro ⟨j, hj, rfl⟩
    have := List.mem_range.1 hj
    omega
  · rintro ⟨h1, h2, h3⟩
    exact ⟨(x - a).toNat, List.mem_range.2 (by omega), by omega⟩
/-- What a byte does: the number that is read, the first one of a pair, the cores so far. -/
def stp (x : Int × Int × List Int) (c : UInt8) : Int × Int × List Int :=
  if 48 ≤ c.toNat ∧ c.toNat ≤ 57 then (if x.1 < 100 then (10 * x.1 + ((c.toNat : Int) - 48), x.2.1, x.2.2) else x)
  else if c.toNat = 45 then (0, x.1, x.2.2)
  else if c.toNat = 44 then (0, -1, x.2.2 ++ rng (if x.2.1 < 0 then x.1 else x.2.1) x.1)
  else x
def fld (t : List UInt8) (x : Int × Int × List Int) : Int × Int × List Int := t.foldl stp x
theorem fld_app (a b : List UInt8) (x : Int × Int × List Int) : fld (a ++ b) x = fld b (fld a x) := List.foldl_append
theorem stp_digit (n : Nat) (hn : n < 10) (m f : Int) (l : List Int) (hm : m < 100) : stp (m, f, l) (UInt8.ofNat (48 + n)) = (10 * m + (n : Int), f, l) := by
  have hc : (UInt8.ofNat (48 + n)).toNat = 48 + n := by
    rw [UInt8.toNat_ofNat']
    omega
  unfold stp
  rw [hc, if_pos (by omega), if_pos hm]
  simp
  omega
theorem fld_dec (n : Nat) (hn : n < 64) (f : Int) (l : List Int) : fld (Lib.decDigits n) (0, f, l) = ((n : Int), f, l) := by
  rw [dec_dg n hn]
  unfold dg fld
  split
  · rename_i h
    rw [List.foldl_cons, List.foldl_nil, stp_digit n h 0 f l (by omega)]
    simp
  · rename_i h
    rw [List.foldl_cons, List.foldl_cons, List.foldl_nil, stp_digit (n / 10) (by omega) 0 f l (by omega), stp_digit (n % 10) (by omega) _ f l (by omega)]
    congr 1
    omega
theorem fld_rt (f l : Nat) (hfl : f ≤ l) (hl : l < 64) (acc : List Int) : fld (rt f l ++ [44]) (0, -1, acc) = (0, -1, acc ++ rng (f : Int) (l : Int)) := by
  rw [fld_app]
  unfold rt
  split
  · rename_i h
    subst h
    rw [fld_dec f hl]
    show stp _ 44 = _
    unfold stp
    rw [if_neg (by decide), if_neg (by decide), if_pos (by decide)]
    simp
  · rw [fld_app, fld_dec f (by omega)]
    show fld [44] (fld (45 :: Lib.decDigits l) _) = _
    have h1 : fld (45 :: Lib.decDigits l) ((f : Int), -1, acc) = fld (Lib.decDigits l) (0, (f : Int), acc) := by
      show fld _ (stp _ 45) = _
      congr 1
    rw [h1, fld_dec l hl]
    show stp _ 44 = _
    unfold stp
    rw [if_neg (by decide), if_neg (by decide), if_pos (by decide)]
    simp only
    rw [if_neg (by omega)]
theorem fld_jn (ps : List (Nat × Nat)) : ∀ acc, ps ≠ [] → Ok ps → fld (jn ps ++ [44]) (0, -1, acc) = (0, -1, acc ++ (ps.map fun p => rng (p.1 : Int) (p.2 : Int)).flatten) := by
  induction ps with
  | nil => exact fun _ h => absurd rfl h
  | cons p ps ih =>
    intro acc _ hok
    have hp := hok p List.mem_cons_self
    cases ps with
    | nil =>
      unfold jn
      rw [List.map_singleton, Lib.join_one, fld_rt p.1 p.2 hp.1 hp.2]
      simp
    | cons q ps =>
      have h1 : jn (p :: q :: ps) ++ [44] = (rt p.1 p.2 ++ [44]) ++ (jn (q :: ps) ++ [44]) := by
        unfold jn
        rw [List.map_cons, List.map_cons, join_two]
        simp
      rw [h1, fld_app, fld_rt p.1 p.2 hp.1 hp.2, ih _ (by simp) (fun z hz => hok z (List.mem_cons_of_mem _ hz))]
      simp
theorem ofl_runs (ps : List (Nat × Nat)) (hok : Ok ps) : ofl ((ps.map fun p => rng (p.1 : Int) (p.2 : Int)).flatten) = orAll ps := by
  apply (ofl_U64 _).ext (orAll_U64 _)
  intro j hj
  rw [ofl_bit _ j hj]
  apply Bool.eq_iff_iff.2
  rw [decide_eq_true_eq, orAll_bit ps j hj fun p hp => (hok p hp).2, List.mem_flatten]
  constructor
  · rintro ⟨l, hl, hx⟩
    obtain ⟨p, hp, rfl⟩ := List.mem_map.1 hl
    have := (rng_mem _ _ _).1 hx
    exact ⟨p, hp, by omega, by omega⟩
  · rintro ⟨p, hp, h1, h2⟩
    exact ⟨_, List.mem_map.2 ⟨p, hp, rfl⟩, (rng_mem _ _ _).2 ⟨by omega, by omega, by omega⟩⟩
theorem rt_not45 (f l : Nat) (hfl : f ≤ l) (hl : l < 64) : rt f l ≠ [45] := by
  intro h
  have h1 := dec_no f (by omega)
  unfold rt at h
  split at h
  · exact h1.1 (by rw [h]; simp)
  · have h2 := congrArg List.length h
    rw [List.length_append, List.length_cons, List.length_singleton] at h2
    have h3 : Lib.decDigits f = [] := List.eq_nil_of_length_eq_zero (by omega)
    have h4 := dec_ok f (by omega)
    rw [h3] at h4
    cases h4
theorem txt_not45 {s : Nat} (hs : U64 s) (hz : s ≠ 0) : txt s ≠ [45] := by
  intro h
  have h1 : jn (prs s) = [45] := by rw [prs_jn, ← h]; unfold txt; rw [if_neg hz]
  have hok := prs_ok hs
  cases hp : prs s with
  | nil => exact prs_ne hs hz hp
  | cons p ps =>
    rw [hp] at h1 hok
    have h2 := cut_jn p ps hok
    rw [h1, show Lib.cut [45] [44] = ([45], [], false) by decide] at h2
    injection h2 with h2 _
    have := hok p List.mem_cons_self
    exact rt_not45 p.1 p.2 this.1 this.2 h2.symm
/-- What the document reads of a set's text is the set. -/
theorem fld_reads (t : List UInt8) : Reads t (if t = [45] then 0 else ofl (fld (t ++ [44]) (0, -1, [])).2.2) := by
  intro s hs ht
  by_cases hz : s = 0
  · subst hz
    rw [if_pos (show t = [45] from ht)]
  · rw [if_neg (by rw [ht]; exact txt_not45 hs hz)]
    have h1 : t = jn (prs s) := by rw [prs_jn, ht]; unfold txt; rw [if_neg hz]
    rw [h1, fld_jn _ _ (prs_ne hs hz) (prs_ok hs)]
    show ofl ([] ++ _) = s
    rw [List.nil_append, ofl_runs _ (prs_ok hs), prs_or hs]
/-- Numbers stay small. -/
def Sm (x : Int × Int × List Int) (k : Nat) : Prop := 0 ≤ x.1 ∧ x.1 ≤ 999 ∧ -1 ≤ x.2.1 ∧ x.2.1 ≤ 999 ∧ x.2.2.length ≤ 64 * k
theorem rng_len (a b : Int) (h : 0 ≤ a) : (rng a b).length ≤ 64 := by
  unfold rng
  rw [List.length_map, List.length_range]
  omega
theorem Sm.next {x : Int × Int × List Int} {k : Nat} (h : Sm x k) (c : UInt8) : Sm (stp x c) (k + 1) := by
  obtain ⟨h1, h2, h3, h4, h5⟩ := h
  unfold stp
  split
  · split
    · exact ⟨by simp only; omega, by simp only; omega, h3, h4, by simp only; omega⟩
    · exact ⟨h1, h2, h3, h4, by omega⟩
  · split
    · exact ⟨by simp, by simp, by simp only; omega, h2, by simp only; omega⟩
    · split
      · refine ⟨by simp, by simp, by simp, by simp, ?_⟩
        have := rng_len (if x.2.1 < 0 then x.1 else x.2.1) x.1 (by split <;> omega)
        simp only [List.length_append]
        omega
      · exact ⟨h1, h2, h3, h4, by omega⟩
end Go.Proofs.YtjmnclneopofhaaDoor
