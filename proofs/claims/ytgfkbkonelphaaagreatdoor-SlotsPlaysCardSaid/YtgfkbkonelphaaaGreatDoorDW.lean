/-
  Which sectors wait: the keys of the map, sorted. Contract of Waits, by the shelf's contracts of maps.Keys and slices.Sorted.
-/
import Derived.Test.YtgfkbkonelphaaaGreatDoorDA
import Derived.Test.YtgfkbkonelphaaaGreatDoorShelf
namespace Go.Proofs.YtgfkbkonelphaaaGreatDoor
open Go.RowKit Go.Maps Go.Sort Go.Shelf

/-- The sectors that wait, rising. -/
def waitsN (c : Int → Option (List Int)) (n : Nat) : List Nat := (List.range n).filter fun i => (c (i : Int)).isSome
def waits (s : Ds) : List Int := (waitsN s.c s.k.length).map fun i : Nat => (i : Int)
theorem mem_waitsN {c : Int → Option (List Int)} {n i : Nat} : i ∈ waitsN c n ↔ i < n ∧ (c (i : Int)).isSome = true := by simp [waitsN]
theorem waitsN_srt (c : Int → Option (List Int)) (n : Nat) : (waitsN c n).Pairwise (· < ·) := List.Pairwise.filter _ List.pairwise_lt_range
theorem waits_srt (s : Ds) : (waits s).Pairwise (· < ·) := List.pairwise_map.2 ((waitsN_srt s.c s.k.length).imp fun h => by omega)
theorem waits_len (s : Ds) : (waits s).length ≤ s.k.length := by
  unfold waits waitsN
  rw [List.length_map]
  exact Nat.le_trans (List.length_filter_le _ _) (by simp)
theorem cnt_eq (c : Int → Option (List Int)) (n : Nat) : cnt c n = (waitsN c n).length := by
  induction n with
  | zero => rfl
  | succ n ih =>
    unfold cnt waitsN
    rw [List.range_succ, List.filter_append, List.length_append, ih]
    congr 1
    cases h : (c (n : Int)).isSome <;> simp [h]
theorem mem_waits {s : Ds} (h : DOk s) {x : Int} : x ∈ waits s ↔ (s.c x).isSome = true := by
  unfold waits
  rw [List.mem_map]
  constructor
  · rintro ⟨i, hi, rfl⟩
    exact (mem_waitsN.1 hi).2
  · intro hx
    obtain ⟨l, hl⟩ := Option.isSome_iff_exists.1 hx
    obtain ⟨h0, h1, _⟩ := h.key x l hl
    refine ⟨x.toNat, mem_waitsN.2 ⟨by omega, ?_⟩, by omega⟩
    rw [show ((x.toNat : Nat) : Int) = x by omega]
    exact hx
theorem kp_of_below {w w' : World} (h : Below w.heap.size w w') : Kp No w w' := ⟨h.os, h.tape, h.output, h.size, fun k hk _ => h.block k hk⟩
theorem sort_waits {s : Ds} {ss : List Int} (h : ss.Perm (waits s)) : ss.mergeSort (fun x y => decide (x ≤ y)) = waits s := by
  have e := mergeSort_of_perm_i h
  refine e.trans ?_
  exact List.mergeSort_of_pairwise ((waits_srt s).imp fun h => by simp only [leI, decide_eq_true_eq]; omega)

/-- An int in a row. -/
def zf (x : Int) (_ : Nat) : Value := .int .i64 x
theorem flat_zf (xs : List Int) : flat 1 zf xs = xs.map encZ := by
  induction xs with
  | nil => rfl
  | cons x l ih =>
    unfold flat
    rw [ih]
    rfl

theorem sortsA (n : Nat) : AnyZI.SortsIn Tryz.prog Tryz.sortedA_ren Fence.wide n :=
  ⟨fun blk off cap ss W hH hblk hsz => callsIn_wide.2 (AnyM.slices_Sort_int Tryz.sortA blk off cap ss W hH hblk hsz),
   fun p cap W => callsIn_wide.2 (AnyM.slices_Sort_int_none Tryz.sortA p cap W)⟩

section
variable {w w' : World} {g b m : Nat} {s : Ds} {S : Nat → Prop}
set_option maxHeartbeats 1000000 in
theorem waits_any (h : Dk w g b m s) : Calls Tryz.prog 41 #[.pointer (some ⟨g, 0, none⟩)] w fun e w' => ∃ v, e = .returned v ∧ Ow w' w.heap.size 3 1 zf v (waits s) ∧ Kp No w w' := by
  refine (callsIn_wide (n := 6)).1 ?_
  obtain ⟨D, hown, hsz, hhas, _⟩ := h.mp
  have hbl := hown.lt
  have hlen := h.ok.len
  have hcl := cnt_le s.c s.k.length
  have hperm : (waits s).Perm (intKeys D) := CollectedI.perm (left := fun _ => false) ⟨(waits_srt s).imp (fun h e => by omega), fun x => by rw [mem_waits h.ok, ← hhas]; simp⟩ hown dK.keyed dK.key fun _ => rfl
  have hmax : Maps.size D ≤ maxLen := by rw [hsz]; unfold maxLen; omega
  have hbytes : Maps.size D * 8 ≤ 140737488355328 := by rw [hsz]; omega
  have hseq : SeqGives Fence.wide 2 Tryz.prog 75 #[.pointer (some ⟨w.heap.size, 0, none⟩)] encZ (fun ss => ss.Perm (intKeys D)) (Maps.size D) (w.alloc (.cells #[.map (some m)] 60)) :=
    AnyZI.keys_gives (ρ := Tryz.keysA_ren) { Tryz.keysA with } Fence.wide _ trivial rfl (by omega) w.heap.size m _ D _ (by simp) (by simp) (by
      obtain ⟨es, clock, hb, Ft, hs, hD⟩ := hown
      exact ⟨es, clock, (Below.heap_alloc _ _ m hbl).trans hb, Ft, hs, hD⟩)
  have cK : ∀ mb W, CallsIn Fence.wide 5 Tryz.prog 61 #[.map mb] W fun e w' => e = .returned (.func (.func 75) #[] #[.pointer (some ⟨W.heap.size, 0, none⟩)]) ∧ w' = W.alloc (.cells #[.map mb] 60) := fun mb W => AnyZI.keys_in Tryz.keysA Fence.wide 5 trivial rfl mb W
  have cS := AnyZI.sorted_in Tryz.sortedA Fence.wide 5 trivial trivial trivial trivial rfl (by omega) (sortsA _) (enters_of Tryz.func74 (by kernel_rfl) rfl) 75 #[.pointer (some ⟨w.heap.size, 0, none⟩)] trivial (enters_of Tryz.func75 (by kernel_rfl) rfl) _ _ hmax hbytes _ hseq
  change CallsIn _ _ Tryz.prog 60 _ _ _ at cS
  have hfK : Fence.wide.fn 61 := trivial
  have hfS : Fence.wide.fn 60 := trivial
  have c1 := h.hd.cell 1
  simp at c1
  have HP := hid hperm
  clear hown hseq hhas hsz hperm h hmax hbytes
  refine callsIn_of_wp Tryz.func41 rfl trivial ?_ rfl
  simp only [Tryz.ntmps41, List.size_toArray, List.length_cons, List.length_nil, Nat.reduceAdd, Nat.reduceSub, Array.replicate_succ, Array.replicate_zero, List.push_toArray, List.append_toArray, List.nil_append, List.cons_append]
  gi_wp2_with (first
    | (gi_at_call 61; refine (cK _ _).mono ?_; rintro e w' ⟨rfl, rfl⟩)
    | (gi_at_call 60; refine cS.mono ?_; rintro e w' ⟨v, ss, rfl, hS, hrow, hnil, hb⟩))
  go_ret
  have he := sort_waits (hS.trans HP.out.symm)
  rw [he] at hrow
  refine ⟨v, rfl, ?_, ?_⟩
  · have hr := ownsRow_base_a hrow (show w.heap.size ≤ _ by simp)
    unfold Ow
    rw [flat_zf]
    have hl : ss.length = (waits s).length := (hS.trans HP.out.symm).length_eq
    rw [← hl]
    exact hr
  · exact ((Kp.refl No w).alloc _).trans (kp_of_below hb)
end
end Go.Proofs.YtgfkbkonelphaaaGreatDoor
