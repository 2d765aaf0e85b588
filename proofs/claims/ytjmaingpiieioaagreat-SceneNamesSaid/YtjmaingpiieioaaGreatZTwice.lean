/-
  Contracts of slices.Sorted at ints, and of isTwice.
-/
import Derived.Test.YtjmaingpiieioaaGreatZSort
import Derived.Shelf.SortM.Plain
import Derived.Shelf.SortM.SortNone
import Derived.Shelf.SlicesG.CompactI
namespace Go.Proofs.YtjmaingpiieioaaGreat
open Go.RowKit Go.Shelf Go.Sort

def srtI (l : List Int) : List Int := l.mergeSort fun x y => decide (x ≤ y)
theorem srtI_pair (l : List Int) : (srtI l).Pairwise (fun a b => a ≤ b) := by
  have := List.pairwise_mergeSort (le := fun a b : Int => decide (a ≤ b)) (by simp; omega) (by simp; omega) l
  exact this.imp fun h => by simpa using h
theorem srtI_perm (l : List Int) : (srtI l).Perm l := List.mergeSort_perm _ _
theorem srtI_len (l : List Int) : (srtI l).length = l.length := List.length_mergeSort l
/-- Of a rising list fewer are left without those that stand twice in a row, just if one stands twice. -/
theorem compact_lt {l : List Int} (hs : l.Pairwise (fun a b => a ≤ b)) : (Lib.compact l).length < l.length ↔ ¬ l.Nodup := by
  have hlen : (Lib.compact l).length = ((List.range l.length).filter (Lib.keeps l.toArray)).length := by
    unfold Lib.compact Lib.compactUpTo
    rw [List.length_map]
  have hr : (List.range l.length).length = l.length := List.length_range
  have hlt : (Lib.compact l).length < l.length ↔ ∃ j, j < l.length ∧ ¬ Lib.keeps l.toArray j = true := by
    rw [hlen]
    conv => lhs; rhs; rw [← hr]
    rw [List.length_filter_lt_length_iff_exists]
    simp
  have hk : ∀ j, j < l.length → (Lib.keeps l.toArray j = true ↔ j = 0 ∨ l.getD j 0 ≠ l.getD (j - 1) 0) := fun j hj => by
    unfold Lib.keeps
    rw [decide_eq_true_eq]
    have e1 : l.toArray[j]! = l.getD j 0 := by simp [List.getD, hj]
    have e2 : l.toArray[j - 1]! = l.getD (j - 1) 0 := by
      have : j - 1 < l.length := by omega
      simp [List.getD, this]
    rw [e1, e2]
  rw [hlt]
  constructor
  · rintro ⟨j, hj, hn⟩ hnd
    rw [hk j hj] at hn
    have h0 : j ≠ 0 := fun e => hn (.inl e)
    have he : l.getD j 0 = l.getD (j - 1) 0 := Classical.byContradiction fun e => hn (.inr e)
    have hj1 : j - 1 < l.length := by omega
    simp only [List.getD, List.getElem?_eq_getElem hj, List.getElem?_eq_getElem hj1, Option.getD_some] at he
    exact List.pairwise_iff_getElem.1 hnd (j - 1) j hj1 hj (by omega) he.symm
  · intro hnd
    refine Classical.byContradiction fun hex => hnd ?_
    have hall : ∀ j, j < l.length → 0 < j → l.getD j 0 ≠ l.getD (j - 1) 0 := fun j hj h0 e => hex ⟨j, hj, fun h => by
      rcases (hk j hj).1 h with h | h
      · omega
      · exact h e⟩
    have hle : ∀ i j, i < j → j < l.length → l.getD i 0 ≤ l.getD j 0 := fun i j hij hj => by
      have := List.pairwise_iff_getElem.1 hs i j (by omega) hj hij
      simpa only [List.getD, List.getElem?_eq_getElem hj, List.getElem?_eq_getElem (show i < l.length by omega), Option.getD_some] using this
    have hlt2 : ∀ i j, i < j → j < l.length → l.getD i 0 < l.getD j 0 := fun i j hij hj => by
      have h1 : l.getD i 0 ≤ l.getD (j - 1) 0 := by
        by_cases e : i = j - 1
        · rw [e]
          exact Int.le_refl _
        · exact hle i (j - 1) (by omega) (by omega)
      have h2 := hle (j - 1) j (by omega) hj
      have h3 := hall j hj (by omega)
      omega
    rw [List.Nodup, List.pairwise_iff_getElem]
    intro i j hi hj hij
    have := hlt2 i j hij hj
    simp only [List.getD, List.getElem?_eq_getElem hj, List.getElem?_eq_getElem hi, Option.getD_some] at this
    omega
section
variable {w w' : World} {base g m c q : Nat} {xs d' : List Int} {os : Array Obj} {u : Value}
theorem Ow.holdsI (h : Ow w base 3 1 zI (.slice (some ⟨g, 0, none⟩) m c) xs) : Holds (Value.int .i64) w g 0 xs.toArray := by
  intro j hj
  rw [List.size_toArray] at hj
  obtain ⟨_, hlt, cs, hb⟩ := h.blk (k := g) rfl
  have h1 := h.cellAt (d := 0) (i := 0) hj (by omega)
  rw [Nat.mul_one, Nat.add_zero] at h1
  refine ⟨?_, Blk.frozen (t := 3) (cs := cs) hb _⟩
  rw [Nat.zero_add, h1]
  simp [zI, List.getD, hj]
theorem kp_putRow {α : Type} [Inhabited α] (enc : α → Value) (w : World) (g off q : Nat) (d : Array α) (os : Array Obj) : Kp (Only g) w (grow (putRow enc (Sort.ahead w q) g off d) os) := by
  refine ⟨rfl, rfl, rfl, ?_, fun k hk hs => ?_⟩
  · unfold grow putRow
    simp only [Array.size_append]
    rw [map_size]
    exact Nat.le_add_right _ _
  · unfold putRow
    rw [grow_heap _ _ (by rw [map_size]; exact hk)]
    exact map_other _ _ _ _ fun e => hs e
theorem Ow.putI (h : Ow w base 3 1 zI (.slice (some ⟨g, 0, none⟩) m c) xs) (hm : d'.length = xs.length) : Ow (grow (putRow (Value.int .i64) (Sort.ahead w q) g 0 d'.toArray) os) base 3 1 zI (.slice (some ⟨g, 0, none⟩) m c) d' := by
  rcases h.2 with ⟨h1, _⟩ | ⟨g', cap, cur, h1, hb, hg, hl, hmx, hs, ht⟩
  · cases h1
  · injection h1 with e1 e2 e3
    cases e1
    subst e2 e3
    have hlt : g < w.heap.size := (Array.getElem?_eq_some_iff.1 hg).1
    refine ⟨flat_len d', .inr ⟨g, c, putCells (Value.int .i64) 0 d'.toArray cur, by rw [hm], hb, ?_, by omega, hmx, by unfold putCells; simpa using hs, ?_⟩⟩
    · unfold putRow
      rw [grow_heap _ _ (by rw [map_size]; exact hlt)]
      exact map_same _ g _ hg
    · apply List.ext_getElem?
      intro j
      by_cases hj : j < d'.length
      · rw [List.getElem?_take_of_lt (by omega)]
        have h1 := flat_at (f := zI) (n := 1) (d := 0) d' (i := 0) hj (by omega)
        rw [Nat.mul_one, Nat.add_zero] at h1
        rw [h1, Array.getElem?_toList]
        unfold putCells
        rw [Array.getElem?_mapIdx]
        have hjc : j < cur.size := by omega
        rw [Array.getElem?_eq_getElem hjc]
        simp [hj, zI, List.getD]
      · rw [List.getElem?_eq_none (by rw [List.length_take]; omega), List.getElem?_eq_none (by rw [flat_len]; omega)]
theorem sortI_any (h : Ow w base 3 1 zI u xs) (hl : xs.length ≤ 1000000000) :
    Calls Tryz.prog 72 #[u] w fun e w' => e = .returned (.tuple #[]) ∧ Ow w' base 3 1 zI u (srtI xs) ∧ Kp (fun i => u.ownBlock = some i) w w' := by
  by_cases h0 : xs = []
  · subst h0
    obtain ⟨A, c, rfl⟩ := h.formN (m := 0) rfl
    refine Calls.mono (AnyM.slices_Sort_int_none Tryz.sortA A c w) ?_
    rintro e w' ⟨rfl, rfl⟩
    exact ⟨rfl, by have : srtI [] = [] := by simp [srtI]
                   rw [this]; exact h, Kp.refl _ _⟩
  · obtain ⟨b, c, rfl, hb, hbl, hc, hm⟩ := h.form2 (List.length_pos_iff.2 h0)
    refine Calls.mono (AnyM.slices_Sort_int Tryz.sortA b 0 c xs w h.holdsI hbl (by omega)) ?_
    rintro e w' ⟨rfl, q, os, rfl⟩
    exact ⟨rfl, h.putI (srtI_len xs), (kp_putRow _ w b 0 q _ os).mono fun i _ e => by rw [show i = b from e]; rfl⟩
theorem compactI_any (h : Ow w base 3 1 zI u xs) : Calls Tryz.prog 55 #[u] w fun e w' => (∃ A c, e = .returned (.slice A (Lib.compact xs).length c)) ∧ Kp (fun i => u.ownBlock = some i) w w' := by
  by_cases h0 : xs = []
  · subst h0
    obtain ⟨A, c, rfl⟩ := h.formN (m := 0) rfl
    refine Calls.mono (AnyG.slices_Compact_int_empty Tryz.compactA A c w) ?_
    rintro e w' ⟨rfl, rfl⟩
    exact ⟨⟨A, c, rfl⟩, Kp.refl _ _⟩
  · obtain ⟨b, c, rfl, hb, hbl, hc, hm⟩ := h.form2 (List.length_pos_iff.2 h0)
    unfold maxLen at hm
    refine Calls.mono (AnyG.slices_Compact_int Tryz.compactA b 0 c xs w h.holdsI (by omega) hc) ?_
    rintro e w' ⟨rfl, q, rfl⟩
    have := kp_putRow (Value.int .i64) w b 0 q (Lib.compact xs ++ List.replicate (xs.length - (Lib.compact xs).length) 0).toArray #[]
    rw [grow_empty] at this
    exact ⟨⟨_, _, rfl⟩, this.mono fun i _ e => by rw [show i = b from e]; rfl⟩
theorem sortedI_any {gf : Nat} {lb : Array Value} {R : Nat → Prop} (hseq : SeqO Tryz.prog gf lb (fun x : Int => #[.int .i64 x]) R xs w) (eg : ∀ args w, (callFunc gf args).run Tryz.prog w = .ok (.enter gf args) w) (hRd : ∀ k, R k → k < w.heap.size) (hl : xs.length ≤ 1000000000) :
    Calls Tryz.prog 53 #[.func (.func gf) #[] lb] w fun e w' => ∃ u, e = .returned u ∧ Ow w' w.heap.size 3 1 zI u (srtI xs) ∧ Kp No w w' := by
  have HA := hid (collectI_any hseq eg hRd hl)
  have HL := hid hl
  clear hseq hl
  go_enter Tryz.func53, Tryz.ntmps53
  go_wp2_with (first
    | (go_at_call 71
       refine HA.out.mono ?_
       rintro e w1 ⟨u, rfl, o1, k1⟩
       have R1 := hid (And.intro o1 k1)
       clear o1 k1)
    | (go_at_call 72
       refine (sortI_any R1.out.1 HL.out).mono ?_
       rintro e w2 ⟨rfl, o2, k2⟩
       have R2 := hid (And.intro o2 (R1.out.2.step k2 fun i hi e => by have := (R1.out.1.blk e).1; omega))
       clear o2 k2))
  go_ret
  exact ⟨u, rfl, R2.out⟩
/-- The values of a row of ints, as an iterator behind its box. -/
theorem Rw.seqI {P : Nat → Prop} {v : Value} (h : Rw 1 zI 0 w P v xs) (hl : xs.length ≤ 1000000000) : ∃ b, b ≤ w.heap.size ∧ SeqO Tryz.prog 73 #[.pointer (some ⟨w.heap.size, 0, none⟩)] (fun x : Int => #[.int .i64 x]) (fun k => k = w.heap.size ∨ k = b) xs (w.alloc (.cells #[v] 31)) := by
  obtain ⟨A, c, rfl, hc, hm, hx⟩ := h
  have k0 := (Kp.refl No w).alloc (.cells #[.slice A xs.length c] 31)
  have b0 := Blk.new w 31 #[.slice A xs.length c]
  have hz := World.size_alloc w (.cells #[.slice A xs.length c] 31)
  by_cases h0 : xs = []
  · subst h0
    exact ⟨w.heap.size, Nat.le_refl _, valuesI_seq w.heap.size w.heap.size 0 c A [] _ b0.lt (b0.cell 0) (fun h => by simp at h) (fun j i hj => by simp at hj) hl⟩
  · obtain ⟨b, o, rfl, hb, _, hcell⟩ := hx (List.length_pos_iff.2 h0)
    exact ⟨b, by omega, valuesI_seq w.heap.size b o c _ xs _ b0.lt (b0.cell 0) (fun _ => ⟨rfl, by omega⟩) (fun j i hj hi => (k0.cell (p := ⟨b, o + (j * 1 + i), none⟩) hb (fun e => e)).trans (hcell j i hj hi)) hl⟩
set_option maxRecDepth 100000 in
theorem twice_any {P : Nat → Prop} {v : Value} (h : Rw 1 zI 0 w P v xs) (hl : xs.length ≤ 1000000) : Calls Tryz.prog 31 #[v] w fun e w' => e = .returned (.bool (!decide xs.Nodup)) ∧ Kp No w w' := by
  have hv : v.oneCell' = true := by
    obtain ⟨A, c, rfl, _⟩ := h
    rfl
  obtain ⟨b, hb, sq⟩ := h.seqI (by omega)
  have SQ := hid sq
  have k1 := hid ((Kp.refl No w).alloc (.cells #[v] 31))
  have z1 := World.size_alloc w (.cells #[v] 31)
  have EG := hid (show ∀ args w, (callFunc 73 args).run Tryz.prog w = .ok (.enter 73 args) w from enters_of Tryz.func73 (by kernel_rfl) rfl)
  have hcmp : decide ((Lib.compact (srtI xs)).length < xs.length) = !decide xs.Nodup := by
    have h1 := compact_lt (srtI_pair xs)
    rw [srtI_len, (srtI_perm xs).nodup_iff] at h1
    rw [Bool.eq_iff_iff]
    simp only [decide_eq_true_eq, Bool.not_eq_true', decide_eq_false_iff_not]
    rw [← h1]
  have HC := hid hcmp
  obtain ⟨A, c, rfl, _⟩ := id h
  obtain ⟨n, hn⟩ : ∃ n, xs.length = n := ⟨_, rfl⟩
  have HN := hid hn
  rw [hn] at HC SQ k1 z1 ⊢
  have hnl : n ≤ 1000000 := by rw [← hn]; exact hl
  have hb' : b ≤ w.heap.size := hb
  clear h sq hcmp hn hl
  go_enter Tryz.func31, Tryz.ntmps31
  go_wp2_with (first
    | (go_at_call 54
       refine (valuesI_any _ rfl w).mono ?_
       rintro e w1 ⟨rfl, rfl⟩)
    | (go_at_call 53
       refine (sortedI_any SQ.out EG.out (fun k hk => by rw [z1]; rcases hk with rfl | rfl <;> omega) (by rw [HN.out]; omega)).mono ?_
       rintro e w2 ⟨u, rfl, o2, k2⟩
       have O2 := hid o2
       have K2 := hid (k1.out.trans k2)
       have HU := hid (show ∀ i, u.ownBlock = some i → w.heap.size ≤ i from fun i hi => by have := (o2.blk hi).1; omega)
       clear o2 k2)
    | (go_at_call 55
       refine (compactI_any O2.out).mono ?_
       rintro e w3 ⟨⟨A3, c3, rfl⟩, k3⟩
       have K3 := hid (K2.out.step k3 fun i hi e => by have := HU.out i e; omega)
       clear k3))
  go_ret
  rw [← HC.out]
  exact ⟨rfl, K3.out⟩
end
end Go.Proofs.YtjmaingpiieioaaGreat
