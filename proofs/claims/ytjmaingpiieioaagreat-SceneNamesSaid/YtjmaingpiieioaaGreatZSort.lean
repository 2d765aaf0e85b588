/-
  slices.SortFunc and slices.SortedFunc at groups (falling by number) and tasks (rising).
-/
import Derived.Test.YtjmaingpiieioaaGreatZApp
import Derived.Shelf.SlSortCmp.NoneTotal
namespace Go.Proofs.YtjmaingpiieioaaGreat
open Go.RowKit Go.Shelf Go.Sort

section
variable {α : Type} [Inhabited α] {enc : α → List Value} {n : Nat} {f : α → Nat → Value} {w : World} {base g m c q : Nat} {e : TypeId} {xs : List α} {d' : Array α} {os : Array Obj}
theorem map_other (w : World) (g k : Nat) (F : Array Value → Array Value) (h : k ≠ g) : (mapBlock w g F).heap[k]? = w.heap[k]? := by
  unfold mapBlock
  simp only [Array.getElem?_modify]
  rw [if_neg (Ne.symm h)]
theorem map_same (w : World) (g : Nat) (F : Array Value → Array Value) {cs : Array Value} {t : TypeId} {x : Nat × Nat} (h : w.heap[g]? = some (.cells cs t x)) : (mapBlock w g F).heap[g]? = some (.cells (F cs) t x) := by
  unfold mapBlock
  simp only [Array.getElem?_modify, if_true, h, Option.map_some, onCells]
theorem map_size (w : World) (g : Nat) (F : Array Value → Array Value) : (mapBlock w g F).heap.size = w.heap.size := by
  unfold mapBlock
  simp
theorem grow_heap (w : World) (os : Array Obj) {k : Nat} (h : k < w.heap.size) : (grow w os).heap[k]? = w.heap[k]? := by
  unfold grow
  simp only
  rw [Array.getElem?_append_left h]
theorem Ow.sortK (h : Ow w base e n f (.slice (some ⟨g, 0, none⟩) m c) xs) (hn : 0 < n) (hf : ∀ x i, i < n → f x i = (enc x)[i]!) (hm : d'.size = xs.length) :
    Ow (sortWorldK enc n w g 0 q d' os) base e n f (.slice (some ⟨g, 0, none⟩) m c) d'.toList ∧ Kp (Only g) w (sortWorldK enc n w g 0 q d' os) := by
  rcases h.2 with ⟨h1, _⟩ | ⟨g', cap, cur, h1, hb, hg, hl, hmx, hs, ht⟩
  · cases h1
  · injection h1 with e1 e2 e3
    cases e1
    subst e2 e3
    have hlt : g < w.heap.size := (Array.getElem?_eq_some_iff.1 hg).1
    have hW : ∀ k, k < w.heap.size → (sortWorldK enc n w g 0 q d' os).heap[k]? = (mapBlock (Sort.ahead w q) g (putCells id 0 (flatK enc n d'))).heap[k]? := fun k hk => by
      unfold sortWorldK putRowK putRow
      exact grow_heap _ _ (by rw [map_size]; exact hk)
    refine ⟨⟨?_, 
      .inr ⟨g, c, putCells id 0 (flatK enc n d') cur, by rw [show d'.toList.length = xs.length from hm], hb, ?_, by rw [Array.length_toList, hm]; exact hl, hmx, by unfold putCells; simpa using hs, ?_⟩⟩, ?_⟩
    · rw [flat_len, Array.length_toList]
    · rw [hW g hlt]
      exact map_same _ g _ hg
    · have hle : xs.length * n ≤ c * n := Nat.mul_le_mul_right _ hl
      apply List.ext_getElem?
      intro j
      by_cases hj : j < xs.length * n
      · rw [List.getElem?_take_of_lt (by rw [Array.length_toList, hm]; exact hj)]
        have hq : j / n < d'.toList.length := by rw [Array.length_toList, hm]; exact Nat.div_lt_of_lt_mul (by rwa [Nat.mul_comm])
        have hi : j % n < n := Nat.mod_lt _ hn
        have e : j = j / n * n + j % n := by rw [Nat.mul_comm]; exact (Nat.div_add_mod j n).symm
        have h1 := flat_at (f := f) (d := default) d'.toList hq hi
        rw [← e] at h1
        rw [h1, Array.getElem?_toList]
        unfold putCells
        rw [Array.getElem?_mapIdx]
        have hjc : j < cur.size := by omega
        rw [Array.getElem?_eq_getElem hjc]
        simp only [Option.map_some, Nat.zero_le, Nat.zero_add, true_and, Nat.sub_zero, id]
        rw [if_pos (by rw [size_flatK, hm]; exact hj), get_flatK _ _ _ _ (by rw [hm]; exact hj), hf _ _ hi]
        congr 3
        have hq2 : j / n < d'.size := by rw [← Array.length_toList]; exact hq
        simp [List.getD, hq2]
      · rw [List.getElem?_eq_none (by rw [List.length_take, Array.length_toList, hm]; omega), List.getElem?_eq_none (by rw [flat_len, Array.length_toList, hm]; omega)]
    · refine ⟨rfl, rfl, rfl, ?_, fun k hk hs => ?_⟩
      · unfold sortWorldK grow putRowK putRow
        simp only [Array.size_append]
        rw [map_size]
        exact Nat.le_add_right _ _
      · rw [hW k hk]
        exact map_other _ _ _ _ fun e => hs e
theorem Ow.holdsK (h : Ow w base e n f (.slice (some ⟨g, 0, none⟩) m c) xs) (hn : 0 < n) (hf : ∀ x i, i < n → f x i = (enc x)[i]!) : HoldsK enc n w g 0 xs.toArray := by
  intro j hj
  rw [size_flatK, List.size_toArray] at hj
  have hq : j / n < xs.length := Nat.div_lt_of_lt_mul (by rwa [Nat.mul_comm])
  have hi : j % n < n := Nat.mod_lt _ hn
  have ej : j = j / n * n + j % n := by rw [Nat.mul_comm]; exact (Nat.div_add_mod j n).symm
  have h1 := h.cellAt (d := default) hq hi
  rw [← ej] at h1
  obtain ⟨_, hlt, cs, hb⟩ := h.blk (k := g) rfl
  refine ⟨?_, ?_⟩
  · rw [Nat.zero_add, h1, get_flatK _ _ _ _ (by rw [List.size_toArray]; exact hj), hf _ _ hi]
    congr 3
    simp [List.getD, hq]
  · exact Blk.frozen (t := e) (cs := cs) hb _
end
theorem perm_of {α : Type} [Inhabited α] {xs : List α} {d' : Array α} (h : PermIn 0 xs.length xs.toArray d') : d'.toList.Perm xs ∧ d'.size = xs.length := by
  obtain ⟨h1, _, h3⟩ := h
  have h1' : d'.size = xs.length := h1
  refine ⟨?_, h1'⟩
  have e1 : d'.extract 0 xs.length = d' := by rw [← h1']; simp
  have e2 : xs.toArray.extract 0 xs.length = xs.toArray := by simp
  rw [e1, e2] at h3
  exact h3
theorem pair_of {α : Type} [Inhabited α] {R : α → α → Prop} {d' : Array α} (h : ∀ i j, i < j → j < d'.size → R d'[i]! d'[j]!) : d'.toList.Pairwise R := by
  rw [List.pairwise_iff_getElem]
  intro i j hi hj hij
  rw [Array.length_toList] at hi hj
  have := h i j hij hj
  rw [getElem!_pos d' i hi, getElem!_pos d' j hj] at this
  simpa using this
theorem cmpI_neg {a b : Int} : cmpI a b < 0 ↔ a < b := by
  unfold cmpI
  split
  · simp [*]
  · split <;> simp <;> omega
def cfT (x y : TS) : Int := cmpI x.id y.id
def cfG (x y : GS) : Int := cmpI y.id x.id
theorem ltT (x y : TS) : ltOf cfT x y = decide (x.id < y.id) := by
  unfold ltOf cfT
  rw [decide_eq_decide, cmpI_neg]
theorem ltG (x y : GS) : ltOf cfG x y = decide (y.id < x.id) := by
  unfold ltOf cfG
  rw [decide_eq_decide, cmpI_neg]
theorem swoT : SWO (ltOf cfT) where
  irrefl x := by rw [ltT]; simp
  trans x y z h1 h2 := by rw [ltT] at *; simp at *; omega
  ntrans x y z h1 h2 := by rw [ltT] at *; simp at *; omega
theorem swoG : SWO (ltOf cfG) where
  irrefl x := by rw [ltG]; simp
  trans x y z h1 h2 := by rw [ltG] at *; simp at *; omega
  ntrans x y z h1 h2 := by rw [ltG] at *; simp at *; omega
theorem tc_enc (x : TS) (i : Nat) (h : i < 8) : tc x i = (te x)[i]! := by
  match i, h with
  | 0, _ => rfl
  | 1, _ => rfl
  | 2, _ => rfl
  | 3, _ => rfl
  | 4, _ => rfl
  | 5, _ => rfl
  | 6, _ => rfl
  | 7, _ => rfl
theorem gc_enc (x : GS) (i : Nat) (h : i < 6) : gc x i = (ge x)[i]! := by
  match i, h with
  | 0, _ => rfl
  | 1, _ => rfl
  | 2, _ => rfl
  | 3, _ => rfl
  | 4, _ => rfl
  | 5, _ => rfl

section
variable {w w' : World} {S P Q : Nat → Prop} {v u : Value} {xs ys : List GS} {base : Nat}
set_option maxRecDepth 100000 in
theorem closeG (x y : GS) (W : World) : Calls Tryz.prog 76 #[.agg (ge x).toArray, .agg (ge y).toArray] W fun e w' => e = .returned (.int .i64 (cfG x y)) ∧ ∃ q os', w' = grow (W.drewN q) os' := by
  obtain ⟨r, hr⟩ : ∃ r, cfG x y = r := ⟨_, rfl⟩
  have HC := hid (fun W' => cmp_is (show cmpI y.id x.id = r from hr) W')
  rw [hr]
  unfold ge
  clear hr
  go_enter Tryz.func76, Tryz.ntmps76
  go_wp2_with (go_at_call 43; refine (HC.out _).mono ?_; rintro e w' ⟨rfl, rfl⟩)
  go_ret
  exact ⟨rfl, 0, _, by rw [alloc_eq_grow, alloc_eq_grow, grow_grow]; rfl⟩
theorem sortG_any (h : Ow w base 51 6 gc u xs) (hl : xs.length ≤ 1000000000) :
    Calls Tryz.prog 87 #[u, .func (.func 76) #[] #[]] w fun e w' => e = .returned (.tuple #[]) ∧ ∃ ys, Ow w' base 51 6 gc u ys ∧ ys.Perm xs ∧ ys.Pairwise (fun a b => b.id ≤ a.id) ∧ Kp (fun i => u.ownBlock = some i) w w' := by
  by_cases h0 : xs = []
  · subst h0
    obtain ⟨A, c, rfl⟩ := h.formN (m := 0) rfl
    refine Calls.mono (AnyF.slices_SortFunc_none Tryz.sortG A c (.func (.func 76) #[] #[]) w) ?_
    rintro e w' ⟨rfl, rfl⟩
    exact ⟨rfl, [], h, .refl _, List.Pairwise.nil, Kp.refl _ _⟩
  · obtain ⟨b, c, rfl, hb, hbl, hc, hm⟩ := h.form2 (List.length_pos_iff.2 h0)
    have eg : ∀ args w, (callFunc 76 args).run Tryz.prog w = .ok (.enter 76 args) w := enters_of Tryz.func76 (by kernel_rfl) rfl
    have hcon := AnyQ.slices_SortFunc Tryz.sortG 6 Tryz.isAgg51 Tryz.sizeOf51 ge ge_len ge_one cfG swoG 76 #[] b 0 c xs.toArray w eg (fun _ _ _ _ x y => closeG x y _) (h.holdsK (by decide) gc_enc) hbl (by rw [List.size_toArray]; omega)
    rw [List.size_toArray] at hcon
    refine Calls.mono hcon ?_
    rintro e w' ⟨rfl, d', q, os, hp, hs, rfl⟩
    obtain ⟨p1, p2⟩ := perm_of (xs := xs) hp
    obtain ⟨o1, k1⟩ := h.sortK (enc := ge) (d' := d') (q := q) (os := os) (by decide) gc_enc p2
    refine ⟨rfl, d'.toList, o1, p1, pair_of fun i j hij hj => ?_, k1.mono fun i _ e => by rw [show i = b from e]; rfl⟩
    have := hs i j (Nat.zero_le _) hij (by rw [← p2]; exact hj)
    rw [ltG, decide_eq_false_iff_not] at this
    omega
theorem sortedfG_any {gf : Nat} {lb : Array Value} {Rd : Nat → Prop} (hseq : SeqO Tryz.prog gf lb (fun x : GS => #[.agg #[.int .i64 x.id, .int .i64 x.par, .int .i64 x.wt, .int .i64 x.pd, .int .i64 x.qt, .int .i64 x.us]]) Rd xs w) (eg : ∀ args w, (callFunc gf args).run Tryz.prog w = .ok (.enter gf args) w) (hRd : ∀ k, Rd k → k < w.heap.size) (hl : xs.length ≤ 1000000000) :
    Calls Tryz.prog 74 #[.func (.func gf) #[] lb, .func (.func 76) #[] #[]] w fun e w' => ∃ u ys, e = .returned u ∧ Ow w' w.heap.size 51 6 gc u ys ∧ ys.Perm xs ∧ ys.Pairwise (fun a b => b.id ≤ a.id) ∧ Kp No w w' := by
  have HA := hid (collectG_any hseq eg hRd hl)
  have HL := hid hl
  clear hseq hl
  go_enter Tryz.func74, Tryz.ntmps74
  go_wp2_with (first
    | (go_at_call 86
       refine HA.out.mono ?_
       rintro e w1 ⟨u, rfl, o1, k1⟩
       have R1 := hid (And.intro o1 k1)
       clear o1 k1)
    | (go_at_call 87
       refine (sortG_any R1.out.1 HL.out).mono ?_
       rintro e w2 ⟨rfl, ys, o2, p2, s2, k2⟩
       have R2 := hid (And.intro o2 (And.intro p2 (And.intro s2 (R1.out.2.step k2 fun i hi e => by have := (R1.out.1.blk e).1; omega))))
       clear o2 p2 s2 k2))
  go_ret
  exact ⟨u, ys, rfl, R2.out⟩
/-- The values of a row, as an iterator behind its box. -/
theorem Rw.seqG (h : Rw 6 gc gs0 w P v xs) (hl : xs.length ≤ 1000000000) : ∃ b, b ≤ w.heap.size ∧ SeqO Tryz.prog 88 #[.pointer (some ⟨w.heap.size, 0, none⟩)] (fun x : GS => #[.agg #[.int .i64 x.id, .int .i64 x.par, .int .i64 x.wt, .int .i64 x.pd, .int .i64 x.qt, .int .i64 x.us]]) (fun k => k = w.heap.size ∨ k = b) xs (w.alloc (.cells #[v] 22)) := by
  obtain ⟨A, c, rfl, hc, hm, hx⟩ := h
  have k0 := (Kp.refl No w).alloc (.cells #[.slice A xs.length c] 22)
  have b0 := Blk.new w 22 #[.slice A xs.length c]
  have hz := World.size_alloc w (.cells #[.slice A xs.length c] 22)
  by_cases h0 : xs = []
  · subst h0
    exact ⟨w.heap.size, Nat.le_refl _, valuesG_seq w.heap.size w.heap.size 0 c A [] _ b0.lt (b0.cell 0) (fun h => by simp at h) (fun j i hj => by simp at hj) hl⟩
  · obtain ⟨b, o, rfl, hb, _, hcell⟩ := hx (List.length_pos_iff.2 h0)
    exact ⟨b, by omega, valuesG_seq w.heap.size b o c _ xs _ b0.lt (b0.cell 0) (fun _ => ⟨rfl, by omega⟩) (fun j i hj hi => (k0.cell (p := ⟨b, o + (j * 6 + i), none⟩) hb (fun e => e)).trans (hcell j i hj hi)) hl⟩
end

section
variable {w w' : World} {S P Q : Nat → Prop} {v u : Value} {xs ys : List TS} {base : Nat}
set_option maxRecDepth 100000 in
theorem closeT (x y : TS) (W : World) : Calls Tryz.prog 42 #[.agg (te x).toArray, .agg (te y).toArray] W fun e w' => e = .returned (.int .i64 (cfT x y)) ∧ ∃ q os', w' = grow (W.drewN q) os' := by
  obtain ⟨r, hr⟩ : ∃ r, cfT x y = r := ⟨_, rfl⟩
  have HC := hid (fun W' => cmp_is (show cmpI x.id y.id = r from hr) W')
  rw [hr]
  unfold te
  clear hr
  go_enter Tryz.func42, Tryz.ntmps42
  go_wp2_with (go_at_call 43; refine (HC.out _).mono ?_; rintro e w' ⟨rfl, rfl⟩)
  go_ret
  exact ⟨rfl, 0, _, by rw [alloc_eq_grow, alloc_eq_grow, grow_grow]; rfl⟩
theorem sortT_any (h : Ow w base 46 8 tc u xs) (hl : xs.length ≤ 1000000000) :
    Calls Tryz.prog 63 #[u, .func (.func 42) #[] #[]] w fun e w' => e = .returned (.tuple #[]) ∧ ∃ ys, Ow w' base 46 8 tc u ys ∧ ys.Perm xs ∧ ys.Pairwise (fun a b => a.id ≤ b.id) ∧ Kp (fun i => u.ownBlock = some i) w w' := by
  by_cases h0 : xs = []
  · subst h0
    obtain ⟨A, c, rfl⟩ := h.formN (m := 0) rfl
    refine Calls.mono (AnyF.slices_SortFunc_none Tryz.sortT A c (.func (.func 42) #[] #[]) w) ?_
    rintro e w' ⟨rfl, rfl⟩
    exact ⟨rfl, [], h, .refl _, List.Pairwise.nil, Kp.refl _ _⟩
  · obtain ⟨b, c, rfl, hb, hbl, hc, hm⟩ := h.form2 (List.length_pos_iff.2 h0)
    have eg : ∀ args w, (callFunc 42 args).run Tryz.prog w = .ok (.enter 42 args) w := enters_of Tryz.func42 (by kernel_rfl) rfl
    have hcon := AnyQ.slices_SortFunc Tryz.sortT 8 Tryz.isAgg46 Tryz.sizeOf46 te te_len te_one cfT swoT 42 #[] b 0 c xs.toArray w eg (fun _ _ _ _ x y => closeT x y _) (h.holdsK (by decide) tc_enc) hbl (by rw [List.size_toArray]; omega)
    rw [List.size_toArray] at hcon
    refine Calls.mono hcon ?_
    rintro e w' ⟨rfl, d', q, os, hp, hs, rfl⟩
    obtain ⟨p1, p2⟩ := perm_of (xs := xs) hp
    obtain ⟨o1, k1⟩ := h.sortK (enc := te) (d' := d') (q := q) (os := os) (by decide) tc_enc p2
    refine ⟨rfl, d'.toList, o1, p1, pair_of fun i j hij hj => ?_, k1.mono fun i _ e => by rw [show i = b from e]; rfl⟩
    have := hs i j (Nat.zero_le _) hij (by rw [← p2]; exact hj)
    rw [ltT, decide_eq_false_iff_not] at this
    omega
theorem sortedfT_any {gf : Nat} {lb : Array Value} {Rd : Nat → Prop} (hseq : SeqO Tryz.prog gf lb (fun x : TS => #[.agg #[.int .i64 x.id, .int .i64 x.gr, .int .i64 x.wt, .int .u64 x.co, .bool x.sl, .int .i64 x.ra, .int .i64 x.lv, .int .i64 x.lr]]) Rd xs w) (eg : ∀ args w, (callFunc gf args).run Tryz.prog w = .ok (.enter gf args) w) (hRd : ∀ k, Rd k → k < w.heap.size) (hl : xs.length ≤ 1000000000) :
    Calls Tryz.prog 40 #[.func (.func gf) #[] lb, .func (.func 42) #[] #[]] w fun e w' => ∃ u ys, e = .returned u ∧ Ow w' w.heap.size 46 8 tc u ys ∧ ys.Perm xs ∧ ys.Pairwise (fun a b => a.id ≤ b.id) ∧ Kp No w w' := by
  have HA := hid (collectT_any hseq eg hRd hl)
  have HL := hid hl
  clear hseq hl
  go_enter Tryz.func40, Tryz.ntmps40
  go_wp2_with (first
    | (go_at_call 62
       refine HA.out.mono ?_
       rintro e w1 ⟨u, rfl, o1, k1⟩
       have R1 := hid (And.intro o1 k1)
       clear o1 k1)
    | (go_at_call 63
       refine (sortT_any R1.out.1 HL.out).mono ?_
       rintro e w2 ⟨rfl, ys, o2, p2, s2, k2⟩
       have R2 := hid (And.intro o2 (And.intro p2 (And.intro s2 (R1.out.2.step k2 fun i hi e => by have := (R1.out.1.blk e).1; omega))))
       clear o2 p2 s2 k2))
  go_ret
  exact ⟨u, ys, rfl, R2.out⟩
/-- The values of a row, as an iterator behind its box. -/
theorem Rw.seqT (h : Rw 8 tc ts0 w P v xs) (hl : xs.length ≤ 1000000000) : ∃ b, b ≤ w.heap.size ∧ SeqO Tryz.prog 64 #[.pointer (some ⟨w.heap.size, 0, none⟩)] (fun x : TS => #[.agg #[.int .i64 x.id, .int .i64 x.gr, .int .i64 x.wt, .int .u64 x.co, .bool x.sl, .int .i64 x.ra, .int .i64 x.lv, .int .i64 x.lr]]) (fun k => k = w.heap.size ∨ k = b) xs (w.alloc (.cells #[v] 23)) := by
  obtain ⟨A, c, rfl, hc, hm, hx⟩ := h
  have k0 := (Kp.refl No w).alloc (.cells #[.slice A xs.length c] 23)
  have b0 := Blk.new w 23 #[.slice A xs.length c]
  have hz := World.size_alloc w (.cells #[.slice A xs.length c] 23)
  by_cases h0 : xs = []
  · subst h0
    exact ⟨w.heap.size, Nat.le_refl _, valuesT_seq w.heap.size w.heap.size 0 c A [] _ b0.lt (b0.cell 0) (fun h => by simp at h) (fun j i hj => by simp at hj) hl⟩
  · obtain ⟨b, o, rfl, hb, _, hcell⟩ := hx (List.length_pos_iff.2 h0)
    exact ⟨b, by omega, valuesT_seq w.heap.size b o c _ xs _ b0.lt (b0.cell 0) (fun _ => ⟨rfl, by omega⟩) (fun j i hj hi => (k0.cell (p := ⟨b, o + (j * 8 + i), none⟩) hb (fun e => e)).trans (hcell j i hj hi)) hl⟩
end
end Go.Proofs.YtjmaingpiieioaaGreat
