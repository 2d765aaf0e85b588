/-
  ZAwake ZShuf ZOnce ZParts: texts laid into one.
-/
import Derived.Test.YtggmdgdgljlddaaGreatZCheck

/-
  The chapter's example.
-/
namespace Go.Proofs.YtggmdgdgljlddaaGreat
open Go.RowKit Go.Shelf

def g7 : GS := ⟨7, 0, 1, 0, 0, 0⟩
def g8 : GS := ⟨8, 7, 1, 0, 0, 0⟩
def g9 : GS := ⟨9, 7, 1, 0, 0, 0⟩
theorem srt89 : srtG [g8, g9] = [g8, g9] := by
  refine uniq GS.id _ _ (srtG_perm _) (srtG_pair _) (by simp [g8, g9]) fun a ha b hb e => ?_
  have ha := (srtG_perm [g8, g9]).mem_iff.1 ha
  have hb := (srtG_perm [g8, g9]).mem_iff.1 hb
  exact id_inj (by simp [g8, g9]) ha hb e
theorem srt98 : srtG [g9, g8] = [g8, g9] := by
  rw [srtG_of (gs := [g8, g9]) (by simp [g8, g9]) (List.Perm.swap _ _ _), srt89]
theorem vis_of {tl : List GS} (h : srtG tl = [g8, g9]) (hl : tl.length = 2) : visits (g7 :: tl) = [(g7, 0), (g8, 1), (g9, 1)] := by
  have hk : ∀ x, kidsA tl x = [g8, g9].filter fun g => decide (g.par = x) := fun x => by unfold kidsA; rw [h]
  have k7 : kidsA tl g7.id = [g8, g9] := by rw [hk]; rfl
  have k8 : kidsA tl g8.id = [] := by rw [hk]; rfl
  show run (kidsA tl) (tl.length + 1) [(g7, 0)] = _
  rw [hl]
  simp only [run, k7, k8, lay, List.map_cons, List.map_nil, List.cons_append, List.nil_append]
theorem ord_ex : orderG [g7, g9, g8] = [g7, g8, g9] := by
  unfold orderG
  rw [vis_of srt98 rfl]
  rfl
theorem ord_ok : orderG [g7, g8, g9] = [g7, g8, g9] := by
  unfold orderG
  rw [vis_of srt89 rfl]
  rfl
theorem tall_ok : tallG [g7, g8, g9] = 1 := by
  unfold tallG
  rw [vis_of srt89 rfl]
  rfl
theorem srtT_nil : srtT [] = [] := by simp [srtT]
theorem checkS_cons (g0 : GS) (gt : List GS) (ts : List TS) : checkS (g0 :: gt) ts = if 4096 < (g0 :: gt).length ∨ 4096 < ts.length then 7 else if (g0 :: gt).any wrongG = true ∨ ts.any wrongT = true then 1 else if ¬ (idsOf (g0 :: gt) ts).Nodup then 9 else if lostB g0 gt ts = true then 8 else if ordB (g0 :: gt) ts = false then 5 else if 16 ≤ tallG (g0 :: gt) then 10 else 0 := rfl
theorem check_ex : checkS [g7, g9, g8] [] = 5 := by
  rw [checkS_cons]
  have h1 : ([g7, g9, g8] : List GS).any wrongG = false := by decide
  have h2 : (idsOf [g7, g9, g8] []).Nodup := by decide
  have h3 : lostB g7 [g9, g8] [] = false := by decide
  have h4 : ordB [g7, g9, g8] [] = false := by
    unfold ordB
    rw [ord_ex]
    rfl
  rw [if_neg (by simp), h1, h3, h4, if_neg (by simp), if_neg (by simpa using h2), if_neg (by simp), if_pos rfl]
theorem check_ok : checkS [g7, g8, g9] [] = 0 := by
  rw [checkS_cons]
  have h1 : ([g7, g8, g9] : List GS).any wrongG = false := by decide
  have h2 : (idsOf [g7, g8, g9] []).Nodup := by decide
  have h3 : lostB g7 [g8, g9] [] = false := by decide
  have h4 : ordB [g7, g8, g9] [] = true := by
    unfold ordB
    rw [ord_ok, srtT_nil]
    rfl
  rw [if_neg (by simp), h1, h3, h4, tall_ok, if_neg (by simp), if_neg (by simpa using h2), if_neg (by simp), if_neg (by simp), if_neg (by simp)]
theorem I64.small {x : Int} (h : -1000000 ≤ x) (h2 : x ≤ 1000000) : I64 x := by unfold I64; omega
set_option maxRecDepth 100000 in
set_option maxHeartbeats 2000000 in
theorem zawake_any (w : World) : Calls Tryz.prog 4 #[] w fun e w' => e = .returned (.bool true) ∧ Kp No w w' := by
  have k1 := (Kp.refl No w).alloc (.cells #[.int .i64 7, .int .i64 0, .int .i64 1, .int .i64 0, .int .i64 0, .int .i64 0, .int .i64 9, .int .i64 7, .int .i64 1, .int .i64 0, .int .i64 0, .int .i64 0, .int .i64 8, .int .i64 7, .int .i64 1, .int .i64 0, .int .i64 0, .int .i64 0] 37)
  have b1 := Blk.new w 37 #[.int .i64 7, .int .i64 0, .int .i64 1, .int .i64 0, .int .i64 0, .int .i64 0, .int .i64 9, .int .i64 7, .int .i64 1, .int .i64 0, .int .i64 0, .int .i64 0, .int .i64 8, .int .i64 7, .int .i64 1, .int .i64 0, .int .i64 0, .int .i64 0]
  have z1 := World.size_alloc w (.cells #[.int .i64 7, .int .i64 0, .int .i64 1, .int .i64 0, .int .i64 0, .int .i64 0, .int .i64 9, .int .i64 7, .int .i64 1, .int .i64 0, .int .i64 0, .int .i64 0, .int .i64 8, .int .i64 7, .int .i64 1, .int .i64 0, .int .i64 0, .int .i64 0] 37)
  obtain ⟨w1, hw1⟩ : ∃ w1, w.alloc (.cells #[.int .i64 7, .int .i64 0, .int .i64 1, .int .i64 0, .int .i64 0, .int .i64 0, .int .i64 9, .int .i64 7, .int .i64 1, .int .i64 0, .int .i64 0, .int .i64 0, .int .i64 8, .int .i64 7, .int .i64 1, .int .i64 0, .int .i64 0, .int .i64 0] 37) = w1 := ⟨_, rfl⟩
  rw [hw1] at k1 b1 z1
  have k2 := (Kp.refl No w1).alloc (.cells #[.slice (some ⟨w.heap.size, 0, none⟩) 3 3, .slice none 0 0] 25)
  have b2 := Blk.new w1 25 #[.slice (some ⟨w.heap.size, 0, none⟩) 3 3, .slice none 0 0]
  obtain ⟨w2a, hw2⟩ : ∃ w2a, w1.alloc (.cells #[.slice (some ⟨w.heap.size, 0, none⟩) 3 3, .slice none 0 0] 25) = w2a := ⟨_, rfl⟩
  rw [hw2] at k2 b2
  rw [z1] at b2
  have t2a := b2.cell 1
  have f2a : w2a.frozen? ⟨w.heap.size + 1, 1, none⟩ = false := b2.frozen 1
  simp only [List.getElem?_toArray, List.getElem?_cons_zero, List.getElem?_cons_succ] at t2a
  have k2 := k2.step (Kp.set1 (w.heap.size + 1) 1 w2a (.slice none 0 0)) (fun i hi e => by have e : i = w.heap.size + 1 := e; omega)
  have b2 := b2.put 1 (.slice none 0 0)
  simp only [List.setIfInBounds_toArray, List.set_cons_zero, List.set_cons_succ] at b2
  obtain ⟨w2, hw2b⟩ : ∃ w2, w2a.setCell ⟨w.heap.size + 1, 1, none⟩ (.slice none 0 0) = w2 := ⟨_, rfl⟩
  rw [hw2b] at k2 b2
  have B := b1.kp0 k2
  have hS : Sce w2 Anyb (.agg #[.slice (some ⟨w.heap.size, 0, none⟩) 3 3, .slice none 0 0]) [g7, g9, g8] [] := by
    refine ⟨_, _, rfl, ⟨_, 3, rfl, by simp, by simp [maxLen], fun _ => ⟨w.heap.size, 0, rfl, B.lt, trivial, fun j i hj hi => ?_⟩⟩, Rw.nil _ _ _ _ _⟩
    have hj : j < 3 := hj
    match j, i, hj, hi with
    | 0, 0, _, _ => exact B.cell 0
    | 0, 1, _, _ => exact B.cell 1
    | 0, 2, _, _ => exact B.cell 2
    | 0, 3, _, _ => exact B.cell 3
    | 0, 4, _, _ => exact B.cell 4
    | 0, 5, _, _ => exact B.cell 5
    | 1, 0, _, _ => exact B.cell 6
    | 1, 1, _, _ => exact B.cell 7
    | 1, 2, _, _ => exact B.cell 8
    | 1, 3, _, _ => exact B.cell 9
    | 1, 4, _, _ => exact B.cell 10
    | 1, 5, _, _ => exact B.cell 11
    | 2, 0, _, _ => exact B.cell 12
    | 2, 1, _, _ => exact B.cell 13
    | 2, 2, _, _ => exact B.cell 14
    | 2, 3, _, _ => exact B.cell 15
    | 2, 4, _, _ => exact B.cell 16
    | 2, 5, _, _ => exact B.cell 17
  have K2 := hid (k1.trans k2)
  have B2 := hid b2
  have hI : ∀ g ∈ [g7, g9, g8], I64 g.id ∧ I64 g.par := by
    intro g hg
    simp only [List.mem_cons, List.not_mem_nil, or_false] at hg
    rcases hg with rfl | rfl | rfl <;> exact ⟨I64.small (by decide) (by decide), I64.small (by decide) (by decide)⟩
  have hI' : ∀ g ∈ [g7, g8, g9], I64 g.id ∧ I64 g.par := by
    intro g hg
    simp only [List.mem_cons, List.not_mem_nil, or_false] at hg
    rcases hg with rfl | rfl | rfl <;> exact ⟨I64.small (by decide) (by decide), I64.small (by decide) (by decide)⟩
  have HIO := hid hI'
  have HO := hid (order_any hS (by simp) (by simp) hI (by decide) (by decide))
  have HC := hid (fun (W : World) (k : Kp No w2 W) => zcheck_any (hS.kp0 k) hI (fun t ht => by cases ht))
  rw [check_ex] at HC
  rw [ord_ex, srtT_nil] at HO
  have s0 := b2.cell 0
  have s1 := b2.cell 1
  simp only [List.getElem?_toArray, List.getElem?_cons_zero, List.getElem?_cons_succ] at s0 s1
  clear k1 k2 b1 b2 B hS hI hI'
  go_enter Tryz.func4, Tryz.ntmps4
  go_upto_region 2 with fail
  clear hw1 hw2 hw2b t2a f2a
  go_wp2_with (first
    | (go_at_call 8
       refine HO.out.mono ?_
       rintro e w3 ⟨ug, ut, rfl, og, ot, k3⟩
       obtain ⟨bo, co, rfl, hb1, hb2, hc1, hc2⟩ := og.form2 (by simp)
       obtain ⟨At, ct, rfl⟩ := ot.formN (m := 0) rfl
       have k4 := k3.alloc (.cells #[.slice (some ⟨bo, 0, none⟩) 3 co, .slice At 0 ct] 25)
       have k34 := (Kp.refl No w3).alloc (.cells #[.slice (some ⟨bo, 0, none⟩) 3 co, .slice At 0 ct] 25)
       have b4 := Blk.new w3 25 #[.slice (some ⟨bo, 0, none⟩) 3 co, .slice At 0 ct]
       have SO := hid (show Sce (w3.alloc (.cells #[.slice (some ⟨bo, 0, none⟩) 3 co, .slice At 0 ct] 25)) Anyb (.agg #[.slice (some ⟨bo, 0, none⟩) 3 co, .slice At 0 ct]) [g7, g8, g9] [] from by
         obtain ⟨A1, c1, e1, p1, q1, r1⟩ := (og.kp0 k34).rwp (d := gs0)
         obtain ⟨A2, c2, e2, p2, q2, r2⟩ := (ot.kp0 k34).rwp (d := ts0)
         exact ⟨_, _, rfl, ⟨A1, c1, e1, p1, q1, fun h => (r1 h).imp fun b h => h.imp fun o h => ⟨h.1, h.2.1, trivial, h.2.2.2⟩⟩, ⟨A2, c2, e2, p2, q2, fun h => (r2 h).imp fun b h => h.imp fun o h => ⟨h.1, h.2.1, trivial, h.2.2.2⟩⟩⟩)
       have O6 := hid (og.kp0 k34)
       have K4 := hid k4
       have KF := hid (K2.out.trans k4)
       have B4 := hid b4
       have C4 := hid (B2.out.kp0 k4)
       have a0 := C4.out.cell 0
       have a1 := C4.out.cell 1
       simp only [List.getElem?_toArray, List.getElem?_cons_zero, List.getElem?_cons_succ] at a0 a1
       clear og ot k3 k4 k34 b4)
    | (go_at_call 6
       refine (HC.out _ K4.out).mono ?_
       rintro e w5 ⟨rfl, k5⟩
       have K5 := hid k5
       have D5 := B4.out.kp0 k5
       have d0 := D5.cell 0
       have d1 := D5.cell 1
       have c6 : w5.cell? ⟨bo, 6, none⟩ = some (.int .i64 8) := (O6.out.kp0 k5).cellAt (d := gs0) (j := 1) (i := 0) (by simp) (by omega)
       simp only [List.getElem?_toArray, List.getElem?_cons_zero, List.getElem?_cons_succ] at d0 d1
       have HCO := hid (zcheck_any (SO.out.kp0 k5) HIO.out (fun t ht => by cases ht))
       rw [check_ok] at HCO
       have D5H := hid D5
       clear k5 D5 K4)
    | (go_at_call 6
       refine HCO.out.mono ?_
       rintro e w6 ⟨rfl, k6⟩
       have K6 := hid (K5.out.trans k6)
       have D6 := D5H.out.kp0 k6
       have e0 := D6.cell 0
       have e1 := D6.cell 1
       simp only [List.getElem?_toArray, List.getElem?_cons_zero, List.getElem?_cons_succ] at e0 e1
       have HTL := hid (tall_any (SO.out.kp0 K6.out) (by simp) HIO.out (by decide))
       rw [tall_ok] at HTL
       clear k6 D6)
    | (go_at_call 9
       refine HTL.out.mono ?_
       rintro e w7 ⟨rfl, k7⟩
       have K7 := hid (KF.out.trans (K6.out.trans k7))
       clear k7))
  go_ret
  exact ⟨rfl, K7.out⟩
end Go.Proofs.YtggmdgdgljlddaaGreat

/-
  Contract of the law's shuffled.
-/
namespace Go.Proofs.YtggmdgdgljlddaaGreat
open Go.RowKit Go.Shelf

def ixG (n b i : Nat) : Nat := if i = 0 then 0 else 1 + (i - 1 + b) % (n - 1)
def outG (gs : List GS) (b k : Nat) : List GS := (List.range k).map fun i => gs.getD (ixG gs.length b i) gs0
def outT (ts : List TS) (b k : Nat) : List TS := (List.range k).map fun i => ts.getD ((i + b) % ts.length) ts0
theorem outG_succ (gs : List GS) (b k : Nat) : outG gs b (k + 1) = outG gs b k ++ [gs.getD (ixG gs.length b k) gs0] := by
  unfold outG
  rw [List.range_succ, List.map_append]
  rfl
theorem outT_succ (ts : List TS) (b k : Nat) : outT ts b (k + 1) = outT ts b k ++ [ts.getD ((k + b) % ts.length) ts0] := by
  unfold outT
  rw [List.range_succ, List.map_append]
  rfl
theorem outG_len (gs : List GS) (b k : Nat) : (outG gs b k).length = k := by simp [outG]
theorem outT_len (ts : List TS) (b k : Nat) : (outT ts b k).length = k := by simp [outT]
/-- What is gathered so far, groups and then tasks. -/
structure SI (w3 : World) (ob : Nat) (l : List GS) (sv : Value) (W : World) : Prop where
  kp : Kp (Only ob) w3 W
  bx : Blk W ob 25 #[sv, .slice none 0 0]
  ow : Ow W w3.heap.size 37 6 gc sv l
structure SJ (w3 : World) (ob : Nat) (ug : Value) (l : List TS) (sv : Value) (W : World) : Prop where
  kp : Kp (Only ob) w3 W
  bx : Blk W ob 25 #[ug, sv]
  ow : Ow W w3.heap.size 41 8 tc sv l
theorem Rw.any {α : Type} {n : Nat} {f : α → Nat → Value} {d : α} {w : World} {P : Nat → Prop} {v : Value} {xs : List α} (h : Rw n f d w P v xs) : Rw n f d w Anyb v xs := by
  obtain ⟨A, c, rfl, h1, h2, h3⟩ := h
  refine ⟨A, c, rfl, h1, h2, fun h0 => ?_⟩
  obtain ⟨b, o, rfl, g1, _, g3⟩ := h3 h0
  exact ⟨b, o, rfl, g1, trivial, g3⟩
end Go.Proofs.YtggmdgdgljlddaaGreat

/-
  Plain facts for SceneOnce: what is shuffled has the same groups below the first one, and the same tasks; what Check tells of it.
-/
namespace Go.Proofs.YtggmdgdgljlddaaGreat

theorem rot_perm {α : Type} (l : List α) (b : Nat) (d : α) : ((List.range l.length).map fun i => l.getD ((i + b) % l.length) d).Perm l := by
  have e : ((List.range l.length).map fun i => l.getD ((i + b) % l.length) d) = l.drop (b % l.length) ++ l.take (b % l.length) := by
    apply List.ext_getElem?
    intro i
    by_cases hi : i < l.length
    · have hL : 0 < l.length := by omega
      have hk := Nat.mod_lt b hL
      have hm : (i + b) % l.length = if i + b % l.length < l.length then i + b % l.length else i + b % l.length - l.length := by
        rw [Nat.add_mod, Nat.mod_eq_of_lt hi]
        split
        · rename_i h
          exact Nat.mod_eq_of_lt h
        · rename_i h
          rw [Nat.mod_eq_sub_mod (by omega), Nat.mod_eq_of_lt (by omega)]
      rw [List.getElem?_map, List.getElem?_range hi, Option.map_some, hm, List.getElem?_append, List.length_drop]
      split
      · rename_i h
        rw [if_pos (by omega), List.getElem?_drop, List.getD, show b % l.length + i = i + b % l.length by omega, List.getElem?_eq_getElem h, Option.getD_some]
      · rename_i h
        rw [if_neg (by omega), List.getElem?_take_of_lt (by omega), List.getD, show i - (l.length - b % l.length) = i + b % l.length - l.length by omega, List.getElem?_eq_getElem (by omega), Option.getD_some]
    · rw [List.getElem?_eq_none (by simp; omega), List.getElem?_eq_none (by simp; omega)]
  rw [e]
  refine List.perm_append_comm.trans ?_
  rw [List.take_append_drop]
def rotG (gt : List GS) (b : Nat) : List GS := (List.range gt.length).map fun i => gt.getD ((i + b) % gt.length) gs0
theorem outG_cons (g0 : GS) (gt : List GS) (b : Nat) : outG (g0 :: gt) b (gt.length + 1) = g0 :: rotG gt b := by
  unfold outG rotG
  rw [List.range_succ_eq_map, List.map_cons, List.map_map]
  congr 1
  apply List.map_congr_left
  intro i hi
  show (g0 :: gt).getD (if i + 1 = 0 then 0 else 1 + (i + 1 - 1 + b) % (gt.length + 1 - 1)) gs0 = _
  rw [if_neg (by omega), show 1 + (i + 1 - 1 + b) % (gt.length + 1 - 1) = (i + b) % gt.length + 1 by rw [Nat.add_comm 1]; rfl]
  rfl
theorem outT_perm (ts : List TS) (b : Nat) : (outT ts b ts.length).Perm ts := rot_perm ts b ts0
theorem check0 {g0 : GS} {gt : List GS} {ts : List TS} (h : checkS (g0 :: gt) ts = 0) : ¬ (4096 < (g0 :: gt).length ∨ 4096 < ts.length) ∧ ¬ ((g0 :: gt).any wrongG = true ∨ ts.any wrongT = true) ∧ (idsOf (g0 :: gt) ts).Nodup ∧ ¬ lostB g0 gt ts = true ∧ ordB (g0 :: gt) ts = true ∧ tallG (g0 :: gt) < 16 := by
  rw [checkS_cons] at h
  by_cases h1 : 4096 < (g0 :: gt).length ∨ 4096 < ts.length
  · rw [if_pos h1] at h
    exact absurd h (by decide)
  rw [if_neg h1] at h
  by_cases h2 : (g0 :: gt).any wrongG = true ∨ ts.any wrongT = true
  · rw [if_pos h2] at h
    exact absurd h (by decide)
  rw [if_neg h2] at h
  by_cases h3 : (idsOf (g0 :: gt) ts).Nodup
  · rw [if_neg (fun n => n h3)] at h
    by_cases h4 : lostB g0 gt ts = true
    · rw [if_pos h4] at h
      exact absurd h (by decide)
    rw [if_neg h4] at h
    by_cases h5 : ordB (g0 :: gt) ts = false
    · rw [if_pos h5] at h
      exact absurd h (by decide)
    rw [if_neg h5] at h
    by_cases h6 : 16 ≤ tallG (g0 :: gt)
    · rw [if_pos h6] at h
      exact absurd h (by decide)
    exact ⟨h1, h2, h3, h4, by simpa using h5, by omega⟩
  · rw [if_pos h3] at h
    exact absurd h (by decide)
theorem any_perm {α : Type} {a b : List α} (h : a.Perm b) (p : α → Bool) : a.any p = b.any p := by
  rw [Bool.eq_iff_iff, List.any_eq_true, List.any_eq_true]
  exact ⟨fun ⟨x, hx, e⟩ => ⟨x, h.mem_iff.1 hx, e⟩, fun ⟨x, hx, e⟩ => ⟨x, h.mem_iff.2 hx, e⟩⟩
/-- What is told of a scene whose groups, but the first one, and tasks stand in another order. -/
theorem check_shuf {g0 : GS} {gt gt' : List GS} {ts ts' : List TS} (h : checkS (g0 :: gt) ts = 0) (hg : gt'.Perm gt) (ht : ts'.Perm ts) :
    orderG (g0 :: gt) = g0 :: gt ∧ srtT ts = ts ∧ orderG (g0 :: gt') = g0 :: gt ∧ srtT ts' = ts ∧ ((g0 :: gt').map (·.id)).Nodup ∧ (ts'.map (·.id)).Nodup ∧ ((g0 :: gt).map (·.id)).Nodup ∧ (ts.map (·.id)).Nodup ∧
    checkS (g0 :: gt') ts' = if g0 :: gt' = g0 :: gt ∧ ts' = ts then 0 else 5 := by
  obtain ⟨h1, h2, h3, h4, h5, h6⟩ := check0 h
  have hc := h
  have hP : (g0 :: gt').Perm (g0 :: gt) := hg.cons g0
  have hn1 := (List.nodup_append.1 h3).1
  have hn2 := (List.nodup_append.1 h3).2.1
  have hn3 : ((g0 :: gt').map (·.id)).Nodup := ((hP.map (·.id)).nodup_iff).2 hn1
  have hn4 : (ts'.map (·.id)).Nodup := ((ht.map (·.id)).nodup_iff).2 hn2
  have hor := h5
  unfold ordB at hor
  rw [Bool.and_eq_true, decide_eq_true_eq, decide_eq_true_eq] at hor
  have ho : orderG (g0 :: gt') = g0 :: gt := by
    have : visits (g0 :: gt') = visits (g0 :: gt) := visits_perm (srtG_of (List.nodup_cons.1 hn1).2 hg) hg.length_eq
    unfold orderG
    rw [this]
    exact hor.1.symm
  have hs : srtT ts' = ts := (srtT_of hn2 ht).trans hor.2.symm
  refine ⟨hor.1.symm, hor.2.symm, ho, hs, hn3, hn4, hn1, hn2, ?_⟩
  by_cases he : g0 :: gt' = g0 :: gt ∧ ts' = ts
  · rw [if_pos he]
    injection he.1 with _ e1
    rw [e1, he.2]
    exact hc
  · rw [if_neg he, checkS_cons]
    have a1 : ¬ (4096 < (g0 :: gt').length ∨ 4096 < ts'.length) := by rw [hP.length_eq, ht.length_eq]; exact h1
    have a2 : ¬ ((g0 :: gt').any wrongG = true ∨ ts'.any wrongT = true) := by rw [any_perm hP, any_perm ht]; exact h2
    have a3 : (idsOf (g0 :: gt') ts').Nodup := by
      unfold idsOf
      exact (((hP.map fun g : GS => g.id).append (ht.map fun t : TS => t.id)).nodup_iff).2 h3
    have a4 : ¬ lostB g0 gt' ts' = true := by
      have hm : ∀ x : Int, decide (x ∈ (g0 :: gt').map (·.id)) = decide (x ∈ (g0 :: gt).map (·.id)) := fun x => by
        rw [Bool.eq_iff_iff, decide_eq_true_eq, decide_eq_true_eq]
        exact (hP.map (·.id)).mem_iff
      have e : lostB g0 gt' ts' = lostB g0 gt ts := by
        unfold lostB
        simp only [hm]
        rw [any_perm hP, any_perm ht]
      rw [e]
      exact h4
    have a5 : ordB (g0 :: gt') ts' = false := by
      unfold ordB
      rw [ho, hs, Bool.and_eq_false_iff, decide_eq_false_iff_not, decide_eq_false_iff_not]
      by_cases e : g0 :: gt' = g0 :: gt
      · exact .inr fun e2 => he ⟨e, e2⟩
      · exact .inl e
    rw [if_neg a1, if_neg a2, if_neg (fun n => n a3), if_neg a4, if_pos a5]
end Go.Proofs.YtggmdgdgljlddaaGreat

/-
  Plain facts for SceneParts: a scene in order without its tasks, and without its last group if no task is in it.
-/
namespace Go.Proofs.YtggmdgdgljlddaaGreat

/-- A leaf struck out of what is told. -/
theorem Vis.strike {K K' : Int → List GS} {L : GS} (hL : K L.id = []) (hK : ∀ x, K' x = (K x).filter fun g => decide (g ≠ L)) {st o : List Pl} (h : Vis K st o) :
    Vis K' (st.filter fun p => decide (p.1 ≠ L)) (o.filter fun p => decide (p.1 ≠ L)) := by
  induction h with
  | nil => exact .nil
  | @pop g d st out h ih =>
    by_cases e : g = L
    · subst e
      rw [List.filter_cons_of_neg (by simp), List.filter_cons_of_neg (by simp)]
      rw [hL] at ih
      simpa [lay] using ih
    · rw [List.filter_cons_of_pos (by simpa using e), List.filter_cons_of_pos (by simpa using e)]
      refine .pop ?_
      rw [List.filter_append] at ih
      have : (lay (d + 1) (K g.id)).filter (fun p => decide (p.1 ≠ L)) = lay (d + 1) (K' g.id) := by
        rw [hK]
        unfold lay
        rw [List.filter_map]
        rfl
      rw [this] at ih
      exact ih
theorem tl_foldl (l : List Pl) : ∀ a, l.foldl (fun m p => max m p.2) a = max a (tl l) := by
  induction l with
  | nil => intro a; simp [tl]
  | cons x l ih =>
    intro a
    unfold tl
    simp only [List.foldl_cons]
    rw [ih, ih]
    omega
theorem tl_cons (x : Pl) (l : List Pl) : tl (x :: l) = max x.2 (tl l) := by
  show (x :: l).foldl (fun m p => max m p.2) 0 = _
  rw [List.foldl_cons, tl_foldl]
  omega
theorem tl_filter (p : Pl → Bool) : ∀ l : List Pl, tl (l.filter p) ≤ tl l
  | [] => by simp
  | x :: l => by
    have := tl_filter p l
    rw [List.filter_cons, tl_cons]
    split
    · rw [tl_cons]
      omega
    · omega
section
variable {g0 L : GS} {gi : List GS}
theorem strike_last (l : List GS) (h : ((l ++ [L]).map (·.id)).Nodup) : (l ++ [L]).filter (fun g => decide (g ≠ L)) = l := by
  rw [List.filter_append, List.filter_eq_self.2, List.filter_cons_of_neg (by simp)]
  · simp
  · intro a ha
    rw [List.map_append, List.nodup_append] at h
    rw [decide_eq_true_eq]
    rintro rfl
    exact h.2.2 a.id (List.mem_map.2 ⟨a, ha, rfl⟩) a.id (by simp) rfl
/-- The last group of a scene in order has none below it. -/
theorem last_leaf (hnd : ((g0 :: (gi ++ [L])).map (·.id)).Nodup) (ho : orderG (g0 :: (gi ++ [L])) = g0 :: (gi ++ [L])) : kidsA (gi ++ [L]) L.id = [] := by
  obtain ⟨hv, _, _, _⟩ := visits_is hnd
  refine List.eq_nil_iff_forall_not_mem.2 fun k hk => ?_
  have hlen : (visits (g0 :: (gi ++ [L]))).length = gi.length + 2 := by
    have := congrArg List.length ho
    unfold orderG at this
    rw [List.length_map] at this
    simpa using this
  have hat : ∀ (i : Nat) (p : Pl), (visits (g0 :: (gi ++ [L])))[i]? = some p → (g0 :: (gi ++ [L]))[i]? = some p.1 := fun i p h => by
    rw [← ho]
    unfold orderG
    rw [List.getElem?_map, h]
    rfl
  -- the last place is L's
  have hLm : L ∈ orderG (g0 :: (gi ++ [L])) := by rw [ho]; simp
  unfold orderG at hLm
  obtain ⟨q, hq, hqL⟩ := List.mem_map.1 hLm
  have hkv := hv.kids q hq k (by rw [hqL]; exact hk)
  obtain ⟨i, hi⟩ := List.mem_iff_getElem?.1 hkv
  have hkt := (mem_kids.1 hk).1
  have hkp := (mem_kids.1 hk).2
  rcases hv.up i _ hi with h1 | ⟨j, p, hj, hp, hpk, _⟩
  · have h1 : k = g0 := by
      rw [List.mem_singleton] at h1
      exact congrArg Prod.fst h1
    subst h1
    rw [List.map_cons, List.nodup_cons] at hnd
    exact hnd.1 (List.mem_map.2 ⟨k, hkt, rfl⟩)
  · have hpp := (mem_kids.1 hpk).2
    have hpm := hat j p hp
    have hpmem : p.1 ∈ g0 :: (gi ++ [L]) := List.mem_iff_getElem?.2 ⟨j, hpm⟩
    have e : p.1 = L := id_inj hnd hpmem (by simp) (by rw [← hpp, hkp])
    rw [e] at hpm
    have hLlast : (g0 :: (gi ++ [L]))[gi.length + 1]? = some L := by simp
    have hjl : j < (g0 :: (gi ++ [L])).length := (List.getElem?_eq_some_iff.1 hpm).1
    have hil : i < (visits (g0 :: (gi ++ [L]))).length := (List.getElem?_eq_some_iff.1 hi).1
    have hne : j ≠ gi.length + 1 := by omega
    -- L stands at one place alone
    have hl2 : (g0 :: (gi ++ [L])).length = gi.length + 2 := by simp
    have hpw : (g0 :: (gi ++ [L])).Pairwise (fun a b => a.id ≠ b.id) := List.pairwise_map.1 hnd
    have := List.pairwise_iff_getElem.1 hpw j (gi.length + 1) hjl (by omega) (by omega)
    rw [List.getElem?_eq_getElem hjl] at hpm
    rw [List.getElem?_eq_getElem (by omega)] at hLlast
    injection hpm with e1
    injection hLlast with e2
    rw [e1, e2] at this
    exact this rfl
theorem order_strike (hnd : ((g0 :: (gi ++ [L])).map (·.id)).Nodup) (ho : orderG (g0 :: (gi ++ [L])) = g0 :: (gi ++ [L])) :
    orderG (g0 :: gi) = g0 :: gi ∧ tallG (g0 :: gi) ≤ tallG (g0 :: (gi ++ [L])) := by
  have hleaf := last_leaf hnd ho
  obtain ⟨hv, _, _, _⟩ := visits_is hnd
  have hnt : ((gi ++ [L]).map (·.id)).Nodup := (List.nodup_cons.1 hnd).2
  have hn2 : ((g0 :: gi).map (·.id)).Nodup := List.Sublist.nodup ((List.Sublist.cons_cons g0 (List.sublist_append_left gi [L])).map _) hnd
  have hne : g0 ≠ L := by
    rintro rfl
    rw [List.map_cons, List.nodup_cons] at hnd
    exact hnd.1 (by simp)
  have hK : ∀ x, kidsA gi x = (kidsA (gi ++ [L]) x).filter fun g => decide (g ≠ L) := fun x => by
    have hs : srtG gi = (srtG (gi ++ [L])).filter fun g => decide (g ≠ L) := by
      refine uniq GS.id _ _ ?_ (srtG_pair gi) ((srtG_pair _).filter _) fun _ ha _ hb e => ?_
      · refine (srtG_perm gi).trans ?_
        have := ((srtG_perm (gi ++ [L])).filter fun g => decide (g ≠ L)).symm
        rwa [strike_last gi hnt] at this
      · refine id_inj hnt ?_ ?_ e
        · exact List.mem_append_left _ ((srtG_perm gi).mem_iff.1 ha)
        · exact List.mem_append_left _ ((srtG_perm gi).mem_iff.1 hb)
    unfold kidsA
    rw [hs, List.filter_filter, List.filter_filter]
    congr 1
    funext g
    exact Bool.and_comm _ _
  have h1 := hv.strike hleaf hK
  rw [List.filter_cons_of_pos (by simpa using hne), List.filter_nil] at h1
  obtain ⟨hv2, _, _, _⟩ := visits_is hn2
  have he := hv2.det h1
  constructor
  · unfold orderG
    rw [he]
    have h2 : ((visits (g0 :: (gi ++ [L]))).filter fun p => decide (p.1 ≠ L)).map (·.1) = (orderG (g0 :: (gi ++ [L]))).filter fun g => decide (g ≠ L) := by
      unfold orderG
      rw [List.filter_map]
      rfl
    rw [h2, ho]
    exact strike_last (g0 :: gi) hnd
  · unfold tallG
    rw [he]
    exact tl_filter _ _
end
theorem check_back {g0 : GS} {gt : List GS} {ts : List TS} (h1 : ¬ (4096 < (g0 :: gt).length ∨ 4096 < ts.length)) (h2 : ¬ ((g0 :: gt).any wrongG = true ∨ ts.any wrongT = true)) (h3 : (idsOf (g0 :: gt) ts).Nodup) (h4 : ¬ lostB g0 gt ts = true) (h5 : ordB (g0 :: gt) ts = true) (h6 : tallG (g0 :: gt) < 16) :
    checkS (g0 :: gt) ts = 0 := by
  rw [checkS_cons, if_neg h1, if_neg h2, if_neg (fun n => n h3), if_neg h4, if_neg (by rw [h5]; simp), if_neg (by omega)]
theorem any_sub {α : Type} {a b : List α} (h : a.Sublist b) (p : α → Bool) (hb : b.any p = false) : a.any p = false := by
  rw [List.any_eq_false] at hb ⊢
  exact fun x hx => hb x (h.subset hx)
/-- Without its tasks. -/
theorem parts_none {g0 : GS} {gt : List GS} {ts : List TS} (h : checkS (g0 :: gt) ts = 0) : checkS (g0 :: gt) [] = 0 := by
  obtain ⟨h1, h2, h3, h4, h5, h6⟩ := check0 h
  refine check_back (fun h => h1 (h.imp id fun h => absurd h (by simp))) (fun h => h2 (h.imp id fun h => absurd h (by simp))) ?_ ?_ ?_ h6
  · unfold idsOf at h3 ⊢
    exact List.Sublist.nodup (by simp) h3
  · unfold lostB at h4 ⊢
    simp only [Bool.or_eq_true, not_or] at h4 ⊢
    exact ⟨h4.1, by simp⟩
  · unfold ordB at h5 ⊢
    rw [Bool.and_eq_true] at h5 ⊢
    exact ⟨h5.1, by rw [srtT_nil]; rfl⟩
/-- Without its last group, and the tasks that are in it. -/
theorem parts_last {g0 L : GS} {gi : List GS} {ts : List TS} (h : checkS (g0 :: (gi ++ [L])) ts = 0) : checkS (g0 :: gi) (ts.filter fun t => decide (t.gr ≠ L.id)) = 0 := by
  obtain ⟨h1, h2, h3, h4, h5, h6⟩ := check0 h
  have hsg : (g0 :: gi).Sublist (g0 :: (gi ++ [L])) := List.Sublist.cons_cons g0 (List.sublist_append_left gi [L])
  have hst : (ts.filter fun t => decide (t.gr ≠ L.id)).Sublist ts := List.filter_sublist
  have hnd := (List.nodup_append.1 h3).1
  have hndt := (List.nodup_append.1 h3).2.1
  have h5' := h5
  unfold ordB at h5'
  rw [Bool.and_eq_true, decide_eq_true_eq, decide_eq_true_eq] at h5'
  have hor : orderG (g0 :: (gi ++ [L])) = g0 :: (gi ++ [L]) := h5'.1.symm
  obtain ⟨o1, o2⟩ := order_strike hnd hor
  have hleaf := last_leaf hnd hor
  refine check_back ?_ ?_ ?_ ?_ ?_ (by omega)
  · have a := hsg.length_le
    have b := hst.length_le
    omega
  · rintro (e | e)
    · refine h2 (.inl ?_)
      rw [List.any_eq_true] at e ⊢
      obtain ⟨x, hx, e⟩ := e
      exact ⟨x, hsg.subset hx, e⟩
    · refine h2 (.inr ?_)
      rw [List.any_eq_true] at e ⊢
      obtain ⟨x, hx, e⟩ := e
      exact ⟨x, hst.subset hx, e⟩
  · unfold idsOf at h3 ⊢
    exact List.Sublist.nodup ((hsg.map _).append (hst.map _)) h3
  · unfold lostB at h4 ⊢
    simp only [Bool.or_eq_true, not_or, List.any_eq_true, not_exists, not_and] at h4 ⊢
    obtain ⟨⟨a1, a2⟩, a3⟩ := h4
    have hin : ∀ x : Int, x ∈ (g0 :: (gi ++ [L])).map (·.id) → x ≠ L.id → x ∈ (g0 :: gi).map (·.id) := fun x hx hne => by
      obtain ⟨y, hy, rfl⟩ := List.mem_map.1 hx
      refine List.mem_map.2 ⟨y, ?_, rfl⟩
      rcases List.mem_cons.1 hy with e | hy
      · rw [e]; exact List.mem_cons_self
      · rcases List.mem_append.1 hy with hy | hy
        · exact List.mem_cons_of_mem _ hy
        · rw [List.mem_singleton] at hy
          exact absurd (congrArg GS.id hy) hne
    refine ⟨⟨a1, fun g hg => ?_⟩, fun t ht => ?_⟩
    · have := a2 g (hsg.subset hg)
      simp only [Bool.and_eq_true, Bool.not_eq_true', decide_eq_false_iff_not, bne_iff_ne, ne_eq, not_and, Classical.not_not] at this ⊢
      intro hp
      refine hin _ (this hp) fun e => ?_
      -- who has the last one for its parent is below it
      rcases List.mem_cons.1 hg with e2 | hg
      · rw [e2] at hp
        simp only [bne_iff_ne, ne_eq, Classical.not_not] at a1
        exact hp a1
      · have hk : g ∈ kidsA (gi ++ [L]) L.id := mem_kids.2 ⟨List.mem_append_left _ hg, e⟩
        rw [hleaf] at hk
        cases hk
    · rw [List.mem_filter, decide_eq_true_eq] at ht
      have := a3 t ht.1
      simp only [Bool.not_eq_true', decide_eq_false_iff_not, Classical.not_not] at this ⊢
      exact hin _ this ht.2
  · unfold ordB
    rw [o1, Bool.and_eq_true, decide_eq_true_eq, decide_eq_true_eq]
    refine ⟨rfl, ?_⟩
    have hp : ts.Pairwise (fun a b => a.id ≤ b.id) := by rw [h5'.2]; exact srtT_pair ts
    refine uniq TS.id _ _ (srtT_perm _).symm (hp.filter _) (srtT_pair _) fun _ ha _ hb e => ?_
    exact idT_inj hndt (hst.subset ha) (hst.subset hb) e
end Go.Proofs.YtggmdgdgljlddaaGreat
