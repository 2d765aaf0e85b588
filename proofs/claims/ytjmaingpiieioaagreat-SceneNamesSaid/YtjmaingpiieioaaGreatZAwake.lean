/-
  The chapter's example.
-/
import Derived.Test.YtjmaingpiieioaaGreatZCheck
namespace Go.Proofs.YtjmaingpiieioaaGreat
open Go.RowKit Go.Shelf

def g7 : GS := ⟨7, 0, 1, 0, 0, 0⟩
def g8 : GS := ⟨8, 7, 1, 0, 0, 0⟩
def g9 : GS := ⟨9, 7, 1, 0, 0, 0⟩
theorem srt89 : srtG [g8, g9] = [g8, g9] := by
  refine uniq GS.id _ _ (srtG_perm _) (srtG_pair _) (by simp [g8, g9]) fun a ha b hb e => ?_
  have ha := (srtG_perm [g8, g9]).mem_iff.1 ha
  have hb := (srtG_perm [g8, g9]).mem_iff.1 hb
  exact id_inj (by simp [g8, g9]) ha hb e
theorem srt98 : srtG [g9, g8] = [g8, g9] := by
  rw [srtG_of (gs := [g8, g9]) (by simp [g8, g9]) (List.Perm.swap _ _ _), srt89]
theorem vis_of {tl : List GS} (h : srtG tl = [g8, g9]) (hl : tl.length = 2) : visits (g7 :: tl) = [(g7, 0), (g8, 1), (g9, 1)] := by
  have hk : ∀ x, kidsA tl x = [g8, g9].filter fun g => decide (g.par = x) := fun x => by unfold kidsA; rw [h]
  have k7 : kidsA tl g7.id = [g8, g9] := by rw [hk]; rfl
  have k8 : kidsA tl g8.id = [] := by rw [hk]; rfl
  show run (kidsA tl) (tl.length + 1) [(g7, 0)] = _
  rw [hl]
  simp only [run, k7, k8, lay, List.map_cons, List.map_nil, List.cons_append, List.nil_append]
theorem ord_ex : orderG [g7, g9, g8] = [g7, g8, g9] := by
  unfold orderG
  rw [vis_of srt98 rfl]
  rfl
theorem ord_ok : orderG [g7, g8, g9] = [g7, g8, g9] := by
  unfold orderG
  rw [vis_of srt89 rfl]
  rfl
theorem tall_ok : tallG [g7, g8, g9] = 1 := by
  unfold tallG
  rw [vis_of srt89 rfl]
  rfl
theorem srtT_nil : srtT [] = [] := by simp [srtT]
theorem checkS_cons (g0 : GS) (gt : List GS) (ts : List TS) : checkS (g0 :: gt) ts = if 4096 < (g0 :: gt).length ∨ 4096 < ts.length then 7 else if (g0 :: gt).any wrongG = true ∨ ts.any wrongT = true then 1 else if ¬ (idsOf (g0 :: gt) ts).Nodup then 9 else if lostB g0 gt ts = true then 8 else if ordB (g0 :: gt) ts = false then 5 else if 16 ≤ tallG (g0 :: gt) then 10 else 0 := rfl
theorem check_ex : checkS [g7, g9, g8] [] = 5 := by
  rw [checkS_cons]
  have h1 : ([g7, g9, g8] : List GS).any wrongG = false := by decide
  have h2 : (idsOf [g7, g9, g8] []).Nodup := by decide
  have h3 : lostB g7 [g9, g8] [] = false := by decide
  have h4 : ordB [g7, g9, g8] [] = false := by
    unfold ordB
    rw [ord_ex]
    rfl
  rw [if_neg (by simp), h1, h3, h4, if_neg (by simp), if_neg (by simpa using h2), if_neg (by simp), if_pos rfl]
theorem check_ok : checkS [g7, g8, g9] [] = 0 := by
  rw [checkS_cons]
  have h1 : ([g7, g8, g9] : List GS).any wrongG = false := by decide
  have h2 : (idsOf [g7, g8, g9] []).Nodup := by decide
  have h3 : lostB g7 [g8, g9] [] = false := by decide
  have h4 : ordB [g7, g8, g9] [] = true := by
    unfold ordB
    rw [ord_ok, srtT_nil]
    rfl
  rw [if_neg (by simp), h1, h3, h4, tall_ok, if_neg (by simp), if_neg (by simpa using h2), if_neg (by simp), if_neg (by simp), if_neg (by simp)]
theorem I64.small {x : Int} (h : -1000000 ≤ x) (h2 : x ≤ 1000000) : I64 x := by unfold I64; omega
set_option maxRecDepth 100000 in
set_option maxHeartbeats 2000000 in
theorem awake_any (w : World) : Calls Tryz.prog 9 #[] w fun e w' => e = .returned (.bool true) ∧ Kp No w w' := by
  have k1 := (Kp.refl No w).alloc (.cells #[.int .i64 7, .int .i64 0, .int .i64 1, .int .i64 0, .int .i64 0, .int .i64 0, .int .i64 9, .int .i64 7, .int .i64 1, .int .i64 0, .int .i64 0, .int .i64 0, .int .i64 8, .int .i64 7, .int .i64 1, .int .i64 0, .int .i64 0, .int .i64 0] 51)
  have b1 := Blk.new w 51 #[.int .i64 7, .int .i64 0, .int .i64 1, .int .i64 0, .int .i64 0, .int .i64 0, .int .i64 9, .int .i64 7, .int .i64 1, .int .i64 0, .int .i64 0, .int .i64 0, .int .i64 8, .int .i64 7, .int .i64 1, .int .i64 0, .int .i64 0, .int .i64 0]
  have z1 := World.size_alloc w (.cells #[.int .i64 7, .int .i64 0, .int .i64 1, .int .i64 0, .int .i64 0, .int .i64 0, .int .i64 9, .int .i64 7, .int .i64 1, .int .i64 0, .int .i64 0, .int .i64 0, .int .i64 8, .int .i64 7, .int .i64 1, .int .i64 0, .int .i64 0, .int .i64 0] 51)
  obtain ⟨w1, hw1⟩ : ∃ w1, w.alloc (.cells #[.int .i64 7, .int .i64 0, .int .i64 1, .int .i64 0, .int .i64 0, .int .i64 0, .int .i64 9, .int .i64 7, .int .i64 1, .int .i64 0, .int .i64 0, .int .i64 0, .int .i64 8, .int .i64 7, .int .i64 1, .int .i64 0, .int .i64 0, .int .i64 0] 51) = w1 := ⟨_, rfl⟩
  rw [hw1] at k1 b1 z1
  have k2 := (Kp.refl No w1).alloc (.cells #[.slice (some ⟨w.heap.size, 0, none⟩) 3 3, .slice none 0 0] 25)
  have b2 := Blk.new w1 25 #[.slice (some ⟨w.heap.size, 0, none⟩) 3 3, .slice none 0 0]
  obtain ⟨w2a, hw2⟩ : ∃ w2a, w1.alloc (.cells #[.slice (some ⟨w.heap.size, 0, none⟩) 3 3, .slice none 0 0] 25) = w2a := ⟨_, rfl⟩
  rw [hw2] at k2 b2
  rw [z1] at b2
  have t2a := b2.cell 1
  have f2a : w2a.frozen? ⟨w.heap.size + 1, 1, none⟩ = false := b2.frozen 1
  simp only [List.getElem?_toArray, List.getElem?_cons_zero, List.getElem?_cons_succ] at t2a
  have k2 := k2.step (Kp.set1 (w.heap.size + 1) 1 w2a (.slice none 0 0)) (fun i hi e => by have e : i = w.heap.size + 1 := e; omega)
  have b2 := b2.put 1 (.slice none 0 0)
  simp only [List.setIfInBounds_toArray, List.set_cons_zero, List.set_cons_succ] at b2
  obtain ⟨w2, hw2b⟩ : ∃ w2, w2a.setCell ⟨w.heap.size + 1, 1, none⟩ (.slice none 0 0) = w2 := ⟨_, rfl⟩
  rw [hw2b] at k2 b2
  have B := b1.kp0 k2
  have hS : Sn w2 Anyb (.agg #[.slice (some ⟨w.heap.size, 0, none⟩) 3 3, .slice none 0 0]) [g7, g9, g8] [] := by
    refine ⟨_, _, rfl, ⟨_, 3, rfl, by simp, by simp [maxLen], fun _ => ⟨w.heap.size, 0, rfl, B.lt, trivial, fun j i hj hi => ?_⟩⟩, Rw.nil _ _ _ _ _⟩
    have hj : j < 3 := hj
    match j, i, hj, hi with
    | 0, 0, _, _ => exact B.cell 0
    | 0, 1, _, _ => exact B.cell 1
    | 0, 2, _, _ => exact B.cell 2
    | 0, 3, _, _ => exact B.cell 3
    | 0, 4, _, _ => exact B.cell 4
    | 0, 5, _, _ => exact B.cell 5
    | 1, 0, _, _ => exact B.cell 6
    | 1, 1, _, _ => exact B.cell 7
    | 1, 2, _, _ => exact B.cell 8
    | 1, 3, _, _ => exact B.cell 9
    | 1, 4, _, _ => exact B.cell 10
    | 1, 5, _, _ => exact B.cell 11
    | 2, 0, _, _ => exact B.cell 12
    | 2, 1, _, _ => exact B.cell 13
    | 2, 2, _, _ => exact B.cell 14
    | 2, 3, _, _ => exact B.cell 15
    | 2, 4, _, _ => exact B.cell 16
    | 2, 5, _, _ => exact B.cell 17
  have K2 := hid (k1.trans k2)
  have B2 := hid b2
  have hI : ∀ g ∈ [g7, g9, g8], I64 g.id ∧ I64 g.par := by
    intro g hg
    simp only [List.mem_cons, List.not_mem_nil, or_false] at hg
    rcases hg with rfl | rfl | rfl <;> exact ⟨I64.small (by decide) (by decide), I64.small (by decide) (by decide)⟩
  have hI' : ∀ g ∈ [g7, g8, g9], I64 g.id ∧ I64 g.par := by
    intro g hg
    simp only [List.mem_cons, List.not_mem_nil, or_false] at hg
    rcases hg with rfl | rfl | rfl <;> exact ⟨I64.small (by decide) (by decide), I64.small (by decide) (by decide)⟩
  have HIO := hid hI'
  have HO := hid (order_any hS (by simp) (by simp) hI (by decide) (by decide))
  have HC := hid (fun (W : World) (k : Kp No w2 W) => check_any (hS.kp0 k) hI (fun t ht => by cases ht))
  rw [check_ex] at HC
  rw [ord_ex, srtT_nil] at HO
  have s0 := b2.cell 0
  have s1 := b2.cell 1
  simp only [List.getElem?_toArray, List.getElem?_cons_zero, List.getElem?_cons_succ] at s0 s1
  clear k1 k2 b1 b2 B hS hI hI'
  go_enter Tryz.func9, Tryz.ntmps9
  go_upto_region 2 with fail
  clear hw1 hw2 hw2b t2a f2a
  go_wp2_with (first
    | (go_at_call 22
       refine HO.out.mono ?_
       rintro e w3 ⟨ug, ut, rfl, og, ot, k3⟩
       obtain ⟨bo, co, rfl, hb1, hb2, hc1, hc2⟩ := og.form2 (by simp)
       obtain ⟨At, ct, rfl⟩ := ot.formN (m := 0) rfl
       have k4 := k3.alloc (.cells #[.slice (some ⟨bo, 0, none⟩) 3 co, .slice At 0 ct] 25)
       have k34 := (Kp.refl No w3).alloc (.cells #[.slice (some ⟨bo, 0, none⟩) 3 co, .slice At 0 ct] 25)
       have b4 := Blk.new w3 25 #[.slice (some ⟨bo, 0, none⟩) 3 co, .slice At 0 ct]
       have SO := hid (show Sn (w3.alloc (.cells #[.slice (some ⟨bo, 0, none⟩) 3 co, .slice At 0 ct] 25)) Anyb (.agg #[.slice (some ⟨bo, 0, none⟩) 3 co, .slice At 0 ct]) [g7, g8, g9] [] from by
         obtain ⟨A1, c1, e1, p1, q1, r1⟩ := (og.kp0 k34).rwp (d := gs0)
         obtain ⟨A2, c2, e2, p2, q2, r2⟩ := (ot.kp0 k34).rwp (d := ts0)
         exact ⟨_, _, rfl, ⟨A1, c1, e1, p1, q1, fun h => (r1 h).imp fun b h => h.imp fun o h => ⟨h.1, h.2.1, trivial, h.2.2.2⟩⟩, ⟨A2, c2, e2, p2, q2, fun h => (r2 h).imp fun b h => h.imp fun o h => ⟨h.1, h.2.1, trivial, h.2.2.2⟩⟩⟩)
       have O6 := hid (og.kp0 k34)
       have K4 := hid k4
       have KF := hid (K2.out.trans k4)
       have B4 := hid b4
       have C4 := hid (B2.out.kp0 k4)
       have a0 := C4.out.cell 0
       have a1 := C4.out.cell 1
       simp only [List.getElem?_toArray, List.getElem?_cons_zero, List.getElem?_cons_succ] at a0 a1
       clear og ot k3 k4 k34 b4)
    | (go_at_call 12
       refine (HC.out _ K4.out).mono ?_
       rintro e w5 ⟨rfl, k5⟩
       have K5 := hid k5
       have D5 := B4.out.kp0 k5
       have d0 := D5.cell 0
       have d1 := D5.cell 1
       have c6 : w5.cell? ⟨bo, 6, none⟩ = some (.int .i64 8) := (O6.out.kp0 k5).cellAt (d := gs0) (j := 1) (i := 0) (by simp) (by omega)
       simp only [List.getElem?_toArray, List.getElem?_cons_zero, List.getElem?_cons_succ] at d0 d1
       have HCO := hid (check_any (SO.out.kp0 k5) HIO.out (fun t ht => by cases ht))
       rw [check_ok] at HCO
       have D5H := hid D5
       clear k5 D5 K4)
    | (go_at_call 12
       refine HCO.out.mono ?_
       rintro e w6 ⟨rfl, k6⟩
       have K6 := hid (K5.out.trans k6)
       have D6 := D5H.out.kp0 k6
       have e0 := D6.cell 0
       have e1 := D6.cell 1
       simp only [List.getElem?_toArray, List.getElem?_cons_zero, List.getElem?_cons_succ] at e0 e1
       have HTL := hid (tall_any (SO.out.kp0 K6.out) (by simp) HIO.out (by decide))
       rw [tall_ok] at HTL
       clear k6 D6)
    | (go_at_call 16
       refine HTL.out.mono ?_
       rintro e w7 ⟨rfl, k7⟩
       have K7 := hid (KF.out.trans (K6.out.trans k7))
       clear k7))
  go_ret
  exact ⟨rfl, K7.out⟩
end Go.Proofs.YtjmaingpiieioaaGreat
