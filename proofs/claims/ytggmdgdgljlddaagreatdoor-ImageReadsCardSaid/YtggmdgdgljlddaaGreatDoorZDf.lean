/-
  Contract of the document's Order.
-/
import Derived.Test.YtggmdgdgljlddaaGreatDoorZDe
namespace Go.Proofs.YtggmdgdgljlddaaGreatDoor
open Go.RowKit Go.Shelf

theorem infoBoz : (Tryz.prog.info? 4).map (fun i => (i.zero, i.size, i.bytes)) = some (some (.bool false), 1, 1) := by kernel_rfl
theorem mk_boolz (n : Nat) (hn : n ≤ 1000000) (w : World) : (Instr.makeSlice 131 (.int .i64 (n : Int)) (.int .i64 (n : Int))).run Tryz.prog w = .ok (.slice (some ⟨w.heap.size, 0, none⟩) n n) (w.alloc (.cells ((List.replicate n false).map Value.bool).toArray 4)) := by
  obtain ⟨i, hi, hz, hs, hb⟩ := info_parts infoBoz
  have hr := run_make (P := Tryz.prog) w 131 4 i _ (by kernel_rfl) hi hz .i64 .i64 (n : Int) (n : Int) (by omega) (by omega) (by rw [hb]; omega) (by omega)
  rw [hs] at hr
  have e : madeCells (Value.bool false).cells ((n : Int).toNat * 1) = ((List.replicate n false).map Value.bool).toArray := by
    simp only [Int.toNat_natCast, Nat.mul_one]
    refine Array.ext (by simp [madeCells]) fun j h1 h2 => ?_
    simp [madeCells, Value.cells, Nat.mod_one]
  rw [e] at hr
  simpa using hr
theorem us_cellz {us : List Bool} {w : World} {U : Nat} (h : Blk w U 4 (us.map Value.bool).toArray) {j : Nat} (hj : j < us.length) : w.cell? ⟨U, j, none⟩ = some (.bool (us.getD j false)) := by
  rw [h.cell]
  simp [List.getD, hj]
theorem us_putz {us : List Bool} {w : World} {U : Nat} (h : Blk w U 4 (us.map Value.bool).toArray) (j : Nat) : Blk (w.setCell ⟨U, j, none⟩ (.bool true)) U 4 ((us.set j true).map Value.bool).toArray := by
  have h1 := h.put j (.bool true)
  have e : (us.map Value.bool).toArray.setIfInBounds j (.bool true) = ((us.set j true).map Value.bool).toArray := by simp
  rwa [e] at h1
/-- The least one of those not used yet, of the first k. -/
def Bst (ts : List TS) (us : List Bool) (k : Nat) (best : Int) : Prop :=
  (best = -1 ∧ ∀ i, i < k → us.getD i false = true) ∨ ∃ j : Nat, best = (j : Int) ∧ j < k ∧ us.getD j false = false ∧ ∀ i, i < k → us.getD i false = false → (ts.getD j ts0).id ≤ (ts.getD i ts0).id
def UsedZ (ts : List TS) (us : List Bool) (c : Nat) : Prop := us.length = ts.length ∧ ∀ j, j < ts.length → (us.getD j false = true ↔ ts.getD j ts0 ∈ (srtT ts).take c)
theorem UsedZ.start (ts : List TS) : UsedZ ts (List.replicate ts.length false) 0 := by
  refine ⟨by simp, fun j hj => ?_⟩
  have : (List.replicate ts.length false).getD j false = false := by simp [List.getD, hj]
  rw [this]
  simp
theorem getD_memT {ts : List TS} {j : Nat} (h : j < ts.length) : ts.getD j ts0 ∈ ts := by
  simp only [List.getD, List.getElem?_eq_getElem h, Option.getD_some]
  exact List.getElem_mem h
theorem srtT_nd {ts : List TS} (h : (ts.map (·.id)).Nodup) : ((srtT ts).map (·.id)).Nodup := (((srtT_perm ts).map (·.id)).nodup_iff).2 h
theorem pickZ {ts : List TS} {us : List Bool} {c : Nat} {best : Int} (hnd : (ts.map (·.id)).Nodup) (hc : c < ts.length) (hu : UsedZ ts us c) (hb : Bst ts us ts.length best) :
    ∃ j : Nat, best = (j : Int) ∧ j < ts.length ∧ (srtT ts).take (c + 1) = (srtT ts).take c ++ [ts.getD j ts0] ∧ UsedZ ts (us.set j true) (c + 1) := by
  have hsl : (srtT ts).length = ts.length := (srtT_perm ts).length_eq
  have hcs : c < (srtT ts).length := by omega
  have hz := take_s (srtT ts) hcs ts0
  obtain ⟨z, hzz⟩ : ∃ z, (srtT ts).getD c ts0 = z := ⟨_, rfl⟩
  rw [hzz] at hz
  have hzm : z ∈ ts := (srtT_perm ts).mem_iff.1 (by rw [← hzz]; exact getD_memT hcs)
  have hznot : z ∉ (srtT ts).take c := fun hm => by
    have hn := srtT_nd hnd
    have h1 : (((srtT ts).take (c + 1)).map (·.id)).Nodup := List.Sublist.nodup ((List.take_sublist _ _).map _) hn
    rw [hz, List.map_append, List.nodup_append] at h1
    exact h1.2.2 _ (List.mem_map.2 ⟨z, hm, rfl⟩) _ (List.mem_map.2 ⟨z, List.mem_singleton.2 rfl, rfl⟩) rfl
  obtain ⟨i, hi, hiz⟩ := List.mem_iff_getElem.1 hzm
  have hiz2 : ts.getD i ts0 = z := by simp [List.getD, hi, hiz]
  have hiu : us.getD i false = false := by
    rw [Bool.eq_false_iff]
    intro h
    exact hznot (by rw [← hiz2]; exact (hu.2 i hi).1 h)
  rcases hb with ⟨_, h2⟩ | ⟨j, h1, h2, h3, h4⟩
  · rw [h2 i hi] at hiu
    cases hiu
  have hle := h4 i hi hiu
  rw [hiz2] at hle
  have hjm : ts.getD j ts0 ∈ ts := getD_memT h2
  have hjn : ts.getD j ts0 ∉ (srtT ts).take c := fun hm => by
    have := (hu.2 j h2).2 hm
    rw [h3] at this
    cases this
  have hjz : ts.getD j ts0 = z := by
    have hjs : ts.getD j ts0 ∈ srtT ts := (srtT_perm ts).mem_iff.2 hjm
    obtain ⟨p, hp, hpe⟩ := List.mem_iff_getElem.1 hjs
    have hpc : c ≤ p := by
      rcases Nat.lt_or_ge p c with h | h
      · exact absurd (List.mem_take_iff_getElem.2 ⟨p, by omega, hpe⟩) hjn
      · exact h
    have hle2 : z.id ≤ (ts.getD j ts0).id := by
      have hpw := List.pairwise_iff_getElem.1 (srtT_pair ts)
      have e1 : (srtT ts)[c] = z := by rw [← hzz]; simp [List.getD, hcs]
      rcases Nat.eq_or_lt_of_le hpc with e | e
      · subst e
        rw [← hpe, e1]
        exact Int.le_refl _
      · have := hpw c p hcs hp e
        rw [e1, hpe] at this
        exact this
    exact idT_inj hnd hjm hzm (by omega)
  refine ⟨j, h1, h2, by rw [hz, hjz], by rw [List.length_set]; exact hu.1, fun q hq => ?_⟩
  rw [hz, List.mem_append, List.mem_singleton]
  by_cases e : q = j
  · subst e
    have : (us.set q true).getD q false = true := by simp [List.getD, show q < us.length by rw [hu.1]; omega]
    rw [this]
    exact ⟨fun _ => .inr hjz, fun _ => rfl⟩
  · have : (us.set j true).getD q false = us.getD q false := by simp only [List.getD]; rw [List.getElem?_set_ne (fun x => e x.symm)]
    rw [this, hu.2 q hq]
    refine ⟨.inl, fun h => h.resolve_right fun h => e ?_⟩
    have hid : (ts.getD q ts0).id = (ts.getD j ts0).id := by rw [h, hjz]
    have h5 : (ts.map (·.id))[q]'(by simpa using hq) = (ts.map (·.id))[j]'(by simpa using h2) := by
      simp only [List.getElem_map]
      simpa [List.getD, hq, h2] using hid
    exact (List.getElem_inj hnd).1 h5
theorem Bst.start (ts : List TS) (us : List Bool) : Bst ts us 0 (-1) := .inl ⟨rfl, by omega⟩
theorem Bst.used {ts : List TS} {us : List Bool} {k : Nat} {best : Int} (h : Bst ts us k best) (hk : us.getD k false = true) : Bst ts us (k + 1) best := by
  rcases h with ⟨h1, h2⟩ | ⟨j, h1, h2, h3, h4⟩
  · refine .inl ⟨h1, fun i hi => ?_⟩
    by_cases e : i = k
    · rw [e]; exact hk
    · exact h2 i (by omega)
  · refine .inr ⟨j, h1, by omega, h3, fun i hi hf => ?_⟩
    by_cases e : i = k
    · rw [e, hk] at hf; cases hf
    · exact h4 i (by omega) hf
theorem Bst.first {ts : List TS} {us : List Bool} {k : Nat} (h : Bst ts us k (-1)) (hk : us.getD k false = false) : Bst ts us (k + 1) (k : Int) := by
  rcases h with ⟨_, h2⟩ | ⟨j, h1, _⟩
  · refine .inr ⟨k, rfl, by omega, hk, fun i hi hf => ?_⟩
    by_cases e : i = k
    · rw [e]; exact Int.le_refl _
    · rw [h2 i (by omega)] at hf; cases hf
  · omega
theorem Bst.less {ts : List TS} {us : List Bool} {k j : Nat} (h : Bst ts us k (j : Int)) (hk : us.getD k false = false) (hl : (ts.getD k ts0).id < (ts.getD j ts0).id) : Bst ts us (k + 1) (k : Int) := by
  rcases h with ⟨h1, h2⟩ | ⟨p, h1, h2, h3, h4⟩
  · omega
  · have e : j = p := by omega
    subst e
    refine .inr ⟨k, rfl, by omega, hk, fun i hi hf => ?_⟩
    by_cases e : i = k
    · rw [e]; exact Int.le_refl _
    · have := h4 i (by omega) hf
      omega
theorem Bst.more {ts : List TS} {us : List Bool} {k j : Nat} (h : Bst ts us k (j : Int)) (hl : ¬ (ts.getD k ts0).id < (ts.getD j ts0).id) : Bst ts us (k + 1) (j : Int) := by
  rcases h with ⟨h1, h2⟩ | ⟨p, h1, h2, h3, h4⟩
  · omega
  · have e : j = p := by omega
    subst e
    refine .inr ⟨j, rfl, by omega, h3, fun i hi hf => ?_⟩
    by_cases e : i = k
    · rw [e]; omega
    · exact h4 i (by omega) hf
theorem Bst.idx {ts : List TS} {us : List Bool} {k : Nat} {best : Int} (h : Bst ts us k best) : best = -1 ∨ ∃ j : Nat, best = (j : Int) ∧ j < k := by
  rcases h with ⟨h1, _⟩ | ⟨j, h1, h2, _⟩
  · exact .inl h1
  · exact .inr ⟨j, h1, h2⟩

/-- Three cells stay while blocks are only made. -/
def K3 (w0 : World) (p1 p2 p3 : Addr) (w : World) : Prop := p1.block < w.heap.size ∧ p2.block < w.heap.size ∧ p3.block < w.heap.size ∧ Kp No w0 w
theorem K3.step {w0 w w' : World} {p1 p2 p3 : Addr} {v1 v2 v3 : Value} (h : w.cell? p1 = some v1 ∧ w.cell? p2 = some v2 ∧ w.cell? p3 = some v3 ∧ K3 w0 p1 p2 p3 w) (k : Kp No w w') : w'.cell? p1 = some v1 ∧ w'.cell? p2 = some v2 ∧ w'.cell? p3 = some v3 ∧ K3 w0 p1 p2 p3 w' := by
  obtain ⟨h1, h2, h3, g1, g2, g3, g4⟩ := h
  have hz := k.size
  exact ⟨(k.cell g1 id).trans h1, (k.cell g2 id).trans h2, (k.cell g3 id).trans h3, by omega, by omega, by omega, g4.trans k⟩
theorem K3.kp {w0 w : World} {p1 p2 p3 : Addr} {v1 v2 v3 : Value} (h : w.cell? p1 = some v1 ∧ w.cell? p2 = some v2 ∧ w.cell? p3 = some v3 ∧ K3 w0 p1 p2 p3 w) : Kp No w0 w := h.2.2.2.2.2.2
def lenAt (w : World) (q j : Nat) : Nat := lenOf ((w.cell? ⟨q, j, none⟩).getD undef)

section
variable {w : World} {P : Nat → Prop} {v : Value} {gs : List GS} {ts : List TS} {g0 : GS} {tl : List GS}
theorem kidsKs (hnd : ((g0 :: tl).map (·.id)).Nodup) (hp : ∀ g ∈ g0 :: tl, 1 ≤ g.id ∧ g.id ≤ 1048576) (h0 : g0.par = 0) (hl : (g0 :: tl).length ≤ 1000000) : ∀ g ∈ g0 :: tl, g.id ∈ (prs (g0 :: tl)).map (·.1) ∧ I64 g.id ∧ KsZ (prs (g0 :: tl)) g.id ((kidsA tl g.id).map (·.id)) := by
  intro g hg
  have hg1 := hp g hg
  refine ⟨?_, by unfold I64; omega, ⟨kids_iff h0 (by omega), fun y hy => ?_, kids_rise (by rw [List.map_cons, List.nodup_cons] at hnd; exact hnd.2) _, ?_⟩⟩
  · unfold prs
    rw [List.map_map]
    exact List.mem_map.2 ⟨g, hg, rfl⟩
  · obtain ⟨k, hk, rfl⟩ := List.mem_map.1 hy
    exact hp k (List.mem_cons_of_mem _ (mem_kids.1 hk).1)
  · rw [List.length_map]
    unfold kidsA
    have h1 := List.length_filter_le (fun k : GS => decide (k.par = g.id)) (srtG tl)
    rw [(srtG_perm tl).length_eq] at h1
    simp only [List.length_cons] at hl
    omega
set_option maxRecDepth 100000 in
set_option maxHeartbeats 8000000 in
theorem rorder_any (he : gs = g0 :: tl) (h : Sce w P v gs ts) (hl : gs.length ≤ 1000000) (hlt : ts.length ≤ 1000000) (hp : ∀ g ∈ gs, 1 ≤ g.id ∧ g.id ≤ 1048576) (h0 : g0.par = 0) (hnd : (gs.map (·.id)).Nodup) (hw : WholeP gs) (hndt : (ts.map (·.id)).Nodup) :
    Calls Tryz.prog 52 #[v] w fun e w' => ∃ ug ut, e = .returned (.agg #[ug, ut]) ∧ Ow w' w.heap.size 45 6 gc ug (orderG gs) ∧ Ow w' w.heap.size 53 8 tc ut (srtT ts) ∧ Kp No w w' := by
  have hvis : Vis (kidsA tl) [(g0, 0)] (visits gs) ∧ ((orderG gs).map (·.id)).Nodup ∧ (∀ y ∈ orderG gs, y ∈ gs) ∧ (visits gs).length ≤ gs.length := by
    subst he
    exact visits_is hnd
  have hks : ∀ g ∈ gs, g.id ∈ (prs gs).map (·.1) ∧ I64 g.id ∧ KsZ (prs gs) g.id ((kidsA tl g.id).map (·.id)) := by
    subst he
    exact kidsKs hnd hp h0 hl
  have hg0 : gs.getD 0 gs0 = g0 := by rw [he]; rfl
  have hpos : 0 < gs.length := by rw [he]; simp
  have HVIS := hid hvis
  have HKS := hid hks
  have HND := hid hnd
  have HNDT := hid hndt
  have HWH := hid hw
  clear hvis hks he h0 hp hnd hndt hw
  obtain ⟨vg, vt, rfl, hg, ht⟩ := h
  have hg := hg.old
  have ht := ht.old
  have k1 := (Kp.refl No w).alloc (.cells #[vg, vt] 25)
  have b1 := Blk.new w 25 #[vg, vt]
  have z1 := World.size_alloc w (.cells #[vg, vt] 25)
  obtain ⟨w1, hw1⟩ : ∃ w1, w.alloc (.cells #[vg, vt] 25) = w1 := ⟨_, rfl⟩
  rw [hw1] at k1 b1 z1
  have K1 := hid k1
  have B1 := hid b1
  have SC := hid (show Sce w1 (fun i => i < w.heap.size) (.agg #[vg, vt]) gs ts from ⟨vg, vt, rfl, hg.kp0 k1, ht.kp0 k1⟩)
  obtain ⟨A, c, rfl, hx1, hx2, _⟩ := id hg
  obtain ⟨A2, c2, rfl, hx3, hx4, _⟩ := id ht
  have HG := hid (hg.kp0 k1)
  have HT := hid (ht.kp0 k1)
  obtain ⟨n, hn⟩ : ∃ n, gs.length = n := ⟨_, rfl⟩
  obtain ⟨m, hm⟩ : ∃ m, ts.length = m := ⟨_, rfl⟩
  rw [hn] at HG hl b1 B1 hw1 SC ⊢
  rw [hm] at HT B1 hw1 b1 SC ⊢
  have HN := hid hn
  have HM := hid hm
  have s0 := b1.cell 0
  have s1 := b1.cell 1
  simp only [List.getElem?_toArray, List.getElem?_cons_zero, List.getElem?_cons_succ] at s0 s1
  rw [hm] at hlt
  have hpl : (prs gs).length ≤ 1000000 := by unfold prs; rw [List.length_map, hn]; exact hl
  have HPL := hid hpl
  obtain ⟨ord, hord⟩ : ∃ ord, orderG gs = ord := ⟨_, rfl⟩
  have HORD := hid hord
  rw [hord]
  obtain ⟨no, hno⟩ : ∃ no, ord.length = no := ⟨_, rfl⟩
  have HNO := hid hno
  have hnol : no ≤ n := by
    have := HVIS.out.2.2.2
    rw [hn] at this
    rw [← hno, ← hord]
    unfold orderG
    rw [List.length_map]
    exact this
  have HOL := hid (show ((visits gs).map fun p => p.1.id) = ord.map (·.id) by rw [← hord]; unfold orderG; rw [List.map_map]; rfl)
  have k2 := (Kp.refl No w1).alloc (.cells #[.slice none 0 0, .slice none 0 0] 25)
  have b2 := Blk.new w1 25 #[.slice none 0 0, .slice none 0 0]
  have z2 := World.size_alloc w1 (.cells #[.slice none 0 0, .slice none 0 0] 25)
  obtain ⟨w2, hw2⟩ : ∃ w2, w1.alloc (.cells #[.slice none 0 0, .slice none 0 0] 25) = w2 := ⟨_, rfl⟩
  rw [hw2] at k2 b2 z2
  rw [z1] at b2 z2
  have hnp : 0 < n := by omega
  have hne : ((n : Int) == 0) = false := by rw [beq_eq_false_iff_ne]; omega
  have S2 := hid (SC.out.kp0 k2)
  have BX2 := hid (b1.kp0 k2)
  have RB2 := hid b2
  have K02 := hid (k1.trans k2)
  have HZ2 := hid z2
  clear k1 b1 hg ht hn hm hx1 hx2 hx3 hx4 SC HG K1 B1 k2 b2 z2 HT hpl hord hno s0 s1 hpos
  go_enter Tryz.func52, Tryz.ntmps52
  go_upto_region 1 with fail
  clear hw1 hw2
  have i0 := BX2.out.cell 0
  have i1 := BX2.out.cell 1
  simp only [List.getElem?_toArray, List.getElem?_cons_zero, List.getElem?_cons_succ] at i0 i1
  go_upto_region 3 with (first
    | (go_at_call 51
       refine (rwhole_any S2.out (by rw [HN.out]; exact hl)).mono ?_
       rintro e w3 ⟨rfl, k3⟩
       rw [decide_eq_true HWH.out]
       have S3 := hid (S2.out.kp0 k3)
       have BX3 := hid (BX2.out.kp0 k3)
       have RB3 := hid (RB2.out.kp0 k3)
       have K03 := hid (K02.out.trans k3)
       have HZ3 := hid (show w.heap.size + 2 ≤ w3.heap.size by have := k3.size; have := HZ2.out; omega)
       have s0 := BX3.out.cell 0
       have s1 := BX3.out.cell 1
       simp only [List.getElem?_toArray, List.getElem?_cons_zero, List.getElem?_cons_succ] at s0 s1
       clear k3 S2 BX2 RB2 K02 i0 i1))
  go_upto_region 4 with fail
  have k4 := (Kp.refl No w3).alloc (.cells #[.slice none 0 0, .slice none 0 0] 25)
  have b4 := Blk.new w3 25 #[.slice none 0 0, .slice none 0 0]
  have z4 := World.size_alloc w3 (.cells #[.slice none 0 0, .slice none 0 0] 25)
  obtain ⟨w4, hw4⟩ : ∃ w4, w3.alloc (.cells #[.slice none 0 0, .slice none 0 0] 25) = w4 := ⟨_, rfl⟩
  rw [hw4] at k4 b4 z4 ⊢
  obtain ⟨q, hq⟩ : ∃ q, w3.heap.size = q := ⟨_, rfl⟩
  rw [hq] at b4 z4 HZ3 ⊢
  have hz3 := HZ3.out
  have S4 := hid (S3.out.kp0 k4)
  have BX4 := hid (BX3.out.kp0 k4)
  have RB4 := hid (RB3.out.kp0 k4)
  have K04 := hid (K03.out.trans k4)
  have OB4 := hid b4
  have HZ4 := hid z4
  have e0 := BX4.out.cell 0
  have e1 := BX4.out.cell 1
  simp only [List.getElem?_toArray, List.getElem?_cons_zero, List.getElem?_cons_succ] at e0 e1
  have hr4 : Rw 6 gc gs0 w4 (fun i => i < w.heap.size) (.slice A n c) gs := by
    obtain ⟨_, _, e9, h9, _⟩ := S4.out
    injection e9 with e9
    injection e9 with e9
    injection e9 with e9 _
    rw [e9]
    exact h9
  have hrt4 : Rw 8 tc ts0 w4 (fun i => i < w.heap.size) (.slice A2 m c2) ts := by
    obtain ⟨_, _, e9, _, h9⟩ := S4.out
    injection e9 with e9
    injection e9 with e9
    injection e9 with _ e9
    injection e9 with e9 _
    rw [e9]
    exact h9
  obtain ⟨b, off, rfl, hbb⟩ := hr4.thereP (by rw [HN.out]; exact hnp)
  have p0 := hr4.cell (j := 0) (i := 0) (Kp.refl No _) (by rw [HN.out]; exact hnp) (by omega) rfl
  rw [hg0] at p0
  simp only [gc, ge, List.getD_cons_zero, Nat.add_zero, Nat.zero_mul] at p0
  have HG4 := hid hr4
  have HT4 := hid hrt4
  have HBB := hid (show b < w.heap.size from hbb)
  have HTR := hid (fun (W : World) (k : Kp No w4 W) => rtree_any (S4.out.kp0 k) (by rw [HN.out]; exact hl))
  have HUN := hid (fun (W : World) (r : Nat) (Pz : Nat → Prop) (u : Value) (hr : RTz W Pz r u (prs gs)) => runderz_rec HPL.out HKS.out 1000001 (Nat.le_refl _) g0 0 (visits gs) W HVIS.out.1 (by have := HVIS.out.2.2.2; rw [HN.out] at this; omega) (fun p hp => HVIS.out.2.2.1 p.1 (List.mem_map.2 ⟨p, hp, rfl⟩)) hr)
  have SZ := hid (show w4.cell? ⟨w.heap.size, 0, none⟩ = some (.slice (some ⟨b, off, none⟩) n c) ∧ w4.cell? ⟨w.heap.size, 1, none⟩ = some (.slice A2 m c2) ∧ w4.cell? ⟨b, off, none⟩ = some (.int .i64 g0.id) ∧ K3 w4 ⟨w.heap.size, 0, none⟩ ⟨w.heap.size, 1, none⟩ ⟨b, off, none⟩ w4 from
    ⟨e0, e1, p0, by show w.heap.size < w4.heap.size; omega, by show w.heap.size < w4.heap.size; omega, by show b < w4.heap.size; omega, Kp.refl _ _⟩)
  have hnp2 : (0 : Int) < (n : Int) := by omega
  clear k4 b4 z4 hw4 hr4 hrt4 hbb S3 BX3 RB3 K03 s0 s1 e0 e1 p0
  go_cut [4] (fun s wx => Hid (Ow wx w4.heap.size 3 1 zI s (ord.map (·.id))) ∧ Hid (Kp No w4 wx))
  case first =>
    go_region_held3 (fun w' => w'.cell? ⟨w.heap.size, 0, none⟩ = some (.slice (some ⟨b, off, none⟩) n c) ∧ w'.cell? ⟨w.heap.size, 1, none⟩ = some (.slice A2 m c2) ∧ w'.cell? ⟨b, off, none⟩ = some (.int .i64 g0.id) ∧ K3 w4 ⟨w.heap.size, 0, none⟩ ⟨w.heap.size, 1, none⟩ ⟨b, off, none⟩ w')
      (first | exact SZ.out | exact K3.step SZ.out (Kp.refl _ _).drew | exact K3.step (by assumption) (by assumption) | assumption)
      (first
        | (go_at_call 92
           with_reducible refine (HTR.out _ (K3.kp (by assumption))).mono ?_
           rintro e w6 ⟨rfl, ⟨Pz, uz, rz⟩, k6⟩
           have RZ := hid (show RTz w6 Pz (w4.heap.size + 1) uz (prs gs) from rz)
           clear rz)
        | (go_at_call 93
           with_reducible refine (HUN.out _ _ _ _ RZ.out).mono ?_
           rintro e w8 ⟨v8, rfl, o8, k8⟩
           have O8 := hid o8
           clear o8))
    all_goals (
      (try go_wp2_with fail)
      go_meet
      have hk6 := (Kp.refl No w4).drew.trans k6
      refine ⟨hid ?_, hid (hk6.trans k8)⟩
      rw [← HOL.out]
      exact O8.out.lower hk6.size)
  case rest =>
    obtain ⟨HL5, HK5⟩ := hcut
    obtain ⟨w5, hw5⟩ : ∃ w5, wc = w5 := ⟨_, rfl⟩
    rw [hw5] at HL5 HK5 ⊢
    clear hw5
    obtain ⟨Al, cl, rfl⟩ := HL5.out.formN (m := no) (by rw [List.length_map]; exact HNO.out)
    have hz5 := HK5.out.size
    have hz4 := HZ4.out
    have BX5 := hid (BX4.out.kp0 HK5.out)
    have RB5 := hid (RB4.out.kp0 HK5.out)
    have S5 := hid (S4.out.kp0 HK5.out)
    have K05 := hid (K04.out.trans HK5.out)
    have HG5 := hid (HG4.out.kp0 HK5.out)
    have HT5 := hid (HT4.out.kp0 HK5.out)
    have I5 := hid (show GZ 6 45 gc (fun i => i = q) w5 w5 q 25 #[.slice none 0 0, .slice none 0 0] (.slice none 0 0) [] from ⟨Kp.refl _ _, OB4.out.kp0 HK5.out, Ow.nil _ _ _ _ _, rfl, fun i e => by subst e; omega⟩)
    clear HTR HUN SZ HK5 HZ4 BX4 RB4 S4 K04 HG4 HT4 OB4
    go_wp2_with fail
    go_loopw [5] (fun i wr => ∃ (k : Nat) (u : Value), k ≤ no ∧ i = .int .i64 (k : Int) ∧ Hid (GZ 6 45 gc (fun i => i = q) w5 wr q 25 #[u, .slice none 0 0] u (ord.take k))) (fun i _ => no - (vI i).toNat)
    case atStart => exact ⟨0, _, Nat.zero_le _, rfl, I5⟩
    case round =>
      obtain ⟨k, u, hk, rfl, G⟩ := hrel
      by_cases hkn : k < no
      · have hko : k < ord.length := by rw [HNO.out]; exact hkn
        have hg1 : (k : Int) < (no : Int) := by omega
        have hwk := wrapI (x := (k : Int) + 1) (by unfold I64; omega)
        obtain ⟨bl, c', he, hb1, hb2, hc1, _⟩ := HL5.out.form2 (by rw [List.length_map]; omega)
        injection he with e1 e2 e3
        subst e1 e3
        clear e2
        have lr := HL5.out.kpx G.out.kp (fun i hi e => by have e : i = q := e; have h1 := (HL5.out.blk hi).1; omega)
        have hlb := HL5.out.blk (k := bl) rfl
        have cy := lr.cellAt (d := (0 : Int)) (j := k) (i := 0) (by rw [List.length_map]; exact hko) (by omega)
        simp only [zI, Nat.mul_one, Nat.add_zero] at cy
        obtain ⟨x0, hx0⟩ : ∃ x0, ord.getD k gs0 = x0 := ⟨_, rfl⟩
        have hyi : (ord.map (·.id)).getD k 0 = x0.id := by rw [← hx0]; simp [List.getD, hko]
        rw [hyi] at cy
        have HSP := hid (take_s ord hko gs0)
        rw [hx0] at HSP
        have hxm : x0 ∈ gs := HVIS.out.2.2.1 x0 (by rw [HORD.out, ← hx0]; simp [List.getD, hko])
        obtain ⟨j, hj1, hj2, hj3⟩ : ∃ j : Nat, grpI gs x0.id = (j : Int) ∧ j < gs.length ∧ gs.getD j gs0 = x0 := by
          rcases grp_or gs x0.id with ⟨_, h2⟩ | ⟨j, h1, h2, h3⟩
          · exact absurd rfl (h2 x0 hxm)
          · exact ⟨j, h1, h2, id_inj HND.out (by simp only [List.getD, List.getElem?_eq_getElem h2, Option.getD_some]; exact List.getElem_mem h2) hxm h3⟩
        have rg := HG5.out.kp G.out.kp (fun i _ hi e => by have hi : i < w.heap.size := hi; have e : i = q := e; omega)
        have q0 := rg.cell (j := j) (i := 0) (Kp.refl No _) hj2 (by omega) rfl
        have q1 := rg.cell (j := j) (i := 1) (Kp.refl No _) hj2 (by omega) rfl
        have q2 := rg.cell (j := j) (i := 2) (Kp.refl No _) hj2 (by omega) rfl
        have q3 := rg.cell (j := j) (i := 3) (Kp.refl No _) hj2 (by omega) rfl
        have q4 := rg.cell (j := j) (i := 4) (Kp.refl No _) hj2 (by omega) rfl
        have q5 := rg.cell (j := j) (i := 5) (Kp.refl No _) hj2 (by omega) rfl
        rw [hj3] at q0 q1 q2 q3 q4 q5
        simp only [gc, ge, List.getD_cons_zero, List.getD_cons_succ, Nat.add_zero] at q0 q1 q2 q3 q4 q5
        simp only [← Nat.add_assoc] at q1 q2 q3 q4 q5
        have hjn : (j : Int) < (n : Int) := by rw [HN.out] at hj2; omega
        have hj0 : (0 : Int) ≤ (j : Int) := by omega
        have br := BX5.out.kp G.out.kp (by show ¬ w.heap.size = q; omega)
        have s0 := br.cell 0
        have s1 := br.cell 1
        simp only [List.getElem?_toArray, List.getElem?_cons_zero, List.getElem?_cons_succ] at s0 s1
        have HQ := hid (And.intro s0 (And.intro s1 (And.intro cy (And.intro q0 (And.intro q1 (And.intro q2 (And.intro q3 (And.intro q4 q5))))))))
        have hzr := G.out.kp.size
        have HSZ := hid (And.intro hzr (And.intro hlb.1 hlb.2.1))
        have sr := S5.out.kp G.out.kp (fun i _ hi e => by have hi : i < w.heap.size := hi; have e : i = q := e; omega)
        have HGC := hid (fun (W : World) (kk : Kp (fun i => i = q ∨ w5.heap.size ≤ i) wr W) => show Calls Tryz.prog 50 #[.agg #[.slice (some ⟨b, off, none⟩) n c, .slice A2 m c2], .int .i64 x0.id] W (fun e w' => e = .returned (.int .i64 (j : Int)) ∧ Kp No W w') from by
          rw [← hj1]
          exact rgroup_any (sr.kp kk (fun i _ hi e => by have hi : i < w.heap.size := hi; have e : i = q ∨ w5.heap.size ≤ i := e; omega)) (by rw [HN.out]; exact hl) x0.id)
        have HLEN := hid (show (ord.take k).length = k by rw [List.length_take, HNO.out]; omega)
        obtain ⟨A5, c5, rfl⟩ := G.out.ow.formN HLEN.out
        clear lr rg br cy hyi hx0 hxm hj1 hj2 hj3 hlb sr hb1 hb2 hc1
        go_upto_region 8 with fail
        clear s0 s1 q0 q1 q2 q3 q4 q5
        refine wp_region_any (by kernel_rfl) ?_
        show wpAny _ _ _ _ _ _ _ (World.drew wr)
        have kw := (Kp.refl No wr).drew
        generalize World.drew wr = W at kw ⊢
        have R1 := hid (G.out.kp0 kw)
        have KW9 := hid kw
        have K1 := hid (Kp.refl (fun i => i = q ∨ w5.heap.size ≤ i) W)
        have HRD := hid (fun (W2 : World) (kZ : Kp (fun i => i = q ∨ w5.heap.size ≤ i) W W2) => show (fun w' : World => w'.cell? ⟨w.heap.size, 0, none⟩ = some (.slice (some ⟨b, off, none⟩) n c) ∧ w'.cell? ⟨w.heap.size, 1, none⟩ = some (.slice A2 m c2) ∧ w'.cell? ⟨bl, k, none⟩ = some (.int .i64 x0.id) ∧ w'.cell? ⟨b, off + j * 6, none⟩ = some (.int .i64 x0.id) ∧ w'.cell? ⟨b, off + j * 6 + 1, none⟩ = some (.int .i64 x0.par) ∧ w'.cell? ⟨b, off + j * 6 + 2, none⟩ = some (.int .i64 x0.wt) ∧ w'.cell? ⟨b, off + j * 6 + 3, none⟩ = some (.int .i64 x0.pd) ∧ w'.cell? ⟨b, off + j * 6 + 4, none⟩ = some (.int .i64 x0.qt) ∧ w'.cell? ⟨b, off + j * 6 + 5, none⟩ = some (.int .i64 x0.us)) W2 from by have hz := HSZ.out; have hb : b < w.heap.size := HBB.out; have kk := (KW9.out.all (S := fun i => i = q ∨ w5.heap.size ≤ i)).trans kZ; exact ⟨(kk.cell (p := ⟨w.heap.size, 0, none⟩) (by show w.heap.size < wr.heap.size; omega) (by show ¬ (w.heap.size = q ∨ w5.heap.size ≤ w.heap.size); omega)).trans HQ.out.1, (kk.cell (p := ⟨w.heap.size, 1, none⟩) (by show w.heap.size < wr.heap.size; omega) (by show ¬ (w.heap.size = q ∨ w5.heap.size ≤ w.heap.size); omega)).trans HQ.out.2.1, (kk.cell (p := ⟨bl, k, none⟩) (by show bl < wr.heap.size; omega) (by show ¬ (bl = q ∨ w5.heap.size ≤ bl); omega)).trans HQ.out.2.2.1, (kk.cell (p := ⟨b, off + j * 6, none⟩) (by show b < wr.heap.size; omega) (by show ¬ (b = q ∨ w5.heap.size ≤ b); omega)).trans HQ.out.2.2.2.1, (kk.cell (p := ⟨b, off + j * 6 + 1, none⟩) (by show b < wr.heap.size; omega) (by show ¬ (b = q ∨ w5.heap.size ≤ b); omega)).trans HQ.out.2.2.2.2.1, (kk.cell (p := ⟨b, off + j * 6 + 2, none⟩) (by show b < wr.heap.size; omega) (by show ¬ (b = q ∨ w5.heap.size ≤ b); omega)).trans HQ.out.2.2.2.2.2.1, (kk.cell (p := ⟨b, off + j * 6 + 3, none⟩) (by show b < wr.heap.size; omega) (by show ¬ (b = q ∨ w5.heap.size ≤ b); omega)).trans HQ.out.2.2.2.2.2.2.1, (kk.cell (p := ⟨b, off + j * 6 + 4, none⟩) (by show b < wr.heap.size; omega) (by show ¬ (b = q ∨ w5.heap.size ≤ b); omega)).trans HQ.out.2.2.2.2.2.2.2.1, (kk.cell (p := ⟨b, off + j * 6 + 5, none⟩) (by show b < wr.heap.size; omega) (by show ¬ (b = q ∨ w5.heap.size ≤ b); omega)).trans HQ.out.2.2.2.2.2.2.2.2⟩)
        have HS5 := HRD.out W K1.out
        clear kw
        refine wpAny_of_held (S := fun w' : World => w'.cell? ⟨w.heap.size, 0, none⟩ = some (.slice (some ⟨b, off, none⟩) n c) ∧ w'.cell? ⟨w.heap.size, 1, none⟩ = some (.slice A2 m c2) ∧ w'.cell? ⟨bl, k, none⟩ = some (.int .i64 x0.id) ∧ w'.cell? ⟨b, off + j * 6, none⟩ = some (.int .i64 x0.id) ∧ w'.cell? ⟨b, off + j * 6 + 1, none⟩ = some (.int .i64 x0.par) ∧ w'.cell? ⟨b, off + j * 6 + 2, none⟩ = some (.int .i64 x0.wt) ∧ w'.cell? ⟨b, off + j * 6 + 3, none⟩ = some (.int .i64 x0.pd) ∧ w'.cell? ⟨b, off + j * 6 + 4, none⟩ = some (.int .i64 x0.qt) ∧ w'.cell? ⟨b, off + j * 6 + 5, none⟩ = some (.int .i64 x0.us)) _ _ _ _ ?_
        simp only [List.size_toArray, List.length_cons, List.length_nil, Nat.reduceAdd, Array.replicate_succ, Array.replicate_zero, List.push_toArray, List.nil_append, List.cons_append]
        refine wpAnyH_take (i := 0) (v := .pointer (some ⟨q, 0, none⟩)) rfl (by kernel_rfl) (by kernel_rfl) (by kernel_rfl) (fun _ _ _ h => h) (Or.inl ⟨by rfl, ?_⟩) HS5 ?_
        · (intro w6 hS6; obtain ⟨z0, z1, z2, z3, z4, z5, z6, z7, z8⟩ := hS6; go_simp)
        simp only [List.getElem_toArray, List.getElem_cons_zero, Act.put, List.setIfInBounds_toArray, List.set_cons_zero, List.set_cons_succ]
        refine wpAnyH_take (i := 2) (v := .pointer (some ⟨w.heap.size, 0, none⟩)) rfl (by kernel_rfl) (by kernel_rfl) (by kernel_rfl) (fun _ _ _ h => h) (Or.inl ⟨by rfl, ?_⟩) HS5 ?_
        · (intro w6 hS6; obtain ⟨z0, z1, z2, z3, z4, z5, z6, z7, z8⟩ := hS6; go_simp)
        simp only [List.getElem_toArray, List.getElem_cons_zero, List.getElem_cons_succ, Act.put, List.setIfInBounds_toArray, List.set_cons_zero, List.set_cons_succ]
        refine wpAnyH_take (i := 3) (v := .slice (some ⟨b, off, none⟩) n c) rfl (by kernel_rfl) (by kernel_rfl) (by kernel_rfl) (fun _ _ _ h => h) (Or.inl ⟨by rfl, ?_⟩) HS5 ?_
        · (intro w6 hS6; obtain ⟨z0, z1, z2, z3, z4, z5, z6, z7, z8⟩ := hS6; go_simp)
        simp only [List.getElem_toArray, List.getElem_cons_zero, List.getElem_cons_succ, Act.put, List.setIfInBounds_toArray, List.set_cons_zero, List.set_cons_succ]
        refine wpAnyH_take (i := 4) (v := .agg #[.slice (some ⟨b, off, none⟩) n c, .slice A2 m c2]) rfl (by kernel_rfl) (by kernel_rfl) (by kernel_rfl) (fun _ _ _ h => h) (Or.inl ⟨by rfl, ?_⟩) HS5 ?_
        · (intro w6 hS6; obtain ⟨z0, z1, z2, z3, z4, z5, z6, z7, z8⟩ := hS6; go_simp)
        simp only [List.getElem_toArray, List.getElem_cons_zero, List.getElem_cons_succ, Act.put, List.setIfInBounds_toArray, List.set_cons_zero, List.set_cons_succ]
        refine wpAnyH_take (i := 5) (v := .slice (some ⟨bl, 0, none⟩) no cl) rfl (by kernel_rfl) (by kernel_rfl) (by kernel_rfl) (fun _ _ _ h => h) (Or.inl ⟨by rfl, ?_⟩) HS5 ?_
        · (intro w6 hS6; obtain ⟨z0, z1, z2, z3, z4, z5, z6, z7, z8⟩ := hS6; go_simp)
        simp only [List.getElem_toArray, List.getElem_cons_zero, List.getElem_cons_succ, Act.put, List.setIfInBounds_toArray, List.set_cons_zero, List.set_cons_succ]
        refine wpAnyH_take (i := 6) (v := .int .i64 (k : Int)) rfl (by kernel_rfl) (by kernel_rfl) (by kernel_rfl) (fun _ _ _ h => h) (Or.inl ⟨by rfl, ?_⟩) HS5 ?_
        · (intro w6 hS6; obtain ⟨z0, z1, z2, z3, z4, z5, z6, z7, z8⟩ := hS6; go_simp)
        simp only [List.getElem_toArray, List.getElem_cons_zero, List.getElem_cons_succ, Act.put, List.setIfInBounds_toArray, List.set_cons_zero, List.set_cons_succ]
        refine wpAnyH_take (i := 7) (v := .pointer (some ⟨bl, k, none⟩)) rfl (by kernel_rfl) (by kernel_rfl) (by kernel_rfl) (fun _ _ _ h => h) (Or.inl ⟨by rfl, ?_⟩) HS5 ?_
        · (intro w6 hS6; obtain ⟨z0, z1, z2, z3, z4, z5, z6, z7, z8⟩ := hS6; go_simp)
        simp only [List.getElem_toArray, List.getElem_cons_zero, List.getElem_cons_succ, Act.put, List.setIfInBounds_toArray, List.set_cons_zero, List.set_cons_succ]
        refine wpAnyH_take (i := 8) (v := .int .i64 x0.id) rfl (by kernel_rfl) (by kernel_rfl) (by kernel_rfl) (fun _ _ _ h => h) (Or.inl ⟨by rfl, ?_⟩) HS5 ?_
        · (intro w6 hS6; obtain ⟨z0, z1, z2, z3, z4, z5, z6, z7, z8⟩ := hS6; go_simp)
        simp only [List.getElem_toArray, List.getElem_cons_zero, List.getElem_cons_succ, Act.put, List.setIfInBounds_toArray, List.set_cons_zero, List.set_cons_succ]
        clear HS5
        refine wpAnyH_ready (rs := [1, 9]) (by kernel_rfl) (by simp) (AllReadyH.cons rfl (fun K hK => ?_) (AllReadyH.cons rfl (fun K hK => ?_) AllReadyH.nil))
        · simp only [List.getElem_toArray, List.getElem_cons_zero, List.getElem_cons_succ]
          have c0 := R1.out.bx.cell 0
          simp only [List.getElem?_toArray, List.getElem?_cons_zero] at c0
          go_simp
          refine hK.out _ _ (HRD.out _ K1.out) (fun hS => ?_)
          clear hK K hS c0
          simp only [List.setIfInBounds_toArray, List.set_cons_zero, List.set_cons_succ]
          refine wpAnyH_ready (rs := [9]) (by kernel_rfl) (by simp) (AllReadyH.cons rfl (fun K hK => ?_) AllReadyH.nil)
          refine step_calld (by rfl) (by go_simp) (HGC.out _ ((KW9.out.all (S := fun i => i = q ∨ w5.heap.size ≤ i)).trans K1.out)) ?_
          intro w602 k6
          have K602 := hid (K1.out.trans k6.all)
          have R602 := hid (R1.out.kp0 k6)
          clear k6
          refine hK.out _ _ (HRD.out _ K602.out) (fun hS => ?_)
          clear hK K
          simp only [List.setIfInBounds_toArray, List.set_cons_zero, List.set_cons_succ, Act.put]
          refine wpAnyH_take (i := 10) (v := .pointer (some ⟨b, off + j * 6, none⟩)) rfl (by kernel_rfl) (by kernel_rfl) (by kernel_rfl) (fun _ _ _ h => h) (Or.inl ⟨by rfl, ?_⟩) hS ?_
          · (intro w6 hS6; obtain ⟨z0, z1, z2, z3, z4, z5, z6, z7, z8⟩ := hS6; go_simp)
          simp only [List.getElem_toArray, List.getElem_cons_zero, List.getElem_cons_succ, Act.put, List.setIfInBounds_toArray, List.set_cons_zero, List.set_cons_succ]
          refine wpAnyH_take (i := 11) (v := .agg #[.int .i64 x0.id, .int .i64 x0.par, .int .i64 x0.wt, .int .i64 x0.pd, .int .i64 x0.qt, .int .i64 x0.us]) rfl (by kernel_rfl) (by kernel_rfl) (by kernel_rfl) (fun _ _ _ h => h) (Or.inl ⟨by rfl, ?_⟩) hS ?_
          · (intro w6 hS6; obtain ⟨z0, z1, z2, z3, z4, z5, z6, z7, z8⟩ := hS6; go_simp)
          simp only [List.getElem_toArray, List.getElem_cons_zero, List.getElem_cons_succ, Act.put, List.setIfInBounds_toArray, List.set_cons_zero, List.set_cons_succ]
          clear hS
          refine wpAnyH_ready (rs := [12]) (by kernel_rfl) (by simp) (AllReadyH.cons rfl (fun K hK => ?_) AllReadyH.nil)
          simp only [List.getElem_toArray, List.getElem_cons_zero, List.getElem_cons_succ]
          go_simp
          have uO := Blk.new w602 45 #[.int .i64 x0.id, .int .i64 x0.par, .int .i64 x0.wt, .int .i64 x0.pd, .int .i64 x0.qt, .int .i64 x0.us]
          have kO := (Kp.refl No w602).alloc (.cells #[.int .i64 x0.id, .int .i64 x0.par, .int .i64 x0.wt, .int .i64 x0.pd, .int .i64 x0.qt, .int .i64 x0.us] 45)
          generalize w602.alloc (.cells #[.int .i64 x0.id, .int .i64 x0.par, .int .i64 x0.wt, .int .i64 x0.pd, .int .i64 x0.qt, .int .i64 x0.us] 45) = wO3 at uO kO ⊢
          have K103 := hid (K602.out.trans kO.all)
          have R103 := hid (R602.out.kp0 kO)
          have U103 := hid uO
          clear uO kO
          refine hK.out _ _ (HRD.out _ K103.out) (fun hS => ?_)
          clear hK K hS
          simp only [List.setIfInBounds_toArray, List.set_cons_zero, List.set_cons_succ]
          refine wpAnyH_ready (rs := [13]) (by kernel_rfl) (by simp) (AllReadyH.cons rfl (fun K hK => ?_) AllReadyH.nil)
          refine step_app1 usG gc_one (by rfl) (.tmp 34) (.tmp 45) (by rfl) (base := w5.heap.size) (xs := ord.take k) (y := x0) (by rfl) (by exact R103.out.ow) (by rfl) (fun i hi => by
              have hb := U103.out
              match i, hi with
              | 0, _ => exact hb.cell 0
              | 1, _ => exact hb.cell 1
              | 2, _ => exact hb.cell 2
              | 3, _ => exact hb.cell 3
              | 4, _ => exact hb.cell 4
              | 5, _ => exact hb.cell 5) (by rw [HLEN.out]; omega) (by rw [HLEN.out]; simp only [maxLen]; omega) (by exact R103.out.kp.size) ?_
          intro v8 w8 o8 q8 p8
          have k8 : Kp (fun i => i = q ∨ w5.heap.size ≤ i) wO3 w8 := (Kp.refl _ wO3).grown q8 fun i hi => .inl (.inr (R103.out.ow.blk hi).1)
          have K8 := hid (K103.out.trans k8)
          obtain ⟨A8, c8, rfl⟩ := o8.formN (m := k + 1) (by rw [List.length_append, HLEN.out]; rfl)
          have R8 := hid (R103.out.app o8 q8)
          clear k8 q8 p8 o8
          refine hK.out _ _ (HRD.out _ K8.out) (fun hS => ?_)
          clear hK K
          simp only [List.setIfInBounds_toArray, List.set_cons_zero, List.set_cons_succ, Act.put]
          refine wpAnyH_take (i := 14) (v := .pointer (some ⟨q, 0, none⟩)) rfl (by kernel_rfl) (by kernel_rfl) (by kernel_rfl) (fun _ _ _ h => h) (Or.inl ⟨by rfl, ?_⟩) hS ?_
          · (intro w6 hS6; obtain ⟨z0, z1, z2, z3, z4, z5, z6, z7, z8⟩ := hS6; go_simp)
          simp only [List.getElem_toArray, List.getElem_cons_zero, List.getElem_cons_succ, Act.put, List.setIfInBounds_toArray, List.set_cons_zero, List.set_cons_succ]
          clear hS
          refine wpAnyH_ready (rs := [15]) (by kernel_rfl) (by simp) (AllReadyH.cons rfl (fun K hK => ?_) AllReadyH.nil)
          simp only [List.getElem_toArray, List.getElem_cons_zero, List.getElem_cons_succ]
          have c0 := R8.out.bx.cell 0
          have f0 : w8.frozen? ⟨q, 0, none⟩ = false := R8.out.bx.frozen 0
          simp only [List.getElem?_toArray, List.getElem?_cons_zero] at c0
          have ks := (Kp.set1 (q) 0 w8 (.slice A8 (k + 1) c8)).mono (T := fun i => i = q ∨ w5.heap.size ≤ i) fun i _ e => by have e : i = q := e; exact .inl e
          have R9 := hid (R8.out.put 0 (.slice A8 (k + 1) c8))
          have K9 := hid (K8.out.trans ks)
          clear ks
          go_simp
          generalize w8.setCell ⟨q, 0, none⟩ (.slice A8 (k + 1) c8) = wz at R9 K9 ⊢
          refine hK.out _ _ (HRD.out _ K9.out) (fun hS => ?_)
          clear hK K hS c0 f0
          simp only [List.setIfInBounds_toArray, List.set_cons_zero, List.set_cons_succ]
          refine wpAnyH_done (by kernel_rfl) ?_ _
          go_wp2_with fail
          go_roundw
          case rel => exact ⟨k + 1, _, by omega, by go_num, hid (by rw [HSP.out]; simpa using R9.out)⟩
          case measure => simp [vI]; omega
        · refine step_calld (by rfl) (by go_simp) (HGC.out _ ((KW9.out.all (S := fun i => i = q ∨ w5.heap.size ≤ i)).trans K1.out)) ?_
          intro w606 k6
          have K606 := hid (K1.out.trans k6.all)
          have R606 := hid (R1.out.kp0 k6)
          clear k6
          refine hK.out _ _ (HRD.out _ K606.out) (fun hS => ?_)
          clear hK K
          simp only [List.setIfInBounds_toArray, List.set_cons_zero, List.set_cons_succ, Act.put]
          refine wpAnyH_take (i := 10) (v := .pointer (some ⟨b, off + j * 6, none⟩)) rfl (by kernel_rfl) (by kernel_rfl) (by kernel_rfl) (fun _ _ _ h => h) (Or.inl ⟨by rfl, ?_⟩) hS ?_
          · (intro w6 hS6; obtain ⟨z0, z1, z2, z3, z4, z5, z6, z7, z8⟩ := hS6; go_simp)
          simp only [List.getElem_toArray, List.getElem_cons_zero, List.getElem_cons_succ, Act.put, List.setIfInBounds_toArray, List.set_cons_zero, List.set_cons_succ]
          refine wpAnyH_take (i := 11) (v := .agg #[.int .i64 x0.id, .int .i64 x0.par, .int .i64 x0.wt, .int .i64 x0.pd, .int .i64 x0.qt, .int .i64 x0.us]) rfl (by kernel_rfl) (by kernel_rfl) (by kernel_rfl) (fun _ _ _ h => h) (Or.inl ⟨by rfl, ?_⟩) hS ?_
          · (intro w6 hS6; obtain ⟨z0, z1, z2, z3, z4, z5, z6, z7, z8⟩ := hS6; go_simp)
          simp only [List.getElem_toArray, List.getElem_cons_zero, List.getElem_cons_succ, Act.put, List.setIfInBounds_toArray, List.set_cons_zero, List.set_cons_succ]
          clear hS
          refine wpAnyH_ready (rs := [1, 12]) (by kernel_rfl) (by simp) (AllReadyH.cons rfl (fun K hK => ?_) (AllReadyH.cons rfl (fun K hK => ?_) AllReadyH.nil))
          · simp only [List.getElem_toArray, List.getElem_cons_zero, List.getElem_cons_succ]
            have c0 := R606.out.bx.cell 0
            simp only [List.getElem?_toArray, List.getElem?_cons_zero] at c0
            go_simp
            refine hK.out _ _ (HRD.out _ K606.out) (fun hS => ?_)
            clear hK K hS c0
            simp only [List.setIfInBounds_toArray, List.set_cons_zero, List.set_cons_succ]
            refine wpAnyH_ready (rs := [12]) (by kernel_rfl) (by simp) (AllReadyH.cons rfl (fun K hK => ?_) AllReadyH.nil)
            simp only [List.getElem_toArray, List.getElem_cons_zero, List.getElem_cons_succ]
            go_simp
            have uO := Blk.new w606 45 #[.int .i64 x0.id, .int .i64 x0.par, .int .i64 x0.wt, .int .i64 x0.pd, .int .i64 x0.qt, .int .i64 x0.us]
            have kO := (Kp.refl No w606).alloc (.cells #[.int .i64 x0.id, .int .i64 x0.par, .int .i64 x0.wt, .int .i64 x0.pd, .int .i64 x0.qt, .int .i64 x0.us] 45)
            generalize w606.alloc (.cells #[.int .i64 x0.id, .int .i64 x0.par, .int .i64 x0.wt, .int .i64 x0.pd, .int .i64 x0.qt, .int .i64 x0.us] 45) = wO8 at uO kO ⊢
            have K108 := hid (K606.out.trans kO.all)
            have R108 := hid (R606.out.kp0 kO)
            have U108 := hid uO
            clear uO kO
            refine hK.out _ _ (HRD.out _ K108.out) (fun hS => ?_)
            clear hK K hS
            simp only [List.setIfInBounds_toArray, List.set_cons_zero, List.set_cons_succ]
            refine wpAnyH_ready (rs := [13]) (by kernel_rfl) (by simp) (AllReadyH.cons rfl (fun K hK => ?_) AllReadyH.nil)
            refine step_app1 usG gc_one (by rfl) (.tmp 34) (.tmp 45) (by rfl) (base := w5.heap.size) (xs := ord.take k) (y := x0) (by rfl) (by exact R108.out.ow) (by rfl) (fun i hi => by
                have hb := U108.out
                match i, hi with
                | 0, _ => exact hb.cell 0
                | 1, _ => exact hb.cell 1
                | 2, _ => exact hb.cell 2
                | 3, _ => exact hb.cell 3
                | 4, _ => exact hb.cell 4
                | 5, _ => exact hb.cell 5) (by rw [HLEN.out]; omega) (by rw [HLEN.out]; simp only [maxLen]; omega) (by exact R108.out.kp.size) ?_
            intro v8 w8 o8 q8 p8
            have k8 : Kp (fun i => i = q ∨ w5.heap.size ≤ i) wO8 w8 := (Kp.refl _ wO8).grown q8 fun i hi => .inl (.inr (R108.out.ow.blk hi).1)
            have K8 := hid (K108.out.trans k8)
            obtain ⟨A8, c8, rfl⟩ := o8.formN (m := k + 1) (by rw [List.length_append, HLEN.out]; rfl)
            have R8 := hid (R108.out.app o8 q8)
            clear k8 q8 p8 o8
            refine hK.out _ _ (HRD.out _ K8.out) (fun hS => ?_)
            clear hK K
            simp only [List.setIfInBounds_toArray, List.set_cons_zero, List.set_cons_succ, Act.put]
            refine wpAnyH_take (i := 14) (v := .pointer (some ⟨q, 0, none⟩)) rfl (by kernel_rfl) (by kernel_rfl) (by kernel_rfl) (fun _ _ _ h => h) (Or.inl ⟨by rfl, ?_⟩) hS ?_
            · (intro w6 hS6; obtain ⟨z0, z1, z2, z3, z4, z5, z6, z7, z8⟩ := hS6; go_simp)
            simp only [List.getElem_toArray, List.getElem_cons_zero, List.getElem_cons_succ, Act.put, List.setIfInBounds_toArray, List.set_cons_zero, List.set_cons_succ]
            clear hS
            refine wpAnyH_ready (rs := [15]) (by kernel_rfl) (by simp) (AllReadyH.cons rfl (fun K hK => ?_) AllReadyH.nil)
            simp only [List.getElem_toArray, List.getElem_cons_zero, List.getElem_cons_succ]
            have c0 := R8.out.bx.cell 0
            have f0 : w8.frozen? ⟨q, 0, none⟩ = false := R8.out.bx.frozen 0
            simp only [List.getElem?_toArray, List.getElem?_cons_zero] at c0
            have ks := (Kp.set1 (q) 0 w8 (.slice A8 (k + 1) c8)).mono (T := fun i => i = q ∨ w5.heap.size ≤ i) fun i _ e => by have e : i = q := e; exact .inl e
            have R9 := hid (R8.out.put 0 (.slice A8 (k + 1) c8))
            have K9 := hid (K8.out.trans ks)
            clear ks
            go_simp
            generalize w8.setCell ⟨q, 0, none⟩ (.slice A8 (k + 1) c8) = wz at R9 K9 ⊢
            refine hK.out _ _ (HRD.out _ K9.out) (fun hS => ?_)
            clear hK K hS c0 f0
            simp only [List.setIfInBounds_toArray, List.set_cons_zero, List.set_cons_succ]
            refine wpAnyH_done (by kernel_rfl) ?_ _
            go_wp2_with fail
            go_roundw
            case rel => exact ⟨k + 1, _, by omega, by go_num, hid (by rw [HSP.out]; simpa using R9.out)⟩
            case measure => simp [vI]; omega
          · simp only [List.getElem_toArray, List.getElem_cons_zero, List.getElem_cons_succ]
            go_simp
            have uO := Blk.new w606 45 #[.int .i64 x0.id, .int .i64 x0.par, .int .i64 x0.wt, .int .i64 x0.pd, .int .i64 x0.qt, .int .i64 x0.us]
            have kO := (Kp.refl No w606).alloc (.cells #[.int .i64 x0.id, .int .i64 x0.par, .int .i64 x0.wt, .int .i64 x0.pd, .int .i64 x0.qt, .int .i64 x0.us] 45)
            generalize w606.alloc (.cells #[.int .i64 x0.id, .int .i64 x0.par, .int .i64 x0.wt, .int .i64 x0.pd, .int .i64 x0.qt, .int .i64 x0.us] 45) = wO11 at uO kO ⊢
            have K111 := hid (K606.out.trans kO.all)
            have R111 := hid (R606.out.kp0 kO)
            have U111 := hid uO
            clear uO kO
            refine hK.out _ _ (HRD.out _ K111.out) (fun hS => ?_)
            clear hK K hS
            simp only [List.setIfInBounds_toArray, List.set_cons_zero, List.set_cons_succ]
            refine wpAnyH_ready (rs := [1]) (by kernel_rfl) (by simp) (AllReadyH.cons rfl (fun K hK => ?_) AllReadyH.nil)
            simp only [List.getElem_toArray, List.getElem_cons_zero, List.getElem_cons_succ]
            have c0 := R111.out.bx.cell 0
            simp only [List.getElem?_toArray, List.getElem?_cons_zero] at c0
            go_simp
            refine hK.out _ _ (HRD.out _ K111.out) (fun hS => ?_)
            clear hK K hS c0
            simp only [List.setIfInBounds_toArray, List.set_cons_zero, List.set_cons_succ]
            refine wpAnyH_ready (rs := [13]) (by kernel_rfl) (by simp) (AllReadyH.cons rfl (fun K hK => ?_) AllReadyH.nil)
            refine step_app1 usG gc_one (by rfl) (.tmp 34) (.tmp 45) (by rfl) (base := w5.heap.size) (xs := ord.take k) (y := x0) (by rfl) (by exact R111.out.ow) (by rfl) (fun i hi => by
                have hb := U111.out
                match i, hi with
                | 0, _ => exact hb.cell 0
                | 1, _ => exact hb.cell 1
                | 2, _ => exact hb.cell 2
                | 3, _ => exact hb.cell 3
                | 4, _ => exact hb.cell 4
                | 5, _ => exact hb.cell 5) (by rw [HLEN.out]; omega) (by rw [HLEN.out]; simp only [maxLen]; omega) (by exact R111.out.kp.size) ?_
            intro v8 w8 o8 q8 p8
            have k8 : Kp (fun i => i = q ∨ w5.heap.size ≤ i) wO11 w8 := (Kp.refl _ wO11).grown q8 fun i hi => .inl (.inr (R111.out.ow.blk hi).1)
            have K8 := hid (K111.out.trans k8)
            obtain ⟨A8, c8, rfl⟩ := o8.formN (m := k + 1) (by rw [List.length_append, HLEN.out]; rfl)
            have R8 := hid (R111.out.app o8 q8)
            clear k8 q8 p8 o8
            refine hK.out _ _ (HRD.out _ K8.out) (fun hS => ?_)
            clear hK K
            simp only [List.setIfInBounds_toArray, List.set_cons_zero, List.set_cons_succ, Act.put]
            refine wpAnyH_take (i := 14) (v := .pointer (some ⟨q, 0, none⟩)) rfl (by kernel_rfl) (by kernel_rfl) (by kernel_rfl) (fun _ _ _ h => h) (Or.inl ⟨by rfl, ?_⟩) hS ?_
            · (intro w6 hS6; obtain ⟨z0, z1, z2, z3, z4, z5, z6, z7, z8⟩ := hS6; go_simp)
            simp only [List.getElem_toArray, List.getElem_cons_zero, List.getElem_cons_succ, Act.put, List.setIfInBounds_toArray, List.set_cons_zero, List.set_cons_succ]
            clear hS
            refine wpAnyH_ready (rs := [15]) (by kernel_rfl) (by simp) (AllReadyH.cons rfl (fun K hK => ?_) AllReadyH.nil)
            simp only [List.getElem_toArray, List.getElem_cons_zero, List.getElem_cons_succ]
            have c0 := R8.out.bx.cell 0
            have f0 : w8.frozen? ⟨q, 0, none⟩ = false := R8.out.bx.frozen 0
            simp only [List.getElem?_toArray, List.getElem?_cons_zero] at c0
            have ks := (Kp.set1 (q) 0 w8 (.slice A8 (k + 1) c8)).mono (T := fun i => i = q ∨ w5.heap.size ≤ i) fun i _ e => by have e : i = q := e; exact .inl e
            have R9 := hid (R8.out.put 0 (.slice A8 (k + 1) c8))
            have K9 := hid (K8.out.trans ks)
            clear ks
            go_simp
            generalize w8.setCell ⟨q, 0, none⟩ (.slice A8 (k + 1) c8) = wz at R9 K9 ⊢
            refine hK.out _ _ (HRD.out _ K9.out) (fun hS => ?_)
            clear hK K hS c0 f0
            simp only [List.setIfInBounds_toArray, List.set_cons_zero, List.set_cons_succ]
            refine wpAnyH_done (by kernel_rfl) ?_ _
            go_wp2_with fail
            go_roundw
            case rel => exact ⟨k + 1, _, by omega, by go_num, hid (by rw [HSP.out]; simpa using R9.out)⟩
            case measure => simp [vI]; omega
      · have hkk : k = no := by omega
        subst hkk
        have hng : ¬ (k : Int) < (k : Int) := by omega
        have g := G.out
        rw [List.take_of_length_le (by rw [HNO.out]; omega)] at g
        obtain ⟨Ag, cg, rfl⟩ := g.ow.formN HNO.out
        have hzg := g.kp.size
        have br := BX5.out.kp g.kp (by show ¬ w.heap.size = q; omega)
        have s0 := br.cell 0
        have s1 := br.cell 1
        simp only [List.getElem?_toArray, List.getElem?_cons_zero, List.getElem?_cons_succ] at s0 s1
        have hmk := mk_boolz m hlt
        have hbo : ∀ i, (Value.slice Ag k cg).ownBlock = some i → w5.heap.size ≤ i ∧ i < wr.heap.size := fun i hi => ⟨(g.ow.blk hi).1, (g.ow.blk hi).2.1⟩
        have hrep : ((List.replicate m false).map Value.bool).toArray = Array.replicate m (Value.bool false) := by simp
        have k6 := (Kp.refl No wr).alloc (.cells (Array.replicate m (Value.bool false)) 4)
        have b6 : Blk (wr.alloc (.cells (Array.replicate m (Value.bool false)) 4)) wr.heap.size 4 ((List.replicate m false).map Value.bool).toArray := by rw [hrep]; exact Blk.new wr 4 _
        have z6 := World.size_alloc wr (.cells (Array.replicate m (Value.bool false)) 4)
        obtain ⟨ub, hub⟩ : ∃ ub, wr.heap.size = ub := ⟨_, rfl⟩
        rw [hub] at b6 z6 hzg hbo
        have HBO := hid hbo
        have HUB := hid hzg
        go_upto_region 10 with fail
        try rw [hub]
        obtain ⟨w6, hw6⟩ : ∃ w6, wr.alloc (.cells (Array.replicate m (Value.bool false)) 4) = w6 := ⟨_, rfl⟩
        rw [hw6] at k6 b6 z6 ⊢
        have hqs := g.xl q rfl
        have BX6 := hid (br.kp0 k6)
        have RB6 := hid ((RB5.out.kp g.kp (by show ¬ w.heap.size + 1 = q; omega)).kp0 k6)
        have HT6 := hid ((HT5.out.kp g.kp (fun i _ hi e => by have hi : i < w.heap.size := hi; have e : i = q := e; omega)).kp0 k6)
        have OG6 := hid (g.ow.kp0 k6)
        have K06 := hid ((K05.out.step g.kp fun i hi e => by have e : i = q := e; omega).trans k6)
        have HZ6 := hid z6
        have I6 := hid (show GZ 8 53 tc (fun i => i = q ∨ i = ub) w6 w6 q 25 #[.slice Ag k cg, .slice none 0 0] (.slice none 0 0) ((srtT ts).take 0) from ⟨Kp.refl _ _, g.bx.kp0 k6, by simpa using Ow.nil _ _ _ _ _, .inl rfl, fun i e => by rcases e with e | e <;> omega⟩)
        have U6 := hid (And.intro b6 (show UsedZ ts (List.replicate m false) 0 by rw [← HM.out]; exact UsedZ.start ts))
        clear g G br s0 s1 hmk hrep k6 b6 z6 hw6 hbo S5 HG5 HL5 BX5 RB5 HT5 K05
        go_loopw [7] (fun _ wr => ∃ (cc : Nat) (u : Value) (us : List Bool), cc ≤ m ∧ Hid (GZ 8 53 tc (fun i => i = q ∨ i = ub) w6 wr q 25 #[.slice Ag k cg, u] u ((srtT ts).take cc)) ∧ Hid (Blk wr ub 4 (us.map Value.bool).toArray ∧ UsedZ ts us cc)) (fun _ wr => m - lenAt wr q 1)
        case atStart => exact ⟨0, _, _, Nat.zero_le _, I6, U6⟩
        case round =>
          obtain ⟨cc, u, us, hcc, G, U⟩ := hrel
          have hsl : (srtT ts).length = m := (srtT_perm ts).length_eq.trans HM.out
          have HLEN := hid (show ((srtT ts).take cc).length = cc by rw [List.length_take, hsl]; omega)
          obtain ⟨A5, c5, rfl⟩ := G.out.ow.formN HLEN.out
          obtain ⟨wa, hwa⟩ : ∃ wa, wr = wa := ⟨_, rfl⟩
          rw [hwa] at G U ⊢
          clear hwa
          have br := BX6.out.kp G.out.kp (by show ¬ (w.heap.size = q ∨ w.heap.size = ub); omega)
          have s0 := br.cell 0
          have s1 := br.cell 1
          have o0 := G.out.bx.cell 0
          have o1 := G.out.bx.cell 1
          simp only [List.getElem?_toArray, List.getElem?_cons_zero, List.getElem?_cons_succ] at s0 s1 o0 o1
          by_cases hcm : cc < m
          · have hg1 : (cc : Int) < (m : Int) := by omega
            have rt := hid (HT6.out.kp G.out.kp (fun i _ hi e => by have hi : i < w.heap.size := hi; have e : i = q ∨ i = ub := e; omega))
            go_wp2_with fail
            go_loopw [7, 8] (fun bv iv wi => ∃ (k2 : Nat) (best : Int), k2 ≤ m ∧ bv = .int .i64 best ∧ iv = .int .i64 (k2 : Int) ∧ Hid (Bst ts us k2 best) ∧ Hid (Kp No wa wi)) (fun _ iv _ => m - (vI iv).toNat)
            case atStart => exact ⟨0, -1, Nat.zero_le _, rfl, rfl, hid (Bst.start ts us), hid (Kp.refl _ _)⟩
            case round =>
              obtain ⟨k2, best, hk2, rfl, rfl, HB, KI⟩ := hrel
              have bi := br.kp0 KI.out
              have t0 := bi.cell 0
              have t1 := bi.cell 1
              simp only [List.getElem?_toArray, List.getElem?_cons_zero, List.getElem?_cons_succ] at t0 t1
              have ri := hid (rt.out.kp0 KI.out)
              by_cases hk2m : k2 < m
              · have hg2 : (k2 : Int) < (m : Int) := by omega
                have hwk := wrapI (x := (k2 : Int) + 1) (by unfold I64; omega)
                have hk2t : k2 < ts.length := by rw [HM.out]; exact hk2m
                have cu := us_cellz (U.out.1.kp0 KI.out) (j := k2) (by rw [U.out.2.1]; exact hk2t)
                obtain ⟨bt, offt, rfl⟩ := ri.out.there (by omega)
                have ck := ri.out.cell (j := k2) (i := 0) (Kp.refl No _) hk2t (by omega) rfl
                simp only [tc, te, List.getD_cons_zero, Nat.add_zero] at ck
                obtain ⟨bo, hbo⟩ : ∃ bo, us.getD k2 false = bo := ⟨_, rfl⟩
                rw [hbo] at cu
                have HBO2 := hid hbo
                clear hbo
                cases bo
                · rcases HB.out.idx with hb1 | ⟨j, hb1, hb2⟩
                  · subst hb1
                    have HB2 := hid (HB.out.first HBO2.out)
                    clear HB
                    go_upto_region 15 with fail
                    go_quiet (fail)
                    go_wp2_with fail
                    go_roundw
                    case rel => exact ⟨k2 + 1, _, by omega, rfl, by go_num, HB2, hid (KI.out.drewN _)⟩
                    case measure => simp [vI]; omega
                  · subst hb1
                    have hjt : j < ts.length := by omega
                    have cj := ri.out.cell (j := j) (i := 0) (Kp.refl No _) hjt (by omega) rfl
                    simp only [tc, te, List.getD_cons_zero, Nat.add_zero] at cj
                    have hjm : (j : Int) < (m : Int) := by omega
                    have hj0 : decide ((j : Int) < 0) = false := by simp
                    have hj1 : (0 : Int) ≤ (j : Int) := by omega
                    obtain ⟨xi, hxi⟩ : ∃ xi, (ts.getD k2 ts0).id = xi := ⟨_, rfl⟩
                    obtain ⟨yi, hyi⟩ : ∃ yi, (ts.getD j ts0).id = yi := ⟨_, rfl⟩
                    rw [hxi] at ck
                    rw [hyi] at cj
                    by_cases hlt2 : xi < yi
                    · have d2 : decide (xi < yi) = true := by simp [hlt2]
                      have HB2 := hid (HB.out.less HBO2.out (by rw [hxi, hyi]; exact hlt2))
                      clear HB hlt2 hxi hyi
                      go_upto_region 15 with fail
                      go_quiet (fail)
                      go_wp2_with fail
                      go_roundw
                      case rel => exact ⟨k2 + 1, _, by omega, rfl, by go_num, HB2, hid (KI.out.drewN _)⟩
                      case measure => simp [vI]; omega
                    · have d2 : decide (xi < yi) = false := by simp; omega
                      have HB2 := hid (HB.out.more (by rw [hxi, hyi]; exact hlt2))
                      clear HB hlt2 hxi hyi
                      go_upto_region 15 with fail
                      go_quiet (fail)
                      go_wp2_with fail
                      go_roundw
                      case rel => exact ⟨k2 + 1, _, by omega, rfl, by go_num, HB2, hid (KI.out.drewN _)⟩
                      case measure => simp [vI]; omega
                · have HB2 := hid (HB.out.used HBO2.out)
                  clear HB
                  go_upto_region 15 with fail
                  go_quiet (fail)
                  go_wp2_with fail
                  go_roundw
                  case rel => exact ⟨k2 + 1, _, by omega, rfl, by go_num, HB2, hid (KI.out.drewN _)⟩
                  case measure => simp [vI]; omega
              · have hkk2 : k2 = m := by omega
                have HB2 := HB.out
                rw [hkk2, ← HM.out] at HB2
                obtain ⟨j, rfl, hjt, hsp, hus⟩ := pickZ HNDT.out (by rw [HM.out]; exact hcm) U.out.2 HB2
                clear HB HB2
                subst hkk2
                have hng2 : ¬ (k2 : Int) < (k2 : Int) := by omega
                have HSP := hid hsp
                have HUS := hid hus
                have hjm : (j : Int) < (k2 : Int) := by rw [HM.out] at hjt; omega
                have hj1 : (0 : Int) ≤ (j : Int) := by omega
                have cu := us_cellz (U.out.1.kp0 KI.out) (j := j) (by rw [U.out.2.1]; exact hjt)
                have fu : wr.frozen? ⟨ub, j, none⟩ = false := (U.out.1.kp0 KI.out).frozen j
                have kd := KI.out
                have ks := Kp.set1 ub j wr (.bool true)
                have g7 := (G.out.kp0 kd).kpo ks (fun i e => by have e : i = ub := e; exact ⟨.inr e, by omega⟩)
                have u7 := us_putz (U.out.1.kp0 kd) j
                have rt7 := (rt.out.kp0 kd).kp ks (fun i _ hi e => by have hi : i < w.heap.size := hi; have e : i = ub := e; omega)
                have br7 := (br.kp0 kd).kp ks (by show ¬ w.heap.size = ub; omega)
                clear hsp hus bi o0
                go_upto_region 18 with fail
                obtain ⟨w7, hw7⟩ : ∃ w7, wr.setCell ⟨ub, j, none⟩ (.bool true) = w7 := ⟨_, rfl⟩
                rw [hw7] at g7 u7 rt7 br7 ⊢
                have G7 := hid g7
                have U7 := hid (And.intro u7 HUS.out)
                clear hw7 ks kd cu fu
                obtain ⟨bt, offt, rfl, hbt⟩ := rt7.thereP (by omega)
                have q0 := rt7.cell (j := j) (i := 0) (Kp.refl No _) hjt (by omega) rfl
                have q1 := rt7.cell (j := j) (i := 1) (Kp.refl No _) hjt (by omega) rfl
                have q2 := rt7.cell (j := j) (i := 2) (Kp.refl No _) hjt (by omega) rfl
                have q3 := rt7.cell (j := j) (i := 3) (Kp.refl No _) hjt (by omega) rfl
                have q4 := rt7.cell (j := j) (i := 4) (Kp.refl No _) hjt (by omega) rfl
                have q5 := rt7.cell (j := j) (i := 5) (Kp.refl No _) hjt (by omega) rfl
                have q6 := rt7.cell (j := j) (i := 6) (Kp.refl No _) hjt (by omega) rfl
                have q7 := rt7.cell (j := j) (i := 7) (Kp.refl No _) hjt (by omega) rfl
                obtain ⟨x0, hx0⟩ : ∃ x0, ts.getD j ts0 = x0 := ⟨_, rfl⟩
                rw [hx0] at q0 q1 q2 q3 q4 q5 q6 q7 HSP
                simp only [tc, te, List.getD_cons_zero, List.getD_cons_succ, Nat.add_zero] at q0 q1 q2 q3 q4 q5 q6 q7
                simp only [← Nat.add_assoc] at q1 q2 q3 q4 q5 q6 q7
                clear t0 t1
                have t1 := br7.cell 1
                simp only [List.getElem?_toArray, List.getElem?_cons_zero, List.getElem?_cons_succ] at t1
                have HQ := hid (And.intro t1 (And.intro q0 (And.intro q1 (And.intro q2 (And.intro q3 (And.intro q4 (And.intro q5 (And.intro q6 q7))))))))
                have HSZ := hid (And.intro g7.kp.size (show bt < w.heap.size from hbt))
                clear g7 u7 rt7 br7 hx0 hbt q0 q1 q2 q3 q4 q5 q6 q7 t1 s0 s1 o1 br
                refine wp_region_any (by kernel_rfl) ?_
                show wpAny _ _ _ _ _ _ _ (World.drew w7)
                have kw := (Kp.refl No w7).drew
                generalize World.drew w7 = W at kw ⊢
                have R1 := hid (G7.out.kp0 kw)
                have KW9 := hid kw
                have K1 := hid (Kp.refl (fun i => i = q ∨ w6.heap.size ≤ i) W)
                have HRD := hid (fun (W2 : World) (kZ : Kp (fun i => i = q ∨ w6.heap.size ≤ i) W W2) => show (fun w' : World => w'.cell? ⟨w.heap.size, 1, none⟩ = some (.slice (some ⟨bt, offt, none⟩) k2 c2) ∧ w'.cell? ⟨bt, offt + j * 8, none⟩ = some (.int .i64 x0.id) ∧ w'.cell? ⟨bt, offt + j * 8 + 1, none⟩ = some (.int .i64 x0.gr) ∧ w'.cell? ⟨bt, offt + j * 8 + 2, none⟩ = some (.int .i64 x0.wt) ∧ w'.cell? ⟨bt, offt + j * 8 + 3, none⟩ = some (.int .u64 x0.co) ∧ w'.cell? ⟨bt, offt + j * 8 + 4, none⟩ = some (.bool x0.sl) ∧ w'.cell? ⟨bt, offt + j * 8 + 5, none⟩ = some (.int .i64 x0.ra) ∧ w'.cell? ⟨bt, offt + j * 8 + 6, none⟩ = some (.int .i64 x0.lv) ∧ w'.cell? ⟨bt, offt + j * 8 + 7, none⟩ = some (.int .i64 x0.lr)) W2 from by have hz := HSZ.out; have kk := (KW9.out.all (S := fun i => i = q ∨ w6.heap.size ≤ i)).trans kZ; have h6 := HZ6.out; exact ⟨(kk.cell (p := ⟨w.heap.size, 1, none⟩) (by show w.heap.size < w7.heap.size; omega) (by show ¬ (w.heap.size = q ∨ w6.heap.size ≤ w.heap.size); omega)).trans HQ.out.1, (kk.cell (p := ⟨bt, offt + j * 8, none⟩) (by show bt < w7.heap.size; omega) (by show ¬ (bt = q ∨ w6.heap.size ≤ bt); omega)).trans HQ.out.2.1, (kk.cell (p := ⟨bt, offt + j * 8 + 1, none⟩) (by show bt < w7.heap.size; omega) (by show ¬ (bt = q ∨ w6.heap.size ≤ bt); omega)).trans HQ.out.2.2.1, (kk.cell (p := ⟨bt, offt + j * 8 + 2, none⟩) (by show bt < w7.heap.size; omega) (by show ¬ (bt = q ∨ w6.heap.size ≤ bt); omega)).trans HQ.out.2.2.2.1, (kk.cell (p := ⟨bt, offt + j * 8 + 3, none⟩) (by show bt < w7.heap.size; omega) (by show ¬ (bt = q ∨ w6.heap.size ≤ bt); omega)).trans HQ.out.2.2.2.2.1, (kk.cell (p := ⟨bt, offt + j * 8 + 4, none⟩) (by show bt < w7.heap.size; omega) (by show ¬ (bt = q ∨ w6.heap.size ≤ bt); omega)).trans HQ.out.2.2.2.2.2.1, (kk.cell (p := ⟨bt, offt + j * 8 + 5, none⟩) (by show bt < w7.heap.size; omega) (by show ¬ (bt = q ∨ w6.heap.size ≤ bt); omega)).trans HQ.out.2.2.2.2.2.2.1, (kk.cell (p := ⟨bt, offt + j * 8 + 6, none⟩) (by show bt < w7.heap.size; omega) (by show ¬ (bt = q ∨ w6.heap.size ≤ bt); omega)).trans HQ.out.2.2.2.2.2.2.2.1, (kk.cell (p := ⟨bt, offt + j * 8 + 7, none⟩) (by show bt < w7.heap.size; omega) (by show ¬ (bt = q ∨ w6.heap.size ≤ bt); omega)).trans HQ.out.2.2.2.2.2.2.2.2⟩)
                have HS5 := HRD.out W K1.out
                clear kw
                refine wpAny_of_held (S := fun w' : World => w'.cell? ⟨w.heap.size, 1, none⟩ = some (.slice (some ⟨bt, offt, none⟩) k2 c2) ∧ w'.cell? ⟨bt, offt + j * 8, none⟩ = some (.int .i64 x0.id) ∧ w'.cell? ⟨bt, offt + j * 8 + 1, none⟩ = some (.int .i64 x0.gr) ∧ w'.cell? ⟨bt, offt + j * 8 + 2, none⟩ = some (.int .i64 x0.wt) ∧ w'.cell? ⟨bt, offt + j * 8 + 3, none⟩ = some (.int .u64 x0.co) ∧ w'.cell? ⟨bt, offt + j * 8 + 4, none⟩ = some (.bool x0.sl) ∧ w'.cell? ⟨bt, offt + j * 8 + 5, none⟩ = some (.int .i64 x0.ra) ∧ w'.cell? ⟨bt, offt + j * 8 + 6, none⟩ = some (.int .i64 x0.lv) ∧ w'.cell? ⟨bt, offt + j * 8 + 7, none⟩ = some (.int .i64 x0.lr)) _ _ _ _ ?_
                simp only [List.size_toArray, List.length_cons, List.length_nil, Nat.reduceAdd, Array.replicate_succ, Array.replicate_zero, List.push_toArray, List.nil_append, List.cons_append]
                refine wpAnyH_take (i := 0) (v := .pointer (some ⟨q, 1, none⟩)) rfl (by kernel_rfl) (by kernel_rfl) (by kernel_rfl) (fun _ _ _ h => h) (Or.inl ⟨by rfl, ?_⟩) HS5 ?_
                · (intro w6 hS6; obtain ⟨z0, z1, z2, z3, z4, z5, z6, z7, z8⟩ := hS6; go_simp)
                simp only [List.getElem_toArray, List.getElem_cons_zero, Act.put, List.setIfInBounds_toArray, List.set_cons_zero, List.set_cons_succ]
                refine wpAnyH_take (i := 2) (v := .pointer (some ⟨w.heap.size, 1, none⟩)) rfl (by kernel_rfl) (by kernel_rfl) (by kernel_rfl) (fun _ _ _ h => h) (Or.inl ⟨by rfl, ?_⟩) HS5 ?_
                · (intro w6 hS6; obtain ⟨z0, z1, z2, z3, z4, z5, z6, z7, z8⟩ := hS6; go_simp)
                simp only [List.getElem_toArray, List.getElem_cons_zero, List.getElem_cons_succ, Act.put, List.setIfInBounds_toArray, List.set_cons_zero, List.set_cons_succ]
                refine wpAnyH_take (i := 3) (v := .slice (some ⟨bt, offt, none⟩) k2 c2) rfl (by kernel_rfl) (by kernel_rfl) (by kernel_rfl) (fun _ _ _ h => h) (Or.inl ⟨by rfl, ?_⟩) HS5 ?_
                · (intro w6 hS6; obtain ⟨z0, z1, z2, z3, z4, z5, z6, z7, z8⟩ := hS6; go_simp)
                simp only [List.getElem_toArray, List.getElem_cons_zero, List.getElem_cons_succ, Act.put, List.setIfInBounds_toArray, List.set_cons_zero, List.set_cons_succ]
                refine wpAnyH_take (i := 4) (v := .int .i64 (j : Int)) rfl (by kernel_rfl) (by kernel_rfl) (by kernel_rfl) (fun _ _ _ h => h) (Or.inl ⟨by rfl, ?_⟩) HS5 ?_
                · (intro w6 hS6; obtain ⟨z0, z1, z2, z3, z4, z5, z6, z7, z8⟩ := hS6; go_simp)
                simp only [List.getElem_toArray, List.getElem_cons_zero, List.getElem_cons_succ, Act.put, List.setIfInBounds_toArray, List.set_cons_zero, List.set_cons_succ]
                refine wpAnyH_take (i := 5) (v := .pointer (some ⟨bt, offt + j * 8, none⟩)) rfl (by kernel_rfl) (by kernel_rfl) (by kernel_rfl) (fun _ _ _ h => h) (Or.inl ⟨by rfl, ?_⟩) HS5 ?_
                · (intro w6 hS6; obtain ⟨z0, z1, z2, z3, z4, z5, z6, z7, z8⟩ := hS6; go_simp)
                simp only [List.getElem_toArray, List.getElem_cons_zero, List.getElem_cons_succ, Act.put, List.setIfInBounds_toArray, List.set_cons_zero, List.set_cons_succ]
                refine wpAnyH_take (i := 6) (v := .agg #[.int .i64 x0.id, .int .i64 x0.gr, .int .i64 x0.wt, .int .u64 x0.co, .bool x0.sl, .int .i64 x0.ra, .int .i64 x0.lv, .int .i64 x0.lr]) rfl (by kernel_rfl) (by kernel_rfl) (by kernel_rfl) (fun _ _ _ h => h) (Or.inl ⟨by rfl, ?_⟩) HS5 ?_
                · (intro w6 hS6; obtain ⟨z0, z1, z2, z3, z4, z5, z6, z7, z8⟩ := hS6; go_simp)
                simp only [List.getElem_toArray, List.getElem_cons_zero, List.getElem_cons_succ, Act.put, List.setIfInBounds_toArray, List.set_cons_zero, List.set_cons_succ]
                clear HS5
                refine wpAnyH_ready (rs := [1, 7]) (by kernel_rfl) (by simp) (AllReadyH.cons rfl (fun K hK => ?_) (AllReadyH.cons rfl (fun K hK => ?_) AllReadyH.nil))
                · simp only [List.getElem_toArray, List.getElem_cons_zero, List.getElem_cons_succ]
                  have c0 := R1.out.bx.cell 1
                  simp only [List.getElem?_toArray, List.getElem?_cons_zero, List.getElem?_cons_succ] at c0
                  go_simp
                  refine hK.out _ _ (HRD.out _ K1.out) (fun hS => ?_)
                  clear hK K hS c0
                  simp only [List.setIfInBounds_toArray, List.set_cons_zero, List.set_cons_succ]
                  refine wpAnyH_ready (rs := [7]) (by kernel_rfl) (by simp) (AllReadyH.cons rfl (fun K hK => ?_) AllReadyH.nil)
                  simp only [List.getElem_toArray, List.getElem_cons_zero, List.getElem_cons_succ]
                  go_simp
                  have uO := Blk.new W 53 #[.int .i64 x0.id, .int .i64 x0.gr, .int .i64 x0.wt, .int .u64 x0.co, .bool x0.sl, .int .i64 x0.ra, .int .i64 x0.lv, .int .i64 x0.lr]
                  have kO := (Kp.refl No W).alloc (.cells #[.int .i64 x0.id, .int .i64 x0.gr, .int .i64 x0.wt, .int .u64 x0.co, .bool x0.sl, .int .i64 x0.ra, .int .i64 x0.lv, .int .i64 x0.lr] 53)
                  generalize W.alloc (.cells #[.int .i64 x0.id, .int .i64 x0.gr, .int .i64 x0.wt, .int .u64 x0.co, .bool x0.sl, .int .i64 x0.ra, .int .i64 x0.lv, .int .i64 x0.lr] 53) = wO16 at uO kO ⊢
                  have K116 := hid (K1.out.trans kO.all)
                  have R116 := hid (R1.out.kp0 kO)
                  have U116 := hid uO
                  clear uO kO
                  refine hK.out _ _ (HRD.out _ K116.out) (fun hS => ?_)
                  clear hK K hS
                  simp only [List.setIfInBounds_toArray, List.set_cons_zero, List.set_cons_succ]
                  refine wpAnyH_ready (rs := [8]) (by kernel_rfl) (by simp) (AllReadyH.cons rfl (fun K hK => ?_) AllReadyH.nil)
                  refine step_app1 usT tc_one (by rfl) (.tmp 95) (.tmp 101) (by rfl) (base := w6.heap.size) (xs := (srtT ts).take cc) (y := x0) (by rfl) (by exact R116.out.ow) (by rfl) (fun i hi => by
                      have hb := U116.out
                      match i, hi with
                      | 0, _ => exact hb.cell 0
                      | 1, _ => exact hb.cell 1
                      | 2, _ => exact hb.cell 2
                      | 3, _ => exact hb.cell 3
                      | 4, _ => exact hb.cell 4
                      | 5, _ => exact hb.cell 5
                      | 6, _ => exact hb.cell 6
                      | 7, _ => exact hb.cell 7) (by rw [HLEN.out]; omega) (by rw [HLEN.out]; simp only [maxLen]; omega) (by exact R116.out.kp.size) ?_
                  intro v8 w8 o8 q8 p8
                  have k8 : Kp (fun i => i = q ∨ w6.heap.size ≤ i) wO16 w8 := (Kp.refl _ wO16).grown q8 fun i hi => .inl (.inr (R116.out.ow.blk hi).1)
                  have K8 := hid (K116.out.trans k8)
                  obtain ⟨A8, c8, rfl⟩ := o8.formN (m := cc + 1) (by rw [List.length_append, HLEN.out]; rfl)
                  have R8 := hid (R116.out.app o8 q8)
                  clear k8 q8 p8 o8
                  refine hK.out _ _ (HRD.out _ K8.out) (fun hS => ?_)
                  clear hK K
                  simp only [List.setIfInBounds_toArray, List.set_cons_zero, List.set_cons_succ, Act.put]
                  refine wpAnyH_take (i := 9) (v := .pointer (some ⟨q, 1, none⟩)) rfl (by kernel_rfl) (by kernel_rfl) (by kernel_rfl) (fun _ _ _ h => h) (Or.inl ⟨by rfl, ?_⟩) hS ?_
                  · (intro w6 hS6; obtain ⟨z0, z1, z2, z3, z4, z5, z6, z7, z8⟩ := hS6; go_simp)
                  simp only [List.getElem_toArray, List.getElem_cons_zero, List.getElem_cons_succ, Act.put, List.setIfInBounds_toArray, List.set_cons_zero, List.set_cons_succ]
                  clear hS
                  refine wpAnyH_ready (rs := [10]) (by kernel_rfl) (by simp) (AllReadyH.cons rfl (fun K hK => ?_) AllReadyH.nil)
                  simp only [List.getElem_toArray, List.getElem_cons_zero, List.getElem_cons_succ]
                  have c0 := R8.out.bx.cell 1
                  have f0 : w8.frozen? ⟨q, 1, none⟩ = false := R8.out.bx.frozen 1
                  simp only [List.getElem?_toArray, List.getElem?_cons_zero, List.getElem?_cons_succ] at c0
                  have ks := (Kp.set1 (q) 1 w8 (.slice A8 (cc + 1) c8)).mono (T := fun i => i = q ∨ w6.heap.size ≤ i) fun i _ e => by have e : i = q := e; exact .inl e
                  have R9 := hid (R8.out.put 1 (.slice A8 (cc + 1) c8))
                  have K9 := hid (K8.out.trans ks)
                  clear ks
                  go_simp
                  generalize w8.setCell ⟨q, 1, none⟩ (.slice A8 (cc + 1) c8) = wz at R9 K9 ⊢
                  refine hK.out _ _ (HRD.out _ K9.out) (fun hS => ?_)
                  clear hK K hS c0 f0
                  simp only [List.setIfInBounds_toArray, List.set_cons_zero, List.set_cons_succ]
                  refine wpAnyH_done (by kernel_rfl) ?_ _
                  have UF := hid (And.intro (U7.out.1.kp ((KW9.out.all (S := fun i => i = q ∨ w6.heap.size ≤ i)).trans K9.out) (by have h6 := HZ6.out; show ¬ (ub = q ∨ w6.heap.size ≤ ub); omega)) U7.out.2)
                  have RF := hid (show GZ 8 53 tc (fun i => i = q ∨ i = ub) w6 wz q 25 #[.slice Ag k cg, .slice A8 (cc + 1) c8] (.slice A8 (cc + 1) c8) ((srtT ts).take (cc + 1)) by rw [HSP.out]; simpa using R9.out)
                  have cz := RF.out.bx.cell 1
                  simp only [List.getElem?_toArray, List.getElem?_cons_zero, List.getElem?_cons_succ] at cz
                  have CZ := hid (show lenAt wz q 1 = cc + 1 by unfold lenAt; rw [cz]; rfl)
                  clear cz
                  go_wp2_with fail
                  go_roundw
                  case rel => exact ⟨cc + 1, _, _, by omega, RF, UF⟩
                  case measure =>
                  have h1 := CZ.out
                  have h2 : lenAt wa q 1 = cc := by
                    have := G.out.bx.cell 1
                    simp only [List.getElem?_toArray, List.getElem?_cons_zero, List.getElem?_cons_succ] at this
                    unfold lenAt
                    rw [this]
                    rfl
                  omega
                · simp only [List.getElem_toArray, List.getElem_cons_zero, List.getElem_cons_succ]
                  go_simp
                  have uO := Blk.new W 53 #[.int .i64 x0.id, .int .i64 x0.gr, .int .i64 x0.wt, .int .u64 x0.co, .bool x0.sl, .int .i64 x0.ra, .int .i64 x0.lv, .int .i64 x0.lr]
                  have kO := (Kp.refl No W).alloc (.cells #[.int .i64 x0.id, .int .i64 x0.gr, .int .i64 x0.wt, .int .u64 x0.co, .bool x0.sl, .int .i64 x0.ra, .int .i64 x0.lv, .int .i64 x0.lr] 53)
                  generalize W.alloc (.cells #[.int .i64 x0.id, .int .i64 x0.gr, .int .i64 x0.wt, .int .u64 x0.co, .bool x0.sl, .int .i64 x0.ra, .int .i64 x0.lv, .int .i64 x0.lr] 53) = wO19 at uO kO ⊢
                  have K119 := hid (K1.out.trans kO.all)
                  have R119 := hid (R1.out.kp0 kO)
                  have U119 := hid uO
                  clear uO kO
                  refine hK.out _ _ (HRD.out _ K119.out) (fun hS => ?_)
                  clear hK K hS
                  simp only [List.setIfInBounds_toArray, List.set_cons_zero, List.set_cons_succ]
                  refine wpAnyH_ready (rs := [1]) (by kernel_rfl) (by simp) (AllReadyH.cons rfl (fun K hK => ?_) AllReadyH.nil)
                  simp only [List.getElem_toArray, List.getElem_cons_zero, List.getElem_cons_succ]
                  have c0 := R119.out.bx.cell 1
                  simp only [List.getElem?_toArray, List.getElem?_cons_zero, List.getElem?_cons_succ] at c0
                  go_simp
                  refine hK.out _ _ (HRD.out _ K119.out) (fun hS => ?_)
                  clear hK K hS c0
                  simp only [List.setIfInBounds_toArray, List.set_cons_zero, List.set_cons_succ]
                  refine wpAnyH_ready (rs := [8]) (by kernel_rfl) (by simp) (AllReadyH.cons rfl (fun K hK => ?_) AllReadyH.nil)
                  refine step_app1 usT tc_one (by rfl) (.tmp 95) (.tmp 101) (by rfl) (base := w6.heap.size) (xs := (srtT ts).take cc) (y := x0) (by rfl) (by exact R119.out.ow) (by rfl) (fun i hi => by
                      have hb := U119.out
                      match i, hi with
                      | 0, _ => exact hb.cell 0
                      | 1, _ => exact hb.cell 1
                      | 2, _ => exact hb.cell 2
                      | 3, _ => exact hb.cell 3
                      | 4, _ => exact hb.cell 4
                      | 5, _ => exact hb.cell 5
                      | 6, _ => exact hb.cell 6
                      | 7, _ => exact hb.cell 7) (by rw [HLEN.out]; omega) (by rw [HLEN.out]; simp only [maxLen]; omega) (by exact R119.out.kp.size) ?_
                  intro v8 w8 o8 q8 p8
                  have k8 : Kp (fun i => i = q ∨ w6.heap.size ≤ i) wO19 w8 := (Kp.refl _ wO19).grown q8 fun i hi => .inl (.inr (R119.out.ow.blk hi).1)
                  have K8 := hid (K119.out.trans k8)
                  obtain ⟨A8, c8, rfl⟩ := o8.formN (m := cc + 1) (by rw [List.length_append, HLEN.out]; rfl)
                  have R8 := hid (R119.out.app o8 q8)
                  clear k8 q8 p8 o8
                  refine hK.out _ _ (HRD.out _ K8.out) (fun hS => ?_)
                  clear hK K
                  simp only [List.setIfInBounds_toArray, List.set_cons_zero, List.set_cons_succ, Act.put]
                  refine wpAnyH_take (i := 9) (v := .pointer (some ⟨q, 1, none⟩)) rfl (by kernel_rfl) (by kernel_rfl) (by kernel_rfl) (fun _ _ _ h => h) (Or.inl ⟨by rfl, ?_⟩) hS ?_
                  · (intro w6 hS6; obtain ⟨z0, z1, z2, z3, z4, z5, z6, z7, z8⟩ := hS6; go_simp)
                  simp only [List.getElem_toArray, List.getElem_cons_zero, List.getElem_cons_succ, Act.put, List.setIfInBounds_toArray, List.set_cons_zero, List.set_cons_succ]
                  clear hS
                  refine wpAnyH_ready (rs := [10]) (by kernel_rfl) (by simp) (AllReadyH.cons rfl (fun K hK => ?_) AllReadyH.nil)
                  simp only [List.getElem_toArray, List.getElem_cons_zero, List.getElem_cons_succ]
                  have c0 := R8.out.bx.cell 1
                  have f0 : w8.frozen? ⟨q, 1, none⟩ = false := R8.out.bx.frozen 1
                  simp only [List.getElem?_toArray, List.getElem?_cons_zero, List.getElem?_cons_succ] at c0
                  have ks := (Kp.set1 (q) 1 w8 (.slice A8 (cc + 1) c8)).mono (T := fun i => i = q ∨ w6.heap.size ≤ i) fun i _ e => by have e : i = q := e; exact .inl e
                  have R9 := hid (R8.out.put 1 (.slice A8 (cc + 1) c8))
                  have K9 := hid (K8.out.trans ks)
                  clear ks
                  go_simp
                  generalize w8.setCell ⟨q, 1, none⟩ (.slice A8 (cc + 1) c8) = wz at R9 K9 ⊢
                  refine hK.out _ _ (HRD.out _ K9.out) (fun hS => ?_)
                  clear hK K hS c0 f0
                  simp only [List.setIfInBounds_toArray, List.set_cons_zero, List.set_cons_succ]
                  refine wpAnyH_done (by kernel_rfl) ?_ _
                  have UF := hid (And.intro (U7.out.1.kp ((KW9.out.all (S := fun i => i = q ∨ w6.heap.size ≤ i)).trans K9.out) (by have h6 := HZ6.out; show ¬ (ub = q ∨ w6.heap.size ≤ ub); omega)) U7.out.2)
                  have RF := hid (show GZ 8 53 tc (fun i => i = q ∨ i = ub) w6 wz q 25 #[.slice Ag k cg, .slice A8 (cc + 1) c8] (.slice A8 (cc + 1) c8) ((srtT ts).take (cc + 1)) by rw [HSP.out]; simpa using R9.out)
                  have cz := RF.out.bx.cell 1
                  simp only [List.getElem?_toArray, List.getElem?_cons_zero, List.getElem?_cons_succ] at cz
                  have CZ := hid (show lenAt wz q 1 = cc + 1 by unfold lenAt; rw [cz]; rfl)
                  clear cz
                  go_wp2_with fail
                  go_roundw
                  case rel => exact ⟨cc + 1, _, _, by omega, RF, UF⟩
                  case measure =>
                  have h1 := CZ.out
                  have h2 : lenAt wa q 1 = cc := by
                    have := G.out.bx.cell 1
                    simp only [List.getElem?_toArray, List.getElem?_cons_zero, List.getElem?_cons_succ] at this
                    unfold lenAt
                    rw [this]
                    rfl
                  omega
          · have hkk2 : cc = m := by omega
            subst hkk2
            have hng2 : ¬ (cc : Int) < (cc : Int) := by omega
            have g := G.out
            rw [List.take_of_length_le (by rw [hsl]; omega)] at g
            have RW := RB6.out.kp g.kp (by show ¬ (w.heap.size + 1 = q ∨ w.heap.size + 1 = ub); omega)
            have r0 := RW.cell 0
            have r1 := RW.cell 1
            have f0 : wa.frozen? ⟨w.heap.size + 1, 0, none⟩ = false := RW.frozen 0
            have f1 : wa.frozen? ⟨w.heap.size + 1, 1, none⟩ = false := RW.frozen 1
            simp only [List.getElem?_toArray, List.getElem?_cons_zero, List.getElem?_cons_succ] at r0 r1
            have FG := hid g
            go_wp2
            have fin : ∀ W, Kp (Only (w.heap.size + 1)) wa W → Ow W w.heap.size 45 6 gc (.slice Ag k cg) ord ∧ Ow W w.heap.size 53 8 tc (.slice A5 cc c5) (srtT ts) ∧ Kp No w W := fun W kW => by
              have hz6 := HZ6.out
              refine ⟨(((OG6.out.kpx FG.out.kp fun i hi e => by have h1 := HBO.out i hi; have e : i = q ∨ i = ub := e; omega).lower (base' := w.heap.size) (by omega)).kpx kW fun i hi e => by have h1 := HBO.out i hi; have e : i = w.heap.size + 1 := e; omega), ((FG.out.ow.kpx kW fun i hi e => by have h1 := (FG.out.ow.blk hi).1; have e : i = w.heap.size + 1 := e; omega).lower (by omega)), (K06.out.step FG.out.kp fun i hi e => by have e : i = q ∨ i = ub := e; omega).step kW fun i hi e => by have e : i = w.heap.size + 1 := e; omega⟩
            refine bodyPost_ret (v := .agg #[.slice Ag k cg, .slice A5 cc c5]) ?_ rfl ⟨_, _, rfl, fin _ ?_⟩
            · rw [results_cell rfl]
              go_simp
            exact ((Kp.refl (Only (w.heap.size + 1)) wa).setCell (p := ⟨w.heap.size + 1, 0, none⟩) (.inl rfl) _).setCell (p := ⟨w.heap.size + 1, 1, none⟩) (.inl rfl) _
end
end Go.Proofs.YtggmdgdgljlddaaGreatDoor
