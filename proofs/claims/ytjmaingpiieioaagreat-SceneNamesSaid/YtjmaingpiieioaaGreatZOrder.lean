/-
  Contracts of Order and Tall.
-/
import Derived.Test.YtjmaingpiieioaaGreatZUnderW
namespace Go.Proofs.YtjmaingpiieioaaGreat
open Go.RowKit Go.Shelf

/-- A scene that came in: its groups and tasks. -/
def Sn (w : World) (P : Nat → Prop) (v : Value) (gs : List GS) (ts : List TS) : Prop := ∃ vg vt, v = .agg #[vg, vt] ∧ Rw 6 gc gs0 w P vg gs ∧ Rw 8 tc ts0 w P vt ts
theorem Sn.kp {w w' : World} {P S : Nat → Prop} {v : Value} {gs : List GS} {ts : List TS} (h : Sn w P v gs ts) (k : Kp S w w') (hn : ∀ i, i < w.heap.size → P i → ¬ S i) : Sn w' P v gs ts := by
  obtain ⟨vg, vt, rfl, h1, h2⟩ := h
  exact ⟨vg, vt, rfl, h1.kp k hn, h2.kp k hn⟩
theorem Sn.kp0 {w w' : World} {P : Nat → Prop} {v : Value} {gs : List GS} {ts : List TS} (h : Sn w P v gs ts) (k : Kp No w w') : Sn w' P v gs ts := h.kp k fun _ _ _ h => h
/-- What Order has gathered so far, in its own variable. -/
structure OI (w : World) (ob : Nat) (O : Nat → Prop) (seen : List Pl) (sv : Value) (W : World) : Prop where
  kp : Kp No w W
  bx : Blk W ob 25 #[sv, .slice none 0 0]
  ow : Ow W w.heap.size 51 6 gc sv (seen.map (·.1))
  ne : sv.ownBlock ≠ some ob
  no : ¬ O ob
  on : ∀ i, sv.ownBlock = some i → ¬ O i
  ol : ∀ k, O k → w.heap.size ≤ k ∧ k < W.heap.size
  lo : w.heap.size ≤ ob
theorem OI.ab {w : World} {ob : Nat} : AbO (fun O (seen : List Pl) W => ∃ sv, OI w ob O seen sv W) := by
  rintro O O' s W W' ⟨sv, h⟩ hk ho
  have hs := hk.size
  refine ⟨sv, h.kp.step hk (fun i hi e => by have := (h.ol i e).1; omega), h.bx.kp hk h.no, h.ow.kpx hk h.on, h.ne, fun e => ?_, fun i hi e => ?_, fun k e => ?_, h.lo⟩
  · rcases ho _ e with e | e
    · exact h.no e
    · have := h.bx.lt
      omega
  · rcases ho _ e with e | e
    · exact h.on i hi e
    · have := (h.ow.blk hi).2.1
      omega
  · rcases ho _ e with e | e
    · have := h.ol k e
      omega
    · have := h.kp.size
      omega
set_option maxRecDepth 100000 in
set_option maxHeartbeats 1000000 in
theorem order1_see (w : World) (ob : Nat) (all : List Pl) (hall : all.length ≤ 1000001) : See 39 #[.pointer (some ⟨ob, 0, none⟩)] (fun O seen W => ∃ sv, OI w ob O seen sv W) all := by
  rintro O pre ⟨g, d⟩ rest W hx ⟨sv, h⟩
  have hpl : pre.length + 1 ≤ 1000001 := by
    have := congrArg List.length hx
    simp at this
    omega
  have H := hid h
  have hob := h.bx.lt
  have k01 := (Kp.refl No W).alloc (.cells #[.int .i64 g.id, .int .i64 g.par, .int .i64 g.wt, .int .i64 g.pd, .int .i64 g.qt, .int .i64 g.us, .int .i64 (d : Int)] 61)
  have hz1 := World.size_alloc W (.cells #[.int .i64 g.id, .int .i64 g.par, .int .i64 g.wt, .int .i64 g.pd, .int .i64 g.qt, .int .i64 g.us, .int .i64 (d : Int)] 61)
  have x1 := Blk.new W 61 #[.int .i64 g.id, .int .i64 g.par, .int .i64 g.wt, .int .i64 g.pd, .int .i64 g.qt, .int .i64 g.us, .int .i64 (d : Int)]
  obtain ⟨M, hM⟩ : ∃ M, (pre.map (·.1)).length = M := ⟨_, rfl⟩
  have HM := hid hM
  have hMl : M + 1 ≤ 1000001 := by rw [← hM, List.length_map]; exact hpl
  clear h hx hM hpl
  show Calls _ _ #[.agg #[.int .i64 g.id, .int .i64 g.par, .int .i64 g.wt, .int .i64 g.pd, .int .i64 g.qt, .int .i64 g.us, .int .i64 (d : Int)], .pointer (some ⟨ob, 0, none⟩)] W _
  go_enter Tryz.func39, Tryz.ntmps39
  go_upto_region 1 with fail
  obtain ⟨W1, hW1⟩ : ∃ W1, W.alloc (.cells #[.int .i64 g.id, .int .i64 g.par, .int .i64 g.wt, .int .i64 g.pd, .int .i64 g.qt, .int .i64 g.us, .int .i64 (d : Int)] 61) = W1 := ⟨_, rfl⟩
  rw [hW1] at k01 hz1 x1 ⊢
  obtain ⟨xb, hxb⟩ : ∃ xb, W.heap.size = xb := ⟨_, rfl⟩
  rw [hxb] at hz1 x1 ⊢
  have HXB := hid hxb
  have b1 := H.out.bx.kp0 k01
  have hb0 := b1.cell 0
  have x10 := x1.cell 0
  have x11 := x1.cell 1
  have x12 := x1.cell 2
  have x13 := x1.cell 3
  have x14 := x1.cell 4
  have x15 := x1.cell 5
  simp only [List.getElem?_toArray, List.getElem?_cons_zero, List.getElem?_cons_succ] at hb0 x10 x11 x12 x13 x14 x15
  have k12 := k01.alloc (.cells #[.int .i64 g.id, .int .i64 g.par, .int .i64 g.wt, .int .i64 g.pd, .int .i64 g.qt, .int .i64 g.us] 51)
  have z2 := Blk.new W1 51 #[.int .i64 g.id, .int .i64 g.par, .int .i64 g.wt, .int .i64 g.pd, .int .i64 g.qt, .int .i64 g.us]
  have hz2 := World.size_alloc W1 (.cells #[.int .i64 g.id, .int .i64 g.par, .int .i64 g.wt, .int .i64 g.pd, .int .i64 g.qt, .int .i64 g.us] 51)
  rw [hz1] at z2 hz2
  have Z2 := hid z2
  have K2 := hid k12
  clear hW1 hxb k01 x1 b1 z2 k12
  go_wp2_with (first
    | (at_builtin
       refine wp_app1 usG gc_one rfl (.tmp 4) (.tmp 7) rfl (base := w.heap.size) (y := g) (by exact H.out.ow.kp0 K2.out) rfl (by
         intro i hi
         match i, hi with
         | 0, _ => exact Z2.out.cell 0
         | 1, _ => exact Z2.out.cell 1
         | 2, _ => exact Z2.out.cell 2
         | 3, _ => exact Z2.out.cell 3
         | 4, _ => exact Z2.out.cell 4
         | 5, _ => exact Z2.out.cell 5) (by rw [HM.out]; omega) (by rw [HM.out]; simp only [maxLen]; omega) (by have h1 := H.out.kp.size; have h2 := K2.out.size; omega) ?_
       intro v8 w8 o8 k8 p8
       have kB := (Kp.refl (fun i => sv.ownBlock = some i) _).grown k8 fun k hk => .inl hk
       have b8 := (H.out.bx.kp0 K2.out).kp kB fun e => H.out.ne e
       have f8 : w8.frozen? ⟨ob, 0, none⟩ = false := b8.frozen 0
       have c8 := b8.cell 0
       simp only [List.getElem?_toArray, List.getElem?_cons_zero] at c8
       have B8 := hid b8
       have O8 := hid o8
       have KB := hid kB
       have P8 := hid p8
       obtain ⟨A8, q8, rfl⟩ := o8.formN (m := M + 1) (by rw [List.length_append, HM.out]; rfl)
       clear o8 k8 p8 b8 kB))
  go_end0
  have kS := Kp.set1 ob 0 w8 (.slice A8 (M + 1) q8)
  have hz8 := KB.out.size
  have hk2 := K2.out.size
  have hne : (Value.slice A8 (M + 1) q8).ownBlock ≠ some ob := fun e => by
    rcases P8.out with p | p
    · exact H.out.ne (p ▸ e)
    · rw [p] at e
      injection e with e
      omega
  have kT : Kp (fun i => i = ob ∨ sv.ownBlock = some i) W (w8.setCell ⟨ob, 0, none⟩ (.slice A8 (M + 1) q8)) := ((K2.out.all).trans (KB.out.mono fun i _ e => .inr e)).trans (kS.mono fun i _ e => .inl e)
  refine ⟨⟨_, rfl⟩, ⟨_, H.out.kp.step kT (fun i hi e => ?_), B8.out.put 0 _, ?_, hne, H.out.no, fun i hi e => ?_, fun k hk => ?_, H.out.lo⟩, kT.mono fun i _ e => ?_⟩
  · rcases e with e | e
    · have := H.out.lo
      omega
    · have := (H.out.ow.blk e).1
      omega
  · rw [List.map_append]
    exact O8.out.kpx kS fun i hi e => hne (by rw [hi]; exact congrArg some e)
  · rcases P8.out with p | p
    · exact H.out.on i (p ▸ hi) e
    · rw [p] at hi
      injection hi with hi
      have := (H.out.ol i e).2
      have := HXB.out
      omega
  · have := H.out.ol k hk
    have := kT.size
    omega
  · rcases e with e | e
    · exact fun h => H.out.no (e ▸ h)
    · exact fun h => H.out.on i e h
set_option maxRecDepth 100000 in
set_option maxHeartbeats 2000000 in
theorem order_any {w : World} {P : Nat → Prop} {v : Value} {gs : List GS} {ts : List TS} (h : Sn w P v gs ts) (hl : gs.length ≤ 1000000) (hlt : ts.length ≤ 1000000) (hp : ∀ g ∈ gs, I64 g.id ∧ I64 g.par) (hnd : (gs.map (·.id)).Nodup) (hndt : (ts.map (·.id)).Nodup) :
    Calls Tryz.prog 22 #[v] w fun e w' => ∃ ug ut, e = .returned (.agg #[ug, ut]) ∧ Ow w' w.heap.size 51 6 gc ug (orderG gs) ∧ Ow w' w.heap.size 46 8 tc ut (srtT ts) ∧ Kp No w w' := by
  obtain ⟨vg, vt, rfl, hg, ht⟩ := h
  have hall : (visits gs).length ≤ 1000001 := by
    cases gs with
    | nil => simp [visits]
    | cons g0 tl =>
      have := (visits_is hnd).2.2.2
      simp at hl
      omega
  have hvt : vt.oneCell' = true := by
    obtain ⟨A, c, rfl, _⟩ := ht
    rfl
  have k1 := (Kp.refl No w).alloc (.cells #[vg, vt] 25)
  have b1 := Blk.new w 25 #[vg, vt]
  have z1 := World.size_alloc w (.cells #[vg, vt] 25)
  obtain ⟨w1, hw1⟩ : ∃ w1, w.alloc (.cells #[vg, vt] 25) = w1 := ⟨_, rfl⟩
  have k2 := (Kp.refl No w1).alloc (.cells #[.slice none 0 0, .slice none 0 0] 25)
  have b2 := Blk.new w1 25 #[.slice none 0 0, .slice none 0 0]
  have z2 := World.size_alloc w1 (.cells #[.slice none 0 0, .slice none 0 0] 25)
  rw [hw1] at k1 b1 z1
  rw [z1] at b2 z2
  obtain ⟨w2, hw2⟩ : ∃ w2, w1.alloc (.cells #[.slice none 0 0, .slice none 0 0] 25) = w2 := ⟨_, rfl⟩
  rw [hw2] at k2 b2 z2
  have k3 := (Kp.refl No w2).alloc (.cells #[.slice none 0 0, .slice none 0 0] 25)
  have b3 := Blk.new w2 25 #[.slice none 0 0, .slice none 0 0]
  have z3 := World.size_alloc w2 (.cells #[.slice none 0 0, .slice none 0 0] 25)
  rw [z2] at b3 z3
  obtain ⟨w3, hw3⟩ : ∃ w3, w2.alloc (.cells #[.slice none 0 0, .slice none 0 0] 25) = w3 := ⟨_, rfl⟩
  rw [hw3] at k3 b3 z3
  have K3 := hid ((k1.trans k2).trans k3)
  have B1 := hid ((b1.kp0 k2).kp0 k3)
  have B2 := hid (b2.kp0 k3)
  have HG := hid (((hg.kp0 k1).kp0 k2).kp0 k3)
  have HT0 := hid ((ht.kp0 k1).kp0 k2)
  have I3 := hid (show OI w2 (w.heap.size + 1 + 1) No [] (.slice none 0 0) w3 from ⟨k3, b3, Ow.nil _ _ _ _ _, (fun e => by cases e), (fun e => e), (fun i e => by cases e), (fun k e => e.elim), by omega⟩)
  have K2 := hid (k1.trans k2)
  have C1 := hid (b1.kp0 k2)
  have C2 := hid b2
  have Z2 := hid z2
  have HU := hid (under_any (gf := 39) (lb := #[.pointer (some ⟨w.heap.size + 1 + 1, 0, none⟩)]) HG.out hl hp hnd OI.ab ⟨_, I3.out⟩ (order1_see w2 (w.heap.size + 1 + 1) _ hall) (enters_of Tryz.func39 (by kernel_rfl) rfl))
  have HNT := hid hndt
  have HLT := hid hlt
  have EGT := hid (show ∀ args w, (callFunc 64 args).run Tryz.prog w = .ok (.enter 64 args) w from enters_of Tryz.func64 (by kernel_rfl) rfl)
  have s0 := B1.out.cell 0
  simp only [List.getElem?_toArray, List.getElem?_cons_zero] at s0
  clear k1 k2 k3 b1 b2 b3 hg ht hall hp hnd hndt hl hlt
  go_enter Tryz.func22, Tryz.ntmps22
  go_upto_region 2 with fail
  clear hw1 hw2 hw3
  go_wp2_with (first
    | (go_at_call 34
       refine HU.out.mono ?_
       rintro e w4 ⟨⟨r, rfl⟩, O, ⟨sv, i4⟩, o4⟩
       obtain ⟨ng, hng⟩ : ∃ ng, ((visits gs).map (·.1)).length = ng := ⟨_, rfl⟩
       obtain ⟨As, cs, rfl⟩ := i4.ow.formN hng
       have I4 := hid i4
       have D1 := hid (C1.out.kp0 i4.kp)
       have D2 := hid (C2.out.kp0 i4.kp)
       have K4 := hid (K2.out.trans i4.kp)
       have z4 := i4.bx.lt
       have s1 := D1.out.cell 1
       simp only [List.getElem?_toArray, List.getElem?_cons_zero, List.getElem?_cons_succ] at s1
       have ht4 := HT0.out.kp0 i4.kp
       obtain ⟨b, hb, sq⟩ := ht4.seqT (by have := HLT.out; omega)
       have SQ := hid sq
       have HBB := hid hb
       have k45 := (Kp.refl No w4).alloc (.cells #[vt] 23)
       have z45 := World.size_alloc w4 (.cells #[vt] 23)
       have K45 := hid k45
       clear i4 ht4 hb sq k45 hng)
    | (go_at_call 41
       refine (valuesT_any vt hvt w4).mono ?_
       rintro e w5 ⟨rfl, rfl⟩)
    | (go_at_call 40
       refine (sortedfT_any SQ.out EGT.out (fun k hk => by have := HBB.out; rw [z45]; rcases hk with rfl | rfl <;> omega) (by have := HLT.out; omega)).mono ?_
       rintro e w6 ⟨ut, zs, rfl, o6, p6, q6, k6⟩
       obtain ⟨nz, hnz⟩ : ∃ nz, zs.length = nz := ⟨_, rfl⟩
       obtain ⟨Au, cu, rfl⟩ := o6.formN hnz
       have k46 := K45.out.trans k6
       have I6 := hid (show OI w2 (w.heap.size + 1 + 1) No (visits gs) (.slice As ng cs) w6 from ⟨I4.out.kp.trans k46, I4.out.bx.kp0 k46, I4.out.ow.kp0 k46, I4.out.ne, (fun e => e), (fun i e h => h), (fun k e => e.elim), I4.out.lo⟩)
       have O6 := hid o6
       have E6 := hid (rising HNT.out p6 q6)
       have c6 := I6.out.bx.cell 0
       have f60 := I6.out.bx.frozen 0
       have f61 := I6.out.bx.frozen 1
       have c61 := I6.out.bx.cell 1
       have KS := Kp.set1 (w.heap.size + 1 + 1) 1 w6 (.slice Au nz cu)
       have B7 := I6.out.bx.put 1 (.slice Au nz cu)
       have NU := hid (show ∀ i, (Value.slice Au nz cu).ownBlock = some i → w4.heap.size + 1 ≤ i from fun i hi => by rw [← z45]; exact (o6.blk hi).1)
       have D7 := (D2.out.kp0 k46).kp KS (by show ¬ (w.heap.size + 1 = w.heap.size + 1 + 1); omega)
       have r70 := D7.cell 0
       have r71 := D7.cell 1
       have g70 := D7.frozen 0
       have g71 := D7.frozen 1
       have b70 := B7.cell 0
       have b71 := B7.cell 1
       simp only [List.getElem?_toArray, List.getElem?_cons_zero, List.getElem?_cons_succ, List.setIfInBounds_toArray, List.set_cons_zero, List.set_cons_succ] at c6 c61 r70 r71 b70 b71
       have K46 := hid k46
       clear o6 p6 q6 k6 k46 KS B7 D7 hnz))
  have kS := Kp.set1 (w.heap.size + 1 + 1) 1 w6 (.slice Au nz cu)
  have hns : ∀ i, (Value.slice As ng cs).ownBlock = some i → w.heap.size + 1 + 1 < i := fun i hi => by
    have h1 := (I6.out.ow.blk hi).1
    have h2 := Z2.out
    have h3 := I6.out.ne
    rw [hi] at h3
    have : i ≠ w.heap.size + 1 + 1 := fun e => h3 (congrArg some e)
    omega
  have hnu : ∀ i, (Value.slice Au nz cu).ownBlock = some i → w.heap.size + 1 + 1 < i := fun i hi => by
    have h1 := NU.out i hi
    omega
  have fin : ∀ W, Kp (fun i => i = w.heap.size + 1 + 1 ∨ i = w.heap.size + 1) w6 W → Ow W w.heap.size 51 6 gc (.slice As ng cs) (orderG gs) ∧ Ow W w.heap.size 46 8 tc (.slice Au nz cu) (srtT ts) ∧ Kp No w W := fun W k => by
    have h2 := Z2.out
    refine ⟨(I6.out.ow.lower (by omega)).kpx k fun i hi e => by have := hns i hi; omega, ?_, ((K2.out.trans I6.out.kp).step k fun i hi e => by omega)⟩
    rw [← E6.out]
    exact (O6.out.lower (by rw [z45]; omega)).kpx k fun i hi e => by have := hnu i hi; omega
  refine bodyPost_ret (v := .agg #[.slice As ng cs, .slice Au nz cu]) ?_ rfl ⟨_, _, rfl, fin _ ?_⟩
  · rw [results_cell rfl]
    go_simp
  exact ((kS.mono fun i _ e => .inl e).setCell (p := ⟨w.heap.size + 1, 0, none⟩) (.inl (.inr rfl)) _).setCell (p := ⟨w.heap.size + 1, 1, none⟩) (.inl (.inr rfl)) _
end Go.Proofs.YtjmaingpiieioaaGreat
