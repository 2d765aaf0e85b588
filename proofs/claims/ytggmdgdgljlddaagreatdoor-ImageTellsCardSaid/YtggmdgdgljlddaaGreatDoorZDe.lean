/-
  What is gathered behind a pointer; contract of the document's tree.
-/
import Derived.Test.YtggmdgdgljlddaaGreatDoorZDd
import Derived.Laws.MakeOwn
import Derived.Deep.RegionHeld3
namespace Go.Proofs.YtggmdgdgljlddaaGreatDoor
open Go.RowKit Go.Shelf

theorem step_callx {P : Program} {ops : Array Oper} {o : Oper} {a : Act} {w : World} {K : Act → World → Prop} {Q : Exit → Act → World → Prop} {E : Prop} {f : FuncId} {args : Array Value} {R : Value → World → Prop} (hgd : o.guard = none)
    (hr : (execOp a.eval o).run P w = .ok (.enter f args) w) (hc : Calls P f args w fun e w' => ∃ v, e = .returned v ∧ R v w') (h : ∀ v w', R v w' → K (a.put o.dst v) w') : if Region.wanted o (yielded ops a.tmps) = true then Oper.wp P o a w K Q else E := by
  have hw : Region.wanted o (yielded ops a.tmps) = true := by simp [Region.wanted, hgd]
  rw [if_pos hw]
  unfold Oper.wp
  rw [hr]
  simp only [Oper.upon]
  refine Calls.mono hc fun e w' ⟨v, he, hR⟩ => ?_
  subst he
  exact h v w' hR
/-- What is gathered in a row of the call's own, told by the cells of a block; other blocks X are written, too. -/
structure GZ {α : Type} (n : Nat) (te : TypeId) (f : α → Nat → Value) (X : Nat → Prop) (w0 w : World) (q : Nat) (t : TypeId) (cs : Array Value) (v : Value) (l : List α) : Prop where
  kp : Kp X w0 w
  bx : Blk w q t cs
  ow : Ow w w0.heap.size te n f v l
  xq : X q
  xl : ∀ i, X i → i < w0.heap.size
section
variable {α : Type} {n : Nat} {te t : TypeId} {f : α → Nat → Value} {X : Nat → Prop} {w0 w w' : World} {q : Nat} {cs : Array Value} {v v' : Value} {l l' : List α}
theorem GZ.kp0 (h : GZ n te f X w0 w q t cs v l) (k : Kp No w w') : GZ n te f X w0 w' q t cs v l := ⟨h.kp.step k fun _ _ e => e.elim, h.bx.kp0 k, h.ow.kp0 k, h.xq, h.xl⟩
theorem GZ.kpo (h : GZ n te f X w0 w q t cs v l) {S : Nat → Prop} (k : Kp S w w') (hs : ∀ i, S i → X i ∧ i ≠ q) : GZ n te f X w0 w' q t cs v l :=
  ⟨h.kp.step k fun i _ e => (hs i e).1, h.bx.kp k fun e => (hs q e).2 rfl, h.ow.kp k fun i hi e => by have := h.xl i (hs i e).1; omega, h.xq, h.xl⟩
theorem GZ.app (h : GZ n te f X w0 w q t cs v l) (o : Ow w' w0.heap.size te n f v' l') (k : w.grownBy w' v.ownBlock) : GZ n te f X w0 w' q t cs v' l' := by
  have kA := (Kp.refl (fun i => v.ownBlock = some i) _).grown k fun k hk => .inl hk
  have hb : ∀ i, v.ownBlock = some i → w0.heap.size ≤ i := fun i hi => (h.ow.blk hi).1
  exact ⟨h.kp.step kA fun i hi e => by have := hb i e; omega, h.bx.kp kA fun e => by have := hb q e; have := h.xl q h.xq; omega, o, h.xq, h.xl⟩
theorem GZ.put (h : GZ n te f X w0 w q t cs v l) (j : Nat) (u : Value) : GZ n te f X w0 (w.setCell ⟨q, j, none⟩ u) q t (cs.setIfInBounds j u) v l :=
  ⟨h.kp.step (Kp.set1 q j w u) fun i _ e => by have e : i = q := e; rw [e]; exact h.xq, h.bx.put j u, h.ow.kp (Kp.set1 q j w u) fun i hi e => by have e : i = q := e; have := h.xl q h.xq; omega, h.xq, h.xl⟩
end
/-- Four cells below r stay. -/
def KQ (r : Nat) (p1 p2 p3 p4 : Addr) (w : World) : Prop := p1.block < r ∧ p2.block < r ∧ p3.block < r ∧ p4.block < r ∧ r ≤ w.heap.size
theorem KQ.step {w w' : World} {r : Nat} {p1 p2 p3 p4 : Addr} {v1 v2 v3 v4 : Value} (h : w.cell? p1 = some v1 ∧ w.cell? p2 = some v2 ∧ w.cell? p3 = some v3 ∧ w.cell? p4 = some v4 ∧ KQ r p1 p2 p3 p4 w) (k : Kp (fun i => r ≤ i) w w') : w'.cell? p1 = some v1 ∧ w'.cell? p2 = some v2 ∧ w'.cell? p3 = some v3 ∧ w'.cell? p4 = some v4 ∧ KQ r p1 p2 p3 p4 w' := by
  obtain ⟨h1, h2, h3, h4, g1, g2, g3, g4, g5⟩ := h
  refine ⟨?_, ?_, ?_, ?_, g1, g2, g3, g4, Nat.le_trans g5 k.size⟩
  · rw [k.cell (by omega) (by show ¬ r ≤ p1.block; omega)]; exact h1
  · rw [k.cell (by omega) (by show ¬ r ≤ p2.block; omega)]; exact h2
  · rw [k.cell (by omega) (by show ¬ r ≤ p3.block; omega)]; exact h3
  · rw [k.cell (by omega) (by show ¬ r ≤ p4.block; omega)]; exact h4
theorem Rw.thereP {α : Type} {n : Nat} {f : α → Nat → Value} {d : α} {P : Nat → Prop} {w : World} {xs : List α} {A : Option Addr} {m c : Nat} (h : Rw n f d w P (.slice A m c) xs) (h0 : 0 < xs.length) : ∃ b o, A = some ⟨b, o, none⟩ ∧ P b := by
  obtain ⟨A7, c7, e7, _, _, h7⟩ := h
  obtain ⟨b7, o7, e8, _, g8, _⟩ := h7 h0
  injection e7 with e7 _ _
  exact ⟨b7, o7, e7.trans e8, g8⟩
theorem usPz : Us Tryz.prog 155 159 2 16 (.agg #[.int .i64 0, .int .i64 0]) := ⟨by kernel_rfl, by kernel_rfl, by decide, by decide⟩

section
variable {w : World} {P : Nat → Prop} {v : Value} {gs : List GS} {ts : List TS}
set_option maxRecDepth 100000 in
set_option maxHeartbeats 1000000 in
theorem rtree_any (h : Sce w P v gs ts) (hl : gs.length ≤ 1000000) :
    Calls Tryz.prog 92 #[v] w fun e w' => e = .returned (.pointer (some ⟨w.heap.size + 1, 0, none⟩)) ∧ (∃ Pz u, RTz w' Pz (w.heap.size + 1) u (prs gs)) ∧ Kp No w w' := by
  obtain ⟨vg, vt, rfl, hg, ht⟩ := h
  have hg := hg.old
  have ht := ht.old
  have k1 := (Kp.refl No w).alloc (.cells #[vg, vt] 25)
  have b1 := Blk.new w 25 #[vg, vt]
  have z1 := World.size_alloc w (.cells #[vg, vt] 25)
  obtain ⟨w1, hw1⟩ : ∃ w1, w.alloc (.cells #[vg, vt] 25) = w1 := ⟨_, rfl⟩
  rw [hw1] at k1 b1 z1
  have K1 := hid k1
  have B1 := hid b1
  have SC := hid (show Sce w1 (fun i => i < w.heap.size) (.agg #[vg, vt]) gs ts from ⟨vg, vt, rfl, hg.kp0 k1, ht.kp0 k1⟩)
  obtain ⟨A, c, rfl, hx1, hx2, _⟩ := id hg
  obtain ⟨A2, c2, rfl, hx3, hx4, _⟩ := id ht
  have HG := hid (hg.kp0 k1)
  have HT := hid (ht.kp0 k1)
  obtain ⟨n, hn⟩ : ∃ n, gs.length = n := ⟨_, rfl⟩
  obtain ⟨m, hm⟩ : ∃ m, ts.length = m := ⟨_, rfl⟩
  rw [hn] at HG hl b1 B1 hw1 SC ⊢
  rw [hm] at HT B1 hw1 b1 SC ⊢
  have HN := hid hn
  have HM := hid hm
  have s0 := b1.cell 0
  have s1 := b1.cell 1
  simp only [List.getElem?_toArray, List.getElem?_cons_zero, List.getElem?_cons_succ] at s0 s1
  have hpl : (prs gs).length = n := by unfold prs; rw [List.length_map, hn]
  have HPL := hid hpl
  have k2 := (Kp.refl No w1).alloc (.cells #[.slice none 0 0] 157)
  have b2 := Blk.new w1 157 #[.slice none 0 0]
  have z2 := World.size_alloc w1 (.cells #[.slice none 0 0] 157)
  obtain ⟨w2, hw2⟩ : ∃ w2, w1.alloc (.cells #[.slice none 0 0] 157) = w2 := ⟨_, rfl⟩
  rw [hw2] at k2 b2 z2
  rw [z1] at b2 z2
  have B2 := hid (b1.kp0 k2)
  have HG2 := hid (HG.out.kp0 k2)
  have KT := hid (k1.trans k2)
  have I0 := hid (show GZ 2 159 pcz (fun i => i = w.heap.size + 1) w2 w2 (w.heap.size + 1) 157 #[.slice none 0 0] (.slice none 0 0) [] from ⟨Kp.refl _ _, b2, Ow.nil _ _ _ _ _, rfl, fun i e => by subst e; rw [z2]; omega⟩)
  have HZ2 := hid z2
  clear k1 b1 hg ht hn hm hx1 hx2 hx3 hx4 SC HG K1 B1 k2 b2 hpl z2 HT
  go_enter Tryz.func92, Tryz.ntmps92
  go_upto_region 2 with fail
  clear hw1 hw2
  have s0 := B2.out.cell 0
  have s1 := B2.out.cell 1
  simp only [List.getElem?_toArray, List.getElem?_cons_zero, List.getElem?_cons_succ] at s0 s1
  go_wp2_with fail
  go_loopw [4] (fun i wr => ∃ (k : Nat) (u : Value), k ≤ n ∧ i = .int .i64 (k : Int) ∧ Hid (GZ 2 159 pcz (fun i => i = w.heap.size + 1) w2 wr (w.heap.size + 1) 157 #[u] u ((prs gs).take k))) (fun i _ => n - (vI i).toNat)
  case atStart => exact ⟨0, _, Nat.zero_le _, rfl, I0⟩
  case round =>
    obtain ⟨k, u, hk, rfl, G⟩ := hrel
    have Bw := B2.out.kp G.out.kp (by show ¬ w.heap.size = w.heap.size + 1; omega)
    clear s0 s1
    have s0 := Bw.cell 0
    have s1 := Bw.cell 1
    simp only [List.getElem?_toArray, List.getElem?_cons_zero, List.getElem?_cons_succ] at s0 s1
    by_cases hkn : k < n
    · have hkl : k < gs.length := by rw [HN.out]; exact hkn
      have hkp : k < (prs gs).length := by rw [HPL.out]; exact hkn
      have Ov := HG2.out.kp G.out.kp (fun i _ hi e => by have hi : i < w.heap.size := hi; have e : i = w.heap.size + 1 := e; omega)
      obtain ⟨b, off, rfl, hbb⟩ := Ov.thereP (by omega)
      have HBB := hid hbb
      have q0 := Ov.cell (j := k) (i := 0) (Kp.refl No _) hkl (by omega) rfl
      have q1 := Ov.cell (j := k) (i := 1) (Kp.refl No _) hkl (by omega) rfl
      have q2 := Ov.cell (j := k) (i := 2) (Kp.refl No _) hkl (by omega) rfl
      have q3 := Ov.cell (j := k) (i := 3) (Kp.refl No _) hkl (by omega) rfl
      have q4 := Ov.cell (j := k) (i := 4) (Kp.refl No _) hkl (by omega) rfl
      have q5 := Ov.cell (j := k) (i := 5) (Kp.refl No _) hkl (by omega) rfl
      have HS := hid (take_s gs hkl gs0)
      obtain ⟨x0, hx0⟩ : ∃ x0, gs.getD k gs0 = x0 := ⟨_, rfl⟩
      rw [hx0] at q0 q1 q2 q3 q4 q5 HS
      have HX0 := hid hx0
      simp only [gc, ge, List.getD_cons_zero, List.getD_cons_succ, Nat.add_zero] at q0 q1 q2 q3 q4 q5
      simp only [← Nat.add_assoc] at q1 q2 q3 q4 q5
      have HSP := hid (take_s (prs gs) hkp (0, 0))
      have hpx : (prs gs).getD k (0, 0) = (x0.id, x0.par) := by
        rw [← hx0]
        unfold prs
        simp [List.getD, hkl]
      rw [hpx] at HSP
      have hg1 : (k : Int) < (n : Int) := by omega
      have hwk := wrapI (x := (k : Int) + 1) (by unfold I64; omega)
      have HLEN := hid (show ((prs gs).take k).length = k by rw [List.length_take, HPL.out]; omega)
      obtain ⟨A5, c5, rfl⟩ := G.out.ow.formN HLEN.out
      have hz0 := G.out.kp.size
      have HZ3 := hid (show w.heap.size + 2 ≤ wr.heap.size by have := HZ2.out; omega)
      have HQ := hid (And.intro s0 (And.intro q0 q1))
      clear Ov hx0 hpx hkp hkl Bw hz0
      go_upto_region 5 with fail
      clear s0 s1 q0 q1 q2 q3 q4 q5
      refine wp_region_any (by kernel_rfl) ?_
      show wpAny _ _ _ _ _ _ _ (World.drew wr)
      have kw := (Kp.refl No wr).drew
      generalize World.drew wr = W at kw ⊢
      have R1 := hid (G.out.kp0 kw)
      have KW9 := hid kw
      have K1 := hid (Kp.refl (fun i => w.heap.size + 1 ≤ i) W)
      have HRD := hid (fun (W2 : World) (kZ : Kp (fun i => w.heap.size + 1 ≤ i) W W2) => show (fun w' : World => w'.cell? ⟨w.heap.size, 0, none⟩ = some (.slice (some ⟨b, off, none⟩) n c) ∧ w'.cell? ⟨b, off + k * 6, none⟩ = some (.int .i64 x0.id) ∧ w'.cell? ⟨b, off + k * 6 + 1, none⟩ = some (.int .i64 x0.par)) W2 from by have hz := HZ3.out; have hb : b < w.heap.size := HBB.out; have kk := (KW9.out.all (S := fun i => w.heap.size + 1 ≤ i)).trans kZ; exact ⟨(kk.cell (p := ⟨w.heap.size, 0, none⟩) (by show w.heap.size < wr.heap.size; omega) (by show ¬ w.heap.size + 1 ≤ w.heap.size; omega)).trans HQ.out.1, (kk.cell (p := ⟨b, off + k * 6, none⟩) (by show b < wr.heap.size; omega) (by show ¬ w.heap.size + 1 ≤ b; omega)).trans HQ.out.2.1, (kk.cell (p := ⟨b, off + k * 6 + 1, none⟩) (by show b < wr.heap.size; omega) (by show ¬ w.heap.size + 1 ≤ b; omega)).trans HQ.out.2.2⟩)
      have HS5 := HRD.out W K1.out
      clear kw
      refine wpAny_of_held (S := fun w' : World => w'.cell? ⟨w.heap.size, 0, none⟩ = some (.slice (some ⟨b, off, none⟩) n c) ∧ w'.cell? ⟨b, off + k * 6, none⟩ = some (.int .i64 x0.id) ∧ w'.cell? ⟨b, off + k * 6 + 1, none⟩ = some (.int .i64 x0.par)) _ _ _ _ ?_
      simp only [List.size_toArray, List.length_cons, List.length_nil, Nat.reduceAdd, Array.replicate_succ, Array.replicate_zero, List.push_toArray, List.nil_append, List.cons_append]
      refine wpAnyH_take (i := 0) (v := .pointer (some ⟨w.heap.size + 1, 0, none⟩)) rfl (by kernel_rfl) (by kernel_rfl) (by kernel_rfl) (fun _ _ _ h => h) (Or.inl ⟨by rfl, ?_⟩) HS5 ?_
      · (intro w6 hS6; obtain ⟨z0, z1, z2⟩ := hS6; go_simp)
      simp only [List.getElem_toArray, List.getElem_cons_zero, Act.put, List.setIfInBounds_toArray, List.set_cons_zero, List.set_cons_succ]
      refine wpAnyH_take (i := 1) (v := .pointer (some ⟨w.heap.size + 1, 0, none⟩)) rfl (by kernel_rfl) (by kernel_rfl) (by kernel_rfl) (fun _ _ _ h => h) (Or.inl ⟨by rfl, ?_⟩) HS5 ?_
      · (intro w6 hS6; obtain ⟨z0, z1, z2⟩ := hS6; go_simp)
      simp only [List.getElem_toArray, List.getElem_cons_zero, List.getElem_cons_succ, Act.put, List.setIfInBounds_toArray, List.set_cons_zero, List.set_cons_succ]
      refine wpAnyH_take (i := 2) (v := .pointer (some ⟨w.heap.size + 1, 0, none⟩)) rfl (by kernel_rfl) (by kernel_rfl) (by kernel_rfl) (fun _ _ _ h => h) (Or.inl ⟨by rfl, ?_⟩) HS5 ?_
      · (intro w6 hS6; obtain ⟨z0, z1, z2⟩ := hS6; go_simp)
      simp only [List.getElem_toArray, List.getElem_cons_zero, List.getElem_cons_succ, Act.put, List.setIfInBounds_toArray, List.set_cons_zero, List.set_cons_succ]
      refine wpAnyH_take (i := 3) (v := .pointer (some ⟨w.heap.size + 1, 0, none⟩)) rfl (by kernel_rfl) (by kernel_rfl) (by kernel_rfl) (fun _ _ _ h => h) (Or.inl ⟨by rfl, ?_⟩) HS5 ?_
      · (intro w6 hS6; obtain ⟨z0, z1, z2⟩ := hS6; go_simp)
      simp only [List.getElem_toArray, List.getElem_cons_zero, List.getElem_cons_succ, Act.put, List.setIfInBounds_toArray, List.set_cons_zero, List.set_cons_succ]
      refine wpAnyH_take (i := 5) (v := .pointer (some ⟨w.heap.size, 0, none⟩)) rfl (by kernel_rfl) (by kernel_rfl) (by kernel_rfl) (fun _ _ _ h => h) (Or.inl ⟨by rfl, ?_⟩) HS5 ?_
      · (intro w6 hS6; obtain ⟨z0, z1, z2⟩ := hS6; go_simp)
      simp only [List.getElem_toArray, List.getElem_cons_zero, List.getElem_cons_succ, Act.put, List.setIfInBounds_toArray, List.set_cons_zero, List.set_cons_succ]
      refine wpAnyH_take (i := 6) (v := .slice (some ⟨b, off, none⟩) n c) rfl (by kernel_rfl) (by kernel_rfl) (by kernel_rfl) (fun _ _ _ h => h) (Or.inl ⟨by rfl, ?_⟩) HS5 ?_
      · (intro w6 hS6; obtain ⟨z0, z1, z2⟩ := hS6; go_simp)
      simp only [List.getElem_toArray, List.getElem_cons_zero, List.getElem_cons_succ, Act.put, List.setIfInBounds_toArray, List.set_cons_zero, List.set_cons_succ]
      refine wpAnyH_take (i := 7) (v := .int .i64 (k : Int)) rfl (by kernel_rfl) (by kernel_rfl) (by kernel_rfl) (fun _ _ _ h => h) (Or.inl ⟨by rfl, ?_⟩) HS5 ?_
      · (intro w6 hS6; obtain ⟨z0, z1, z2⟩ := hS6; go_simp)
      simp only [List.getElem_toArray, List.getElem_cons_zero, List.getElem_cons_succ, Act.put, List.setIfInBounds_toArray, List.set_cons_zero, List.set_cons_succ]
      refine wpAnyH_take (i := 8) (v := .pointer (some ⟨b, off + k * 6, none⟩)) rfl (by kernel_rfl) (by kernel_rfl) (by kernel_rfl) (fun _ _ _ h => h) (Or.inl ⟨by rfl, ?_⟩) HS5 ?_
      · (intro w6 hS6; obtain ⟨z0, z1, z2⟩ := hS6; go_simp)
      simp only [List.getElem_toArray, List.getElem_cons_zero, List.getElem_cons_succ, Act.put, List.setIfInBounds_toArray, List.set_cons_zero, List.set_cons_succ]
      refine wpAnyH_take (i := 9) (v := .pointer (some ⟨b, off + k * 6, none⟩)) rfl (by kernel_rfl) (by kernel_rfl) (by kernel_rfl) (fun _ _ _ h => h) (Or.inl ⟨by rfl, ?_⟩) HS5 ?_
      · (intro w6 hS6; obtain ⟨z0, z1, z2⟩ := hS6; go_simp)
      simp only [List.getElem_toArray, List.getElem_cons_zero, List.getElem_cons_succ, Act.put, List.setIfInBounds_toArray, List.set_cons_zero, List.set_cons_succ]
      refine wpAnyH_take (i := 10) (v := .int .i64 x0.id) rfl (by kernel_rfl) (by kernel_rfl) (by kernel_rfl) (fun _ _ _ h => h) (Or.inl ⟨by rfl, ?_⟩) HS5 ?_
      · (intro w6 hS6; obtain ⟨z0, z1, z2⟩ := hS6; go_simp)
      simp only [List.getElem_toArray, List.getElem_cons_zero, List.getElem_cons_succ, Act.put, List.setIfInBounds_toArray, List.set_cons_zero, List.set_cons_succ]
      refine wpAnyH_take (i := 11) (v := .pointer (some ⟨w.heap.size, 0, none⟩)) rfl (by kernel_rfl) (by kernel_rfl) (by kernel_rfl) (fun _ _ _ h => h) (Or.inl ⟨by rfl, ?_⟩) HS5 ?_
      · (intro w6 hS6; obtain ⟨z0, z1, z2⟩ := hS6; go_simp)
      simp only [List.getElem_toArray, List.getElem_cons_zero, List.getElem_cons_succ, Act.put, List.setIfInBounds_toArray, List.set_cons_zero, List.set_cons_succ]
      refine wpAnyH_take (i := 12) (v := .slice (some ⟨b, off, none⟩) n c) rfl (by kernel_rfl) (by kernel_rfl) (by kernel_rfl) (fun _ _ _ h => h) (Or.inl ⟨by rfl, ?_⟩) HS5 ?_
      · (intro w6 hS6; obtain ⟨z0, z1, z2⟩ := hS6; go_simp)
      simp only [List.getElem_toArray, List.getElem_cons_zero, List.getElem_cons_succ, Act.put, List.setIfInBounds_toArray, List.set_cons_zero, List.set_cons_succ]
      refine wpAnyH_take (i := 13) (v := .int .i64 (k : Int)) rfl (by kernel_rfl) (by kernel_rfl) (by kernel_rfl) (fun _ _ _ h => h) (Or.inl ⟨by rfl, ?_⟩) HS5 ?_
      · (intro w6 hS6; obtain ⟨z0, z1, z2⟩ := hS6; go_simp)
      simp only [List.getElem_toArray, List.getElem_cons_zero, List.getElem_cons_succ, Act.put, List.setIfInBounds_toArray, List.set_cons_zero, List.set_cons_succ]
      refine wpAnyH_take (i := 14) (v := .pointer (some ⟨b, off + k * 6, none⟩)) rfl (by kernel_rfl) (by kernel_rfl) (by kernel_rfl) (fun _ _ _ h => h) (Or.inl ⟨by rfl, ?_⟩) HS5 ?_
      · (intro w6 hS6; obtain ⟨z0, z1, z2⟩ := hS6; go_simp)
      simp only [List.getElem_toArray, List.getElem_cons_zero, List.getElem_cons_succ, Act.put, List.setIfInBounds_toArray, List.set_cons_zero, List.set_cons_succ]
      refine wpAnyH_take (i := 15) (v := .pointer (some ⟨b, off + k * 6 + 1, none⟩)) rfl (by kernel_rfl) (by kernel_rfl) (by kernel_rfl) (fun _ _ _ h => h) (Or.inl ⟨by rfl, ?_⟩) HS5 ?_
      · (intro w6 hS6; obtain ⟨z0, z1, z2⟩ := hS6; go_simp)
      simp only [List.getElem_toArray, List.getElem_cons_zero, List.getElem_cons_succ, Act.put, List.setIfInBounds_toArray, List.set_cons_zero, List.set_cons_succ]
      refine wpAnyH_take (i := 16) (v := .int .i64 x0.par) rfl (by kernel_rfl) (by kernel_rfl) (by kernel_rfl) (fun _ _ _ h => h) (Or.inl ⟨by rfl, ?_⟩) HS5 ?_
      · (intro w6 hS6; obtain ⟨z0, z1, z2⟩ := hS6; go_simp)
      simp only [List.getElem_toArray, List.getElem_cons_zero, List.getElem_cons_succ, Act.put, List.setIfInBounds_toArray, List.set_cons_zero, List.set_cons_succ]
      refine wpAnyH_take (i := 17) (v := .agg #[.int .i64 x0.id, .int .i64 x0.par]) rfl (by kernel_rfl) (by kernel_rfl) (by kernel_rfl) (fun _ _ _ h => h) (Or.inl ⟨by rfl, ?_⟩) HS5 ?_
      · (intro w6 hS6; obtain ⟨z0, z1, z2⟩ := hS6; go_simp)
      simp only [List.getElem_toArray, List.getElem_cons_zero, List.getElem_cons_succ, Act.put, List.setIfInBounds_toArray, List.set_cons_zero, List.set_cons_succ]
      clear HS5
      refine wpAnyH_ready (rs := [4, 18]) (by kernel_rfl) (by simp) (AllReadyH.cons rfl (fun K hK => ?_) (AllReadyH.cons rfl (fun K hK => ?_) AllReadyH.nil))
      · simp only [List.getElem_toArray, List.getElem_cons_zero, List.getElem_cons_succ]
        have c0 := R1.out.bx.cell 0
        simp only [List.getElem?_toArray, List.getElem?_cons_zero] at c0
        go_simp
        refine hK.out _ _ (HRD.out _ K1.out) (fun hS => ?_)
        clear hK K hS c0
        simp only [List.setIfInBounds_toArray, List.set_cons_zero, List.set_cons_succ]
        refine wpAnyH_ready (rs := [18]) (by kernel_rfl) (by simp) (AllReadyH.cons rfl (fun K hK => ?_) AllReadyH.nil)
        simp only [List.getElem_toArray, List.getElem_cons_zero, List.getElem_cons_succ]
        go_simp
        have uO := Blk.new W 159 #[.int .i64 x0.id, .int .i64 x0.par]
        have kO := (Kp.refl No W).alloc (.cells #[.int .i64 x0.id, .int .i64 x0.par] 159)
        generalize W.alloc (.cells #[.int .i64 x0.id, .int .i64 x0.par] 159) = wO2 at uO kO ⊢
        have K102 := hid (K1.out.trans kO.all)
        have R102 := hid (R1.out.kp0 kO)
        have U102 := hid uO
        clear uO kO
        refine hK.out _ _ (HRD.out _ K102.out) (fun hS => ?_)
        clear hK K hS
        simp only [List.setIfInBounds_toArray, List.set_cons_zero, List.set_cons_succ]
        refine wpAnyH_ready (rs := [19]) (by kernel_rfl) (by simp) (AllReadyH.cons rfl (fun K hK => ?_) AllReadyH.nil)
        refine step_app1 usPz pcz_one (by rfl) (.tmp 18) (.tmp 32) (by rfl) (base := w2.heap.size) (xs := (prs gs).take k) (y := (x0.id, x0.par)) (by rfl) (by exact R102.out.ow) (by rfl) (fun i hi => by
            have hb := U102.out
            match i, hi with
            | 0, _ => exact hb.cell 0
            | 1, _ => exact hb.cell 1) (by rw [HLEN.out]; omega) (by rw [HLEN.out]; simp only [maxLen]; omega) (by exact R102.out.kp.size) ?_
        intro v8 w8 o8 q8 p8
        have k8 : Kp (fun i => w.heap.size + 1 ≤ i) wO2 w8 := (Kp.refl _ wO2).grown q8 fun i hi => .inl (by have h1 := (R102.out.ow.blk hi).1; have h2 := HZ2.out; show w.heap.size + 1 ≤ i; omega)
        have K8 := hid (K102.out.trans k8)
        obtain ⟨A8, c8, rfl⟩ := o8.formN (m := k + 1) (by rw [List.length_append, HLEN.out]; rfl)
        have R8 := hid (R102.out.app o8 q8)
        clear k8 q8 p8 o8
        refine hK.out _ _ (HRD.out _ K8.out) (fun hS => ?_)
        clear hK K
        simp only [List.setIfInBounds_toArray, List.set_cons_zero, List.set_cons_succ, Act.put]
        refine wpAnyH_take (i := 20) (v := .pointer (some ⟨w.heap.size + 1, 0, none⟩)) rfl (by kernel_rfl) (by kernel_rfl) (by kernel_rfl) (fun _ _ _ h => h) (Or.inl ⟨by rfl, ?_⟩) hS ?_
        · (intro w6 hS6; obtain ⟨z0, z1, z2⟩ := hS6; go_simp)
        simp only [List.getElem_toArray, List.getElem_cons_zero, List.getElem_cons_succ, Act.put, List.setIfInBounds_toArray, List.set_cons_zero, List.set_cons_succ]
        refine wpAnyH_take (i := 21) (v := .pointer (some ⟨w.heap.size + 1, 0, none⟩)) rfl (by kernel_rfl) (by kernel_rfl) (by kernel_rfl) (fun _ _ _ h => h) (Or.inl ⟨by rfl, ?_⟩) hS ?_
        · (intro w6 hS6; obtain ⟨z0, z1, z2⟩ := hS6; go_simp)
        simp only [List.getElem_toArray, List.getElem_cons_zero, List.getElem_cons_succ, Act.put, List.setIfInBounds_toArray, List.set_cons_zero, List.set_cons_succ]
        clear hS
        refine wpAnyH_ready (rs := [22]) (by kernel_rfl) (by simp) (AllReadyH.cons rfl (fun K hK => ?_) AllReadyH.nil)
        simp only [List.getElem_toArray, List.getElem_cons_zero, List.getElem_cons_succ]
        have c0 := R8.out.bx.cell 0
        have f0 : w8.frozen? ⟨w.heap.size + 1, 0, none⟩ = false := R8.out.bx.frozen 0
        simp only [List.getElem?_toArray, List.getElem?_cons_zero] at c0
        have ks := (Kp.set1 (w.heap.size + 1) 0 w8 (.slice A8 (k + 1) c8)).mono (T := fun i => w.heap.size + 1 ≤ i) fun i _ e => by have e : i = w.heap.size + 1 := e; omega
        have R9 := hid (R8.out.put 0 (.slice A8 (k + 1) c8))
        have K9 := hid (K8.out.trans ks)
        clear ks
        go_simp
        generalize w8.setCell ⟨w.heap.size + 1, 0, none⟩ (.slice A8 (k + 1) c8) = wz at R9 K9 ⊢
        refine hK.out _ _ (HRD.out _ K9.out) (fun hS => ?_)
        clear hK K hS c0 f0
        simp only [List.setIfInBounds_toArray, List.set_cons_zero, List.set_cons_succ]
        refine wpAnyH_done (by kernel_rfl) ?_ _
        go_wp2_with fail
        go_roundw
        case rel => exact ⟨k + 1, _, by omega, by go_num, hid (by rw [HSP.out]; simpa using R9.out)⟩
        case measure => simp [vI]; omega
      · simp only [List.getElem_toArray, List.getElem_cons_zero, List.getElem_cons_succ]
        go_simp
        have uO := Blk.new W 159 #[.int .i64 x0.id, .int .i64 x0.par]
        have kO := (Kp.refl No W).alloc (.cells #[.int .i64 x0.id, .int .i64 x0.par] 159)
        generalize W.alloc (.cells #[.int .i64 x0.id, .int .i64 x0.par] 159) = wO5 at uO kO ⊢
        have K105 := hid (K1.out.trans kO.all)
        have R105 := hid (R1.out.kp0 kO)
        have U105 := hid uO
        clear uO kO
        refine hK.out _ _ (HRD.out _ K105.out) (fun hS => ?_)
        clear hK K hS
        simp only [List.setIfInBounds_toArray, List.set_cons_zero, List.set_cons_succ]
        refine wpAnyH_ready (rs := [4]) (by kernel_rfl) (by simp) (AllReadyH.cons rfl (fun K hK => ?_) AllReadyH.nil)
        simp only [List.getElem_toArray, List.getElem_cons_zero, List.getElem_cons_succ]
        have c0 := R105.out.bx.cell 0
        simp only [List.getElem?_toArray, List.getElem?_cons_zero] at c0
        go_simp
        refine hK.out _ _ (HRD.out _ K105.out) (fun hS => ?_)
        clear hK K hS c0
        simp only [List.setIfInBounds_toArray, List.set_cons_zero, List.set_cons_succ]
        refine wpAnyH_ready (rs := [19]) (by kernel_rfl) (by simp) (AllReadyH.cons rfl (fun K hK => ?_) AllReadyH.nil)
        refine step_app1 usPz pcz_one (by rfl) (.tmp 18) (.tmp 32) (by rfl) (base := w2.heap.size) (xs := (prs gs).take k) (y := (x0.id, x0.par)) (by rfl) (by exact R105.out.ow) (by rfl) (fun i hi => by
            have hb := U105.out
            match i, hi with
            | 0, _ => exact hb.cell 0
            | 1, _ => exact hb.cell 1) (by rw [HLEN.out]; omega) (by rw [HLEN.out]; simp only [maxLen]; omega) (by exact R105.out.kp.size) ?_
        intro v8 w8 o8 q8 p8
        have k8 : Kp (fun i => w.heap.size + 1 ≤ i) wO5 w8 := (Kp.refl _ wO5).grown q8 fun i hi => .inl (by have h1 := (R105.out.ow.blk hi).1; have h2 := HZ2.out; show w.heap.size + 1 ≤ i; omega)
        have K8 := hid (K105.out.trans k8)
        obtain ⟨A8, c8, rfl⟩ := o8.formN (m := k + 1) (by rw [List.length_append, HLEN.out]; rfl)
        have R8 := hid (R105.out.app o8 q8)
        clear k8 q8 p8 o8
        refine hK.out _ _ (HRD.out _ K8.out) (fun hS => ?_)
        clear hK K
        simp only [List.setIfInBounds_toArray, List.set_cons_zero, List.set_cons_succ, Act.put]
        refine wpAnyH_take (i := 20) (v := .pointer (some ⟨w.heap.size + 1, 0, none⟩)) rfl (by kernel_rfl) (by kernel_rfl) (by kernel_rfl) (fun _ _ _ h => h) (Or.inl ⟨by rfl, ?_⟩) hS ?_
        · (intro w6 hS6; obtain ⟨z0, z1, z2⟩ := hS6; go_simp)
        simp only [List.getElem_toArray, List.getElem_cons_zero, List.getElem_cons_succ, Act.put, List.setIfInBounds_toArray, List.set_cons_zero, List.set_cons_succ]
        refine wpAnyH_take (i := 21) (v := .pointer (some ⟨w.heap.size + 1, 0, none⟩)) rfl (by kernel_rfl) (by kernel_rfl) (by kernel_rfl) (fun _ _ _ h => h) (Or.inl ⟨by rfl, ?_⟩) hS ?_
        · (intro w6 hS6; obtain ⟨z0, z1, z2⟩ := hS6; go_simp)
        simp only [List.getElem_toArray, List.getElem_cons_zero, List.getElem_cons_succ, Act.put, List.setIfInBounds_toArray, List.set_cons_zero, List.set_cons_succ]
        clear hS
        refine wpAnyH_ready (rs := [22]) (by kernel_rfl) (by simp) (AllReadyH.cons rfl (fun K hK => ?_) AllReadyH.nil)
        simp only [List.getElem_toArray, List.getElem_cons_zero, List.getElem_cons_succ]
        have c0 := R8.out.bx.cell 0
        have f0 : w8.frozen? ⟨w.heap.size + 1, 0, none⟩ = false := R8.out.bx.frozen 0
        simp only [List.getElem?_toArray, List.getElem?_cons_zero] at c0
        have ks := (Kp.set1 (w.heap.size + 1) 0 w8 (.slice A8 (k + 1) c8)).mono (T := fun i => w.heap.size + 1 ≤ i) fun i _ e => by have e : i = w.heap.size + 1 := e; omega
        have R9 := hid (R8.out.put 0 (.slice A8 (k + 1) c8))
        have K9 := hid (K8.out.trans ks)
        clear ks
        go_simp
        generalize w8.setCell ⟨w.heap.size + 1, 0, none⟩ (.slice A8 (k + 1) c8) = wz at R9 K9 ⊢
        refine hK.out _ _ (HRD.out _ K9.out) (fun hS => ?_)
        clear hK K hS c0 f0
        simp only [List.setIfInBounds_toArray, List.set_cons_zero, List.set_cons_succ]
        refine wpAnyH_done (by kernel_rfl) ?_ _
        go_wp2_with fail
        go_roundw
        case rel => exact ⟨k + 1, _, by omega, by go_num, hid (by rw [HSP.out]; simpa using R9.out)⟩
        case measure => simp [vI]; omega
    · have hkk : k = n := by omega
      subst hkk
      have hng : ¬ (k : Int) < (k : Int) := by omega
      go_wp2_with fail
      go_ret
      have g := G.out
      rw [List.take_of_length_le (by rw [HPL.out]; omega)] at g
      refine ⟨rfl, ⟨_, _, g.bx, g.ow.rwp, fun i hi e => ?_⟩, KT.out.step g.kp fun i hi e => by have e : i = w.heap.size + 1 := e; omega⟩
      have := hi.1
      have h2 := HZ2.out
      omega
end
end Go.Proofs.YtggmdgdgljlddaaGreatDoor
