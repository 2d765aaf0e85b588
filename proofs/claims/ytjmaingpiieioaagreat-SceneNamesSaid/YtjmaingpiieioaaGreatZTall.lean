/-
  Contract of Tall.
-/
import Derived.Test.YtjmaingpiieioaaGreatZOrder
namespace Go.Proofs.YtjmaingpiieioaaGreat
open Go.RowKit Go.Shelf

def tl (seen : List Pl) : Nat := seen.foldl (fun m p => max m p.2) 0
theorem tl_snoc (seen : List Pl) (x : Pl) : tl (seen ++ [x]) = max (tl seen) x.2 := by simp [tl]
/-- What Tall has so far, in its own variable. -/
structure TI (w : World) (tb : Nat) (O : Nat → Prop) (seen : List Pl) (W : World) : Prop where
  kp : Kp No w W
  bx : Blk W tb 3 #[.int .i64 (tl seen : Int)]
  no : ¬ O tb
  ol : ∀ k, O k → w.heap.size ≤ k ∧ k < W.heap.size
  lo : w.heap.size ≤ tb
theorem TI.ab {w : World} {tb : Nat} : AbO (TI w tb) := by
  rintro O O' s W W' h hk ho
  have hs := hk.size
  refine ⟨h.kp.step hk (fun i hi e => by have := (h.ol i e).1; omega), h.bx.kp hk h.no, fun e => ?_, fun k e => ?_, h.lo⟩
  · rcases ho _ e with e | e
    · exact h.no e
    · have := h.bx.lt
      omega
  · rcases ho _ e with e | e
    · have := h.ol k e
      omega
    · have := h.kp.size
      omega
set_option maxRecDepth 100000 in
set_option maxHeartbeats 1000000 in
theorem tall1_see (w : World) (tb : Nat) (all : List Pl) : See 35 #[.pointer (some ⟨tb, 0, none⟩)] (TI w tb) all := by
  rintro O pre ⟨g, d⟩ rest W hx h
  have H := hid h
  have hob := h.bx.lt
  have k01 := (Kp.refl No W).alloc (.cells #[.int .i64 g.id, .int .i64 g.par, .int .i64 g.wt, .int .i64 g.pd, .int .i64 g.qt, .int .i64 g.us, .int .i64 (d : Int)] 61)
  have hz1 := World.size_alloc W (.cells #[.int .i64 g.id, .int .i64 g.par, .int .i64 g.wt, .int .i64 g.pd, .int .i64 g.qt, .int .i64 g.us, .int .i64 (d : Int)] 61)
  have x1 := Blk.new W 61 #[.int .i64 g.id, .int .i64 g.par, .int .i64 g.wt, .int .i64 g.pd, .int .i64 g.qt, .int .i64 g.us, .int .i64 (d : Int)]
  have hT := tl_snoc pre (g, d)
  obtain ⟨t, ht⟩ : ∃ t, tl pre = t := ⟨_, rfl⟩
  simp only [ht] at hT
  have HT := hid hT
  have BX := h.bx
  rw [ht] at BX
  have BXH := hid BX
  clear h hx ht hT BX
  show Calls _ _ #[.agg #[.int .i64 g.id, .int .i64 g.par, .int .i64 g.wt, .int .i64 g.pd, .int .i64 g.qt, .int .i64 g.us, .int .i64 (d : Int)], .pointer (some ⟨tb, 0, none⟩)] W _
  go_enter Tryz.func35, Tryz.ntmps35
  go_upto_region 1 with fail
  obtain ⟨W1, hW1⟩ : ∃ W1, W.alloc (.cells #[.int .i64 g.id, .int .i64 g.par, .int .i64 g.wt, .int .i64 g.pd, .int .i64 g.qt, .int .i64 g.us, .int .i64 (d : Int)] 61) = W1 := ⟨_, rfl⟩
  rw [hW1] at k01 hz1 x1 ⊢
  obtain ⟨xb, hxb⟩ : ∃ xb, W.heap.size = xb := ⟨_, rfl⟩
  rw [hxb] at hz1 x1 ⊢
  have b1 := BXH.out.kp0 k01
  have hb0 := b1.cell 0
  have fb0 : W1.frozen? ⟨tb, 0, none⟩ = false := b1.frozen 0
  have x16 := x1.cell 6
  simp only [List.getElem?_toArray, List.getElem?_cons_zero, List.getElem?_cons_succ] at hb0 x16
  have B1 := hid b1
  have K01 := hid k01
  clear hW1 hxb k01 x1 b1
  go_wp2
  go_end0
  have e : ((max t d : Nat) : Int) = max (t : Int) (d : Int) := by omega
  have kS := Kp.set1 tb 0 W1 (.int .i64 (max (t : Int) (d : Int)))
  have kT : Kp (Only tb) W (W1.setCell ⟨tb, 0, none⟩ (.int .i64 (max (t : Int) (d : Int)))) := K01.out.all.trans kS
  refine ⟨⟨_, rfl⟩, ⟨H.out.kp.step kT (fun i hi e => ?_), ?_, H.out.no, fun k hk => ?_, H.out.lo⟩, kT.mono fun i _ e => ?_⟩
  · have := H.out.lo
    have e : i = tb := e
    omega
  · rw [HT.out]
    show Blk _ tb 3 #[.int .i64 ((max t d : Nat) : Int)]
    rw [e]
    exact B1.out.put 0 _
  · have := H.out.ol k hk
    have := kT.size
    omega
  · rw [show i = tb from e]
    exact H.out.no
set_option maxRecDepth 100000 in
set_option maxHeartbeats 2000000 in
theorem tall_any {w : World} {P : Nat → Prop} {v : Value} {gs : List GS} {ts : List TS} (h : Sn w P v gs ts) (hl : gs.length ≤ 1000000) (hp : ∀ g ∈ gs, I64 g.id ∧ I64 g.par) (hnd : (gs.map (·.id)).Nodup) :
    Calls Tryz.prog 16 #[v] w fun e w' => e = .returned (.int .i64 (tallG gs : Int)) ∧ Kp No w w' := by
  obtain ⟨vg, vt, rfl, hg, ht⟩ := h
  have k1 := (Kp.refl No w).alloc (.cells #[vg, vt] 25)
  have b1 := Blk.new w 25 #[vg, vt]
  have z1 := World.size_alloc w (.cells #[vg, vt] 25)
  obtain ⟨w1, hw1⟩ : ∃ w1, w.alloc (.cells #[vg, vt] 25) = w1 := ⟨_, rfl⟩
  rw [hw1] at k1 b1 z1
  have k2 := (Kp.refl No w1).alloc (.cells #[.int .i64 0] 3)
  have b2 := Blk.new w1 3 #[.int .i64 0]
  have z2 := World.size_alloc w1 (.cells #[.int .i64 0] 3)
  rw [z1] at b2 z2
  obtain ⟨w2, hw2⟩ : ∃ w2, w1.alloc (.cells #[.int .i64 0] 3) = w2 := ⟨_, rfl⟩
  rw [hw2] at k2 b2 z2
  have t20 := b2.cell 0
  have f20 : w2.frozen? ⟨w.heap.size + 1, 0, none⟩ = false := b2.frozen 0
  simp only [List.getElem?_toArray, List.getElem?_cons_zero] at t20
  have b3 := b2.put 0 (.int .i64 0)
  have k3 := k2.step (Kp.set1 (w.heap.size + 1) 0 w2 (.int .i64 0)) (fun i hi e => by have e : i = w.heap.size + 1 := e; omega)
  obtain ⟨w3, hw3⟩ : ∃ w3, w2.setCell ⟨w.heap.size + 1, 0, none⟩ (.int .i64 0) = w3 := ⟨_, rfl⟩
  rw [hw3] at k3 b3
  have K2 := hid (k1.trans k3)
  have B1 := hid (b1.kp0 k3)
  have HG := hid ((hg.kp0 k1).kp0 k3)
  have I2 := hid (show TI w1 (w.heap.size + 1) No [] w3 from ⟨k3, b3, (fun e => e), (fun k e => e.elim), by omega⟩)
  have HU := hid (under_any (gf := 35) (lb := #[.pointer (some ⟨w.heap.size + 1, 0, none⟩)]) HG.out hl hp hnd TI.ab I2.out (tall1_see w1 (w.heap.size + 1) _) (enters_of Tryz.func35 (by kernel_rfl) rfl))
  have K1 := hid k1
  have s0 := B1.out.cell 0
  simp only [List.getElem?_toArray, List.getElem?_cons_zero] at s0
  have hgt : tallG gs = tl (visits gs) := rfl
  rw [hgt]
  clear k1 k2 k3 b1 b2 b3 hg ht hp hnd hl
  go_enter Tryz.func16, Tryz.ntmps16
  go_upto_region 2 with fail
  clear hw1 hw2 hw3 t20 f20
  go_wp2_with (first
    | (go_at_call 34
       refine HU.out.mono ?_
       rintro e w4 ⟨⟨r, rfl⟩, O, i4, o4⟩
       have c4 := i4.bx.cell 0
       simp only [List.getElem?_toArray, List.getElem?_cons_zero] at c4
       have K4 := hid (K1.out.trans i4.kp)
       clear i4 o4))
  go_ret
  exact ⟨rfl, K4.out⟩
end Go.Proofs.YtjmaingpiieioaaGreat
