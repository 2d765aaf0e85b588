/-
  The document's queue: its state; at, told, Get, set, Weigh, Run, Mean, Leave, Join.
-/
import Derived.Test.YtpbnmfoecmhnnaaQMeanB
import Derived.Test.YtpbnmfoecmhnnaaSU

/-
  The document's queue: its state; at, told, Get.
-/
namespace Go.Proofs.Ytpbnmfoecmhnnaa
open Go.RowKit

/-- The document's queue in memory: at r its members, in some order, and the base; S: the block of the members. -/
structure Rq (w : World) (r : Nat) (S : Nat → Prop) (b : Int) (xs : List Mb) : Prop where
  ex : ∃ v, Blk w r 63 #[v, .int .i64 b] ∧ Rw 4 mc mb0 w S v xs
  len : xs.length ≤ 4096
  nr : ¬ S r
section
variable {w w' : World} {r : Nat} {S : Nat → Prop} {b : Int} {xs : List Mb}
theorem Rq.kp {Z : Nat → Prop} (h : Rq w r S b xs) (k : Kp Z w w') (h1 : ¬ Z r) (h2 : ∀ i, i < w.heap.size → S i → ¬ Z i) : Rq w' r S b xs := by
  obtain ⟨⟨v, hb, hr⟩, hl, hn⟩ := h
  exact ⟨⟨v, hb.kp k h1, hr.kp k h2⟩, hl, hn⟩
theorem Rq.kp0 (h : Rq w r S b xs) (k : Kp No w w') : Rq w' r S b xs := h.kp k (fun h => h) fun _ _ _ h => h

set_option maxRecDepth 100000 in
set_option maxHeartbeats 1000000 in
theorem refat_any (h : Rq w r S b xs) (k : Int) {n : Nat} (hne : ∀ i, i < n → (xs.getD i mb0).id ≠ k) {R : Int} (hR : (n = xs.length ∧ R = -1) ∨ (n < xs.length ∧ (xs.getD n mb0).id = k ∧ R = (n : Int))) :
    Calls Try.prog 73 #[.pointer (some ⟨r, 0, none⟩), .int .i64 k] w fun e w' => e = .returned (.int .i64 R) ∧ w' = w := by
  obtain ⟨⟨v, hb, hr⟩, hl, hn⟩ := h
  obtain ⟨A, c, rfl, hc, hm, hr2⟩ := (id hr)
  clear hr2
  simp only [maxLen] at hm
  have c0 := hb.cell 0
  simp at c0
  have HR := hid hr
  have HNE := hid hne
  have HRR := hid hR
  clear hr hne hR
  go_enter Try.func73, Try.ntmps73
  go_wp2_with fail
  go_loopw [5] (fun i wr => ∃ j : Nat, j ≤ n ∧ j ≤ xs.length ∧ i = .int .i64 (j : Int) ∧ wr = w) (fun i _ => xs.length - (intOf i).toNat)
  case atStart => exact ⟨0, by omega, by omega, rfl, rfl⟩
  case round =>
    obtain ⟨j, hj, hjx, rfl, rfl⟩ := hrel
    by_cases hlt : j < xs.length
    · have hji : (j : Int) < (xs.length : Int) := by omega
      have hj0 : ¬ (j : Int) < 0 := by omega
      obtain ⟨lb, lo, hA⟩ := HR.out.there (by omega)
      subst hA
      have a0 := HR.out.cell (Kp.refl No wr) hlt (i := 0) (by omega) rfl
      simp only [mc, Nat.add_zero] at a0
      have g5 : IntKind.i64.wrap ((j : Int) + 1) = (j : Int) + 1 := wrapI (by unfold I64; omega)
      by_cases hjn : j < n
      · have hid1 := HNE.out j hjn
        generalize xs.getD j mb0 = x at a0 hid1
        have hb1 : (x.id == k) = false := by rw [beq_eq_false_iff_ne]; exact hid1
        go_wp2_with fail
        go_roundw
        case rel => exact ⟨j + 1, by omega, by omega, by go_num, trivial⟩
        case measure => simp [intOf]; omega
      · have hjn2 : j = n := by omega
        subst hjn2
        rcases HRR.out with ⟨h1, _⟩ | ⟨_, h2, h3⟩
        · omega
        · subst h3
          rw [h2] at a0
          have hb1 : (k == k) = true := by simp
          go_wp2_with fail
          go_ret
          exact ⟨rfl, rfl⟩
    · have hj2 : j = xs.length := by omega
      subst hj2
      rcases HRR.out with ⟨_, h2⟩ | ⟨h1, _⟩
      · subst h2
        go_wp2_with fail
        go_ret
        exact ⟨rfl, rfl⟩
      · omega
theorem fin_idx {k : Int} {m : Mb} : ∀ {xs : List Mb}, finM xs k = some m → ∃ n, n < xs.length ∧ xs.getD n mb0 = m ∧ m.id = k ∧ ∀ i, i < n → (xs.getD i mb0).id ≠ k
  | [], h => by cases h
  | x :: l, h => by
    unfold finM at h
    rw [List.find?_cons] at h
    by_cases e : x.id = k
    · simp [e] at h
      subst h
      exact ⟨0, by simp, rfl, e, fun i hi => by omega⟩
    · simp [e] at h
      obtain ⟨n, h1, h2, h3, h4⟩ := fin_idx (xs := l) (by unfold finM; exact h)
      refine ⟨n + 1, by simp; omega, by simpa using h2, h3, fun i hi => ?_⟩
      cases i with
      | zero => exact e
      | succ i => simpa using h4 i (by omega)
/-- at, of who isn't there. -/
theorem refat_none (h : Rq w r S b xs) {k : Int} (hf : finM xs k = none) : Calls Try.prog 73 #[.pointer (some ⟨r, 0, none⟩), .int .i64 k] w fun e w' => e = .returned (.int .i64 (-1)) ∧ w' = w :=
  refat_any h k (n := xs.length) (fun _ hi => finM_none hf _ (getD_mem hi)) (.inl ⟨rfl, rfl⟩)
/-- at, of who is there. -/
theorem refat_some (h : Rq w r S b xs) {k : Int} {m : Mb} (hf : finM xs k = some m) : ∃ n, n < xs.length ∧ xs.getD n mb0 = m ∧ Calls Try.prog 73 #[.pointer (some ⟨r, 0, none⟩), .int .i64 k] w fun e w' => e = .returned (.int .i64 (n : Int)) ∧ w' = w := by
  obtain ⟨n, h1, h2, h3, h4⟩ := fin_idx hf
  exact ⟨n, h1, h2, refat_any h k h4 (.inr ⟨h1, by rw [h2]; exact h3, rfl⟩)⟩

set_option maxRecDepth 100000 in
theorem reftold_any {v : Value} (h : Blk w r 63 #[v, .int .i64 b]) (m : Mb) (hw : I64 (m.v - b)) :
    Calls Try.prog 72 #[.pointer (some ⟨r, 0, none⟩), .agg #[.int .i64 m.id, .int .i64 m.w, .int .i64 m.v, .int .i64 m.r]] w fun e w' => e = .returned (.agg #[.int .i64 m.id, .int .i64 m.w, .int .i64 (m.v - b), .int .i64 m.r]) ∧ Kp No w w' := by
  have c1 := h.cell 1
  simp at c1
  have hw := wrapI hw
  have hgl := h.lt
  have hgl1 : r < w.heap.size + 1 := by omega
  have hgl2 : r < w.heap.size + 1 + 1 := by omega
  clear h
  go_enter Try.func72, Try.ntmps72
  go_wp2_with fail
  refine region_tail 17 (by kernel_rfl) (by kernel_rfl) ?_
  simp only [List.take_succ_cons, List.take_zero, List.drop_succ_cons, List.drop_zero]
  repeat still_step
  refine wpStill_nil ?_
  go_wp2
  refine bodyPost_ret (v := .agg #[.int .i64 m.id, .int .i64 m.w, .int .i64 (m.v - b), .int .i64 m.r]) ?_ rfl ⟨rfl, (((Kp.refl No w).alloc _).alloc _).drew⟩
  rw [results_cell rfl]
  go_simp

set_option maxRecDepth 100000 in
set_option maxHeartbeats 1000000 in
theorem refget_none (h : Rq w r S b xs) {k : Int} (hf : finM xs k = none) :
    Calls Try.prog 48 #[.pointer (some ⟨r, 0, none⟩), .int .i64 k] w fun e w' => e = .returned (.tuple #[.agg #[.int .i64 0, .int .i64 0, .int .i64 0, .int .i64 0], .bool false]) ∧ Kp No w w' := by
  have H1 := hid (h.kp0 ((Kp.refl No w).alloc (.cells #[.int .i64 0, .int .i64 0, .int .i64 0, .int .i64 0] 67)))
  have HF := hid hf
  clear h hf
  go_enter Try.func48, Try.ntmps48
  go_wp2_with fail
  refine (refat_none H1.out HF.out).mono ?_
  rintro e w1 ⟨rfl, rfl⟩
  go_wp2_with fail
  exact bodyPost_ret (v := .tuple #[.agg #[.int .i64 0, .int .i64 0, .int .i64 0, .int .i64 0], .bool false]) (by simp [results, Try.results48, go_sem]) rfl ⟨rfl, (Kp.refl No w).alloc _⟩

set_option maxRecDepth 100000 in
set_option maxHeartbeats 1000000 in
theorem refget_some (h : Rq w r S b xs) {k : Int} {m : Mb} (hf : finM xs k = some m) (hw : I64 (m.v - b)) :
    Calls Try.prog 48 #[.pointer (some ⟨r, 0, none⟩), .int .i64 k] w fun e w' => e = .returned (.tuple #[.agg #[.int .i64 m.id, .int .i64 m.w, .int .i64 (m.v - b), .int .i64 m.r], .bool true]) ∧ Kp No w w' := by
  have h1 := h.kp0 ((Kp.refl No w).alloc (.cells #[.int .i64 0, .int .i64 0, .int .i64 0, .int .i64 0] 67))
  obtain ⟨n, hn, hm, hat⟩ := refat_some h1 hf
  obtain ⟨⟨v, hb, hr⟩, hl, hnr⟩ := h1
  obtain ⟨A, c, rfl, hc, hmx, hr2⟩ := (id hr)
  clear hr2
  simp only [maxLen] at hmx
  obtain ⟨lb, lo, hA⟩ := hr.there (by omega)
  subst hA
  have a0 := hr.cell (Kp.refl No _) hn (i := 0) (by omega) rfl
  have a1 := hr.cell (Kp.refl No _) hn (i := 1) (by omega) rfl
  have a2 := hr.cell (Kp.refl No _) hn (i := 2) (by omega) rfl
  have a3 := hr.cell (Kp.refl No _) hn (i := 3) (by omega) rfl
  rw [hm] at a0 a1 a2 a3
  simp only [mc, Nat.add_zero] at a0 a1 a2 a3
  rw [← Nat.add_assoc] at a1 a2 a3
  have c0 := hb.cell 0
  simp only [List.getElem?_toArray, List.getElem?_cons_zero] at c0
  have B1 := hid hb
  have b2 := Blk.new w 67 #[.int .i64 0, .int .i64 0, .int .i64 0, .int .i64 0]
  have HAT := hid hat
  have hrl := h.ex.elim fun v hv => hv.1.lt
  have hni : (n : Int) < (xs.length : Int) := by omega
  have hn0 : ¬ (n : Int) < 0 := by omega
  clear hat h hb hr hf
  go_enter Try.func48, Try.ntmps48
  go_wp2_with fail
  have k2 := (Kp.refl No w).alloc (.cells #[.int .i64 0, .int .i64 0, .int .i64 0, .int .i64 0] 67)
  generalize w.alloc (.cells #[.int .i64 0, .int .i64 0, .int .i64 0, .int .i64 0] 67) = w1 at HAT a0 a1 a2 a3 c0 B1 b2 k2 ⊢
  refine HAT.out.mono ?_
  rintro e w1 ⟨rfl, rfl⟩
  have K2 := hid k2
  have B2 := hid b2
  clear k2 b2
  go_wp2_with fail
  refine (reftold_any B1.out m hw).mono ?_
  rintro e w4 ⟨rfl, k4⟩
  have b4 := B2.out.kp0 k4
  have f0 := b4.frozen 0
  have f1 := b4.frozen 1
  have f2 := b4.frozen 2
  have f3 := b4.frozen 3
  have c40 := b4.cell 0
  have c41 := b4.cell 1
  have c42 := b4.cell 2
  have c43 := b4.cell 3
  have l4 := b4.lt
  simp only [List.getElem?_toArray, List.getElem?_cons_zero, List.getElem?_cons_succ] at c40 c41 c42 c43
  have kf := kp4 w.heap.size w4 (.int .i64 m.id) (.int .i64 m.w) (.int .i64 (m.v - b)) (.int .i64 m.r)
  have bf := b4.put4 (.int .i64 m.id) (.int .i64 m.w) (.int .i64 (m.v - b)) (.int .i64 m.r)
  have KF := hid ((K2.out.trans k4).step kf fun i hi e => absurd hi (by have : i = w.heap.size := e; omega))
  go_wp2_with fail
  generalize (((w4.setCell ⟨w.heap.size, 0, none⟩ (.int .i64 m.id)).setCell ⟨w.heap.size, 1, none⟩ (.int .i64 m.w)).setCell ⟨w.heap.size, 2, none⟩ (.int .i64 (m.v - b))).setCell ⟨w.heap.size, 3, none⟩ (.int .i64 m.r) = wf at bf KF ⊢
  have e0 := bf.cell 0
  have e1 := bf.cell 1
  have e2 := bf.cell 2
  have e3 := bf.cell 3
  simp at e0 e1 e2 e3
  exact bodyPost_ret (v := .tuple #[.agg #[.int .i64 m.id, .int .i64 m.w, .int .i64 (m.v - b), .int .i64 m.r], .bool true]) (by simp [results, Try.results48, go_sem, e0, e1, e2, e3]) rfl ⟨rfl, KF.out⟩
end
end Go.Proofs.Ytpbnmfoecmhnnaa

/-
  The document's queue: set.
-/
namespace Go.Proofs.Ytpbnmfoecmhnnaa
open Go.RowKit

theorem infoRm : (Try.prog.info? 125).map (fun i => (i.zero, i.size, i.bytes)) = some (some (.agg #[.int .i64 0, .int .i64 0, .int .i64 0, .int .i64 0]), 4, 32) := by kernel_rfl
theorem usRm : Us Try.prog 61 125 4 32 (.agg #[.int .i64 0, .int .i64 0, .int .i64 0, .int .i64 0]) := ⟨by kernel_rfl, infoRm, by kernel_rfl, by omega⟩

theorem Ow.blk {α : Type} {n : Nat} {f : α → Nat → Value} {w : World} {base : Nat} {e : TypeId} {v : Value} {xs : List α} (h : Ow w base e n f v xs) (h0 : 0 < xs.length) : ∃ g cap cur, v = .slice (some ⟨g, 0, none⟩) xs.length cap ∧ base ≤ g ∧ Blk w g e cur := by
  rcases h.2 with ⟨_, h1⟩ | ⟨g, cap, cur, rfl, hb, hg, _⟩
  · omega
  · exact ⟨g, cap, cur, rfl, hb, hg⟩
theorem Rw.set4 {w : World} {P : Nat → Prop} {g l c n : Nat} {e : TypeId} {cur : Array Value} {xs : List Mb} (h : Rw 4 mc mb0 w P (.slice (some ⟨g, 0, none⟩) l c) xs) (hb : Blk w g e cur) (hn : n < xs.length) (m : Mb) :
    Rw 4 mc mb0 ((((w.setCell ⟨g, n * 4, none⟩ (.int .i64 m.id)).setCell ⟨g, n * 4 + 1, none⟩ (.int .i64 m.w)).setCell ⟨g, n * 4 + 2, none⟩ (.int .i64 m.v)).setCell ⟨g, n * 4 + 3, none⟩ (.int .i64 m.r)) P (.slice (some ⟨g, 0, none⟩) l c) (xs.set n m) := by
  have bf := (((hb.put (n * 4) (.int .i64 m.id)).put (n * 4 + 1) (.int .i64 m.w)).put (n * 4 + 2) (.int .i64 m.v)).put (n * 4 + 3) (.int .i64 m.r)
  have hcell : ∀ j i, j < xs.length → i < 4 → cur[j * 4 + i]? = some (mc (xs.getD j mb0) i) := fun j i hj hi => by
    have := h.cell (Kp.refl No w) (j := j) (i := i) hj hi rfl
    rw [hb.cell, Nat.zero_add] at this
    exact this
  obtain ⟨A', c', he, hc, hm, hr⟩ := h
  injection he with e1 e2 e3
  subst e1 e2 e3
  refine ⟨_, _, by rw [List.length_set], by rw [List.length_set]; exact hc, hm, fun _ => ?_⟩
  obtain ⟨b, o, he, hl, hp, _⟩ := hr (by omega)
  cases he
  refine ⟨g, 0, rfl, bf.lt, hp, fun j i hj hi => ?_⟩
  rw [List.length_set] at hj
  rw [bf.cell, Nat.zero_add]
  have hs := (Array.getElem?_eq_some_iff.1 (hcell n 3 hn (by omega))).1
  by_cases e : j = n
  · subst e
    have hm2 : (xs.set j m).getD j mb0 = m := by simp [List.getD, hj]
    rw [hm2]
    match i, hi with
    | 0, _ => simp [Array.getElem?_setIfInBounds, mc]; omega
    | 1, _ => simp [Array.getElem?_setIfInBounds, mc]; omega
    | 2, _ => simp [Array.getElem?_setIfInBounds, mc]; omega
    | 3, _ => simp [Array.getElem?_setIfInBounds, mc]; omega
  · have hm2 : (xs.set n m).getD j mb0 = xs.getD j mb0 := by simp only [List.getD]; rw [List.getElem?_set_ne (fun x => e x.symm)]
    rw [hm2]
    simp only [Array.getElem?_setIfInBounds]
    rw [if_neg (by omega), if_neg (by omega), if_neg (by omega), if_neg (by omega)]
    exact hcell j i hj hi

section
variable {w w' : World} {r : Nat} {S : Nat → Prop} {b : Int} {xs : List Mb}
set_option maxRecDepth 100000 in
set_option maxHeartbeats 2000000 in
theorem refset_any (h : Rq w r S b xs) {n : Nat} (hn : n < xs.length) (m : Mb) :
    Calls Try.prog 87 #[.pointer (some ⟨r, 0, none⟩), .int .i64 (n : Int), .agg #[.int .i64 m.id, .int .i64 m.w, .int .i64 m.v, .int .i64 m.r]] w fun e w' => (∃ v, e = .returned v) ∧ Kp (Only r) w w' ∧ Rq w' r (fun i => w.heap.size ≤ i) b (xs.set n m) := by
  obtain ⟨⟨v, hb, hr⟩, hl, hnr⟩ := h
  have c0 := hb.cell 0
  simp at c0
  have hrl := hb.lt
  have HB := hid hb
  have HR := hid hr
  have hrl1 : r < w.heap.size + 1 := by omega
  have hrl2 : r < w.heap.size + 1 + 1 := by omega
  clear hb hr
  go_enter Try.func87, Try.ntmps87
  have k1 := (Kp.refl No w).alloc (.cells #[.int .i64 m.id, .int .i64 m.w, .int .i64 m.v, .int .i64 m.r] 125)
  have K1 := hid k1
  have M1 := hid (Blk.new w 125 #[.int .i64 m.id, .int .i64 m.w, .int .i64 m.v, .int .i64 m.r])
  clear k1
  go_wp2_with (first
    | (at_builtin
       refine wp_apps usRm mc_one rfl (.tmp 7) (.tmp 11) rfl (d := mb0) (base := w.heap.size + 1) (xs := []) (ys := xs) (Pb := S) (by exact Ow.mtH _ _ _ _ _ (H := w.heap.size + 1) (by simp) (Nat.le_refl _)) (by exact (HR.out.kp0 K1.out).kp0 ((Kp.refl No _).alloc _)) (by simp; omega) (by simp [maxLen]; omega) (by simp) ?_
       intro v3 w3 o3 k3
       rw [List.nil_append] at o3
       obtain ⟨q, c3, cur, rfl, hq, hbk⟩ := o3.blk (by omega)
       have O3 := hid o3
       have BK := hid hbk
       have K3 := hid ((K1.out.alloc (.cells #[] 125)).step k3 fun i hi e => by omega)
       have M3 := hid (M1.out.kp0 (((Kp.refl No (w.alloc (.cells #[.int .i64 m.id, .int .i64 m.w, .int .i64 m.v, .int .i64 m.r] 125))).alloc (.cells #[] 125)).step k3 fun i hi e => by simp at hi; omega))
       have g3 := HB.out.kp0 K3.out
       have f30 := g3.frozen 0
       have c30 := g3.cell 0
       have l30 := g3.lt
       simp at c30))
  have hqr : q ≠ r := by omega
  have k4 := Kp.set1 r 0 w3 (.slice (some ⟨q, 0, none⟩) xs.length c3)
  have KF := hid ((K3.out.all (S := Only r)).trans k4)
  have BK4 := hid (BK.out.kp k4 fun e => hqr e)
  have B4 := hid (g3.put 0 (.slice (some ⟨q, 0, none⟩) xs.length c3))
  have O4 := hid (O3.out.kp k4 fun i hi e => by have : i = r := e; omega)
  have M4 := hid (M3.out.kp k4 fun e => by have : w.heap.size = r := e; omega)
  clear c0 c30 f30 l30 hbk
  generalize w3.setCell ⟨r, 0, none⟩ (.slice (some ⟨q, 0, none⟩) xs.length c3) = w4 at k4 KF BK4 B4 O4 M4 ⊢
  have hr4 := O4.out.rw (d := mb0)
  have c0 := B4.out.cell 0
  have c1 := B4.out.cell 1
  have m0 := M4.out.cell 0
  have m1 := M4.out.cell 1
  have m2 := M4.out.cell 2
  have m3 := M4.out.cell 3
  simp at c0 c1 m0 m1 m2 m3
  have a0 := hr4.cell (Kp.refl No _) hn (i := 0) (by omega) rfl
  have a1 := hr4.cell (Kp.refl No _) hn (i := 1) (by omega) rfl
  have a2 := hr4.cell (Kp.refl No _) hn (i := 2) (by omega) rfl
  have a3 := hr4.cell (Kp.refl No _) hn (i := 3) (by omega) rfl
  simp only [Nat.zero_add, Nat.add_zero] at a0 a1 a2 a3
  have f0 := BK4.out.frozen (n * 4)
  have f1 := BK4.out.frozen (n * 4 + 1)
  have f2 := BK4.out.frozen (n * 4 + 2)
  have f3 := BK4.out.frozen (n * 4 + 3)
  have l4 := BK4.out.lt
  have hni : (n : Int) < (xs.length : Int) := by omega
  have hn0 : ¬ (n : Int) < 0 := by omega
  refine region_tail 7 (by kernel_rfl) (by kernel_rfl) ?_
  simp only [List.take_succ_cons, List.take_zero, List.drop_succ_cons, List.drop_zero]
  repeat still_step
  refine wpStill_nil ?_
  go_wp2_with fail
  have kq : Kp (Only q) w4 ((((w4.setCell ⟨q, n * 4, none⟩ (.int .i64 m.id)).setCell ⟨q, n * 4 + 1, none⟩ (.int .i64 m.w)).setCell ⟨q, n * 4 + 2, none⟩ (.int .i64 m.v)).setCell ⟨q, n * 4 + 3, none⟩ (.int .i64 m.r)) :=
    ((((Kp.refl (Only q) w4).setCell (p := ⟨q, n * 4, none⟩) (.inl rfl) _).setCell (p := ⟨q, n * 4 + 1, none⟩) (.inl rfl) _).setCell (p := ⟨q, n * 4 + 2, none⟩) (.inl rfl) _).setCell (p := ⟨q, n * 4 + 3, none⟩) (.inl rfl) _
  have rs := (O4.out.rwP (d := mb0) (P := fun i => w.heap.size ≤ i) fun i hi => by omega).set4 BK4.out hn m
  have bs := B4.out.kp kq fun e => hqr (Eq.symm e)
  generalize (((w4.setCell ⟨q, n * 4, none⟩ (.int .i64 m.id)).setCell ⟨q, n * 4 + 1, none⟩ (.int .i64 m.w)).setCell ⟨q, n * 4 + 2, none⟩ (.int .i64 m.v)).setCell ⟨q, n * 4 + 3, none⟩ (.int .i64 m.r) = w5 at kq rs bs ⊢
  have kd := (Kp.refl No w5).drew
  exact bodyPost_end (results_none rfl _ _ _) rfl ⟨⟨_, rfl⟩, (KF.out.step kq fun i hi e => by have : i = q := e; omega).drew, ⟨_, by simpa using bs.kp0 kd, rs.kp0 kd⟩, by rw [List.length_set]; exact hl, by omega⟩
end
end Go.Proofs.Ytpbnmfoecmhnnaa

/-
  The document's queue: Weigh.
-/
namespace Go.Proofs.Ytpbnmfoecmhnnaa
open Go.RowKit

section
variable {w w' : World} {r : Nat} {S : Nat → Prop} {b : Int} {xs : List Mb}
theorem Rq.mono {S' : Nat → Prop} (h : Rq w r S b xs) (hs : ∀ i, i < w.heap.size → S i → S' i) (hn : ¬ S' r) : Rq w r S' b xs := by
  obtain ⟨⟨v, hb, hr⟩, hl, _⟩ := h
  exact ⟨⟨v, hb, hr.mono hs⟩, hl, hn⟩
/-- A member that is read. -/
theorem Rq.mem (h : Rq w r S b xs) {n : Nat} (hn : n < xs.length) : ∃ lb lo c, w.cell? ⟨r, 0, none⟩ = some (.slice (some ⟨lb, lo, none⟩) xs.length c) ∧ w.cell? ⟨r, 1, none⟩ = some (.int .i64 b) ∧ xs.length ≤ c ∧ w.cell? ⟨lb, lo + n * 4, none⟩ = some (.int .i64 (xs.getD n mb0).id) ∧ w.cell? ⟨lb, lo + n * 4 + 1, none⟩ = some (.int .i64 (xs.getD n mb0).w) ∧ w.cell? ⟨lb, lo + n * 4 + 2, none⟩ = some (.int .i64 (xs.getD n mb0).v) ∧ w.cell? ⟨lb, lo + n * 4 + 3, none⟩ = some (.int .i64 (xs.getD n mb0).r) ∧ r < w.heap.size := by
  obtain ⟨⟨v, hb, hr⟩, hl, hnr⟩ := h
  obtain ⟨A, c, rfl, hc, hmx, hr2⟩ := (id hr)
  obtain ⟨lb, lo, hA⟩ := hr.there (by omega)
  subst hA
  have a0 := hr.cell (Kp.refl No _) hn (i := 0) (by omega) rfl
  have a1 := hr.cell (Kp.refl No _) hn (i := 1) (by omega) rfl
  have a2 := hr.cell (Kp.refl No _) hn (i := 2) (by omega) rfl
  have a3 := hr.cell (Kp.refl No _) hn (i := 3) (by omega) rfl
  simp only [mc, Nat.add_zero] at a0 a1 a2 a3
  rw [← Nat.add_assoc] at a1 a2 a3
  exact ⟨lb, lo, c, by simpa using hb.cell 0, by simpa using hb.cell 1, hc, a0, a1, a2, a3, hb.lt⟩

set_option maxRecDepth 100000 in
set_option maxHeartbeats 1000000 in
theorem refweigh_none (h : Rq w r S b xs) {k : Int} (n : Int) (hf : finM xs k = none) :
    Calls Try.prog 67 #[.pointer (some ⟨r, 0, none⟩), .int .i64 k, .int .i64 n] w fun e w' => e = .returned (.int .i64 8) ∧ Kp No w w' := by
  have HAT := hid (refat_none h hf)
  clear h hf
  go_enter Try.func67, Try.ntmps67
  go_wp2_with fail
  refine HAT.out.mono ?_
  rintro e w1 ⟨rfl, rfl⟩
  go_wp2_with fail
  go_ret
  exact ⟨rfl, Kp.refl No _⟩

set_option maxRecDepth 100000 in
set_option maxHeartbeats 1000000 in
theorem refweigh_arg (h : Rq w r S b xs) {k : Int} (n : Int) {m : Mb} (hf : finM xs k = some m) (hn : n < 1 ∨ 1048576 < n) :
    Calls Try.prog 67 #[.pointer (some ⟨r, 0, none⟩), .int .i64 k, .int .i64 n] w fun e w' => e = .returned (.int .i64 1) ∧ Kp No w w' := by
  obtain ⟨i, hi, hm, hat⟩ := refat_some h hf
  have HAT := hid hat
  have hi0 : ¬ (i : Int) < 0 := by omega
  clear h hf hat
  rcases hn with hn | hn
  · have hb1 : decide (n < 1) = true := by simp; omega
    go_enter Try.func67, Try.ntmps67
    go_wp2_with fail
    refine HAT.out.mono ?_
    rintro e w1 ⟨rfl, rfl⟩
    go_wp2_with fail
    go_ret
    exact ⟨rfl, Kp.refl No _⟩
  · have hb1 : decide (n < 1) = false := by simp; omega
    have hb2 : decide (1048576 < n) = true := by simp; omega
    go_enter Try.func67, Try.ntmps67
    go_wp2_with fail
    refine HAT.out.mono ?_
    rintro e w1 ⟨rfl, rfl⟩
    go_wp2_with fail
    go_ret
    exact ⟨rfl, Kp.refl No _⟩

set_option maxRecDepth 100000 in
set_option maxHeartbeats 2000000 in
theorem refweigh_ok (h : Rq w r S b xs) {k : Int} {n : Int} {m : Mb} (hf : finM xs k = some m) (hw1 : 1 ≤ m.w) (hw2 : m.w ≤ 1048576) (hr0 : 0 ≤ m.r) (hr1 : m.r < m.w) (h1 : 1 ≤ n) (h2 : n ≤ 1048576) :
    ∃ i, i < xs.length ∧ xs.getD i mb0 = m ∧ Calls Try.prog 67 #[.pointer (some ⟨r, 0, none⟩), .int .i64 k, .int .i64 n] w fun e w' => e = .returned (.int .i64 0) ∧ Kp (Only r) w w' ∧ Rq w' r (fun i => w.heap.size ≤ i) b (xs.set i (weiM m n)) := by
  obtain ⟨i, hi, hm, hat⟩ := refat_some h hf
  refine ⟨i, hi, hm, ?_⟩
  obtain ⟨lb, lo, c, c0, _, hc, a0, a1, a2, a3, hrl⟩ := h.mem hi
  rw [hm] at a0 a1 a2 a3
  have HAT := hid hat
  have H := hid h
  have hi0 : ¬ (i : Int) < 0 := by omega
  have hil : (i : Int) < (xs.length : Int) := by omega
  have hb1 : decide (n < 1) = false := by simp; omega
  have hb2 : decide (1048576 < n) = false := by simp; omega
  obtain ⟨d, hd⟩ : ∃ d, m.r * n / m.w = d := ⟨_, rfl⟩
  have HW : Hid (weiM m n = ⟨m.id, n, m.v, d⟩) := hid (by rw [← hd]; rfl)
  have RW := hid fun w => refreweigh_is (w := w) (v := m.v) (r := m.r) (a := m.w) (b := n) (d := d) hr0 (by rw [wt_in hw1 hw2]; exact hr1) (by rw [wt_in hw1 hw2, wt_in h1 h2]; exact hd)
  clear h hf hat hd hr0 hr1
  go_enter Try.func67, Try.ntmps67
  go_wp2_with fail
  refine HAT.out.mono ?_
  rintro e w1 ⟨rfl, rfl⟩
  go_wp2_with fail
  have b1 := Blk.new w1 125 #[.int .i64 m.id, .int .i64 m.w, .int .i64 m.v, .int .i64 m.r]
  have k1 := (Kp.refl No w1).alloc (.cells #[.int .i64 m.id, .int .i64 m.w, .int .i64 m.v, .int .i64 m.r] 125)
  have K1 := hid k1
  have B1 := hid b1
  clear b1 k1 a0 a1 a2 a3 c0
  refine (RW.out _).mono ?_
  rintro e w2 ⟨rfl, k2⟩
  have K2 := hid (K1.out.trans k2)
  have b2 := B1.out.kp0 k2
  have x0 := b2.cell 0
  have x1 := b2.cell 1
  have x2 := b2.cell 2
  have x3 := b2.cell 3
  have f1 := b2.frozen 1
  have f2 := b2.frozen 2
  have f3 := b2.frozen 3
  have l2 := b2.lt
  simp at x0 x1 x2 x3
  go_wp2_with fail
  have k5 : Kp (Only w1.heap.size) w2 (((w2.setCell ⟨w1.heap.size, 2, none⟩ (.int .i64 m.v)).setCell ⟨w1.heap.size, 3, none⟩ (.int .i64 d)).setCell ⟨w1.heap.size, 1, none⟩ (.int .i64 n)) :=
    (((Kp.refl (Only w1.heap.size) w2).setCell (p := ⟨w1.heap.size, 2, none⟩) (.inl rfl) _).setCell (p := ⟨w1.heap.size, 3, none⟩) (.inl rfl) _).setCell (p := ⟨w1.heap.size, 1, none⟩) (.inl rfl) _
  generalize ((w2.setCell ⟨w1.heap.size, 2, none⟩ (.int .i64 m.v)).setCell ⟨w1.heap.size, 3, none⟩ (.int .i64 d)).setCell ⟨w1.heap.size, 1, none⟩ (.int .i64 n) = w5 at k5 ⊢
  have K5 := hid (K2.out.step k5 fun i hi e => by have : i = w1.heap.size := e; omega)
  refine (refset_any (H.out.kp0 K5.out) hi ⟨m.id, n, m.v, d⟩).mono ?_
  rintro e w6 ⟨⟨_, rfl⟩, k6, q6⟩
  have KF := hid ((K5.out.all (S := Only r)).trans k6)
  have QF := hid (q6.mono (S' := fun i => w1.heap.size ≤ i) (fun i _ hi => by have := K5.out.size; omega) (by omega))
  clear k6 q6 x0 x1 x2 x3 f1 f2 f3 l2 b2
  go_wp2_with fail
  go_ret
  exact ⟨rfl, KF.out, by rw [HW.out]; exact QF.out⟩
end
end Go.Proofs.Ytpbnmfoecmhnnaa

/-
  The document's queue: Run.
-/
namespace Go.Proofs.Ytpbnmfoecmhnnaa
open Go.RowKit

section
variable {w w' : World} {r : Nat} {S : Nat → Prop} {b : Int} {xs : List Mb}
set_option maxRecDepth 100000 in
set_option maxHeartbeats 1000000 in
theorem refrun_none (h : Rq w r S b xs) {k : Int} (n : Int) (hf : finM xs k = none) :
    Calls Try.prog 66 #[.pointer (some ⟨r, 0, none⟩), .int .i64 k, .int .i64 n] w fun e w' => e = .returned (.int .i64 8) ∧ Kp No w w' := by
  have HAT := hid (refat_none h hf)
  clear h hf
  go_enter Try.func66, Try.ntmps66
  go_wp2_with fail
  refine HAT.out.mono ?_
  rintro e w1 ⟨rfl, rfl⟩
  go_wp2_with fail
  go_ret
  exact ⟨rfl, Kp.refl No _⟩

set_option maxRecDepth 100000 in
set_option maxHeartbeats 1000000 in
theorem refrun_arg (h : Rq w r S b xs) {k : Int} (n : Int) {m : Mb} (hf : finM xs k = some m) (hn : n < 0 ∨ 1099511627776 < n) :
    Calls Try.prog 66 #[.pointer (some ⟨r, 0, none⟩), .int .i64 k, .int .i64 n] w fun e w' => e = .returned (.int .i64 1) ∧ Kp No w w' := by
  obtain ⟨i, hi, hm, hat⟩ := refat_some h hf
  have HAT := hid hat
  have hi0 : ¬ (i : Int) < 0 := by omega
  clear h hf hat
  rcases hn with hn | hn
  · have hb1 : decide (n < 0) = true := by simp; omega
    go_enter Try.func66, Try.ntmps66
    go_wp2_with fail
    refine HAT.out.mono ?_
    rintro e w1 ⟨rfl, rfl⟩
    go_wp2_with fail
    go_ret
    exact ⟨rfl, Kp.refl No _⟩
  · have hb1 : decide (n < 0) = false := by simp; omega
    have hb2 : decide (1099511627776 < n) = true := by simp; omega
    go_enter Try.func66, Try.ntmps66
    go_wp2_with fail
    refine HAT.out.mono ?_
    rintro e w1 ⟨rfl, rfl⟩
    go_wp2_with fail
    go_ret
    exact ⟨rfl, Kp.refl No _⟩

theorem tk_in {n : Int} (h1 : 0 ≤ n) (h2 : n ≤ 1099511627776) : tk n = n := by unfold tk; split <;> (try split) <;> omega

set_option maxRecDepth 100000 in
set_option maxHeartbeats 4000000 in
theorem refrun_ok (h : Rq w r S b xs) {k : Int} {n : Int} {m : Mb} (hf : finM xs k = some m) (hm0 : Ok b m) (hb0 : 0 ≤ b) (h1 : 0 ≤ n) (h2 : n ≤ 1099511627776) :
    ∃ i, i < xs.length ∧ xs.getD i mb0 = m ∧ Calls Try.prog 66 #[.pointer (some ⟨r, 0, none⟩), .int .i64 k, .int .i64 n] w fun e w' =>
      (2305843009213693952 < (ranM m n).v ∧ e = .returned (.int .i64 6) ∧ Kp No w w') ∨
      ((ranM m n).v ≤ 2305843009213693952 ∧ e = .returned (.int .i64 0) ∧ Kp (Only r) w w' ∧ ∃ L, (∀ j, j < xs.length → L ≤ ((xs.set i (ranM m n)).getD j mb0).v) ∧ (∃ x ∈ xs.set i (ranM m n), x.v = L) ∧ Rq w' r (fun i => w.heap.size ≤ i) (max b L) (xs.set i (ranM m n))) := by
  obtain ⟨i, hi, hm, hat⟩ := refat_some h hf
  refine ⟨i, hi, hm, ?_⟩
  obtain ⟨lb, lo, c, c0, _, hc, a0, a1, a2, a3, hrl⟩ := h.mem hi
  rw [hm] at a0 a1 a2 a3
  have HAT := hid hat
  have H := hid h
  have hi0 : ¬ (i : Int) < 0 := by omega
  have hil : (i : Int) < (xs.length : Int) := by omega
  have hb1 : decide (n < 0) = false := by simp; omega
  have hb2 : decide (1099511627776 < n) = false := by simp; omega
  have hw := wt_in hm0.w1 hm0.w2
  have hcan : can m.v m.r m.w = true := can_iff.2 ⟨by have := hm0.v1; omega, hm0.v2, hm0.r1, by rw [hw]; exact hm0.r2⟩
  obtain ⟨V, hV⟩ : ∃ V, (ranM m n).v = V := ⟨_, rfl⟩
  obtain ⟨D, hD⟩ : ∃ D, (ranM m n).r = D := ⟨_, rfl⟩
  have HW : Hid (ranM m n = ⟨m.id, m.w, V, D⟩) := hid (by rw [← hV, ← hD]; rfl)
  have RW := hid fun w => refrun_is (w := w) (v := m.v) (r := m.r) (x := m.w) (t := n) (a := V) (b := D) hcan (by rw [tk_in h1 h2, hw]; exact hV) (by rw [tk_in h1 h2, hw]; exact hD)
  rw [hV]
  rw [HW.out]
  have hmem : ∃ x ∈ xs.set i (⟨m.id, m.w, V, D⟩ : Mb), x.v = V := ⟨_, List.mem_set hi _, rfl⟩
  have hlen : (xs.set i (⟨m.id, m.w, V, D⟩ : Mb)).length = xs.length := List.length_set ..
  obtain ⟨ys, hys⟩ : ∃ ys, xs.set i (⟨m.id, m.w, V, D⟩ : Mb) = ys := ⟨_, rfl⟩
  rw [hys] at hmem hlen ⊢
  have HYS := hid hys
  have HM := hid hmem
  clear hys hmem
  clear h hf hat hD hw hcan hV hm0
  go_enter Try.func66, Try.ntmps66
  go_wp2_with fail
  refine HAT.out.mono ?_
  rintro e w1 ⟨rfl, rfl⟩
  go_wp2_with fail
  have b1 := Blk.new w1 125 #[.int .i64 m.id, .int .i64 m.w, .int .i64 m.v, .int .i64 m.r]
  have k1 := (Kp.refl No w1).alloc (.cells #[.int .i64 m.id, .int .i64 m.w, .int .i64 m.v, .int .i64 m.r] 125)
  have K1 := hid k1
  have B1 := hid b1
  clear b1 k1 a0 a1 a2 a3 c0
  refine (RW.out _).mono ?_
  rintro e w2 ⟨rfl, k2⟩
  have K2 := hid (K1.out.trans k2)
  have b2 := B1.out.kp0 k2
  have x0 := b2.cell 0
  have x1 := b2.cell 1
  have x2 := b2.cell 2
  have x3 := b2.cell 3
  have f2 := b2.frozen 2
  have f3 := b2.frozen 3
  have l2 := b2.lt
  simp at x0 x1 x2 x3
  have k5 : Kp (Only w1.heap.size) w2 ((w2.setCell ⟨w1.heap.size, 2, none⟩ (.int .i64 V)).setCell ⟨w1.heap.size, 3, none⟩ (.int .i64 D)) :=
    ((Kp.refl (Only w1.heap.size) w2).setCell (p := ⟨w1.heap.size, 2, none⟩) (.inl rfl) _).setCell (p := ⟨w1.heap.size, 3, none⟩) (.inl rfl) _
  have K5 := hid (K2.out.step k5 fun i hi e => by have : i = w1.heap.size := e; omega)
  have b5 := (b2.put 2 (.int .i64 V)).put 3 (.int .i64 D)
  by_cases hfar : 2305843009213693952 < V
  · go_wp2_with fail
    go_ret
    exact .inl ⟨hfar, rfl, K5.out⟩
  go_wp2_with fail
  have y0 := b5.cell 0
  have y1 := b5.cell 1
  have y2 := b5.cell 2
  have y3 := b5.cell 3
  generalize (w2.setCell ⟨w1.heap.size, 2, none⟩ (.int .i64 V)).setCell ⟨w1.heap.size, 3, none⟩ (.int .i64 D) = w5 at k5 K5 b5 y0 y1 y2 y3 ⊢
  simp at y0 y1 y2 y3
  have B5 := hid b5
  clear x0 x1 x2 x3 f2 f3 l2 b2 k5 b5
  refine (refset_any (H.out.kp0 K5.out) hi ⟨m.id, m.w, V, D⟩).mono ?_
  rintro e w6 ⟨⟨_, rfl⟩, k6, q6⟩
  rw [HYS.out] at q6
  have KF := hid ((K5.out.all (S := Only r)).trans k6)
  have QF := hid (q6.mono (S' := fun i => w1.heap.size ≤ i) (fun i _ hi => by have := K5.out.size; omega) (by omega))
  have b6 := B5.out.kp k6 fun e => by have : w1.heap.size = r := e; omega
  have z2 := b6.cell 2
  simp at z2
  clear k6 q6 y0 y1 y2 y3
  go_wp2_with fail
  clear z2 b6 B5
  go_loopw [9, 10] (fun o j wr => ∃ (L : Int) (q : Nat), q ≤ ys.length ∧ o = .int .i64 L ∧ j = .int .i64 (q : Int) ∧ wr = w6 ∧ Hid ((∀ t, t < q → L ≤ (ys.getD t mb0).v) ∧ ∃ x ∈ ys, x.v = L)) (fun _ j _ => ys.length - (intOf j).toNat)
  case atStart => exact ⟨V, 0, by omega, rfl, rfl, rfl, hid ⟨fun t ht => by omega, HM.out⟩⟩
  case round =>
    obtain ⟨L, q, hq, rfl, rfl, rfl, HH⟩ := hrel
    have hyl := QF.out.len
    by_cases hlt : q < ys.length
    · have hqi : (q : Int) < (ys.length : Int) := by omega
      have hq0 : ¬ (q : Int) < 0 := by omega
      obtain ⟨lb2, lo2, c2, d0, _, hc2, e0, e1, e2, e3, hrl2⟩ := QF.out.mem hlt
      have g5 : IntKind.i64.wrap ((q : Int) + 1) = (q : Int) + 1 := wrapI (by unfold I64; omega)
      have hin : ys.getD q mb0 ∈ ys := getD_mem hlt
      obtain ⟨x, hx⟩ : ∃ x, ys.getD q mb0 = x := ⟨_, rfl⟩
      rw [hx] at e0 e1 e2 e3 hin
      have HX := hid hx
      have HIN := hid hin
      clear hx hin e0 e1 e3
      rcases Int.lt_trichotomy L x.v with hb | hb | hb
      · go_wp2_with fail
        go_roundw
        case rel => exact ⟨L, q + 1, by omega, rfl, by go_num, trivial, hid ⟨fun t ht => by
          rcases (show t < q ∨ t = q by omega) with h | rfl
          · exact HH.out.1 t h
          · rw [HX.out]; omega, HH.out.2⟩⟩
        case measure => simp [intOf]; omega
      · have HBB := hid hb
        rw [← hb] at e2
        clear hb
        go_wp2_with fail
        go_roundw
        case rel => exact ⟨L, q + 1, by omega, rfl, by go_num, trivial, hid ⟨fun t ht => by
          have hbb := HBB.out
          rcases (show t < q ∨ t = q by omega) with h | rfl
          · exact HH.out.1 t h
          · rw [HX.out]; omega, HH.out.2⟩⟩
        case measure => simp [intOf]; omega
      · go_wp2_with fail
        go_roundw
        case rel => exact ⟨x.v, q + 1, by omega, rfl, by go_num, trivial, hid ⟨fun t ht => by
          rcases (show t < q ∨ t = q by omega) with h | rfl
          · have := HH.out.1 t h; omega
          · rw [HX.out]; omega, ⟨x, HIN.out, rfl⟩⟩⟩
        case measure => simp [intOf]; omega
    · have hq2 : q = ys.length := by omega
      subst hq2
      obtain ⟨⟨v, hb, hr⟩, hl, hnr⟩ := QF.out
      have d0 := hb.cell 0
      have d1 := hb.cell 1
      have f1 := hb.frozen 1
      have hrl2 := hb.lt
      obtain ⟨A, c2, rfl, hc2, hmx2, hr2⟩ := (id hr)
      clear hr2
      simp only [maxLen] at hmx2
      simp at d0 d1
      have fin : ∀ u : Int, max b L = u → Kp (Only r) w1 (wr.setCell ⟨r, 1, none⟩ (.int .i64 u)) ∧ Rq (wr.setCell ⟨r, 1, none⟩ (.int .i64 u)) r (fun i => w1.heap.size ≤ i) (max b L) ys := fun u hu => by
        have k7 := Kp.set1 r 1 wr (.int .i64 u)
        refine ⟨KF.out.trans k7, ⟨_, ?_, hr.kp k7 fun i _ hi e => by have : i = r := e; omega⟩, hl, hnr⟩
        rw [hu]
        simpa using hb.put 1 (.int .i64 u)
      have FIN := hid fin
      clear fin hb hr
      rw [hlen] at HH
      rcases Int.lt_trichotomy b L with hbl | hbl | hbl
      · go_wp2_with fail
        go_ret
        exact .inr ⟨by omega, rfl, (FIN.out _ (by omega)).1, L, HH.out.1, HH.out.2, (FIN.out _ (by omega)).2⟩
      · subst hbl
        go_wp2_with fail
        go_ret
        exact .inr ⟨by omega, rfl, (FIN.out _ (by omega)).1, b, HH.out.1, HH.out.2, (FIN.out _ (by omega)).2⟩
      · go_wp2_with fail
        go_ret
        exact .inr ⟨by omega, rfl, (FIN.out _ (by omega)).1, L, HH.out.1, HH.out.2, (FIN.out _ (by omega)).2⟩
end
end Go.Proofs.Ytpbnmfoecmhnnaa

/-
  The document's queue: Mean.
-/
namespace Go.Proofs.Ytpbnmfoecmhnnaa
open Go.RowKit

section
variable {w w' : World} {r : Nat} {S : Nat → Prop} {b : Int} {xs : List Mb}
/-- What Mean tells. -/
def MeanE (b : Int) (xs : List Mb) (e : Ending) : Prop :=
  ((∃ m ∈ xs, 1048576 < m.v - b) ∧ e = .returned (.tuple #[.int .i64 0, .bool false])) ∨ ((∀ m ∈ xs, Nr b m) ∧ xs = [] ∧ e = .returned (.tuple #[.int .i64 0, .bool false])) ∨
  ((∀ m ∈ xs, Nr b m) ∧ xs ≠ [] ∧ e = .returned (.tuple #[.int .i64 (mean b (Wq xs) (Pq b xs)), .bool true]))

set_option maxRecDepth 100000 in
set_option maxHeartbeats 4000000 in
theorem refmean_any (h : Rq w r S b xs) (hok : ∀ m ∈ xs, Ok b m) (hb0 : 0 ≤ b) (hb2 : b ≤ 2305843009213693952) :
    Calls Try.prog 42 #[.pointer (some ⟨r, 0, none⟩)] w fun e w' => MeanE b xs e ∧ Kp No w w' := by
  have hl := h.len
  obtain ⟨v, hvv, hvr⟩ : ∃ v, w.cell? ⟨r, 0, none⟩ = some v ∧ ∃ A c, v = .slice A xs.length c := by
    obtain ⟨⟨v, hb, hr⟩, _, _⟩ := h
    obtain ⟨A, c, rfl, _⟩ := hr
    exact ⟨_, by simpa using hb.cell 0, A, c, rfl⟩
  have H := hid h
  have HOK := hid hok
  clear h hok hvv hvr v
  go_enter Try.func42, Try.ntmps42
  go_wp2_with fail
  go_loopw [4, 5, 6, 7] (fun a p i _ wr => ∃ k : Nat, k ≤ xs.length ∧ a = .int .i64 (Wq (xs.take k)) ∧ p = .int .i64 (Pq b (xs.take k)) ∧ i = .int .i64 (k : Int) ∧ Hid (∀ m ∈ xs.take k, Nr b m) ∧ Hid (Kp No w wr)) (fun _ _ i _ _ => xs.length - (intOf i).toNat)
  case atStart => exact ⟨0, by omega, by simp [Wq], by simp [Pq], rfl, hid (fun m hm => by simp at hm), hid (Kp.refl No _)⟩
  case round =>
    obtain ⟨k, hk, rfl, rfl, rfl, HN, HK⟩ := hrel
    by_cases hlt : k < xs.length
    · have hki : (k : Int) < (xs.length : Int) := by omega
      have hk0 : ¬ (k : Int) < 0 := by omega
      obtain ⟨lb, lo, c, d0, d1, hc, e0, e1, e2, e3, hrl⟩ := (H.out.kp0 HK.out).mem hlt
      have hin : xs.getD k mb0 ∈ xs := getD_mem hlt
      have HT := hid (take_at xs mb0 hlt)
      generalize xs.getD k mb0 = x at e0 e1 e2 e3 hin HT
      have o := HOK.out x hin
      have o1 := o.v1
      have o2 := o.v2
      have o3 := o.w1
      have o4 := o.w2
      have hbd := near_bd HN.out
      have hln : ((xs.take k).length : Int) = (k : Int) := by simp; omega
      rw [hln] at hbd
      obtain ⟨a, ha⟩ : ∃ a, Wq (xs.take k) = a := ⟨_, rfl⟩
      obtain ⟨p, hp⟩ : ∃ p, Pq b (xs.take k) = p := ⟨_, rfl⟩
      have HAP : Hid (Wq (xs.take (k + 1)) = a + x.w ∧ Pq b (xs.take (k + 1)) = p + x.w * (x.v - b)) := hid (by rw [HT.out, Wq_app, Pq_app, ha, hp]; exact ⟨rfl, rfl⟩)
      rw [ha, hp] at hbd ⊢
      have g1 : IntKind.i64.wrap (x.v - b) = x.v - b := wrapI (by unfold I64; omega)
      have g5 : IntKind.i64.wrap ((k : Int) + 1) = (k : Int) + 1 := wrapI (by unfold I64; omega)
      have HIN := hid hin
      clear hin o
      by_cases hfar : 1048576 < x.v - b
      · go_wp2_with fail
        go_quiet (fail)
        go_wp2_with fail
        exact bodyPost_ret (v := .tuple #[.int .i64 0, .bool false]) (by simp [results, Try.results42, go_sem]) rfl ⟨.inl ⟨⟨x, HIN.out, hfar⟩, rfl⟩, HK.out.drewN _⟩
      · have nx : Nr b x := ⟨o3, o4, by omega, by omega⟩
        have hmul := near_mul nx
        have NX := hid nx
        obtain ⟨t, ht⟩ : ∃ t, x.w * (x.v - b) = t := ⟨_, rfl⟩
        rw [ht] at hmul HAP
        have g2 : IntKind.i64.wrap (x.w * (x.v - b)) = t := by rw [ht]; exact wrapI (by unfold I64; omega)
        have g3 : IntKind.i64.wrap (p + t) = p + t := wrapI (by unfold I64; omega)
        have g4 : IntKind.i64.wrap (a + x.w) = a + x.w := wrapI (by unfold I64; omega)
        clear ht nx
        go_wp2_with fail
        go_quiet (fail)
        go_wp2_with fail
        go_roundw
        case rel => exact ⟨k + 1, by omega, by rw [HAP.out.1], by rw [HAP.out.2], by go_num, hid (fun m hm => by
          rw [HT.out] at hm
          rcases List.mem_append.1 hm with h | h
          · exact HN.out m h
          · rw [List.mem_singleton.1 h]; exact NX.out), hid (HK.out.drewN _)⟩
        case measure => simp [intOf]; omega
    · have hk2 : k = xs.length := by omega
      subst hk2
      rw [List.take_length] at HN ⊢
      have hbd := near_bd HN.out
      obtain ⟨⟨v, hb, hr⟩, hl', hnr⟩ := H.out.kp0 HK.out
      obtain ⟨A, c, rfl, _⟩ := hr
      have d0 := hb.cell 0
      have d1 := hb.cell 1
      have hrl := hb.lt
      simp at d0 d1
      obtain ⟨a, ha⟩ : ∃ a, Wq xs = a := ⟨_, rfl⟩
      obtain ⟨p, hp⟩ : ∃ p, Pq b xs = p := ⟨_, rfl⟩
      rw [ha, hp] at hbd ⊢
      by_cases h0 : xs = []
      · have ha0 : a = 0 := by rw [← ha, h0]; rfl
        have hq1 : (a == 0) = true := by rw [ha0]; rfl
        have H0 := hid h0
        clear h0 ha hp ha0
        go_wp2_with fail
        exact bodyPost_ret (v := .tuple #[.int .i64 0, .bool false]) (by simp [results, Try.results42, go_sem]) rfl ⟨.inr (.inl ⟨HN.out, H0.out, rfl⟩), HK.out⟩
      · have hpos : 0 < xs.length := List.length_pos_iff.2 h0
        have hq1 : (a == 0) = false := by rw [beq_eq_false_iff_ne]; omega
        have hq2 : decide (4294967296 < a) = false := by simp; omega
        have ha0 : ¬ a = 0 := by omega
        obtain ⟨q, hq⟩ : ∃ q, p / a = q := ⟨_, rfl⟩
        have q0 : 0 ≤ q := by rw [← hq]; exact Int.ediv_nonneg (by omega) (by omega)
        have q1 : q ≤ p := by rw [← hq]; exact Int.ediv_le_self _ (by omega)
        have f1 : p.tdiv a = q := by rw [Int.tdiv_eq_ediv_of_nonneg (by omega), hq]
        have f2 : IntKind.i64.wrap q = q := wrapI (by unfold I64; omega)
        have f3 : IntKind.i64.wrap (b + q) = b + q := wrapI (by unfold I64; omega)
        have HM := hid (show mean b (Wq xs) (Pq b xs) = b + q by unfold mean; rw [ha, hp, if_neg ha0, hq])
        have H0 := hid h0
        clear h0 ha hp hq
        go_wp2_with fail
        go_quiet (fail)
        go_wp2_with fail
        exact bodyPost_ret (v := .tuple #[.int .i64 (b + q), .bool true]) (by simp [results, Try.results42, go_sem]) rfl ⟨.inr (.inr ⟨HN.out, H0.out, by rw [HM.out]⟩), HK.out.drewN _⟩
end
end Go.Proofs.Ytpbnmfoecmhnnaa

/-
  The document's queue: Leave.
-/
namespace Go.Proofs.Ytpbnmfoecmhnnaa
open Go.RowKit

section
variable {w w' : World} {r : Nat} {S : Nat → Prop} {b : Int} {xs : List Mb}
set_option maxRecDepth 100000 in
set_option maxHeartbeats 1000000 in
theorem refleave_none (h : Rq w r S b xs) {k : Int} (hf : finM xs k = none) :
    Calls Try.prog 65 #[.pointer (some ⟨r, 0, none⟩), .int .i64 k] w fun e w' => e = .returned (.tuple #[.agg #[.int .i64 0, .int .i64 0, .int .i64 0, .int .i64 0], .int .i64 8]) ∧ Kp No w w' := by
  have H1 := hid (h.kp0 ((Kp.refl No w).alloc (.cells #[.int .i64 0, .int .i64 0, .int .i64 0, .int .i64 0] 67)))
  have HF := hid hf
  clear h hf
  go_enter Try.func65, Try.ntmps65
  go_wp2_with fail
  refine (refat_none H1.out HF.out).mono ?_
  rintro e w1 ⟨rfl, rfl⟩
  go_wp2_with fail
  exact bodyPost_ret (v := .tuple #[.agg #[.int .i64 0, .int .i64 0, .int .i64 0, .int .i64 0], .int .i64 8]) (by simp [results, Try.results65, go_sem]) rfl ⟨rfl, (Kp.refl No w).alloc _⟩

set_option maxRecDepth 100000 in
set_option maxHeartbeats 4000000 in
theorem refleave_ok (h : Rq w r S b xs) {k : Int} {m : Mb} (hf : finM xs k = some m) (hw : I64 (m.v - b)) :
    ∃ i, i < xs.length ∧ xs.getD i mb0 = m ∧ Calls Try.prog 65 #[.pointer (some ⟨r, 0, none⟩), .int .i64 k] w fun e w' => e = .returned (.tuple #[.agg #[.int .i64 m.id, .int .i64 m.w, .int .i64 (m.v - b), .int .i64 m.r], .int .i64 0]) ∧ Kp (Only r) w w' ∧ Rq w' r (fun i => w.heap.size ≤ i) b (xs.take i ++ xs.drop (i + 1)) := by
  obtain ⟨i, hi, hm, _⟩ := refat_some h hf
  obtain ⟨n, hn, hmn, hat⟩ := refat_some (h.kp0 ((Kp.refl No w).alloc (.cells #[.int .i64 0, .int .i64 0, .int .i64 0, .int .i64 0] 67))) hf
  refine ⟨n, hn, hmn, ?_⟩
  have hl := h.len
  have K0 := hid ((Kp.refl No w).alloc (.cells #[.int .i64 0, .int .i64 0, .int .i64 0, .int .i64 0] 67))
  have B0 := hid (Blk.new w 67 #[.int .i64 0, .int .i64 0, .int .i64 0, .int .i64 0])
  obtain ⟨lb, lo, c, c0, _, hc, a0, a1, a2, a3, hrl⟩ := (h.kp0 K0.out).mem hn
  rw [hmn] at a0 a1 a2 a3
  have hrw : r < w.heap.size := by obtain ⟨⟨v, hb, _⟩, _, _⟩ := h; exact hb.lt
  have HAT := hid hat
  have H := hid h
  have hi0 : ¬ (n : Int) < 0 := by omega
  have hil : (n : Int) < (xs.length : Int) := by omega
  clear h hf hat hi hm
  go_enter Try.func65, Try.ntmps65
  go_wp2_with fail
  generalize w.alloc (.cells #[.int .i64 0, .int .i64 0, .int .i64 0, .int .i64 0] 67) = w1 at HAT a0 a1 a2 a3 c0 K0 B0 hrl ⊢
  refine HAT.out.mono ?_
  rintro e w1 ⟨rfl, rfl⟩
  go_wp2_with fail
  obtain ⟨⟨v1, hb1, _⟩, _, _⟩ := H.out.kp0 K0.out
  refine (reftold_any hb1 m hw).mono ?_
  rintro e w2 ⟨rfl, k2⟩
  have k3 := k2.alloc (.cells #[.int .i64 m.id, .int .i64 m.w, .int .i64 (m.v - b), .int .i64 m.r] 67)
  have B3 := hid (Blk.new w2 67 #[.int .i64 m.id, .int .i64 m.w, .int .i64 (m.v - b), .int .i64 m.r])
  have K3 := hid (K0.out.trans k3)
  have B03 := hid (B0.out.kp0 k3)
  have hbm : w.heap.size < w2.heap.size := Nat.lt_of_lt_of_le B0.out.lt k2.size
  clear k2 k3 a0 a1 a2 a3 c0 hb1
  go_wp2_with fail
  have hlt2 := (B03.out).lt
  generalize w2.alloc (.cells #[.int .i64 m.id, .int .i64 m.w, .int .i64 (m.v - b), .int .i64 m.r] 67) = w3 at B3 K3 B03 hlt2 ⊢
  generalize w2.heap.size = bm at B3 hbm ⊢
  obtain ⟨⟨v, hb, hr⟩, _, hnr⟩ := H.out.kp0 K3.out
  obtain ⟨A, cc, rfl, hcc, hmx, hr2⟩ := (id hr)
  simp only [maxLen] at hmx
  have c0 := hb.cell 0
  have f0 := hb.frozen 0
  have hl3 := hb.lt
  simp at c0
  have HR := hid hr
  have HB := hid hb
  have g1 : IntKind.i64.wrap ((n : Int) + 1) = (n : Int) + 1 := wrapI (by unfold I64; omega)
  have b1 : (0 : Int) ≤ (n : Int) := by omega
  have b2 : (n : Int) ≤ (cc : Int) := by omega
  have b3 : (0 : Int) ≤ (n : Int) + 1 := by omega
  have b4 : (n : Int) + 1 ≤ (xs.length : Int) := by omega
  clear hr hb hr2
  have hn1 : n ≤ xs.length := by omega
  have hn2 : n + 1 ≤ xs.length := by omega
  have KD := hid ((Kp.refl No w3).drew.alloc (.cells #[] 125))
  have e0 := (HB.out.kp0 KD.out).cell 0
  have e1 := (HB.out.kp0 KD.out).frozen 0
  simp at e0
  go_region_law (first
    | (refine step_apps usRm mc_one (by rfl) (.tmp 24) (.tmp 30) (by rfl) (d := mb0) (base := w3.heap.size) (xs := []) (ys := xs.take n) (Pb := S) _ _ (by rfl) (by rfl) (by exact (Ow.mt w3 w3.heap.size _ _ _ (Nat.le_refl _)).kp0 (Kp.refl No _).drew) (by exact (HR.out.kp0 KD.out).take n hn1) (by simp; omega) (by simp [maxLen]; omega) (by simp) ?_
       intro v5 w5 o5 k5
       have K5a : Kp (fun k => w3.heap.size ≤ k) _ w5 := (Kp.refl (fun k => w3.heap.size ≤ k) _).grown k5 fun k hk => .inl ((Ow.mt w3 w3.heap.size 125 4 mc (Nat.le_refl _)).at_ k hk)
       have K5 := hid (Kp.step (Kp.refl No w3) ((Kp.all KD.out).trans K5a) fun i hi e => by omega)
       have u0 := (HB.out.kp0 K5.out).cell 0
       have u1 := (HB.out.kp0 K5.out).frozen 0
       have u2 := (HB.out.kp0 K5.out).lt
       simp at u0)
    | (refine step_apps usRm mc_one (by rfl) (.tmp 31) (.tmp 38) (by rfl) (d := mb0) (base := w3.heap.size) (ys := xs.drop (n + 1)) (Pb := S) _ _ (by rfl) (by rfl) o5 (by exact (HR.out.kp0 K5.out).dropG (n + 1) hn2) (by simp; omega) (by simp [maxLen]; omega) (by have := K5.out.size; omega) ?_
       intro v6 w6 o6 k6
       have K6a : Kp (fun k => w3.heap.size ≤ k) w5 w6 := (Kp.refl (fun k => w3.heap.size ≤ k) w5).grown k6 fun k hk => .inl (o5.at_ k hk)
       have K6 := hid (Kp.step (Kp.refl No w3) ((Kp.all K5.out).trans K6a) fun i hi e => by omega)
       have s0 := (HB.out.kp0 K6.out).cell 0
       have s1 := (HB.out.kp0 K6.out).frozen 0
       have s2 := (HB.out.kp0 K6.out).lt
       simp at s0
       have o7 := o6.formN (m := xs.length - 1) (by simp; omega)
       obtain ⟨A6, c6, rfl⟩ := o7))
  all_goals
    have ks := Kp.set1 r 0 w6 (.slice A6 (xs.length - 1) c6)
    have hs3 := K3.out.size
    have KF := hid (((K3.out.trans K6.out).all (S := Only r)).trans ks)
    have B6 := hid ((HB.out.kp0 K6.out).put 0 (.slice A6 (xs.length - 1) c6))
    have R6 := hid ((o6.rwP (d := mb0) (P := fun i => w3.heap.size ≤ i) fun i hi => hi).kp ks fun i _ hi e => by have : i = r := e; omega)
    have M6 := hid ((B3.out.kp0 K6.out).kp ks fun e => by have : bm = r := e; omega)
    have N6 := hid ((B03.out.kp0 K6.out).kp ks fun e => by have : w.heap.size = r := e; omega)
    clear s0 s1 s2 u0 u1 u2 e0 e1 c0 f0 o5 o6 k5 k6 K5a K6a
    generalize w6.setCell ⟨r, 0, none⟩ (.slice A6 (xs.length - 1) c6) = w7 at ks KF B6 R6 M6 N6 ⊢
    have x0 := M6.out.cell 0
    have x1 := M6.out.cell 1
    have x2 := M6.out.cell 2
    have x3 := M6.out.cell 3
    have y0 := N6.out.cell 0
    have y1 := N6.out.cell 1
    have y2 := N6.out.cell 2
    have y3 := N6.out.cell 3
    have z0 := N6.out.frozen 0
    have z1 := N6.out.frozen 1
    have z2 := N6.out.frozen 2
    have z3 := N6.out.frozen 3
    have zl := N6.out.lt
    simp at x0 x1 x2 x3 y0 y1 y2 y3
    go_wp2_with fail
    all_goals
      have kf := kp4 w.heap.size w7 (.int .i64 m.id) (.int .i64 m.w) (.int .i64 (m.v - b)) (.int .i64 m.r)
      have bf := N6.out.put4 (.int .i64 m.id) (.int .i64 m.w) (.int .i64 (m.v - b)) (.int .i64 m.r)
      have bs := B6.out.kp kf fun e => by have : r = w.heap.size := e; omega
      have rs := R6.out.kp kf fun i _ hi e => by have : i = w.heap.size := e; omega
      generalize (((w7.setCell ⟨w.heap.size, 0, none⟩ (.int .i64 m.id)).setCell ⟨w.heap.size, 1, none⟩ (.int .i64 m.w)).setCell ⟨w.heap.size, 2, none⟩ (.int .i64 (m.v - b))).setCell ⟨w.heap.size, 3, none⟩ (.int .i64 m.r) = wf at kf bf bs rs ⊢
      have t0 := bf.cell 0
      have t1 := bf.cell 1
      have t2 := bf.cell 2
      have t3 := bf.cell 3
      simp at t0 t1 t2 t3
      rw [List.nil_append] at rs
      exact bodyPost_ret (v := .tuple #[.agg #[.int .i64 m.id, .int .i64 m.w, .int .i64 (m.v - b), .int .i64 m.r], .int .i64 0]) (by simp [results, Try.results65, go_sem, t0, t1, t2, t3]) rfl
        ⟨rfl, KF.out.step kf fun i hi e => by have : i = w.heap.size := e; omega, ⟨_, by simpa using bs, rs.mono fun i _ hi => by omega⟩, by simp; omega, by omega⟩
end
end Go.Proofs.Ytpbnmfoecmhnnaa

/-
  The document's queue: Join.
-/
namespace Go.Proofs.Ytpbnmfoecmhnnaa
open Go.RowKit Go.Shelf

section
variable {w w' : World} {r : Nat} {S : Nat → Prop} {b : Int} {xs : List Mb}
set_option maxRecDepth 100000 in
set_option maxHeartbeats 2000000 in
theorem refjoin_arg (r : Nat) (m : Mb) (hm : isM m = false) (w : World) :
    Calls Try.prog 64 #[.pointer (some ⟨r, 0, none⟩), .agg #[.int .i64 m.id, .int .i64 m.w, .int .i64 m.v, .int .i64 m.r]] w fun e w' => e = .returned (.int .i64 1) ∧ Kp No w w' := by
  have hm' : ¬ isM m = true := by rw [hm]; exact Bool.false_ne_true
  rw [isM_iff] at hm'
  obtain ⟨cc, hcc⟩ : ∃ cc, can m.v m.r m.w = cc := ⟨_, rfl⟩
  have HC := hid hcc
  by_cases h0 : m.id < 1
  · clear hm hm' hcc
    have B0 := hid (Blk.new w 67 #[.int .i64 m.id, .int .i64 m.w, .int .i64 m.v, .int .i64 m.r])
    go_enter Try.func64, Try.ntmps64
    go_wp2_with fail
    refine (refright_any m.v m.r m.w _).mono ?_
    rintro e w1 ⟨rfl, k1⟩
    have K1 := hid (((Kp.refl No w).alloc _).trans k1)
    have B1 := hid (B0.out.kp0 k1)
    clear k1 B0
    rw [HC.out]
    have x0 := B1.out.cell 0
    have x1 := B1.out.cell 1
    have x2 := B1.out.cell 2
    have x3 := B1.out.cell 3
    have l1 := B1.out.lt
    simp only [List.getElem?_toArray, List.getElem?_cons_zero, List.getElem?_cons_succ] at x0 x1 x2 x3
    go_wp2_with fail
    go_ret
    exact ⟨rfl, K1.out⟩
  have n0 := decide_eq_false h0
  by_cases h1 : 1048576 < m.id
  · clear hm hm' hcc
    have B0 := hid (Blk.new w 67 #[.int .i64 m.id, .int .i64 m.w, .int .i64 m.v, .int .i64 m.r])
    go_enter Try.func64, Try.ntmps64
    go_wp2_with fail
    refine (refright_any m.v m.r m.w _).mono ?_
    rintro e w1 ⟨rfl, k1⟩
    have K1 := hid (((Kp.refl No w).alloc _).trans k1)
    have B1 := hid (B0.out.kp0 k1)
    clear k1 B0
    rw [HC.out]
    have x0 := B1.out.cell 0
    have x1 := B1.out.cell 1
    have x2 := B1.out.cell 2
    have x3 := B1.out.cell 3
    have l1 := B1.out.lt
    simp only [List.getElem?_toArray, List.getElem?_cons_zero, List.getElem?_cons_succ] at x0 x1 x2 x3
    go_wp2_with fail
    go_ret
    exact ⟨rfl, K1.out⟩
  have n1 := decide_eq_false h1
  by_cases h2 : m.w < 1
  · clear hm hm' hcc
    have B0 := hid (Blk.new w 67 #[.int .i64 m.id, .int .i64 m.w, .int .i64 m.v, .int .i64 m.r])
    go_enter Try.func64, Try.ntmps64
    go_wp2_with fail
    refine (refright_any m.v m.r m.w _).mono ?_
    rintro e w1 ⟨rfl, k1⟩
    have K1 := hid (((Kp.refl No w).alloc _).trans k1)
    have B1 := hid (B0.out.kp0 k1)
    clear k1 B0
    rw [HC.out]
    have x0 := B1.out.cell 0
    have x1 := B1.out.cell 1
    have x2 := B1.out.cell 2
    have x3 := B1.out.cell 3
    have l1 := B1.out.lt
    simp only [List.getElem?_toArray, List.getElem?_cons_zero, List.getElem?_cons_succ] at x0 x1 x2 x3
    go_wp2_with fail
    go_ret
    exact ⟨rfl, K1.out⟩
  have n2 := decide_eq_false h2
  by_cases h3 : 1048576 < m.w
  · clear hm hm' hcc
    have B0 := hid (Blk.new w 67 #[.int .i64 m.id, .int .i64 m.w, .int .i64 m.v, .int .i64 m.r])
    go_enter Try.func64, Try.ntmps64
    go_wp2_with fail
    refine (refright_any m.v m.r m.w _).mono ?_
    rintro e w1 ⟨rfl, k1⟩
    have K1 := hid (((Kp.refl No w).alloc _).trans k1)
    have B1 := hid (B0.out.kp0 k1)
    clear k1 B0
    rw [HC.out]
    have x0 := B1.out.cell 0
    have x1 := B1.out.cell 1
    have x2 := B1.out.cell 2
    have x3 := B1.out.cell 3
    have l1 := B1.out.lt
    simp only [List.getElem?_toArray, List.getElem?_cons_zero, List.getElem?_cons_succ] at x0 x1 x2 x3
    go_wp2_with fail
    go_ret
    exact ⟨rfl, K1.out⟩
  have n3 := decide_eq_false h3
  have hf : cc = false := by
    rw [← hcc, Bool.eq_false_iff]
    intro h
    obtain ⟨a1, a2, a3, a4⟩ := can_iff.1 h
    rw [wt_in (by omega) (by omega)] at a4
    exact hm' ⟨⟨by omega, by omega⟩, ⟨by omega, by omega⟩, ⟨a1, a2⟩, a3, a4⟩
  subst hf
  clear hm hm' hcc
  have B0 := hid (Blk.new w 67 #[.int .i64 m.id, .int .i64 m.w, .int .i64 m.v, .int .i64 m.r])
  go_enter Try.func64, Try.ntmps64
  go_wp2_with fail
  refine (refright_any m.v m.r m.w _).mono ?_
  rintro e w1 ⟨rfl, k1⟩
  have K1 := hid (((Kp.refl No w).alloc _).trans k1)
  have B1 := hid (B0.out.kp0 k1)
  clear k1 B0
  rw [HC.out]
  have x0 := B1.out.cell 0
  have x1 := B1.out.cell 1
  have x2 := B1.out.cell 2
  have x3 := B1.out.cell 3
  have l1 := B1.out.lt
  simp only [List.getElem?_toArray, List.getElem?_cons_zero, List.getElem?_cons_succ] at x0 x1 x2 x3
  go_wp2_with fail
  go_ret
  exact ⟨rfl, K1.out⟩

set_option maxRecDepth 100000 in
set_option maxHeartbeats 4000000 in
theorem refjoin_twice (h : Rq w r S b xs) {m : Mb} (hm : isM m = true) {y : Mb} (hf : finM xs m.id = some y) :
    Calls Try.prog 64 #[.pointer (some ⟨r, 0, none⟩), .agg #[.int .i64 m.id, .int .i64 m.w, .int .i64 m.v, .int .i64 m.r]] w fun e w' => e = .returned (.int .i64 9) ∧ Kp No w w' := by
  obtain ⟨⟨i1, i2⟩, ⟨j1, j2⟩, ⟨v1, v2⟩, r1, r2⟩ := isM_iff.1 hm
  have n0 := decide_eq_false (show ¬ m.id < 1 by omega)
  have n1 := decide_eq_false (show ¬ 1048576 < m.id by omega)
  have n2 := decide_eq_false (show ¬ m.w < 1 by omega)
  have n3 := decide_eq_false (show ¬ 1048576 < m.w by omega)
  have HC := hid (show can m.v m.r m.w = true from can_iff.2 ⟨v1, v2, r1, by rw [wt_in j1 j2]; exact r2⟩)
  have H := hid h
  have hrw : r < w.heap.size := by obtain ⟨⟨v, hb, _⟩, _, _⟩ := h; exact hb.lt
  have HF := hid hf
  clear h hf hm i1 i2 j1 j2 v1 v2 r1 r2
  have B0 := hid (Blk.new w 67 #[.int .i64 m.id, .int .i64 m.w, .int .i64 m.v, .int .i64 m.r])
  go_enter Try.func64, Try.ntmps64
  go_wp2_with fail
  refine (refright_any m.v m.r m.w _).mono ?_
  rintro e w1 ⟨rfl, k1⟩
  have K1 := hid (((Kp.refl No w).alloc _).trans k1)
  have B1 := hid (B0.out.kp0 k1)
  clear k1 B0
  rw [HC.out]
  have x0 := B1.out.cell 0
  have x1 := B1.out.cell 1
  have x2 := B1.out.cell 2
  have x3 := B1.out.cell 3
  have l1 := B1.out.lt
  simp only [List.getElem?_toArray, List.getElem?_cons_zero, List.getElem?_cons_succ] at x0 x1 x2 x3
  obtain ⟨n, hn, hmn, hat⟩ := refat_some (H.out.kp0 K1.out) HF.out
  have hn0 : (0 : Int) ≤ (n : Int) := by omega
  go_wp2_with fail
  refine hat.mono ?_
  rintro e w2 ⟨rfl, rfl⟩
  go_wp2_with fail
  go_ret
  exact ⟨rfl, K1.out⟩

set_option maxRecDepth 100000 in
set_option maxHeartbeats 4000000 in
theorem refjoin_full (h : Rq w r S b xs) {m : Mb} (hm : isM m = true) (hf : finM xs m.id = none) (hl4 : 4096 ≤ xs.length) :
    Calls Try.prog 64 #[.pointer (some ⟨r, 0, none⟩), .agg #[.int .i64 m.id, .int .i64 m.w, .int .i64 m.v, .int .i64 m.r]] w fun e w' => e = .returned (.int .i64 7) ∧ Kp No w w' := by
  obtain ⟨⟨i1, i2⟩, ⟨j1, j2⟩, ⟨v1, v2⟩, r1, r2⟩ := isM_iff.1 hm
  have n0 := decide_eq_false (show ¬ m.id < 1 by omega)
  have n1 := decide_eq_false (show ¬ 1048576 < m.id by omega)
  have n2 := decide_eq_false (show ¬ m.w < 1 by omega)
  have n3 := decide_eq_false (show ¬ 1048576 < m.w by omega)
  have HC := hid (show can m.v m.r m.w = true from can_iff.2 ⟨v1, v2, r1, by rw [wt_in j1 j2]; exact r2⟩)
  have H := hid h
  have hrw : r < w.heap.size := by obtain ⟨⟨v, hb, _⟩, _, _⟩ := h; exact hb.lt
  have HF := hid hf
  clear h hf hm i1 i2 j1 j2 v1 v2 r1 r2
  have B0 := hid (Blk.new w 67 #[.int .i64 m.id, .int .i64 m.w, .int .i64 m.v, .int .i64 m.r])
  go_enter Try.func64, Try.ntmps64
  go_wp2_with fail
  refine (refright_any m.v m.r m.w _).mono ?_
  rintro e w1 ⟨rfl, k1⟩
  have K1 := hid (((Kp.refl No w).alloc _).trans k1)
  have B1 := hid (B0.out.kp0 k1)
  clear k1 B0
  rw [HC.out]
  have x0 := B1.out.cell 0
  have x1 := B1.out.cell 1
  have x2 := B1.out.cell 2
  have x3 := B1.out.cell 3
  have l1 := B1.out.lt
  simp only [List.getElem?_toArray, List.getElem?_cons_zero, List.getElem?_cons_succ] at x0 x1 x2 x3
  have HAT := hid (refat_none (H.out.kp0 K1.out) HF.out)
  go_wp2_with fail
  refine HAT.out.mono ?_
  rintro e w2 ⟨rfl, rfl⟩
  obtain ⟨⟨v, hb, hr⟩, hl, hnr⟩ := H.out.kp0 K1.out
  obtain ⟨A, c, rfl, hc, hmx, hr2⟩ := (id hr)
  simp only [maxLen] at hmx
  have c0 := hb.cell 0
  have c1 := hb.cell 1
  have f0 := hb.frozen 0
  have hrl := hb.lt
  simp only [List.getElem?_toArray, List.getElem?_cons_zero, List.getElem?_cons_succ] at c0 c1
  have HB := hid hb
  have HR := hid hr
  clear hr hr2 hb HAT
  have hl5 : (4096 : Int) ≤ (xs.length : Int) := by omega
  go_wp2_with fail
  go_ret
  exact ⟨rfl, K1.out⟩

set_option maxRecDepth 100000 in
set_option maxHeartbeats 4000000 in
theorem refjoin_range (h : Rq w r S b xs) {m : Mb} (hm : isM m = true) (hf : finM xs m.id = none) (hl4 : ¬ 4096 ≤ xs.length) (hb0 : 0 ≤ b) (hb2 : b ≤ 2305843009213693952) (hfar : 2305843009213693952 < b + m.v) :
    Calls Try.prog 64 #[.pointer (some ⟨r, 0, none⟩), .agg #[.int .i64 m.id, .int .i64 m.w, .int .i64 m.v, .int .i64 m.r]] w fun e w' => e = .returned (.int .i64 6) ∧ Kp No w w' := by
  obtain ⟨⟨i1, i2⟩, ⟨j1, j2⟩, ⟨v1, v2⟩, r1, r2⟩ := isM_iff.1 hm
  have n0 := decide_eq_false (show ¬ m.id < 1 by omega)
  have n1 := decide_eq_false (show ¬ 1048576 < m.id by omega)
  have n2 := decide_eq_false (show ¬ m.w < 1 by omega)
  have n3 := decide_eq_false (show ¬ 1048576 < m.w by omega)
  have HC := hid (show can m.v m.r m.w = true from can_iff.2 ⟨v1, v2, r1, by rw [wt_in j1 j2]; exact r2⟩)
  have H := hid h
  have hrw : r < w.heap.size := by obtain ⟨⟨v, hb, _⟩, _, _⟩ := h; exact hb.lt
  have HF := hid hf
  have g2 : 2305843009213693952 - b < m.v := by omega
  clear h hf hm i1 i2 j1 j2 v1 v2 r1 r2
  have B0 := hid (Blk.new w 67 #[.int .i64 m.id, .int .i64 m.w, .int .i64 m.v, .int .i64 m.r])
  go_enter Try.func64, Try.ntmps64
  go_wp2_with fail
  refine (refright_any m.v m.r m.w _).mono ?_
  rintro e w1 ⟨rfl, k1⟩
  have K1 := hid (((Kp.refl No w).alloc _).trans k1)
  have B1 := hid (B0.out.kp0 k1)
  clear k1 B0
  rw [HC.out]
  have x0 := B1.out.cell 0
  have x1 := B1.out.cell 1
  have x2 := B1.out.cell 2
  have x3 := B1.out.cell 3
  have l1 := B1.out.lt
  simp only [List.getElem?_toArray, List.getElem?_cons_zero, List.getElem?_cons_succ] at x0 x1 x2 x3
  have HAT := hid (refat_none (H.out.kp0 K1.out) HF.out)
  go_wp2_with fail
  refine HAT.out.mono ?_
  rintro e w2 ⟨rfl, rfl⟩
  obtain ⟨⟨v, hb, hr⟩, hl, hnr⟩ := H.out.kp0 K1.out
  obtain ⟨A, c, rfl, hc, hmx, hr2⟩ := (id hr)
  simp only [maxLen] at hmx
  have c0 := hb.cell 0
  have c1 := hb.cell 1
  have f0 := hb.frozen 0
  have hrl := hb.lt
  simp only [List.getElem?_toArray, List.getElem?_cons_zero, List.getElem?_cons_succ] at c0 c1
  have HB := hid hb
  have HR := hid hr
  clear hr hr2 hb HAT
  have hl5 := decide_eq_false (show ¬ (4096 : Int) ≤ (xs.length : Int) by omega)
  have g1 : IntKind.i64.wrap (2305843009213693952 - b) = 2305843009213693952 - b := wrapI (by unfold I64; omega)
  go_wp2_with fail
  go_region
  go_wp2_with fail
  go_ret
  exact ⟨rfl, K1.out.drewN _⟩

/-- What Join's region reads. -/
structure RBJ (r bm : Nat) (v : Value) (b : Int) (m : Mb) (w' : World) : Prop where
  q : Blk w' r 63 #[v, .int .i64 b]
  m : Blk w' bm 67 #[.int .i64 m.id, .int .i64 m.w, .int .i64 m.v, .int .i64 m.r]
def RdJ (r bm : Nat) (b : Int) (m : Mb) (w' : World) : Prop :=
  w'.cell? ⟨r, 1, none⟩ = some (.int .i64 b) ∧ w'.cell? ⟨bm, 0, none⟩ = some (.int .i64 m.id) ∧ w'.cell? ⟨bm, 1, none⟩ = some (.int .i64 m.w) ∧ w'.cell? ⟨bm, 2, none⟩ = some (.int .i64 m.v) ∧ w'.cell? ⟨bm, 3, none⟩ = some (.int .i64 m.r)
theorem RBJ.kp0 {w w' : World} {r bm : Nat} {v : Value} {b : Int} {m : Mb} (h : RBJ r bm v b m w) (k : Kp No w w') : RBJ r bm v b m w' := ⟨h.q.kp0 k, h.m.kp0 k⟩
theorem RBJ.rd {r bm : Nat} {v : Value} {b : Int} {m : Mb} {w : World} (h : RBJ r bm v b m w) : RdJ r bm b m w :=
  ⟨h.q.cell 1, h.m.cell 0, h.m.cell 1, h.m.cell 2, h.m.cell 3⟩

set_option maxRecDepth 100000 in
set_option maxHeartbeats 4000000 in
theorem refjoin_ok (h : Rq w r S b xs) {m : Mb} (hm : isM m = true) (hf : finM xs m.id = none) (hl4 : ¬ 4096 ≤ xs.length) (hb0 : 0 ≤ b) (hb2 : b ≤ 2305843009213693952) (hfar : ¬ 2305843009213693952 < b + m.v) :
    Calls Try.prog 64 #[.pointer (some ⟨r, 0, none⟩), .agg #[.int .i64 m.id, .int .i64 m.w, .int .i64 m.v, .int .i64 m.r]] w fun e w' => e = .returned (.int .i64 0) ∧ Kp (Only r) w w' ∧ Rq w' r (fun i => w.heap.size ≤ i) b (xs ++ [far b m]) := by
  obtain ⟨⟨i1, i2⟩, ⟨j1, j2⟩, ⟨v1, v2⟩, r1, r2⟩ := isM_iff.1 hm
  have n0 := decide_eq_false (show ¬ m.id < 1 by omega)
  have n1 := decide_eq_false (show ¬ 1048576 < m.id by omega)
  have n2 := decide_eq_false (show ¬ m.w < 1 by omega)
  have n3 := decide_eq_false (show ¬ 1048576 < m.w by omega)
  have HC := hid (show can m.v m.r m.w = true from can_iff.2 ⟨v1, v2, r1, by rw [wt_in j1 j2]; exact r2⟩)
  have H := hid h
  have hrw : r < w.heap.size := by obtain ⟨⟨v, hb, _⟩, _, _⟩ := h; exact hb.lt
  have HF := hid hf
  have g2 := decide_eq_false (show ¬ 2305843009213693952 - b < m.v by omega)
  have g3 : IntKind.i64.wrap (b + m.v) = b + m.v := wrapI (by unfold I64; omega)
  clear h hf hm i1 i2 j1 j2 v1 v2 r1 r2
  have B0 := hid (Blk.new w 67 #[.int .i64 m.id, .int .i64 m.w, .int .i64 m.v, .int .i64 m.r])
  go_enter Try.func64, Try.ntmps64
  go_wp2_with fail
  refine (refright_any m.v m.r m.w _).mono ?_
  rintro e w1 ⟨rfl, k1⟩
  have K1 := hid (((Kp.refl No w).alloc _).trans k1)
  have B1 := hid (B0.out.kp0 k1)
  clear k1 B0
  rw [HC.out]
  have x0 := B1.out.cell 0
  have x1 := B1.out.cell 1
  have x2 := B1.out.cell 2
  have x3 := B1.out.cell 3
  have l1 := B1.out.lt
  simp only [List.getElem?_toArray, List.getElem?_cons_zero, List.getElem?_cons_succ] at x0 x1 x2 x3
  have HAT := hid (refat_none (H.out.kp0 K1.out) HF.out)
  go_wp2_with fail
  refine HAT.out.mono ?_
  rintro e w2 ⟨rfl, rfl⟩
  obtain ⟨⟨v, hb, hr⟩, hl, hnr⟩ := H.out.kp0 K1.out
  obtain ⟨A, c, rfl, hc, hmx, hr2⟩ := (id hr)
  simp only [maxLen] at hmx
  have c0 := hb.cell 0
  have c1 := hb.cell 1
  have f0 := hb.frozen 0
  have hrl := hb.lt
  simp only [List.getElem?_toArray, List.getElem?_cons_zero, List.getElem?_cons_succ] at c0 c1
  have HB := hid hb
  have HR := hid hr
  clear hr hr2 hb HAT
  have hl5 := decide_eq_false (show ¬ (4096 : Int) ≤ (xs.length : Int) by omega)
  have g1 : IntKind.i64.wrap (2305843009213693952 - b) = 2305843009213693952 - b := wrapI (by unfold I64; omega)
  go_wp2_with fail
  go_region
  go_wp2_with fail
  have R0 := hid (show RBJ r w.heap.size (.slice A xs.length c) b m w2 from ⟨HB.out, B1.out⟩)
  refine wp_region_any (by kernel_rfl) ?_
  show wpAny _ _ _ _ _ _ _ (World.drew (World.drew w2))
  have kw := ((Kp.refl No w2).drew).drew
  generalize World.drew (World.drew w2) = W at kw ⊢
  have R1 := hid (R0.out.kp0 kw)
  have KW := hid (K1.out.trans kw)
  have HW := hid (HR.out.kp0 kw)
  have HS5 := R1.out.rd
  clear R0 kw HR HB B1 x0 x1 x2 x3 c0 c1 f0 g1 g2 n0 n1 n2 n3 hl5 HC HF l1
  have hb3 := H.out.len
  refine wpAny_of_held (S := RdJ r w.heap.size b m) _ _ _ _ ?_
  simp only [List.size_toArray, List.length_cons, List.length_nil, Nat.reduceAdd, Array.replicate_succ, Array.replicate_zero, List.push_toArray, List.nil_append, List.cons_append]
  refine wpAnyH_take (i := 0) (v := .pointer (some ⟨r, 0, none⟩)) rfl (by kernel_rfl) (by kernel_rfl) (by kernel_rfl) (fun _ _ _ h => h) (Or.inl ⟨by rfl, ?_⟩) HS5 ?_
  · (intro w6 hS6; obtain ⟨z1, z2, z3, z4, z5⟩ := hS6; go_simp)
  simp only [List.getElem_toArray, List.getElem_cons_zero, Act.put, List.setIfInBounds_toArray, List.set_cons_zero, List.set_cons_succ]
  refine wpAnyH_take (i := 2) (v := .pointer (some ⟨r, 0, none⟩)) rfl (by kernel_rfl) (by kernel_rfl) (by kernel_rfl) (fun _ _ _ h => h) (Or.inl ⟨by rfl, ?_⟩) HS5 ?_
  · (intro w6 hS6; obtain ⟨z1, z2, z3, z4, z5⟩ := hS6; go_simp)
  simp only [List.getElem_toArray, List.getElem_cons_zero, List.getElem_cons_succ, Act.put, List.setIfInBounds_toArray, List.set_cons_zero, List.set_cons_succ]
  refine wpAnyH_take (i := 3) (v := .pointer (some ⟨r, 0, none⟩)) rfl (by kernel_rfl) (by kernel_rfl) (by kernel_rfl) (fun _ _ _ h => h) (Or.inl ⟨by rfl, ?_⟩) HS5 ?_
  · (intro w6 hS6; obtain ⟨z1, z2, z3, z4, z5⟩ := hS6; go_simp)
  simp only [List.getElem_toArray, List.getElem_cons_zero, List.getElem_cons_succ, Act.put, List.setIfInBounds_toArray, List.set_cons_zero, List.set_cons_succ]
  refine wpAnyH_take (i := 4) (v := .pointer (some ⟨r, 0, none⟩)) rfl (by kernel_rfl) (by kernel_rfl) (by kernel_rfl) (fun _ _ _ h => h) (Or.inl ⟨by rfl, ?_⟩) HS5 ?_
  · (intro w6 hS6; obtain ⟨z1, z2, z3, z4, z5⟩ := hS6; go_simp)
  simp only [List.getElem_toArray, List.getElem_cons_zero, List.getElem_cons_succ, Act.put, List.setIfInBounds_toArray, List.set_cons_zero, List.set_cons_succ]
  refine wpAnyH_take (i := 7) (v := .pointer (some ⟨w.heap.size, 0, none⟩)) rfl (by kernel_rfl) (by kernel_rfl) (by kernel_rfl) (fun _ _ _ h => h) (Or.inl ⟨by rfl, ?_⟩) HS5 ?_
  · (intro w6 hS6; obtain ⟨z1, z2, z3, z4, z5⟩ := hS6; go_simp)
  simp only [List.getElem_toArray, List.getElem_cons_zero, List.getElem_cons_succ, Act.put, List.setIfInBounds_toArray, List.set_cons_zero, List.set_cons_succ]
  refine wpAnyH_take (i := 8) (v := .int .i64 m.id) rfl (by kernel_rfl) (by kernel_rfl) (by kernel_rfl) (fun _ _ _ h => h) (Or.inl ⟨by rfl, ?_⟩) HS5 ?_
  · (intro w6 hS6; obtain ⟨z1, z2, z3, z4, z5⟩ := hS6; go_simp)
  simp only [List.getElem_toArray, List.getElem_cons_zero, List.getElem_cons_succ, Act.put, List.setIfInBounds_toArray, List.set_cons_zero, List.set_cons_succ]
  refine wpAnyH_take (i := 9) (v := .pointer (some ⟨w.heap.size, 1, none⟩)) rfl (by kernel_rfl) (by kernel_rfl) (by kernel_rfl) (fun _ _ _ h => h) (Or.inl ⟨by rfl, ?_⟩) HS5 ?_
  · (intro w6 hS6; obtain ⟨z1, z2, z3, z4, z5⟩ := hS6; go_simp)
  simp only [List.getElem_toArray, List.getElem_cons_zero, List.getElem_cons_succ, Act.put, List.setIfInBounds_toArray, List.set_cons_zero, List.set_cons_succ]
  refine wpAnyH_take (i := 10) (v := .int .i64 m.w) rfl (by kernel_rfl) (by kernel_rfl) (by kernel_rfl) (fun _ _ _ h => h) (Or.inl ⟨by rfl, ?_⟩) HS5 ?_
  · (intro w6 hS6; obtain ⟨z1, z2, z3, z4, z5⟩ := hS6; go_simp)
  simp only [List.getElem_toArray, List.getElem_cons_zero, List.getElem_cons_succ, Act.put, List.setIfInBounds_toArray, List.set_cons_zero, List.set_cons_succ]
  refine wpAnyH_take (i := 11) (v := .pointer (some ⟨r, 0, none⟩)) rfl (by kernel_rfl) (by kernel_rfl) (by kernel_rfl) (fun _ _ _ h => h) (Or.inl ⟨by rfl, ?_⟩) HS5 ?_
  · (intro w6 hS6; obtain ⟨z1, z2, z3, z4, z5⟩ := hS6; go_simp)
  simp only [List.getElem_toArray, List.getElem_cons_zero, List.getElem_cons_succ, Act.put, List.setIfInBounds_toArray, List.set_cons_zero, List.set_cons_succ]
  refine wpAnyH_take (i := 12) (v := .pointer (some ⟨r, 0, none⟩)) rfl (by kernel_rfl) (by kernel_rfl) (by kernel_rfl) (fun _ _ _ h => h) (Or.inl ⟨by rfl, ?_⟩) HS5 ?_
  · (intro w6 hS6; obtain ⟨z1, z2, z3, z4, z5⟩ := hS6; go_simp)
  simp only [List.getElem_toArray, List.getElem_cons_zero, List.getElem_cons_succ, Act.put, List.setIfInBounds_toArray, List.set_cons_zero, List.set_cons_succ]
  refine wpAnyH_take (i := 13) (v := .pointer (some ⟨r, 1, none⟩)) rfl (by kernel_rfl) (by kernel_rfl) (by kernel_rfl) (fun _ _ _ h => h) (Or.inl ⟨by rfl, ?_⟩) HS5 ?_
  · (intro w6 hS6; obtain ⟨z1, z2, z3, z4, z5⟩ := hS6; go_simp)
  simp only [List.getElem_toArray, List.getElem_cons_zero, List.getElem_cons_succ, Act.put, List.setIfInBounds_toArray, List.set_cons_zero, List.set_cons_succ]
  refine wpAnyH_take (i := 14) (v := .int .i64 b) rfl (by kernel_rfl) (by kernel_rfl) (by kernel_rfl) (fun _ _ _ h => h) (Or.inl ⟨by rfl, ?_⟩) HS5 ?_
  · (intro w6 hS6; obtain ⟨z1, z2, z3, z4, z5⟩ := hS6; go_simp)
  simp only [List.getElem_toArray, List.getElem_cons_zero, List.getElem_cons_succ, Act.put, List.setIfInBounds_toArray, List.set_cons_zero, List.set_cons_succ]
  refine wpAnyH_take (i := 15) (v := .pointer (some ⟨w.heap.size, 2, none⟩)) rfl (by kernel_rfl) (by kernel_rfl) (by kernel_rfl) (fun _ _ _ h => h) (Or.inl ⟨by rfl, ?_⟩) HS5 ?_
  · (intro w6 hS6; obtain ⟨z1, z2, z3, z4, z5⟩ := hS6; go_simp)
  simp only [List.getElem_toArray, List.getElem_cons_zero, List.getElem_cons_succ, Act.put, List.setIfInBounds_toArray, List.set_cons_zero, List.set_cons_succ]
  refine wpAnyH_take (i := 16) (v := .pointer (some ⟨w.heap.size, 2, none⟩)) rfl (by kernel_rfl) (by kernel_rfl) (by kernel_rfl) (fun _ _ _ h => h) (Or.inl ⟨by rfl, ?_⟩) HS5 ?_
  · (intro w6 hS6; obtain ⟨z1, z2, z3, z4, z5⟩ := hS6; go_simp)
  simp only [List.getElem_toArray, List.getElem_cons_zero, List.getElem_cons_succ, Act.put, List.setIfInBounds_toArray, List.set_cons_zero, List.set_cons_succ]
  refine wpAnyH_take (i := 17) (v := .int .i64 m.v) rfl (by kernel_rfl) (by kernel_rfl) (by kernel_rfl) (fun _ _ _ h => h) (Or.inl ⟨by rfl, ?_⟩) HS5 ?_
  · (intro w6 hS6; obtain ⟨z1, z2, z3, z4, z5⟩ := hS6; go_simp)
  simp only [List.getElem_toArray, List.getElem_cons_zero, List.getElem_cons_succ, Act.put, List.setIfInBounds_toArray, List.set_cons_zero, List.set_cons_succ]
  refine wpAnyH_take (i := 18) (v := .int .i64 (b + m.v)) rfl (by kernel_rfl) (by kernel_rfl) (by kernel_rfl) (fun _ _ _ h => h) (Or.inl ⟨by rfl, ?_⟩) HS5 ?_
  · (intro w6 hS6; obtain ⟨z1, z2, z3, z4, z5⟩ := hS6; go_simp)
  simp only [List.getElem_toArray, List.getElem_cons_zero, List.getElem_cons_succ, Act.put, List.setIfInBounds_toArray, List.set_cons_zero, List.set_cons_succ]
  refine wpAnyH_take (i := 19) (v := .pointer (some ⟨w.heap.size, 2, none⟩)) rfl (by kernel_rfl) (by kernel_rfl) (by kernel_rfl) (fun _ _ _ h => h) (Or.inl ⟨by rfl, ?_⟩) HS5 ?_
  · (intro w6 hS6; obtain ⟨z1, z2, z3, z4, z5⟩ := hS6; go_simp)
  simp only [List.getElem_toArray, List.getElem_cons_zero, List.getElem_cons_succ, Act.put, List.setIfInBounds_toArray, List.set_cons_zero, List.set_cons_succ]
  refine wpAnyH_take (i := 20) (v := .pointer (some ⟨w.heap.size, 3, none⟩)) rfl (by kernel_rfl) (by kernel_rfl) (by kernel_rfl) (fun _ _ _ h => h) (Or.inl ⟨by rfl, ?_⟩) HS5 ?_
  · (intro w6 hS6; obtain ⟨z1, z2, z3, z4, z5⟩ := hS6; go_simp)
  simp only [List.getElem_toArray, List.getElem_cons_zero, List.getElem_cons_succ, Act.put, List.setIfInBounds_toArray, List.set_cons_zero, List.set_cons_succ]
  refine wpAnyH_take (i := 21) (v := .int .i64 m.r) rfl (by kernel_rfl) (by kernel_rfl) (by kernel_rfl) (fun _ _ _ h => h) (Or.inl ⟨by rfl, ?_⟩) HS5 ?_
  · (intro w6 hS6; obtain ⟨z1, z2, z3, z4, z5⟩ := hS6; go_simp)
  simp only [List.getElem_toArray, List.getElem_cons_zero, List.getElem_cons_succ, Act.put, List.setIfInBounds_toArray, List.set_cons_zero, List.set_cons_succ]
  refine wpAnyH_take (i := 22) (v := .agg #[.int .i64 (b + m.v), .int .i64 m.r]) rfl (by kernel_rfl) (by kernel_rfl) (by kernel_rfl) (fun _ _ _ h => h) (Or.inl ⟨by rfl, ?_⟩) HS5 ?_
  · (intro w6 hS6; obtain ⟨z1, z2, z3, z4, z5⟩ := hS6; go_simp)
  simp only [List.getElem_toArray, List.getElem_cons_zero, List.getElem_cons_succ, Act.put, List.setIfInBounds_toArray, List.set_cons_zero, List.set_cons_succ]
  refine wpAnyH_take (i := 23) (v := .agg #[.int .i64 m.id, .int .i64 m.w, .int .i64 (b + m.v), .int .i64 m.r]) rfl (by kernel_rfl) (by kernel_rfl) (by kernel_rfl) (fun _ _ _ h => h) (Or.inl ⟨by rfl, ?_⟩) HS5 ?_
  · (intro w6 hS6; obtain ⟨z1, z2, z3, z4, z5⟩ := hS6; go_simp)
  simp only [List.getElem_toArray, List.getElem_cons_zero, List.getElem_cons_succ, Act.put, List.setIfInBounds_toArray, List.set_cons_zero, List.set_cons_succ]
  clear HS5
  have hrW := R1.out.q.lt
  have hmW := R1.out.m.lt
  have hwW := KW.out.size
  have KI := hid (Kp.refl No W)
  refine wpAnyH_ready (rs := [1, 5, 24]) (by kernel_rfl) (by simp) (AllReadyH.cons rfl (fun K hK => ?_) (AllReadyH.cons rfl (fun K hK => ?_) (AllReadyH.cons rfl (fun K hK => ?_) AllReadyH.nil)))
  · simp only [List.getElem_toArray, List.getElem_cons_zero, List.getElem_cons_succ]
    go_simp
    have oE1 := Ow.mt W W.heap.size 125 4 mc (KI.out.size)
    have kE1 := (Kp.refl No W).alloc (.cells #[] 125)
    have zE1 : Hid ((W.alloc (.cells #[] 125)).heap.size = W.heap.size + 1) := hid (by simp)
    generalize W.alloc (.cells #[] 125) = wE1 at oE1 kE1 zE1 ⊢
    have KE1 := hid (KI.out.trans kE1)
    have RE1 := hid (R1.out.kp0 kE1)
    have OE1 := hid oE1
    clear oE1 kE1
    refine hK.out _ _ RE1.out.rd (fun hS => ?_)
    clear hK K hS
    simp only [List.setIfInBounds_toArray, List.set_cons_zero, List.set_cons_succ]
    refine wpAnyH_ready (rs := [5, 24]) (by kernel_rfl) (by simp) (AllReadyH.cons rfl (fun K hK => ?_) (AllReadyH.cons rfl (fun K hK => ?_) AllReadyH.nil))
    · simp only [List.getElem_toArray, List.getElem_cons_zero, List.getElem_cons_succ]
      have c0 := RE1.out.q.cell 0
      simp only [List.getElem?_toArray, List.getElem?_cons_zero] at c0
      go_simp
      refine hK.out _ _ RE1.out.rd (fun hS => ?_)
      clear hK K hS c0
      simp only [List.setIfInBounds_toArray, List.set_cons_zero, List.set_cons_succ]
      refine wpAnyH_ready (rs := [6, 24]) (by kernel_rfl) (by simp) (AllReadyH.cons rfl (fun K hK => ?_) (AllReadyH.cons rfl (fun K hK => ?_) AllReadyH.nil))
      · refine step_apps usRm mc_one (by rfl) (.tmp 54) (.tmp 58) (by rfl) (d := mb0) (base := W.heap.size) (xs := []) (ys := xs) (Pb := S) (.slice (some ⟨W.heap.size, 0, none⟩) 0 0) _ (by rfl) (by rfl) (by exact OE1.out) (by exact HW.out.kp0 KE1.out) (by simp; omega) (by simp [maxLen]; omega) (by exact KE1.out.size) ?_
        intro v3 w3 o3 q3
        rw [List.nil_append] at o3
        have kv3 : Kp (Only W.heap.size) wE1 w3 := (Kp.refl _ wE1).grown q3 fun k hk => .inl (show k = W.heap.size by simpa [Value.ownBlock] using hk.symm)
        have se3 := hid (And.intro KE1.out.size (show W.heap.size ≤ W.heap.size from by have := zE1.out; omega))
        have KA3 := hid (KE1.out.step kv3 fun i hi e => by have : i = W.heap.size := e; have := se3.out; omega)
        have RA3 := hid (RBJ.mk (RE1.out.q.kp kv3 fun e => by have : r = W.heap.size := e; have := se3.out; omega) (RE1.out.m.kp kv3 fun e => by have : w.heap.size = W.heap.size := e; have := se3.out; omega))
        have OA3 := hid o3
        clear kv3 q3
        refine hK.out _ _ RA3.out.rd (fun hS => ?_)
        clear hK K hS
        simp only [List.setIfInBounds_toArray, List.set_cons_zero, List.set_cons_succ, Act.put]
        refine wpAnyH_ready (rs := [24]) (by kernel_rfl) (by simp) (AllReadyH.cons rfl (fun K hK => ?_) AllReadyH.nil)
        simp only [List.getElem_toArray, List.getElem_cons_zero, List.getElem_cons_succ]
        go_simp
        have uO4 := Blk.new w3 125 #[.int .i64 m.id, .int .i64 m.w, .int .i64 (b + m.v), .int .i64 m.r]
        have kO4 := (Kp.refl No w3).alloc (.cells #[.int .i64 m.id, .int .i64 m.w, .int .i64 (b + m.v), .int .i64 m.r] 125)
        have zO4 : Hid ((w3.alloc (.cells #[.int .i64 m.id, .int .i64 m.w, .int .i64 (b + m.v), .int .i64 m.r] 125)).heap.size = w3.heap.size + 1) := hid (by simp)
        generalize w3.alloc (.cells #[.int .i64 m.id, .int .i64 m.w, .int .i64 (b + m.v), .int .i64 m.r] 125) = wO4 at uO4 kO4 zO4 ⊢
        have KO4 := hid (KA3.out.trans kO4)
        have RO4 := hid (RA3.out.kp0 kO4)
        have UO4 := hid uO4
        have PO4 := hid (OA3.out.kp0 kO4)
        clear uO4 kO4
        refine hK.out _ _ RO4.out.rd (fun hS => ?_)
        clear hK K hS
        simp only [List.setIfInBounds_toArray, List.set_cons_zero, List.set_cons_succ]
        refine wpAnyH_ready (rs := [25]) (by kernel_rfl) (by simp) (AllReadyH.cons rfl (fun K hK => ?_) AllReadyH.nil)
        refine step_one usRm mc_one (by rfl) (.tmp 59) (.tmp 77) (by rfl) (far b m) _ (by rfl) (by exact PO4.out) (by rfl) (fun i hi => by
            have hb := UO4.out
            match i, hi with
            | 0, _ => exact hb.cell 0
            | 1, _ => exact hb.cell 1
            | 2, _ => exact hb.cell 2
            | 3, _ => exact hb.cell 3) (by omega) (by simp [maxLen]; omega) (by exact KO4.out.size) ?_
        intro v8 w8 o8 q8 p8
        have k8 : Kp (fun k => W.heap.size ≤ k) wO4 w8 := (Kp.refl _ wO4).grown q8 fun k hk => .inl (PO4.out.at_ k hk)
        have K8 := hid (KO4.out.step k8 fun i hi (e : W.heap.size ≤ i) => by omega)
        have R8 := hid (RBJ.mk (RO4.out.q.kp k8 fun (e : W.heap.size ≤ r) => by omega) (RO4.out.m.kp k8 fun (e : W.heap.size ≤ w.heap.size) => by omega))
        have O8 := hid o8
        obtain ⟨A8, c8, rfl⟩ := o8.formN (m := xs.length + 1) (by simp)
        clear k8 q8 p8 o8
        refine hK.out _ _ R8.out.rd (fun hS => ?_)
        clear hK K
        simp only [List.setIfInBounds_toArray, List.set_cons_zero, List.set_cons_succ, Act.put]
        refine wpAnyH_take (i := 26) (v := .pointer (some ⟨r, 0, none⟩)) rfl (by kernel_rfl) (by kernel_rfl) (by kernel_rfl) (fun _ _ _ h => h) (Or.inl ⟨by rfl, ?_⟩) hS ?_
        · (intro w6 hS6; obtain ⟨z1, z2, z3, z4, z5⟩ := hS6; go_simp)
        simp only [List.getElem_toArray, List.getElem_cons_zero, List.getElem_cons_succ, Act.put, List.setIfInBounds_toArray, List.set_cons_zero, List.set_cons_succ]
        refine wpAnyH_take (i := 27) (v := .pointer (some ⟨r, 0, none⟩)) rfl (by kernel_rfl) (by kernel_rfl) (by kernel_rfl) (fun _ _ _ h => h) (Or.inl ⟨by rfl, ?_⟩) hS ?_
        · (intro w6 hS6; obtain ⟨z1, z2, z3, z4, z5⟩ := hS6; go_simp)
        simp only [List.getElem_toArray, List.getElem_cons_zero, List.getElem_cons_succ, Act.put, List.setIfInBounds_toArray, List.set_cons_zero, List.set_cons_succ]
        refine wpAnyH_ready (rs := [28]) (by kernel_rfl) (by simp) (AllReadyH.cons rfl (fun K hK => ?_) AllReadyH.nil)
        simp only [List.getElem_toArray, List.getElem_cons_zero, List.getElem_cons_succ]
        have c0 := R8.out.q.cell 0
        have f0 := R8.out.q.frozen 0
        have hrl8 := R8.out.q.lt
        simp only [List.getElem?_toArray, List.getElem?_cons_zero] at c0
        have ks := Kp.set1 r 0 w8 (.slice A8 (xs.length + 1) c8)
        have BF := hid (R8.out.q.put 0 (.slice A8 (xs.length + 1) c8))
        have MF := hid (R8.out.m.kp ks fun e => by have : w.heap.size = r := e; omega)
        have OF := hid (O8.out.kp ks fun i hi e => by have : i = r := e; omega)
        have KF := hid (((KW.out.trans K8.out).all (S := Only r)).trans ks)
        clear hS
        go_simp
        generalize w8.setCell ⟨r, 0, none⟩ (.slice A8 (xs.length + 1) c8) = wz at BF MF OF KF ⊢
        refine hK.out _ _ (show RdJ r w.heap.size b m wz from ⟨by simpa using BF.out.cell 1, MF.out.cell 0, MF.out.cell 1, MF.out.cell 2, MF.out.cell 3⟩) (fun hS => ?_)
        clear hK K hS c0 f0
        simp only [List.setIfInBounds_toArray, List.set_cons_zero, List.set_cons_succ]
        refine wpAnyH_done (by kernel_rfl) ?_ _
        go_wp2_with fail
        go_ret
        exact ⟨rfl, KF.out, ⟨_, by simpa using BF.out, OF.out.rwP fun i hi => by omega⟩, by simp; omega, by omega⟩
      · simp only [List.getElem_toArray, List.getElem_cons_zero, List.getElem_cons_succ]
        go_simp
        have uO6 := Blk.new wE1 125 #[.int .i64 m.id, .int .i64 m.w, .int .i64 (b + m.v), .int .i64 m.r]
        have kO6 := (Kp.refl No wE1).alloc (.cells #[.int .i64 m.id, .int .i64 m.w, .int .i64 (b + m.v), .int .i64 m.r] 125)
        have zO6 : Hid ((wE1.alloc (.cells #[.int .i64 m.id, .int .i64 m.w, .int .i64 (b + m.v), .int .i64 m.r] 125)).heap.size = wE1.heap.size + 1) := hid (by simp)
        generalize wE1.alloc (.cells #[.int .i64 m.id, .int .i64 m.w, .int .i64 (b + m.v), .int .i64 m.r] 125) = wO6 at uO6 kO6 zO6 ⊢
        have KO6 := hid (KE1.out.trans kO6)
        have RO6 := hid (RE1.out.kp0 kO6)
        have UO6 := hid uO6
        have EO6 := hid (OE1.out.kp0 kO6)
        clear uO6 kO6
        refine hK.out _ _ RO6.out.rd (fun hS => ?_)
        clear hK K hS
        simp only [List.setIfInBounds_toArray, List.set_cons_zero, List.set_cons_succ]
        refine wpAnyH_ready (rs := [6]) (by kernel_rfl) (by simp) (AllReadyH.cons rfl (fun K hK => ?_) AllReadyH.nil)
        refine step_apps usRm mc_one (by rfl) (.tmp 54) (.tmp 58) (by rfl) (d := mb0) (base := W.heap.size) (xs := []) (ys := xs) (Pb := S) (.slice (some ⟨W.heap.size, 0, none⟩) 0 0) _ (by rfl) (by rfl) (by exact EO6.out) (by exact HW.out.kp0 KO6.out) (by simp; omega) (by simp [maxLen]; omega) (by exact KO6.out.size) ?_
        intro v7 w7 o7 q7
        rw [List.nil_append] at o7
        have kv7 : Kp (Only W.heap.size) wO6 w7 := (Kp.refl _ wO6).grown q7 fun k hk => .inl (show k = W.heap.size by simpa [Value.ownBlock] using hk.symm)
        have se7 := hid (And.intro KO6.out.size (show W.heap.size ≤ W.heap.size from by have := zE1.out; have := zO6.out; omega))
        have KA7 := hid (KO6.out.step kv7 fun i hi e => by have : i = W.heap.size := e; have := se7.out; omega)
        have RA7 := hid (RBJ.mk (RO6.out.q.kp kv7 fun e => by have : r = W.heap.size := e; have := se7.out; omega) (RO6.out.m.kp kv7 fun e => by have : w.heap.size = W.heap.size := e; have := se7.out; omega))
        have OA7 := hid o7
        have UA7 := hid (UO6.out.kp kv7 fun e => by have : wE1.heap.size = W.heap.size := e; have := zE1.out; have := zO6.out; omega)
        clear kv7 q7
        refine hK.out _ _ RA7.out.rd (fun hS => ?_)
        clear hK K hS
        simp only [List.setIfInBounds_toArray, List.set_cons_zero, List.set_cons_succ, Act.put]
        refine wpAnyH_ready (rs := [25]) (by kernel_rfl) (by simp) (AllReadyH.cons rfl (fun K hK => ?_) AllReadyH.nil)
        refine step_one usRm mc_one (by rfl) (.tmp 59) (.tmp 77) (by rfl) (far b m) _ (by rfl) (by exact OA7.out) (by rfl) (fun i hi => by
            have hb := UA7.out
            match i, hi with
            | 0, _ => exact hb.cell 0
            | 1, _ => exact hb.cell 1
            | 2, _ => exact hb.cell 2
            | 3, _ => exact hb.cell 3) (by omega) (by simp [maxLen]; omega) (by exact KA7.out.size) ?_
        intro v8 w8 o8 q8 p8
        have k8 : Kp (fun k => W.heap.size ≤ k) w7 w8 := (Kp.refl _ w7).grown q8 fun k hk => .inl (OA7.out.at_ k hk)
        have K8 := hid (KA7.out.step k8 fun i hi (e : W.heap.size ≤ i) => by omega)
        have R8 := hid (RBJ.mk (RA7.out.q.kp k8 fun (e : W.heap.size ≤ r) => by omega) (RA7.out.m.kp k8 fun (e : W.heap.size ≤ w.heap.size) => by omega))
        have O8 := hid o8
        obtain ⟨A8, c8, rfl⟩ := o8.formN (m := xs.length + 1) (by simp)
        clear k8 q8 p8 o8
        refine hK.out _ _ R8.out.rd (fun hS => ?_)
        clear hK K
        simp only [List.setIfInBounds_toArray, List.set_cons_zero, List.set_cons_succ, Act.put]
        refine wpAnyH_take (i := 26) (v := .pointer (some ⟨r, 0, none⟩)) rfl (by kernel_rfl) (by kernel_rfl) (by kernel_rfl) (fun _ _ _ h => h) (Or.inl ⟨by rfl, ?_⟩) hS ?_
        · (intro w6 hS6; obtain ⟨z1, z2, z3, z4, z5⟩ := hS6; go_simp)
        simp only [List.getElem_toArray, List.getElem_cons_zero, List.getElem_cons_succ, Act.put, List.setIfInBounds_toArray, List.set_cons_zero, List.set_cons_succ]
        refine wpAnyH_take (i := 27) (v := .pointer (some ⟨r, 0, none⟩)) rfl (by kernel_rfl) (by kernel_rfl) (by kernel_rfl) (fun _ _ _ h => h) (Or.inl ⟨by rfl, ?_⟩) hS ?_
        · (intro w6 hS6; obtain ⟨z1, z2, z3, z4, z5⟩ := hS6; go_simp)
        simp only [List.getElem_toArray, List.getElem_cons_zero, List.getElem_cons_succ, Act.put, List.setIfInBounds_toArray, List.set_cons_zero, List.set_cons_succ]
        refine wpAnyH_ready (rs := [28]) (by kernel_rfl) (by simp) (AllReadyH.cons rfl (fun K hK => ?_) AllReadyH.nil)
        simp only [List.getElem_toArray, List.getElem_cons_zero, List.getElem_cons_succ]
        have c0 := R8.out.q.cell 0
        have f0 := R8.out.q.frozen 0
        have hrl8 := R8.out.q.lt
        simp only [List.getElem?_toArray, List.getElem?_cons_zero] at c0
        have ks := Kp.set1 r 0 w8 (.slice A8 (xs.length + 1) c8)
        have BF := hid (R8.out.q.put 0 (.slice A8 (xs.length + 1) c8))
        have MF := hid (R8.out.m.kp ks fun e => by have : w.heap.size = r := e; omega)
        have OF := hid (O8.out.kp ks fun i hi e => by have : i = r := e; omega)
        have KF := hid (((KW.out.trans K8.out).all (S := Only r)).trans ks)
        clear hS
        go_simp
        generalize w8.setCell ⟨r, 0, none⟩ (.slice A8 (xs.length + 1) c8) = wz at BF MF OF KF ⊢
        refine hK.out _ _ (show RdJ r w.heap.size b m wz from ⟨by simpa using BF.out.cell 1, MF.out.cell 0, MF.out.cell 1, MF.out.cell 2, MF.out.cell 3⟩) (fun hS => ?_)
        clear hK K hS c0 f0
        simp only [List.setIfInBounds_toArray, List.set_cons_zero, List.set_cons_succ]
        refine wpAnyH_done (by kernel_rfl) ?_ _
        go_wp2_with fail
        go_ret
        exact ⟨rfl, KF.out, ⟨_, by simpa using BF.out, OF.out.rwP fun i hi => by omega⟩, by simp; omega, by omega⟩
    · simp only [List.getElem_toArray, List.getElem_cons_zero, List.getElem_cons_succ]
      go_simp
      have uO9 := Blk.new wE1 125 #[.int .i64 m.id, .int .i64 m.w, .int .i64 (b + m.v), .int .i64 m.r]
      have kO9 := (Kp.refl No wE1).alloc (.cells #[.int .i64 m.id, .int .i64 m.w, .int .i64 (b + m.v), .int .i64 m.r] 125)
      have zO9 : Hid ((wE1.alloc (.cells #[.int .i64 m.id, .int .i64 m.w, .int .i64 (b + m.v), .int .i64 m.r] 125)).heap.size = wE1.heap.size + 1) := hid (by simp)
      generalize wE1.alloc (.cells #[.int .i64 m.id, .int .i64 m.w, .int .i64 (b + m.v), .int .i64 m.r] 125) = wO9 at uO9 kO9 zO9 ⊢
      have KO9 := hid (KE1.out.trans kO9)
      have RO9 := hid (RE1.out.kp0 kO9)
      have UO9 := hid uO9
      have EO9 := hid (OE1.out.kp0 kO9)
      clear uO9 kO9
      refine hK.out _ _ RO9.out.rd (fun hS => ?_)
      clear hK K hS
      simp only [List.setIfInBounds_toArray, List.set_cons_zero, List.set_cons_succ]
      refine wpAnyH_ready (rs := [5]) (by kernel_rfl) (by simp) (AllReadyH.cons rfl (fun K hK => ?_) AllReadyH.nil)
      simp only [List.getElem_toArray, List.getElem_cons_zero, List.getElem_cons_succ]
      have c0 := RO9.out.q.cell 0
      simp only [List.getElem?_toArray, List.getElem?_cons_zero] at c0
      go_simp
      refine hK.out _ _ RO9.out.rd (fun hS => ?_)
      clear hK K hS c0
      simp only [List.setIfInBounds_toArray, List.set_cons_zero, List.set_cons_succ]
      refine wpAnyH_ready (rs := [6]) (by kernel_rfl) (by simp) (AllReadyH.cons rfl (fun K hK => ?_) AllReadyH.nil)
      refine step_apps usRm mc_one (by rfl) (.tmp 54) (.tmp 58) (by rfl) (d := mb0) (base := W.heap.size) (xs := []) (ys := xs) (Pb := S) (.slice (some ⟨W.heap.size, 0, none⟩) 0 0) _ (by rfl) (by rfl) (by exact EO9.out) (by exact HW.out.kp0 KO9.out) (by simp; omega) (by simp [maxLen]; omega) (by exact KO9.out.size) ?_
      intro v11 w11 o11 q11
      rw [List.nil_append] at o11
      have kv11 : Kp (Only W.heap.size) wO9 w11 := (Kp.refl _ wO9).grown q11 fun k hk => .inl (show k = W.heap.size by simpa [Value.ownBlock] using hk.symm)
      have se11 := hid (And.intro KO9.out.size (show W.heap.size ≤ W.heap.size from by have := zE1.out; have := zO9.out; omega))
      have KA11 := hid (KO9.out.step kv11 fun i hi e => by have : i = W.heap.size := e; have := se11.out; omega)
      have RA11 := hid (RBJ.mk (RO9.out.q.kp kv11 fun e => by have : r = W.heap.size := e; have := se11.out; omega) (RO9.out.m.kp kv11 fun e => by have : w.heap.size = W.heap.size := e; have := se11.out; omega))
      have OA11 := hid o11
      have UA11 := hid (UO9.out.kp kv11 fun e => by have : wE1.heap.size = W.heap.size := e; have := zE1.out; have := zO9.out; omega)
      clear kv11 q11
      refine hK.out _ _ RA11.out.rd (fun hS => ?_)
      clear hK K hS
      simp only [List.setIfInBounds_toArray, List.set_cons_zero, List.set_cons_succ, Act.put]
      refine wpAnyH_ready (rs := [25]) (by kernel_rfl) (by simp) (AllReadyH.cons rfl (fun K hK => ?_) AllReadyH.nil)
      refine step_one usRm mc_one (by rfl) (.tmp 59) (.tmp 77) (by rfl) (far b m) _ (by rfl) (by exact OA11.out) (by rfl) (fun i hi => by
          have hb := UA11.out
          match i, hi with
          | 0, _ => exact hb.cell 0
          | 1, _ => exact hb.cell 1
          | 2, _ => exact hb.cell 2
          | 3, _ => exact hb.cell 3) (by omega) (by simp [maxLen]; omega) (by exact KA11.out.size) ?_
      intro v8 w8 o8 q8 p8
      have k8 : Kp (fun k => W.heap.size ≤ k) w11 w8 := (Kp.refl _ w11).grown q8 fun k hk => .inl (OA11.out.at_ k hk)
      have K8 := hid (KA11.out.step k8 fun i hi (e : W.heap.size ≤ i) => by omega)
      have R8 := hid (RBJ.mk (RA11.out.q.kp k8 fun (e : W.heap.size ≤ r) => by omega) (RA11.out.m.kp k8 fun (e : W.heap.size ≤ w.heap.size) => by omega))
      have O8 := hid o8
      obtain ⟨A8, c8, rfl⟩ := o8.formN (m := xs.length + 1) (by simp)
      clear k8 q8 p8 o8
      refine hK.out _ _ R8.out.rd (fun hS => ?_)
      clear hK K
      simp only [List.setIfInBounds_toArray, List.set_cons_zero, List.set_cons_succ, Act.put]
      refine wpAnyH_take (i := 26) (v := .pointer (some ⟨r, 0, none⟩)) rfl (by kernel_rfl) (by kernel_rfl) (by kernel_rfl) (fun _ _ _ h => h) (Or.inl ⟨by rfl, ?_⟩) hS ?_
      · (intro w6 hS6; obtain ⟨z1, z2, z3, z4, z5⟩ := hS6; go_simp)
      simp only [List.getElem_toArray, List.getElem_cons_zero, List.getElem_cons_succ, Act.put, List.setIfInBounds_toArray, List.set_cons_zero, List.set_cons_succ]
      refine wpAnyH_take (i := 27) (v := .pointer (some ⟨r, 0, none⟩)) rfl (by kernel_rfl) (by kernel_rfl) (by kernel_rfl) (fun _ _ _ h => h) (Or.inl ⟨by rfl, ?_⟩) hS ?_
      · (intro w6 hS6; obtain ⟨z1, z2, z3, z4, z5⟩ := hS6; go_simp)
      simp only [List.getElem_toArray, List.getElem_cons_zero, List.getElem_cons_succ, Act.put, List.setIfInBounds_toArray, List.set_cons_zero, List.set_cons_succ]
      refine wpAnyH_ready (rs := [28]) (by kernel_rfl) (by simp) (AllReadyH.cons rfl (fun K hK => ?_) AllReadyH.nil)
      simp only [List.getElem_toArray, List.getElem_cons_zero, List.getElem_cons_succ]
      have c0 := R8.out.q.cell 0
      have f0 := R8.out.q.frozen 0
      have hrl8 := R8.out.q.lt
      simp only [List.getElem?_toArray, List.getElem?_cons_zero] at c0
      have ks := Kp.set1 r 0 w8 (.slice A8 (xs.length + 1) c8)
      have BF := hid (R8.out.q.put 0 (.slice A8 (xs.length + 1) c8))
      have MF := hid (R8.out.m.kp ks fun e => by have : w.heap.size = r := e; omega)
      have OF := hid (O8.out.kp ks fun i hi e => by have : i = r := e; omega)
      have KF := hid (((KW.out.trans K8.out).all (S := Only r)).trans ks)
      clear hS
      go_simp
      generalize w8.setCell ⟨r, 0, none⟩ (.slice A8 (xs.length + 1) c8) = wz at BF MF OF KF ⊢
      refine hK.out _ _ (show RdJ r w.heap.size b m wz from ⟨by simpa using BF.out.cell 1, MF.out.cell 0, MF.out.cell 1, MF.out.cell 2, MF.out.cell 3⟩) (fun hS => ?_)
      clear hK K hS c0 f0
      simp only [List.setIfInBounds_toArray, List.set_cons_zero, List.set_cons_succ]
      refine wpAnyH_done (by kernel_rfl) ?_ _
      go_wp2_with fail
      go_ret
      exact ⟨rfl, KF.out, ⟨_, by simpa using BF.out, OF.out.rwP fun i hi => by omega⟩, by simp; omega, by omega⟩
  · simp only [List.getElem_toArray, List.getElem_cons_zero, List.getElem_cons_succ]
    have c0 := R1.out.q.cell 0
    simp only [List.getElem?_toArray, List.getElem?_cons_zero] at c0
    go_simp
    refine hK.out _ _ R1.out.rd (fun hS => ?_)
    clear hK K hS c0
    simp only [List.setIfInBounds_toArray, List.set_cons_zero, List.set_cons_succ]
    refine wpAnyH_ready (rs := [1, 24]) (by kernel_rfl) (by simp) (AllReadyH.cons rfl (fun K hK => ?_) (AllReadyH.cons rfl (fun K hK => ?_) AllReadyH.nil))
    · simp only [List.getElem_toArray, List.getElem_cons_zero, List.getElem_cons_succ]
      go_simp
      have oE14 := Ow.mt W W.heap.size 125 4 mc (KI.out.size)
      have kE14 := (Kp.refl No W).alloc (.cells #[] 125)
      have zE14 : Hid ((W.alloc (.cells #[] 125)).heap.size = W.heap.size + 1) := hid (by simp)
      generalize W.alloc (.cells #[] 125) = wE14 at oE14 kE14 zE14 ⊢
      have KE14 := hid (KI.out.trans kE14)
      have RE14 := hid (R1.out.kp0 kE14)
      have OE14 := hid oE14
      clear oE14 kE14
      refine hK.out _ _ RE14.out.rd (fun hS => ?_)
      clear hK K hS
      simp only [List.setIfInBounds_toArray, List.set_cons_zero, List.set_cons_succ]
      refine wpAnyH_ready (rs := [6, 24]) (by kernel_rfl) (by simp) (AllReadyH.cons rfl (fun K hK => ?_) (AllReadyH.cons rfl (fun K hK => ?_) AllReadyH.nil))
      · refine step_apps usRm mc_one (by rfl) (.tmp 54) (.tmp 58) (by rfl) (d := mb0) (base := W.heap.size) (xs := []) (ys := xs) (Pb := S) (.slice (some ⟨W.heap.size, 0, none⟩) 0 0) _ (by rfl) (by rfl) (by exact OE14.out) (by exact HW.out.kp0 KE14.out) (by simp; omega) (by simp [maxLen]; omega) (by exact KE14.out.size) ?_
        intro v15 w15 o15 q15
        rw [List.nil_append] at o15
        have kv15 : Kp (Only W.heap.size) wE14 w15 := (Kp.refl _ wE14).grown q15 fun k hk => .inl (show k = W.heap.size by simpa [Value.ownBlock] using hk.symm)
        have se15 := hid (And.intro KE14.out.size (show W.heap.size ≤ W.heap.size from by have := zE14.out; omega))
        have KA15 := hid (KE14.out.step kv15 fun i hi e => by have : i = W.heap.size := e; have := se15.out; omega)
        have RA15 := hid (RBJ.mk (RE14.out.q.kp kv15 fun e => by have : r = W.heap.size := e; have := se15.out; omega) (RE14.out.m.kp kv15 fun e => by have : w.heap.size = W.heap.size := e; have := se15.out; omega))
        have OA15 := hid o15
        clear kv15 q15
        refine hK.out _ _ RA15.out.rd (fun hS => ?_)
        clear hK K hS
        simp only [List.setIfInBounds_toArray, List.set_cons_zero, List.set_cons_succ, Act.put]
        refine wpAnyH_ready (rs := [24]) (by kernel_rfl) (by simp) (AllReadyH.cons rfl (fun K hK => ?_) AllReadyH.nil)
        simp only [List.getElem_toArray, List.getElem_cons_zero, List.getElem_cons_succ]
        go_simp
        have uO16 := Blk.new w15 125 #[.int .i64 m.id, .int .i64 m.w, .int .i64 (b + m.v), .int .i64 m.r]
        have kO16 := (Kp.refl No w15).alloc (.cells #[.int .i64 m.id, .int .i64 m.w, .int .i64 (b + m.v), .int .i64 m.r] 125)
        have zO16 : Hid ((w15.alloc (.cells #[.int .i64 m.id, .int .i64 m.w, .int .i64 (b + m.v), .int .i64 m.r] 125)).heap.size = w15.heap.size + 1) := hid (by simp)
        generalize w15.alloc (.cells #[.int .i64 m.id, .int .i64 m.w, .int .i64 (b + m.v), .int .i64 m.r] 125) = wO16 at uO16 kO16 zO16 ⊢
        have KO16 := hid (KA15.out.trans kO16)
        have RO16 := hid (RA15.out.kp0 kO16)
        have UO16 := hid uO16
        have PO16 := hid (OA15.out.kp0 kO16)
        clear uO16 kO16
        refine hK.out _ _ RO16.out.rd (fun hS => ?_)
        clear hK K hS
        simp only [List.setIfInBounds_toArray, List.set_cons_zero, List.set_cons_succ]
        refine wpAnyH_ready (rs := [25]) (by kernel_rfl) (by simp) (AllReadyH.cons rfl (fun K hK => ?_) AllReadyH.nil)
        refine step_one usRm mc_one (by rfl) (.tmp 59) (.tmp 77) (by rfl) (far b m) _ (by rfl) (by exact PO16.out) (by rfl) (fun i hi => by
            have hb := UO16.out
            match i, hi with
            | 0, _ => exact hb.cell 0
            | 1, _ => exact hb.cell 1
            | 2, _ => exact hb.cell 2
            | 3, _ => exact hb.cell 3) (by omega) (by simp [maxLen]; omega) (by exact KO16.out.size) ?_
        intro v8 w8 o8 q8 p8
        have k8 : Kp (fun k => W.heap.size ≤ k) wO16 w8 := (Kp.refl _ wO16).grown q8 fun k hk => .inl (PO16.out.at_ k hk)
        have K8 := hid (KO16.out.step k8 fun i hi (e : W.heap.size ≤ i) => by omega)
        have R8 := hid (RBJ.mk (RO16.out.q.kp k8 fun (e : W.heap.size ≤ r) => by omega) (RO16.out.m.kp k8 fun (e : W.heap.size ≤ w.heap.size) => by omega))
        have O8 := hid o8
        obtain ⟨A8, c8, rfl⟩ := o8.formN (m := xs.length + 1) (by simp)
        clear k8 q8 p8 o8
        refine hK.out _ _ R8.out.rd (fun hS => ?_)
        clear hK K
        simp only [List.setIfInBounds_toArray, List.set_cons_zero, List.set_cons_succ, Act.put]
        refine wpAnyH_take (i := 26) (v := .pointer (some ⟨r, 0, none⟩)) rfl (by kernel_rfl) (by kernel_rfl) (by kernel_rfl) (fun _ _ _ h => h) (Or.inl ⟨by rfl, ?_⟩) hS ?_
        · (intro w6 hS6; obtain ⟨z1, z2, z3, z4, z5⟩ := hS6; go_simp)
        simp only [List.getElem_toArray, List.getElem_cons_zero, List.getElem_cons_succ, Act.put, List.setIfInBounds_toArray, List.set_cons_zero, List.set_cons_succ]
        refine wpAnyH_take (i := 27) (v := .pointer (some ⟨r, 0, none⟩)) rfl (by kernel_rfl) (by kernel_rfl) (by kernel_rfl) (fun _ _ _ h => h) (Or.inl ⟨by rfl, ?_⟩) hS ?_
        · (intro w6 hS6; obtain ⟨z1, z2, z3, z4, z5⟩ := hS6; go_simp)
        simp only [List.getElem_toArray, List.getElem_cons_zero, List.getElem_cons_succ, Act.put, List.setIfInBounds_toArray, List.set_cons_zero, List.set_cons_succ]
        refine wpAnyH_ready (rs := [28]) (by kernel_rfl) (by simp) (AllReadyH.cons rfl (fun K hK => ?_) AllReadyH.nil)
        simp only [List.getElem_toArray, List.getElem_cons_zero, List.getElem_cons_succ]
        have c0 := R8.out.q.cell 0
        have f0 := R8.out.q.frozen 0
        have hrl8 := R8.out.q.lt
        simp only [List.getElem?_toArray, List.getElem?_cons_zero] at c0
        have ks := Kp.set1 r 0 w8 (.slice A8 (xs.length + 1) c8)
        have BF := hid (R8.out.q.put 0 (.slice A8 (xs.length + 1) c8))
        have MF := hid (R8.out.m.kp ks fun e => by have : w.heap.size = r := e; omega)
        have OF := hid (O8.out.kp ks fun i hi e => by have : i = r := e; omega)
        have KF := hid (((KW.out.trans K8.out).all (S := Only r)).trans ks)
        clear hS
        go_simp
        generalize w8.setCell ⟨r, 0, none⟩ (.slice A8 (xs.length + 1) c8) = wz at BF MF OF KF ⊢
        refine hK.out _ _ (show RdJ r w.heap.size b m wz from ⟨by simpa using BF.out.cell 1, MF.out.cell 0, MF.out.cell 1, MF.out.cell 2, MF.out.cell 3⟩) (fun hS => ?_)
        clear hK K hS c0 f0
        simp only [List.setIfInBounds_toArray, List.set_cons_zero, List.set_cons_succ]
        refine wpAnyH_done (by kernel_rfl) ?_ _
        go_wp2_with fail
        go_ret
        exact ⟨rfl, KF.out, ⟨_, by simpa using BF.out, OF.out.rwP fun i hi => by omega⟩, by simp; omega, by omega⟩
      · simp only [List.getElem_toArray, List.getElem_cons_zero, List.getElem_cons_succ]
        go_simp
        have uO18 := Blk.new wE14 125 #[.int .i64 m.id, .int .i64 m.w, .int .i64 (b + m.v), .int .i64 m.r]
        have kO18 := (Kp.refl No wE14).alloc (.cells #[.int .i64 m.id, .int .i64 m.w, .int .i64 (b + m.v), .int .i64 m.r] 125)
        have zO18 : Hid ((wE14.alloc (.cells #[.int .i64 m.id, .int .i64 m.w, .int .i64 (b + m.v), .int .i64 m.r] 125)).heap.size = wE14.heap.size + 1) := hid (by simp)
        generalize wE14.alloc (.cells #[.int .i64 m.id, .int .i64 m.w, .int .i64 (b + m.v), .int .i64 m.r] 125) = wO18 at uO18 kO18 zO18 ⊢
        have KO18 := hid (KE14.out.trans kO18)
        have RO18 := hid (RE14.out.kp0 kO18)
        have UO18 := hid uO18
        have EO18 := hid (OE14.out.kp0 kO18)
        clear uO18 kO18
        refine hK.out _ _ RO18.out.rd (fun hS => ?_)
        clear hK K hS
        simp only [List.setIfInBounds_toArray, List.set_cons_zero, List.set_cons_succ]
        refine wpAnyH_ready (rs := [6]) (by kernel_rfl) (by simp) (AllReadyH.cons rfl (fun K hK => ?_) AllReadyH.nil)
        refine step_apps usRm mc_one (by rfl) (.tmp 54) (.tmp 58) (by rfl) (d := mb0) (base := W.heap.size) (xs := []) (ys := xs) (Pb := S) (.slice (some ⟨W.heap.size, 0, none⟩) 0 0) _ (by rfl) (by rfl) (by exact EO18.out) (by exact HW.out.kp0 KO18.out) (by simp; omega) (by simp [maxLen]; omega) (by exact KO18.out.size) ?_
        intro v19 w19 o19 q19
        rw [List.nil_append] at o19
        have kv19 : Kp (Only W.heap.size) wO18 w19 := (Kp.refl _ wO18).grown q19 fun k hk => .inl (show k = W.heap.size by simpa [Value.ownBlock] using hk.symm)
        have se19 := hid (And.intro KO18.out.size (show W.heap.size ≤ W.heap.size from by have := zE14.out; have := zO18.out; omega))
        have KA19 := hid (KO18.out.step kv19 fun i hi e => by have : i = W.heap.size := e; have := se19.out; omega)
        have RA19 := hid (RBJ.mk (RO18.out.q.kp kv19 fun e => by have : r = W.heap.size := e; have := se19.out; omega) (RO18.out.m.kp kv19 fun e => by have : w.heap.size = W.heap.size := e; have := se19.out; omega))
        have OA19 := hid o19
        have UA19 := hid (UO18.out.kp kv19 fun e => by have : wE14.heap.size = W.heap.size := e; have := zE14.out; have := zO18.out; omega)
        clear kv19 q19
        refine hK.out _ _ RA19.out.rd (fun hS => ?_)
        clear hK K hS
        simp only [List.setIfInBounds_toArray, List.set_cons_zero, List.set_cons_succ, Act.put]
        refine wpAnyH_ready (rs := [25]) (by kernel_rfl) (by simp) (AllReadyH.cons rfl (fun K hK => ?_) AllReadyH.nil)
        refine step_one usRm mc_one (by rfl) (.tmp 59) (.tmp 77) (by rfl) (far b m) _ (by rfl) (by exact OA19.out) (by rfl) (fun i hi => by
            have hb := UA19.out
            match i, hi with
            | 0, _ => exact hb.cell 0
            | 1, _ => exact hb.cell 1
            | 2, _ => exact hb.cell 2
            | 3, _ => exact hb.cell 3) (by omega) (by simp [maxLen]; omega) (by exact KA19.out.size) ?_
        intro v8 w8 o8 q8 p8
        have k8 : Kp (fun k => W.heap.size ≤ k) w19 w8 := (Kp.refl _ w19).grown q8 fun k hk => .inl (OA19.out.at_ k hk)
        have K8 := hid (KA19.out.step k8 fun i hi (e : W.heap.size ≤ i) => by omega)
        have R8 := hid (RBJ.mk (RA19.out.q.kp k8 fun (e : W.heap.size ≤ r) => by omega) (RA19.out.m.kp k8 fun (e : W.heap.size ≤ w.heap.size) => by omega))
        have O8 := hid o8
        obtain ⟨A8, c8, rfl⟩ := o8.formN (m := xs.length + 1) (by simp)
        clear k8 q8 p8 o8
        refine hK.out _ _ R8.out.rd (fun hS => ?_)
        clear hK K
        simp only [List.setIfInBounds_toArray, List.set_cons_zero, List.set_cons_succ, Act.put]
        refine wpAnyH_take (i := 26) (v := .pointer (some ⟨r, 0, none⟩)) rfl (by kernel_rfl) (by kernel_rfl) (by kernel_rfl) (fun _ _ _ h => h) (Or.inl ⟨by rfl, ?_⟩) hS ?_
        · (intro w6 hS6; obtain ⟨z1, z2, z3, z4, z5⟩ := hS6; go_simp)
        simp only [List.getElem_toArray, List.getElem_cons_zero, List.getElem_cons_succ, Act.put, List.setIfInBounds_toArray, List.set_cons_zero, List.set_cons_succ]
        refine wpAnyH_take (i := 27) (v := .pointer (some ⟨r, 0, none⟩)) rfl (by kernel_rfl) (by kernel_rfl) (by kernel_rfl) (fun _ _ _ h => h) (Or.inl ⟨by rfl, ?_⟩) hS ?_
        · (intro w6 hS6; obtain ⟨z1, z2, z3, z4, z5⟩ := hS6; go_simp)
        simp only [List.getElem_toArray, List.getElem_cons_zero, List.getElem_cons_succ, Act.put, List.setIfInBounds_toArray, List.set_cons_zero, List.set_cons_succ]
        refine wpAnyH_ready (rs := [28]) (by kernel_rfl) (by simp) (AllReadyH.cons rfl (fun K hK => ?_) AllReadyH.nil)
        simp only [List.getElem_toArray, List.getElem_cons_zero, List.getElem_cons_succ]
        have c0 := R8.out.q.cell 0
        have f0 := R8.out.q.frozen 0
        have hrl8 := R8.out.q.lt
        simp only [List.getElem?_toArray, List.getElem?_cons_zero] at c0
        have ks := Kp.set1 r 0 w8 (.slice A8 (xs.length + 1) c8)
        have BF := hid (R8.out.q.put 0 (.slice A8 (xs.length + 1) c8))
        have MF := hid (R8.out.m.kp ks fun e => by have : w.heap.size = r := e; omega)
        have OF := hid (O8.out.kp ks fun i hi e => by have : i = r := e; omega)
        have KF := hid (((KW.out.trans K8.out).all (S := Only r)).trans ks)
        clear hS
        go_simp
        generalize w8.setCell ⟨r, 0, none⟩ (.slice A8 (xs.length + 1) c8) = wz at BF MF OF KF ⊢
        refine hK.out _ _ (show RdJ r w.heap.size b m wz from ⟨by simpa using BF.out.cell 1, MF.out.cell 0, MF.out.cell 1, MF.out.cell 2, MF.out.cell 3⟩) (fun hS => ?_)
        clear hK K hS c0 f0
        simp only [List.setIfInBounds_toArray, List.set_cons_zero, List.set_cons_succ]
        refine wpAnyH_done (by kernel_rfl) ?_ _
        go_wp2_with fail
        go_ret
        exact ⟨rfl, KF.out, ⟨_, by simpa using BF.out, OF.out.rwP fun i hi => by omega⟩, by simp; omega, by omega⟩
    · simp only [List.getElem_toArray, List.getElem_cons_zero, List.getElem_cons_succ]
      go_simp
      have uO21 := Blk.new W 125 #[.int .i64 m.id, .int .i64 m.w, .int .i64 (b + m.v), .int .i64 m.r]
      have kO21 := (Kp.refl No W).alloc (.cells #[.int .i64 m.id, .int .i64 m.w, .int .i64 (b + m.v), .int .i64 m.r] 125)
      have zO21 : Hid ((W.alloc (.cells #[.int .i64 m.id, .int .i64 m.w, .int .i64 (b + m.v), .int .i64 m.r] 125)).heap.size = W.heap.size + 1) := hid (by simp)
      generalize W.alloc (.cells #[.int .i64 m.id, .int .i64 m.w, .int .i64 (b + m.v), .int .i64 m.r] 125) = wO21 at uO21 kO21 zO21 ⊢
      have KO21 := hid (KI.out.trans kO21)
      have RO21 := hid (R1.out.kp0 kO21)
      have UO21 := hid uO21
      clear uO21 kO21
      refine hK.out _ _ RO21.out.rd (fun hS => ?_)
      clear hK K hS
      simp only [List.setIfInBounds_toArray, List.set_cons_zero, List.set_cons_succ]
      refine wpAnyH_ready (rs := [1]) (by kernel_rfl) (by simp) (AllReadyH.cons rfl (fun K hK => ?_) AllReadyH.nil)
      simp only [List.getElem_toArray, List.getElem_cons_zero, List.getElem_cons_succ]
      go_simp
      have oE22 := Ow.mt wO21 W.heap.size 125 4 mc (KO21.out.size)
      have kE22 := (Kp.refl No wO21).alloc (.cells #[] 125)
      have zE22 : Hid ((wO21.alloc (.cells #[] 125)).heap.size = wO21.heap.size + 1) := hid (by simp)
      generalize wO21.alloc (.cells #[] 125) = wE22 at oE22 kE22 zE22 ⊢
      have KE22 := hid (KO21.out.trans kE22)
      have RE22 := hid (RO21.out.kp0 kE22)
      have OE22 := hid oE22
      have UE22 := hid (UO21.out.kp0 kE22)
      clear oE22 kE22
      refine hK.out _ _ RE22.out.rd (fun hS => ?_)
      clear hK K hS
      simp only [List.setIfInBounds_toArray, List.set_cons_zero, List.set_cons_succ]
      refine wpAnyH_ready (rs := [6]) (by kernel_rfl) (by simp) (AllReadyH.cons rfl (fun K hK => ?_) AllReadyH.nil)
      refine step_apps usRm mc_one (by rfl) (.tmp 54) (.tmp 58) (by rfl) (d := mb0) (base := W.heap.size) (xs := []) (ys := xs) (Pb := S) (.slice (some ⟨wO21.heap.size, 0, none⟩) 0 0) _ (by rfl) (by rfl) (by exact OE22.out) (by exact HW.out.kp0 KE22.out) (by simp; omega) (by simp [maxLen]; omega) (by exact KE22.out.size) ?_
      intro v23 w23 o23 q23
      rw [List.nil_append] at o23
      have kv23 : Kp (Only wO21.heap.size) wE22 w23 := (Kp.refl _ wE22).grown q23 fun k hk => .inl (show k = wO21.heap.size by simpa [Value.ownBlock] using hk.symm)
      have se23 := hid (And.intro KE22.out.size (show W.heap.size ≤ wO21.heap.size from by have := zO21.out; have := zE22.out; omega))
      have KA23 := hid (KE22.out.step kv23 fun i hi e => by have : i = wO21.heap.size := e; have := se23.out; omega)
      have RA23 := hid (RBJ.mk (RE22.out.q.kp kv23 fun e => by have : r = wO21.heap.size := e; have := se23.out; omega) (RE22.out.m.kp kv23 fun e => by have : w.heap.size = wO21.heap.size := e; have := se23.out; omega))
      have OA23 := hid o23
      have UA23 := hid (UE22.out.kp kv23 fun e => by have : W.heap.size = wO21.heap.size := e; have := zO21.out; have := zE22.out; omega)
      clear kv23 q23
      refine hK.out _ _ RA23.out.rd (fun hS => ?_)
      clear hK K hS
      simp only [List.setIfInBounds_toArray, List.set_cons_zero, List.set_cons_succ, Act.put]
      refine wpAnyH_ready (rs := [25]) (by kernel_rfl) (by simp) (AllReadyH.cons rfl (fun K hK => ?_) AllReadyH.nil)
      refine step_one usRm mc_one (by rfl) (.tmp 59) (.tmp 77) (by rfl) (far b m) _ (by rfl) (by exact OA23.out) (by rfl) (fun i hi => by
          have hb := UA23.out
          match i, hi with
          | 0, _ => exact hb.cell 0
          | 1, _ => exact hb.cell 1
          | 2, _ => exact hb.cell 2
          | 3, _ => exact hb.cell 3) (by omega) (by simp [maxLen]; omega) (by exact KA23.out.size) ?_
      intro v8 w8 o8 q8 p8
      have k8 : Kp (fun k => W.heap.size ≤ k) w23 w8 := (Kp.refl _ w23).grown q8 fun k hk => .inl (OA23.out.at_ k hk)
      have K8 := hid (KA23.out.step k8 fun i hi (e : W.heap.size ≤ i) => by omega)
      have R8 := hid (RBJ.mk (RA23.out.q.kp k8 fun (e : W.heap.size ≤ r) => by omega) (RA23.out.m.kp k8 fun (e : W.heap.size ≤ w.heap.size) => by omega))
      have O8 := hid o8
      obtain ⟨A8, c8, rfl⟩ := o8.formN (m := xs.length + 1) (by simp)
      clear k8 q8 p8 o8
      refine hK.out _ _ R8.out.rd (fun hS => ?_)
      clear hK K
      simp only [List.setIfInBounds_toArray, List.set_cons_zero, List.set_cons_succ, Act.put]
      refine wpAnyH_take (i := 26) (v := .pointer (some ⟨r, 0, none⟩)) rfl (by kernel_rfl) (by kernel_rfl) (by kernel_rfl) (fun _ _ _ h => h) (Or.inl ⟨by rfl, ?_⟩) hS ?_
      · (intro w6 hS6; obtain ⟨z1, z2, z3, z4, z5⟩ := hS6; go_simp)
      simp only [List.getElem_toArray, List.getElem_cons_zero, List.getElem_cons_succ, Act.put, List.setIfInBounds_toArray, List.set_cons_zero, List.set_cons_succ]
      refine wpAnyH_take (i := 27) (v := .pointer (some ⟨r, 0, none⟩)) rfl (by kernel_rfl) (by kernel_rfl) (by kernel_rfl) (fun _ _ _ h => h) (Or.inl ⟨by rfl, ?_⟩) hS ?_
      · (intro w6 hS6; obtain ⟨z1, z2, z3, z4, z5⟩ := hS6; go_simp)
      simp only [List.getElem_toArray, List.getElem_cons_zero, List.getElem_cons_succ, Act.put, List.setIfInBounds_toArray, List.set_cons_zero, List.set_cons_succ]
      refine wpAnyH_ready (rs := [28]) (by kernel_rfl) (by simp) (AllReadyH.cons rfl (fun K hK => ?_) AllReadyH.nil)
      simp only [List.getElem_toArray, List.getElem_cons_zero, List.getElem_cons_succ]
      have c0 := R8.out.q.cell 0
      have f0 := R8.out.q.frozen 0
      have hrl8 := R8.out.q.lt
      simp only [List.getElem?_toArray, List.getElem?_cons_zero] at c0
      have ks := Kp.set1 r 0 w8 (.slice A8 (xs.length + 1) c8)
      have BF := hid (R8.out.q.put 0 (.slice A8 (xs.length + 1) c8))
      have MF := hid (R8.out.m.kp ks fun e => by have : w.heap.size = r := e; omega)
      have OF := hid (O8.out.kp ks fun i hi e => by have : i = r := e; omega)
      have KF := hid (((KW.out.trans K8.out).all (S := Only r)).trans ks)
      clear hS
      go_simp
      generalize w8.setCell ⟨r, 0, none⟩ (.slice A8 (xs.length + 1) c8) = wz at BF MF OF KF ⊢
      refine hK.out _ _ (show RdJ r w.heap.size b m wz from ⟨by simpa using BF.out.cell 1, MF.out.cell 0, MF.out.cell 1, MF.out.cell 2, MF.out.cell 3⟩) (fun hS => ?_)
      clear hK K hS c0 f0
      simp only [List.setIfInBounds_toArray, List.set_cons_zero, List.set_cons_succ]
      refine wpAnyH_done (by kernel_rfl) ?_ _
      go_wp2_with fail
      go_ret
      exact ⟨rfl, KF.out, ⟨_, by simpa using BF.out, OF.out.rwP fun i hi => by omega⟩, by simp; omega, by omega⟩
  · simp only [List.getElem_toArray, List.getElem_cons_zero, List.getElem_cons_succ]
    go_simp
    have uO25 := Blk.new W 125 #[.int .i64 m.id, .int .i64 m.w, .int .i64 (b + m.v), .int .i64 m.r]
    have kO25 := (Kp.refl No W).alloc (.cells #[.int .i64 m.id, .int .i64 m.w, .int .i64 (b + m.v), .int .i64 m.r] 125)
    have zO25 : Hid ((W.alloc (.cells #[.int .i64 m.id, .int .i64 m.w, .int .i64 (b + m.v), .int .i64 m.r] 125)).heap.size = W.heap.size + 1) := hid (by simp)
    generalize W.alloc (.cells #[.int .i64 m.id, .int .i64 m.w, .int .i64 (b + m.v), .int .i64 m.r] 125) = wO25 at uO25 kO25 zO25 ⊢
    have KO25 := hid (KI.out.trans kO25)
    have RO25 := hid (R1.out.kp0 kO25)
    have UO25 := hid uO25
    clear uO25 kO25
    refine hK.out _ _ RO25.out.rd (fun hS => ?_)
    clear hK K hS
    simp only [List.setIfInBounds_toArray, List.set_cons_zero, List.set_cons_succ]
    refine wpAnyH_ready (rs := [1, 5]) (by kernel_rfl) (by simp) (AllReadyH.cons rfl (fun K hK => ?_) (AllReadyH.cons rfl (fun K hK => ?_) AllReadyH.nil))
    · simp only [List.getElem_toArray, List.getElem_cons_zero, List.getElem_cons_succ]
      go_simp
      have oE26 := Ow.mt wO25 W.heap.size 125 4 mc (KO25.out.size)
      have kE26 := (Kp.refl No wO25).alloc (.cells #[] 125)
      have zE26 : Hid ((wO25.alloc (.cells #[] 125)).heap.size = wO25.heap.size + 1) := hid (by simp)
      generalize wO25.alloc (.cells #[] 125) = wE26 at oE26 kE26 zE26 ⊢
      have KE26 := hid (KO25.out.trans kE26)
      have RE26 := hid (RO25.out.kp0 kE26)
      have OE26 := hid oE26
      have UE26 := hid (UO25.out.kp0 kE26)
      clear oE26 kE26
      refine hK.out _ _ RE26.out.rd (fun hS => ?_)
      clear hK K hS
      simp only [List.setIfInBounds_toArray, List.set_cons_zero, List.set_cons_succ]
      refine wpAnyH_ready (rs := [5]) (by kernel_rfl) (by simp) (AllReadyH.cons rfl (fun K hK => ?_) AllReadyH.nil)
      simp only [List.getElem_toArray, List.getElem_cons_zero, List.getElem_cons_succ]
      have c0 := RE26.out.q.cell 0
      simp only [List.getElem?_toArray, List.getElem?_cons_zero] at c0
      go_simp
      refine hK.out _ _ RE26.out.rd (fun hS => ?_)
      clear hK K hS c0
      simp only [List.setIfInBounds_toArray, List.set_cons_zero, List.set_cons_succ]
      refine wpAnyH_ready (rs := [6]) (by kernel_rfl) (by simp) (AllReadyH.cons rfl (fun K hK => ?_) AllReadyH.nil)
      refine step_apps usRm mc_one (by rfl) (.tmp 54) (.tmp 58) (by rfl) (d := mb0) (base := W.heap.size) (xs := []) (ys := xs) (Pb := S) (.slice (some ⟨wO25.heap.size, 0, none⟩) 0 0) _ (by rfl) (by rfl) (by exact OE26.out) (by exact HW.out.kp0 KE26.out) (by simp; omega) (by simp [maxLen]; omega) (by exact KE26.out.size) ?_
      intro v28 w28 o28 q28
      rw [List.nil_append] at o28
      have kv28 : Kp (Only wO25.heap.size) wE26 w28 := (Kp.refl _ wE26).grown q28 fun k hk => .inl (show k = wO25.heap.size by simpa [Value.ownBlock] using hk.symm)
      have se28 := hid (And.intro KE26.out.size (show W.heap.size ≤ wO25.heap.size from by have := zO25.out; have := zE26.out; omega))
      have KA28 := hid (KE26.out.step kv28 fun i hi e => by have : i = wO25.heap.size := e; have := se28.out; omega)
      have RA28 := hid (RBJ.mk (RE26.out.q.kp kv28 fun e => by have : r = wO25.heap.size := e; have := se28.out; omega) (RE26.out.m.kp kv28 fun e => by have : w.heap.size = wO25.heap.size := e; have := se28.out; omega))
      have OA28 := hid o28
      have UA28 := hid (UE26.out.kp kv28 fun e => by have : W.heap.size = wO25.heap.size := e; have := zO25.out; have := zE26.out; omega)
      clear kv28 q28
      refine hK.out _ _ RA28.out.rd (fun hS => ?_)
      clear hK K hS
      simp only [List.setIfInBounds_toArray, List.set_cons_zero, List.set_cons_succ, Act.put]
      refine wpAnyH_ready (rs := [25]) (by kernel_rfl) (by simp) (AllReadyH.cons rfl (fun K hK => ?_) AllReadyH.nil)
      refine step_one usRm mc_one (by rfl) (.tmp 59) (.tmp 77) (by rfl) (far b m) _ (by rfl) (by exact OA28.out) (by rfl) (fun i hi => by
          have hb := UA28.out
          match i, hi with
          | 0, _ => exact hb.cell 0
          | 1, _ => exact hb.cell 1
          | 2, _ => exact hb.cell 2
          | 3, _ => exact hb.cell 3) (by omega) (by simp [maxLen]; omega) (by exact KA28.out.size) ?_
      intro v8 w8 o8 q8 p8
      have k8 : Kp (fun k => W.heap.size ≤ k) w28 w8 := (Kp.refl _ w28).grown q8 fun k hk => .inl (OA28.out.at_ k hk)
      have K8 := hid (KA28.out.step k8 fun i hi (e : W.heap.size ≤ i) => by omega)
      have R8 := hid (RBJ.mk (RA28.out.q.kp k8 fun (e : W.heap.size ≤ r) => by omega) (RA28.out.m.kp k8 fun (e : W.heap.size ≤ w.heap.size) => by omega))
      have O8 := hid o8
      obtain ⟨A8, c8, rfl⟩ := o8.formN (m := xs.length + 1) (by simp)
      clear k8 q8 p8 o8
      refine hK.out _ _ R8.out.rd (fun hS => ?_)
      clear hK K
      simp only [List.setIfInBounds_toArray, List.set_cons_zero, List.set_cons_succ, Act.put]
      refine wpAnyH_take (i := 26) (v := .pointer (some ⟨r, 0, none⟩)) rfl (by kernel_rfl) (by kernel_rfl) (by kernel_rfl) (fun _ _ _ h => h) (Or.inl ⟨by rfl, ?_⟩) hS ?_
      · (intro w6 hS6; obtain ⟨z1, z2, z3, z4, z5⟩ := hS6; go_simp)
      simp only [List.getElem_toArray, List.getElem_cons_zero, List.getElem_cons_succ, Act.put, List.setIfInBounds_toArray, List.set_cons_zero, List.set_cons_succ]
      refine wpAnyH_take (i := 27) (v := .pointer (some ⟨r, 0, none⟩)) rfl (by kernel_rfl) (by kernel_rfl) (by kernel_rfl) (fun _ _ _ h => h) (Or.inl ⟨by rfl, ?_⟩) hS ?_
      · (intro w6 hS6; obtain ⟨z1, z2, z3, z4, z5⟩ := hS6; go_simp)
      simp only [List.getElem_toArray, List.getElem_cons_zero, List.getElem_cons_succ, Act.put, List.setIfInBounds_toArray, List.set_cons_zero, List.set_cons_succ]
      refine wpAnyH_ready (rs := [28]) (by kernel_rfl) (by simp) (AllReadyH.cons rfl (fun K hK => ?_) AllReadyH.nil)
      simp only [List.getElem_toArray, List.getElem_cons_zero, List.getElem_cons_succ]
      have c0 := R8.out.q.cell 0
      have f0 := R8.out.q.frozen 0
      have hrl8 := R8.out.q.lt
      simp only [List.getElem?_toArray, List.getElem?_cons_zero] at c0
      have ks := Kp.set1 r 0 w8 (.slice A8 (xs.length + 1) c8)
      have BF := hid (R8.out.q.put 0 (.slice A8 (xs.length + 1) c8))
      have MF := hid (R8.out.m.kp ks fun e => by have : w.heap.size = r := e; omega)
      have OF := hid (O8.out.kp ks fun i hi e => by have : i = r := e; omega)
      have KF := hid (((KW.out.trans K8.out).all (S := Only r)).trans ks)
      clear hS
      go_simp
      generalize w8.setCell ⟨r, 0, none⟩ (.slice A8 (xs.length + 1) c8) = wz at BF MF OF KF ⊢
      refine hK.out _ _ (show RdJ r w.heap.size b m wz from ⟨by simpa using BF.out.cell 1, MF.out.cell 0, MF.out.cell 1, MF.out.cell 2, MF.out.cell 3⟩) (fun hS => ?_)
      clear hK K hS c0 f0
      simp only [List.setIfInBounds_toArray, List.set_cons_zero, List.set_cons_succ]
      refine wpAnyH_done (by kernel_rfl) ?_ _
      go_wp2_with fail
      go_ret
      exact ⟨rfl, KF.out, ⟨_, by simpa using BF.out, OF.out.rwP fun i hi => by omega⟩, by simp; omega, by omega⟩
    · simp only [List.getElem_toArray, List.getElem_cons_zero, List.getElem_cons_succ]
      have c0 := RO25.out.q.cell 0
      simp only [List.getElem?_toArray, List.getElem?_cons_zero] at c0
      go_simp
      refine hK.out _ _ RO25.out.rd (fun hS => ?_)
      clear hK K hS c0
      simp only [List.setIfInBounds_toArray, List.set_cons_zero, List.set_cons_succ]
      refine wpAnyH_ready (rs := [1]) (by kernel_rfl) (by simp) (AllReadyH.cons rfl (fun K hK => ?_) AllReadyH.nil)
      simp only [List.getElem_toArray, List.getElem_cons_zero, List.getElem_cons_succ]
      go_simp
      have oE31 := Ow.mt wO25 W.heap.size 125 4 mc (KO25.out.size)
      have kE31 := (Kp.refl No wO25).alloc (.cells #[] 125)
      have zE31 : Hid ((wO25.alloc (.cells #[] 125)).heap.size = wO25.heap.size + 1) := hid (by simp)
      generalize wO25.alloc (.cells #[] 125) = wE31 at oE31 kE31 zE31 ⊢
      have KE31 := hid (KO25.out.trans kE31)
      have RE31 := hid (RO25.out.kp0 kE31)
      have OE31 := hid oE31
      have UE31 := hid (UO25.out.kp0 kE31)
      clear oE31 kE31
      refine hK.out _ _ RE31.out.rd (fun hS => ?_)
      clear hK K hS
      simp only [List.setIfInBounds_toArray, List.set_cons_zero, List.set_cons_succ]
      refine wpAnyH_ready (rs := [6]) (by kernel_rfl) (by simp) (AllReadyH.cons rfl (fun K hK => ?_) AllReadyH.nil)
      refine step_apps usRm mc_one (by rfl) (.tmp 54) (.tmp 58) (by rfl) (d := mb0) (base := W.heap.size) (xs := []) (ys := xs) (Pb := S) (.slice (some ⟨wO25.heap.size, 0, none⟩) 0 0) _ (by rfl) (by rfl) (by exact OE31.out) (by exact HW.out.kp0 KE31.out) (by simp; omega) (by simp [maxLen]; omega) (by exact KE31.out.size) ?_
      intro v32 w32 o32 q32
      rw [List.nil_append] at o32
      have kv32 : Kp (Only wO25.heap.size) wE31 w32 := (Kp.refl _ wE31).grown q32 fun k hk => .inl (show k = wO25.heap.size by simpa [Value.ownBlock] using hk.symm)
      have se32 := hid (And.intro KE31.out.size (show W.heap.size ≤ wO25.heap.size from by have := zO25.out; have := zE31.out; omega))
      have KA32 := hid (KE31.out.step kv32 fun i hi e => by have : i = wO25.heap.size := e; have := se32.out; omega)
      have RA32 := hid (RBJ.mk (RE31.out.q.kp kv32 fun e => by have : r = wO25.heap.size := e; have := se32.out; omega) (RE31.out.m.kp kv32 fun e => by have : w.heap.size = wO25.heap.size := e; have := se32.out; omega))
      have OA32 := hid o32
      have UA32 := hid (UE31.out.kp kv32 fun e => by have : W.heap.size = wO25.heap.size := e; have := zO25.out; have := zE31.out; omega)
      clear kv32 q32
      refine hK.out _ _ RA32.out.rd (fun hS => ?_)
      clear hK K hS
      simp only [List.setIfInBounds_toArray, List.set_cons_zero, List.set_cons_succ, Act.put]
      refine wpAnyH_ready (rs := [25]) (by kernel_rfl) (by simp) (AllReadyH.cons rfl (fun K hK => ?_) AllReadyH.nil)
      refine step_one usRm mc_one (by rfl) (.tmp 59) (.tmp 77) (by rfl) (far b m) _ (by rfl) (by exact OA32.out) (by rfl) (fun i hi => by
          have hb := UA32.out
          match i, hi with
          | 0, _ => exact hb.cell 0
          | 1, _ => exact hb.cell 1
          | 2, _ => exact hb.cell 2
          | 3, _ => exact hb.cell 3) (by omega) (by simp [maxLen]; omega) (by exact KA32.out.size) ?_
      intro v8 w8 o8 q8 p8
      have k8 : Kp (fun k => W.heap.size ≤ k) w32 w8 := (Kp.refl _ w32).grown q8 fun k hk => .inl (OA32.out.at_ k hk)
      have K8 := hid (KA32.out.step k8 fun i hi (e : W.heap.size ≤ i) => by omega)
      have R8 := hid (RBJ.mk (RA32.out.q.kp k8 fun (e : W.heap.size ≤ r) => by omega) (RA32.out.m.kp k8 fun (e : W.heap.size ≤ w.heap.size) => by omega))
      have O8 := hid o8
      obtain ⟨A8, c8, rfl⟩ := o8.formN (m := xs.length + 1) (by simp)
      clear k8 q8 p8 o8
      refine hK.out _ _ R8.out.rd (fun hS => ?_)
      clear hK K
      simp only [List.setIfInBounds_toArray, List.set_cons_zero, List.set_cons_succ, Act.put]
      refine wpAnyH_take (i := 26) (v := .pointer (some ⟨r, 0, none⟩)) rfl (by kernel_rfl) (by kernel_rfl) (by kernel_rfl) (fun _ _ _ h => h) (Or.inl ⟨by rfl, ?_⟩) hS ?_
      · (intro w6 hS6; obtain ⟨z1, z2, z3, z4, z5⟩ := hS6; go_simp)
      simp only [List.getElem_toArray, List.getElem_cons_zero, List.getElem_cons_succ, Act.put, List.setIfInBounds_toArray, List.set_cons_zero, List.set_cons_succ]
      refine wpAnyH_take (i := 27) (v := .pointer (some ⟨r, 0, none⟩)) rfl (by kernel_rfl) (by kernel_rfl) (by kernel_rfl) (fun _ _ _ h => h) (Or.inl ⟨by rfl, ?_⟩) hS ?_
      · (intro w6 hS6; obtain ⟨z1, z2, z3, z4, z5⟩ := hS6; go_simp)
      simp only [List.getElem_toArray, List.getElem_cons_zero, List.getElem_cons_succ, Act.put, List.setIfInBounds_toArray, List.set_cons_zero, List.set_cons_succ]
      refine wpAnyH_ready (rs := [28]) (by kernel_rfl) (by simp) (AllReadyH.cons rfl (fun K hK => ?_) AllReadyH.nil)
      simp only [List.getElem_toArray, List.getElem_cons_zero, List.getElem_cons_succ]
      have c0 := R8.out.q.cell 0
      have f0 := R8.out.q.frozen 0
      have hrl8 := R8.out.q.lt
      simp only [List.getElem?_toArray, List.getElem?_cons_zero] at c0
      have ks := Kp.set1 r 0 w8 (.slice A8 (xs.length + 1) c8)
      have BF := hid (R8.out.q.put 0 (.slice A8 (xs.length + 1) c8))
      have MF := hid (R8.out.m.kp ks fun e => by have : w.heap.size = r := e; omega)
      have OF := hid (O8.out.kp ks fun i hi e => by have : i = r := e; omega)
      have KF := hid (((KW.out.trans K8.out).all (S := Only r)).trans ks)
      clear hS
      go_simp
      generalize w8.setCell ⟨r, 0, none⟩ (.slice A8 (xs.length + 1) c8) = wz at BF MF OF KF ⊢
      refine hK.out _ _ (show RdJ r w.heap.size b m wz from ⟨by simpa using BF.out.cell 1, MF.out.cell 0, MF.out.cell 1, MF.out.cell 2, MF.out.cell 3⟩) (fun hS => ?_)
      clear hK K hS c0 f0
      simp only [List.setIfInBounds_toArray, List.set_cons_zero, List.set_cons_succ]
      refine wpAnyH_done (by kernel_rfl) ?_ _
      go_wp2_with fail
      go_ret
      exact ⟨rfl, KF.out, ⟨_, by simpa using BF.out, OF.out.rwP fun i hi => by omega⟩, by simp; omega, by omega⟩
end
end Go.Proofs.Ytpbnmfoecmhnnaa
