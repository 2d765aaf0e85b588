/-
  What is done with a queue: the first one in order runs; no such thing; do as a whole.
-/
import Derived.Test.YtpbnmfoecmhnnaaQF
import Derived.Test.YtpbnmfoecmhnnaaSU
namespace Go.Proofs.Ytpbnmfoecmhnnaa
open Go.RowKit

section
variable {w w' w1 w2 w3 wf : World} {g mb sg : Nat} {S T : Nat → Prop} {s s' : Qs}

set_option maxRecDepth 100000 in
set_option maxHeartbeats 1000000 in
theorem do_0 (h : Qu w g mb sg T s) (m : Mb) (n : Int) {d : Int} (h1 : d ≠ 1) (h2 : d ≠ 2) (h3 : d ≠ 3) (h4 : d ≠ 4) (h5 : d ≠ 5) :
    Calls Try.prog 39 #[.pointer (some ⟨g, 0, none⟩), .agg #[.int .i64 d, .int .i64 m.id, .int .i64 m.w, .int .i64 m.v, .int .i64 m.r, .int .i64 n]] w fun e w' => e = .returned (.tuple #[.agg #[.int .i64 0, .int .i64 0, .int .i64 0, .int .i64 0], .int .i64 0]) ∧ OpR w w' g mb sg T s := by
  have H := hid h
  have k2 := hid (((Kp.refl No w).alloc (.cells #[.int .i64 d, .int .i64 m.id, .int .i64 m.w, .int .i64 m.v, .int .i64 m.r, .int .i64 n] 72)).alloc (.cells #[.int .i64 0, .int .i64 0, .int .i64 0, .int .i64 0] 67))
  clear h
  go_enter Try.func39, Try.ntmps39
  go_wp2_with fail
  exact bodyPost_ret (v := .tuple #[.agg #[.int .i64 0, .int .i64 0, .int .i64 0, .int .i64 0], .int .i64 0]) (by simp [results, Try.results39, go_sem]) rfl ⟨rfl, OpR.same H.out k2.out⟩

set_option maxRecDepth 100000 in
set_option maxHeartbeats 1000000 in
theorem do_5n (h : Qu w g mb sg T s) (m : Mb) (n : Int) (hl : s.l = []) :
    Calls Try.prog 39 #[.pointer (some ⟨g, 0, none⟩), .agg #[.int .i64 5, .int .i64 m.id, .int .i64 m.w, .int .i64 m.v, .int .i64 m.r, .int .i64 n]] w fun e w' => e = .returned (.tuple #[.agg #[.int .i64 0, .int .i64 0, .int .i64 0, .int .i64 0], .int .i64 0]) ∧ OpR w w' g mb sg T s := by
  have H := hid h
  have k2 := ((Kp.refl No w).alloc (.cells #[.int .i64 5, .int .i64 m.id, .int .i64 m.w, .int .i64 m.v, .int .i64 m.r, .int .i64 n] 72)).alloc (.cells #[.int .i64 0, .int .i64 0, .int .i64 0, .int .i64 0] 67)
  have b1 := (Blk.new (w.alloc (.cells #[.int .i64 5, .int .i64 m.id, .int .i64 m.w, .int .i64 m.v, .int .i64 m.r, .int .i64 n] 72)) 67 #[.int .i64 0, .int .i64 0, .int .i64 0, .int .i64 0]).next (h := w.heap.size + 1) (by simp)
  clear h
  go_enter Try.func39, Try.ntmps39
  go_wp2_with fail
  generalize ((w.alloc (.cells #[.int .i64 5, .int .i64 m.id, .int .i64 m.w, .int .i64 m.v, .int .i64 m.r, .int .i64 n] 72)).alloc (.cells #[.int .i64 0, .int .i64 0, .int .i64 0, .int .i64 0] 67)) = w2 at k2 b1 ⊢
  refine (allq_any (H.out.kp0 k2)).mono ?_
  rintro e w3 ⟨v3, rfl, k3, o3⟩
  rw [hl] at o3
  obtain ⟨A3, cp3, rfl⟩ := o3.formN (m := 0) rfl
  have b3 := b1.kp0 k3
  have K3 := hid (k2.trans k3)
  clear k2 k3 b1 o3
  have c0 := b3.cell 0
  have c1 := b3.cell 1
  have c2 := b3.cell 2
  have c3 := b3.cell 3
  have f0 := b3.frozen 0
  have f1 := b3.frozen 1
  have f2 := b3.frozen 2
  have f3 := b3.frozen 3
  simp at c0 c1 c2 c3
  have kf := kp4 (w.heap.size + 1) w3 (.int .i64 0) (.int .i64 0) (.int .i64 0) (.int .i64 0)
  have bf := b3.put4 (.int .i64 0) (.int .i64 0) (.int .i64 0) (.int .i64 0)
  have KF := hid (K3.out.step kf fun i hi e => absurd hi (by have : i = w.heap.size + 1 := e; omega))
  clear kf
  go_wp2_with fail
  generalize (((w3.setCell ⟨w.heap.size + 1, 0, none⟩ (.int .i64 0)).setCell ⟨w.heap.size + 1, 1, none⟩ (.int .i64 0)).setCell ⟨w.heap.size + 1, 2, none⟩ (.int .i64 0)).setCell ⟨w.heap.size + 1, 3, none⟩ (.int .i64 0) = wf at bf KF ⊢
  have e0 := bf.cell 0
  have e1 := bf.cell 1
  have e2 := bf.cell 2
  have e3 := bf.cell 3
  simp at e0 e1 e2 e3
  exact bodyPost_ret (v := .tuple #[.agg #[.int .i64 0, .int .i64 0, .int .i64 0, .int .i64 0], .int .i64 0]) (by simp [results, Try.results39, go_sem, e0, e1, e2, e3]) rfl ⟨rfl, OpR.same H.out KF.out⟩

set_option maxRecDepth 100000 in
set_option maxHeartbeats 1000000 in
theorem do_5c (h : Qu w g mb sg T s) (m : Mb) (n : Int) {y : Mb} {l : List Mb} (hl : s.l = y :: l) :
    Calls Try.prog 39 #[.pointer (some ⟨g, 0, none⟩), .agg #[.int .i64 5, .int .i64 m.id, .int .i64 m.w, .int .i64 m.v, .int .i64 m.r, .int .i64 n]] w fun e w' => e = .returned (.tuple #[.agg #[.int .i64 y.id, .int .i64 y.w, .int .i64 (y.v - s.base), .int .i64 y.r], .int .i64 (runE s y.id 1)]) ∧ OpR w w' g mb sg T (runS s y.id 1) := by
  have H := hid h
  have hyid := (h.ok.ok y (by rw [hl]; simp)).id64
  have k2 := ((Kp.refl No w).alloc (.cells #[.int .i64 5, .int .i64 m.id, .int .i64 m.w, .int .i64 m.v, .int .i64 m.r, .int .i64 n] 72)).alloc (.cells #[.int .i64 0, .int .i64 0, .int .i64 0, .int .i64 0] 67)
  have b1 := (Blk.new (w.alloc (.cells #[.int .i64 5, .int .i64 m.id, .int .i64 m.w, .int .i64 m.v, .int .i64 m.r, .int .i64 n] 72)) 67 #[.int .i64 0, .int .i64 0, .int .i64 0, .int .i64 0]).next (h := w.heap.size + 1) (by simp)
  have hz : _ = w.heap.size + 2 := show ((w.alloc (.cells #[.int .i64 5, .int .i64 m.id, .int .i64 m.w, .int .i64 m.v, .int .i64 m.r, .int .i64 n] 72)).alloc (.cells #[.int .i64 0, .int .i64 0, .int .i64 0, .int .i64 0] 67)).heap.size = w.heap.size + 2 by simp
  clear h
  go_enter Try.func39, Try.ntmps39
  go_wp2_with fail
  generalize ((w.alloc (.cells #[.int .i64 5, .int .i64 m.id, .int .i64 m.w, .int .i64 m.v, .int .i64 m.r, .int .i64 n] 72)).alloc (.cells #[.int .i64 0, .int .i64 0, .int .i64 0, .int .i64 0] 67)) = w2 at k2 b1 hz ⊢
  have Q2 := hid (H.out.trim.kp0 k2)
  have HZ := hid hz
  clear hz
  refine (allq_any Q2.out).mono ?_
  rintro e w3 ⟨v3, rfl, k3, o3⟩
  have hO := o3.rwP (d := mb0) (P := fun i => w2.heap.size ≤ i) fun i hi => hi
  rw [hl] at hO
  have hlen : (s.l.map (tl s.base)).length = l.length + 1 := by rw [hl]; simp
  obtain ⟨A3, cp3, rfl⟩ := o3.formN (m := l.length + 1) hlen
  rw [show ((y :: l).map (tl s.base)) = tl s.base y :: l.map (tl s.base) from rfl] at hO
  obtain ⟨ab, ao, hA⟩ := hO.there (by simp)
  subst hA
  have hab : w2.heap.size ≤ ab := by
    obtain ⟨_, _, he, _, _, hr⟩ := hO
    injection he with q1 q2 q3
    obtain ⟨b', o', e8, _, hp, _⟩ := hr (by simp)
    rw [← q1] at e8
    cases e8
    exact hp
  have HO := hid hO
  have B3 := hid (b1.kp0 k3)
  have K2 := hid k2
  have K3 := hid (k2.trans k3)
  have Q3 := hid ((Q2.out.kp0 k3).kp0 (Kp.refl No w3).drew)
  have CE := hid fun (w' : World) (k : Nat) (h : Rw 4 mc mb0 w' (fun i => w2.heap.size ≤ i) (.slice (some ⟨ab, ao, none⟩) (l.length + 1) cp3) (tl s.base y :: l.map (tl s.base))) (hk : k < 4) => h.cell (Kp.refl No w') (j := 0) (i := k) (by simp) hk rfl
  have hs3 := hid k3.size
  clear k2 k3 b1 o3 hO hlen
  have a0 := CE.out w3 0 HO.out (by omega)
  have a1 := CE.out w3 1 HO.out (by omega)
  have a2 := CE.out w3 2 HO.out (by omega)
  have a3 := CE.out w3 3 HO.out (by omega)
  simp [mc, tl] at a0 a1 a2 a3
  have hne : ab ≠ w.heap.size + 1 := by have := HZ.out; omega
  have hne' : w.heap.size + 1 ≠ ab := fun e => hne e.symm
  have hl0 : (0 : Int) < (l.length : Int) + 1 := by omega
  go_wp2_with fail
  go_region_held3 (fun w' => w'.cell? ⟨ab, ao, none⟩ = some (.int .i64 y.id) ∧ w'.cell? ⟨ab, ao + 1, none⟩ = some (.int .i64 y.w) ∧ w'.cell? ⟨ab, ao + 2, none⟩ = some (.int .i64 (y.v - s.base)) ∧ w'.cell? ⟨ab, ao + 3, none⟩ = some (.int .i64 y.r)) (go_keep) (first
    | (go_at_call 52
       refine (run_all Q3.out hyid 1).mono ?_
       rintro e w4 ⟨rfl, r4⟩
       have R4 := hid r4
       have h4 := HO.out.kp ((Kp.refl _ w3).drew.trans r4.1) fun i _ hi e => H.out.new (by have := HZ.out; omega) e
       have a0 := CE.out w4 0 h4 (by omega)
       have a1 := CE.out w4 1 h4 (by omega)
       have a2 := CE.out w4 2 h4 (by omega)
       have a3 := CE.out w4 3 h4 (by omega)
       simp [mc, tl] at a0 a1 a2 a3
       have B4 := hid (B3.out.kp ((Kp.refl _ w3).drew.trans r4.1) (H.out.new (by omega)))
       have f0 := B4.out.frozen 0
       have f1 := B4.out.frozen 1
       have f2 := B4.out.frozen 2
       have f3 := B4.out.frozen 3
       have c0 := B4.out.cell 0
       have c1 := B4.out.cell 1
       have c2 := B4.out.cell 2
       have c3 := B4.out.cell 3
       simp at c0 c1 c2 c3
       clear r4 h4))
  have kf := kp4 (w.heap.size + 1) w4 (.int .i64 y.id) (.int .i64 y.w) (.int .i64 (y.v - s.base)) (.int .i64 y.r)
  have bf := B4.out.put4 (.int .i64 y.id) (.int .i64 y.w) (.int .i64 (y.v - s.base)) (.int .i64 y.r)
  have R := hid (OpR.fin H.out K3.out.drew R4.out kf (by omega) (by have := HZ.out; have : w3.drew.heap.size = w3.heap.size := rfl; have := hs3.out; omega))
  clear kf
  generalize (((w4.setCell ⟨w.heap.size + 1, 0, none⟩ (.int .i64 y.id)).setCell ⟨w.heap.size + 1, 1, none⟩ (.int .i64 y.w)).setCell ⟨w.heap.size + 1, 2, none⟩ (.int .i64 (y.v - s.base))).setCell ⟨w.heap.size + 1, 3, none⟩ (.int .i64 y.r) = wf at bf R ⊢
  have e0 := bf.cell 0
  have e1 := bf.cell 1
  have e2 := bf.cell 2
  have e3 := bf.cell 3
  simp at e0 e1 e2 e3
  go_wp2_with fail
  exact bodyPost_ret (v := .tuple #[.agg #[.int .i64 y.id, .int .i64 y.w, .int .i64 (y.v - s.base), .int .i64 y.r], .int .i64 (runE s y.id 1)]) (by simp [results, Try.results39, go_sem, e0, e1, e2, e3]) rfl ⟨rfl, R.out⟩

/-- do, whatever is done. -/
theorem do_any (h : Qu w g mb sg T s) (o : Qo) (hi : I64 o.m.id) :
    Calls Try.prog 39 #[.pointer (some ⟨g, 0, none⟩), .agg #[.int .i64 o.d, .int .i64 o.m.id, .int .i64 o.m.w, .int .i64 o.m.v, .int .i64 o.m.r, .int .i64 o.n]] w fun e w' =>
      e = .returned (.tuple #[.agg #[.int .i64 (doM s o).id, .int .i64 (doM s o).w, .int .i64 (doM s o).v, .int .i64 (doM s o).r], .int .i64 (doE s o)]) ∧ OpR w w' g mb sg T (doS s o) := by
  obtain ⟨d, m, n⟩ := o
  by_cases h1 : d = 1
  · subst h1
    exact do_1 h m n hi
  by_cases h2 : d = 2
  · subst h2
    exact do_2 h m n rfl hi
  by_cases h3 : d = 3
  · subst h3
    exact do_3 h m n hi
  by_cases h4 : d = 4
  · subst h4
    exact do_4 h m n hi
  by_cases h5 : d = 5
  · subst h5
    cases hl : s.l with
    | nil =>
      have e1 : doM s ⟨5, m, n⟩ = mb0 := by simp [doM, hl]
      have e2 : doE s ⟨5, m, n⟩ = 0 := by simp [doE, hl]
      have e3 : doS s ⟨5, m, n⟩ = s := by simp [doS, hl]
      rw [e1, e2, e3]
      exact do_5n h m n hl
    | cons y l =>
      have e1 : doM s ⟨5, m, n⟩ = tl s.base y := by simp [doM, hl]
      have e2 : doE s ⟨5, m, n⟩ = runE s y.id 1 := by simp [doE, hl]
      have e3 : doS s ⟨5, m, n⟩ = runS s y.id 1 := by simp [doS, hl]
      rw [e1, e2, e3]
      exact do_5c h m n hl
  · have e1 : doM s ⟨d, m, n⟩ = mb0 := by simp [doM, h2, h5]
    have e2 : doE s ⟨d, m, n⟩ = 0 := by simp [doE, h1, h2, h3, h4, h5]
    have e3 : doS s ⟨d, m, n⟩ = s := by simp [doS, h1, h2, h3, h4, h5]
    rw [e1, e2, e3]
    exact do_0 h m n h1 h2 h3 h4 h5
end
end Go.Proofs.Ytpbnmfoecmhnnaa
