/-
  What is done with a queue: the program's do.
-/
import Derived.Test.YtpbnmfoecmhnnaaQE
namespace Go.Proofs.Ytpbnmfoecmhnnaa
open Go.RowKit

/-- What is done: a number says what, with a member and a number. -/
structure Qo where
  d : Int
  m : Mb
  n : Int
def qo0 : Qo := ⟨0, mb0, 0⟩
def qc (o : Qo) : Nat → Value
  | 0 => .int .i64 o.d
  | 1 => .int .i64 o.m.id
  | 2 => .int .i64 o.m.w
  | 3 => .int .i64 o.m.v
  | 4 => .int .i64 o.m.r
  | _ => .int .i64 o.n
def doE (s : Qs) (o : Qo) : Int :=
  if o.d = 1 then joinE s o.m else if o.d = 2 then leaveE s o.m.id else if o.d = 3 then runE s o.m.id o.n else if o.d = 4 then weighE s o.m.id o.n else
    if o.d = 5 then (match s.l with | [] => 0 | y :: _ => runE s y.id 1) else 0
def doM (s : Qs) (o : Qo) : Mb :=
  if o.d = 2 then leaveM s o.m.id else if o.d = 5 then (match s.l with | [] => mb0 | y :: _ => tl s.base y) else mb0
def doS (s : Qs) (o : Qo) : Qs :=
  if o.d = 1 then joinS s o.m else if o.d = 2 then leaveS s o.m.id else if o.d = 3 then runS s o.m.id o.n else if o.d = 4 then weighS s o.m.id o.n else
    if o.d = 5 then (match s.l with | [] => s | y :: _ => runS s y.id 1) else s
theorem remM_none {l : List Mb} {k : Int} (h : finM l k = none) : remM l k = l := by
  unfold remM
  exact List.filter_eq_self.2 fun m hm => decide_eq_true (finM_none h m hm)

section
variable {w w' w1 w2 w3 wf : World} {g mb sg : Nat} {S T : Nat → Prop} {s s' : Qs}

theorem OpR.fin {p : Nat} (h : Qu w g mb sg T s) (k : Kp No w w2) (r : OpR w2 w3 g mb sg (fun i => T i ∧ i < w.heap.size) s') (kf : Kp (Only p) w3 wf) (hp : w.heap.size ≤ p) (hp2 : p < w2.heap.size) : OpR w wf g mb sg T s' := by
  have hgl := h.hd.lt
  have hml := h.mp.lt
  have hs := k.size
  refine ⟨((k.all.trans r.1).step kf fun i hi e => absurd hi (by have : i = p := e; omega)).mono fun i _ h => h.imp id fun h => h.imp id fun h => h.1, (r.2.only kf fun e => ?_).mono (fun i hi ht => ⟨ht.1.imp (fun h => h.1) fun h => by omega, hi⟩) (fun h' => h'.1.elim h.tg fun x => by omega) (fun h' => h'.1.elim h.tm fun x => by omega)⟩
  rcases e with e | e | e
  · omega
  · omega
  · rcases e.1 with e | e <;> omega

/-- Run, whatever it answers. -/
theorem run_all (h : Qu w g mb sg T s) {k : Int} (hk : I64 k) (n : Int) :
    Calls Try.prog 52 #[.pointer (some ⟨g, 0, none⟩), .int .i64 k, .int .i64 n] w fun e w' => e = .returned (.int .i64 (runE s k n)) ∧ OpR w w' g mb sg T (runS s k n) := by
  cases hf : finM s.l k with
  | none =>
    refine (run_none h hk n hf).mono fun e w' ⟨h1, h2⟩ => ?_
    have e1 : runE s k n = 8 := by unfold runE; rw [hf]
    have e2 : runS s k n = s := by unfold runS; rw [hf]
    rw [e1, e2]
    exact ⟨h1, OpR.same h h2⟩
  | some m =>
    by_cases hn : n < 0 ∨ 1099511627776 < n
    · refine (run_arg h n hf hn).mono fun e w' ⟨h1, h2⟩ => ?_
      have e1 : runE s k n = 1 := by unfold runE; rw [hf]; simp only; rw [if_pos hn]
      have e2 : runS s k n = s := by unfold runS; rw [hf]; simp only; rw [if_neg (by omega)]
      rw [e1, e2]
      exact ⟨h1, OpR.same h h2⟩
    · exact run_is_ h n hf (by omega) (by omega)
theorem weigh_all (h : Qu w g mb sg T s) {k : Int} (hk : I64 k) (n : Int) :
    Calls Try.prog 53 #[.pointer (some ⟨g, 0, none⟩), .int .i64 k, .int .i64 n] w fun e w' => e = .returned (.int .i64 (weighE s k n)) ∧ OpR w w' g mb sg T (weighS s k n) := by
  cases hf : finM s.l k with
  | none =>
    refine (weigh_none h hk n hf).mono fun e w' ⟨h1, h2⟩ => ?_
    have e1 : weighE s k n = 8 := by unfold weighE; rw [hf]
    have e2 : weighS s k n = s := by unfold weighS; rw [if_neg (by omega)]
    rw [e1, e2]
    exact ⟨h1, OpR.same h h2⟩
  | some m => exact weigh_is h n hf
theorem leave_all (h : Qu w g mb sg T s) {k : Int} (hk : I64 k) :
    Calls Try.prog 50 #[.pointer (some ⟨g, 0, none⟩), .int .i64 k] w fun e w' => e = .returned (.tuple #[.agg #[.int .i64 (leaveM s k).id, .int .i64 (leaveM s k).w, .int .i64 (leaveM s k).v, .int .i64 (leaveM s k).r], .int .i64 (leaveE s k)]) ∧ OpR w w' g mb sg T (leaveS s k) := by
  cases hf : finM s.l k with
  | none =>
    refine (leave_none h hk hf).mono fun e w' ⟨h1, h2⟩ => ?_
    have e1 : leaveE s k = 8 := by unfold leaveE; rw [hf]; rfl
    have e2 : leaveM s k = mb0 := by unfold leaveM; rw [hf]
    have e3 : leaveS s k = s := by unfold leaveS; rw [remM_none hf]
    rw [e1, e2, e3]
    exact ⟨h1, OpR.same h h2⟩
  | some m =>
    refine (leave_some h hf).mono fun e w' ⟨h1, h2⟩ => ?_
    have e1 : leaveE s k = 0 := by unfold leaveE; rw [hf]; rfl
    have e2 : leaveM s k = tl s.base m := by unfold leaveM; rw [hf]
    rw [e1, e2]
    exact ⟨h1, h2⟩
theorem get_all (h : Qu w g mb sg T s) {k : Int} (hk : I64 k) : ∃ (m : Mb) (q : Bool), ((finM s.l k = none ∧ m = mb0 ∧ q = false) ∨ ∃ y, finM s.l k = some y ∧ m = tl s.base y ∧ q = true) ∧
    Calls Try.prog 47 #[.pointer (some ⟨g, 0, none⟩), .int .i64 k] w fun e w' => e = .returned (.tuple #[.agg #[.int .i64 m.id, .int .i64 m.w, .int .i64 m.v, .int .i64 m.r], .bool q]) ∧ Kp No w w' := by
  cases hf : finM s.l k with
  | none => exact ⟨mb0, false, .inl ⟨rfl, rfl, rfl⟩, get_none h hk hf⟩
  | some y => exact ⟨tl s.base y, true, .inr ⟨y, rfl, rfl, rfl⟩, get_some h hf⟩

set_option maxRecDepth 100000 in
set_option maxHeartbeats 1000000 in
theorem do_1 (h : Qu w g mb sg T s) (m : Mb) (n : Int) (hi : I64 m.id) :
    Calls Try.prog 39 #[.pointer (some ⟨g, 0, none⟩), .agg #[.int .i64 1, .int .i64 m.id, .int .i64 m.w, .int .i64 m.v, .int .i64 m.r, .int .i64 n]] w fun e w' => e = .returned (.tuple #[.agg #[.int .i64 0, .int .i64 0, .int .i64 0, .int .i64 0], .int .i64 (joinE s m)]) ∧ OpR w w' g mb sg T (joinS s m) := by
  have H := hid h
  have k2 := ((Kp.refl No w).alloc (.cells #[.int .i64 1, .int .i64 m.id, .int .i64 m.w, .int .i64 m.v, .int .i64 m.r, .int .i64 n] 72)).alloc (.cells #[.int .i64 0, .int .i64 0, .int .i64 0, .int .i64 0] 67)
  have b0 := (Blk.new w 72 #[.int .i64 1, .int .i64 m.id, .int .i64 m.w, .int .i64 m.v, .int .i64 m.r, .int .i64 n]).kp0 ((Kp.refl No _).alloc (.cells #[.int .i64 0, .int .i64 0, .int .i64 0, .int .i64 0] 67))
  have b1 := (Blk.new (w.alloc (.cells #[.int .i64 1, .int .i64 m.id, .int .i64 m.w, .int .i64 m.v, .int .i64 m.r, .int .i64 n] 72)) 67 #[.int .i64 0, .int .i64 0, .int .i64 0, .int .i64 0]).next (h := w.heap.size + 1) (by simp)
  have hz : _ = w.heap.size + 2 := show ((w.alloc (.cells #[.int .i64 1, .int .i64 m.id, .int .i64 m.w, .int .i64 m.v, .int .i64 m.r, .int .i64 n] 72)).alloc (.cells #[.int .i64 0, .int .i64 0, .int .i64 0, .int .i64 0] 67)).heap.size = w.heap.size + 2 by simp
  clear h
  go_enter Try.func39, Try.ntmps39
  go_wp2_with fail
  generalize ((w.alloc (.cells #[.int .i64 1, .int .i64 m.id, .int .i64 m.w, .int .i64 m.v, .int .i64 m.r, .int .i64 n] 72)).alloc (.cells #[.int .i64 0, .int .i64 0, .int .i64 0, .int .i64 0] 67)) = w2 at k2 b0 b1 hz ⊢
  have K2 := hid k2
  have B1 := hid b1
  have Q2 := hid (H.out.trim.kp0 k2)
  have HZ := hid hz
  clear k2 b1 hz
  refine (join_any Q2.out m hi).mono ?_
  rintro e w3 ⟨rfl, r3⟩
  have b3 := B1.out.kp r3.1 (H.out.new (by omega))
  have c0 := b3.cell 0
  have c1 := b3.cell 1
  have c2 := b3.cell 2
  have c3 := b3.cell 3
  have f0 := b3.frozen 0
  have f1 := b3.frozen 1
  have f2 := b3.frozen 2
  have f3 := b3.frozen 3
  simp at c0 c1 c2 c3
  have kf := kp4 (w.heap.size + 1) w3 (.int .i64 0) (.int .i64 0) (.int .i64 0) (.int .i64 0)
  have bf := b3.put4 (.int .i64 0) (.int .i64 0) (.int .i64 0) (.int .i64 0)
  have R := hid (OpR.fin H.out K2.out r3 kf (by omega) (by have := HZ.out; omega))
  clear kf
  go_wp2_with fail
  generalize ((((w3.setCell ⟨w.heap.size + 1, 0, none⟩ (.int .i64 0)).setCell ⟨w.heap.size + 1, 1, none⟩ (.int .i64 0)).setCell ⟨w.heap.size + 1, 2, none⟩ (.int .i64 0)).setCell ⟨w.heap.size + 1, 3, none⟩ (.int .i64 0)) = wf at bf R ⊢
  have e0 := bf.cell 0
  have e1 := bf.cell 1
  have e2 := bf.cell 2
  have e3 := bf.cell 3
  simp at e0 e1 e2 e3
  exact bodyPost_ret (v := .tuple #[.agg #[(.int .i64 0), (.int .i64 0), (.int .i64 0), (.int .i64 0)], .int .i64 (joinE s m)]) (by simp [results, Try.results39, go_sem, e0, e1, e2, e3]) rfl ⟨rfl, R.out⟩

set_option maxRecDepth 100000 in
set_option maxHeartbeats 1000000 in
theorem do_3 (h : Qu w g mb sg T s) (m : Mb) (n : Int) (hi : I64 m.id) :
    Calls Try.prog 39 #[.pointer (some ⟨g, 0, none⟩), .agg #[.int .i64 3, .int .i64 m.id, .int .i64 m.w, .int .i64 m.v, .int .i64 m.r, .int .i64 n]] w fun e w' => e = .returned (.tuple #[.agg #[.int .i64 0, .int .i64 0, .int .i64 0, .int .i64 0], .int .i64 (runE s m.id n)]) ∧ OpR w w' g mb sg T (runS s m.id n) := by
  have H := hid h
  have k2 := ((Kp.refl No w).alloc (.cells #[.int .i64 3, .int .i64 m.id, .int .i64 m.w, .int .i64 m.v, .int .i64 m.r, .int .i64 n] 72)).alloc (.cells #[.int .i64 0, .int .i64 0, .int .i64 0, .int .i64 0] 67)
  have b0 := (Blk.new w 72 #[.int .i64 3, .int .i64 m.id, .int .i64 m.w, .int .i64 m.v, .int .i64 m.r, .int .i64 n]).kp0 ((Kp.refl No _).alloc (.cells #[.int .i64 0, .int .i64 0, .int .i64 0, .int .i64 0] 67))
  have b1 := (Blk.new (w.alloc (.cells #[.int .i64 3, .int .i64 m.id, .int .i64 m.w, .int .i64 m.v, .int .i64 m.r, .int .i64 n] 72)) 67 #[.int .i64 0, .int .i64 0, .int .i64 0, .int .i64 0]).next (h := w.heap.size + 1) (by simp)
  have hz : _ = w.heap.size + 2 := show ((w.alloc (.cells #[.int .i64 3, .int .i64 m.id, .int .i64 m.w, .int .i64 m.v, .int .i64 m.r, .int .i64 n] 72)).alloc (.cells #[.int .i64 0, .int .i64 0, .int .i64 0, .int .i64 0] 67)).heap.size = w.heap.size + 2 by simp
  clear h
  go_enter Try.func39, Try.ntmps39
  go_wp2_with fail
  generalize ((w.alloc (.cells #[.int .i64 3, .int .i64 m.id, .int .i64 m.w, .int .i64 m.v, .int .i64 m.r, .int .i64 n] 72)).alloc (.cells #[.int .i64 0, .int .i64 0, .int .i64 0, .int .i64 0] 67)) = w2 at k2 b0 b1 hz ⊢
  have K2 := hid k2
  have B1 := hid b1
  have Q2 := hid (H.out.trim.kp0 k2)
  have HZ := hid hz
  clear k2 b1 hz
  refine (run_all Q2.out hi n).mono ?_
  rintro e w3 ⟨rfl, r3⟩
  have b3 := B1.out.kp r3.1 (H.out.new (by omega))
  have c0 := b3.cell 0
  have c1 := b3.cell 1
  have c2 := b3.cell 2
  have c3 := b3.cell 3
  have f0 := b3.frozen 0
  have f1 := b3.frozen 1
  have f2 := b3.frozen 2
  have f3 := b3.frozen 3
  simp at c0 c1 c2 c3
  have kf := kp4 (w.heap.size + 1) w3 (.int .i64 0) (.int .i64 0) (.int .i64 0) (.int .i64 0)
  have bf := b3.put4 (.int .i64 0) (.int .i64 0) (.int .i64 0) (.int .i64 0)
  have R := hid (OpR.fin H.out K2.out r3 kf (by omega) (by have := HZ.out; omega))
  clear kf
  go_wp2_with fail
  generalize ((((w3.setCell ⟨w.heap.size + 1, 0, none⟩ (.int .i64 0)).setCell ⟨w.heap.size + 1, 1, none⟩ (.int .i64 0)).setCell ⟨w.heap.size + 1, 2, none⟩ (.int .i64 0)).setCell ⟨w.heap.size + 1, 3, none⟩ (.int .i64 0)) = wf at bf R ⊢
  have e0 := bf.cell 0
  have e1 := bf.cell 1
  have e2 := bf.cell 2
  have e3 := bf.cell 3
  simp at e0 e1 e2 e3
  exact bodyPost_ret (v := .tuple #[.agg #[(.int .i64 0), (.int .i64 0), (.int .i64 0), (.int .i64 0)], .int .i64 (runE s m.id n)]) (by simp [results, Try.results39, go_sem, e0, e1, e2, e3]) rfl ⟨rfl, R.out⟩

set_option maxRecDepth 100000 in
set_option maxHeartbeats 1000000 in
theorem do_4 (h : Qu w g mb sg T s) (m : Mb) (n : Int) (hi : I64 m.id) :
    Calls Try.prog 39 #[.pointer (some ⟨g, 0, none⟩), .agg #[.int .i64 4, .int .i64 m.id, .int .i64 m.w, .int .i64 m.v, .int .i64 m.r, .int .i64 n]] w fun e w' => e = .returned (.tuple #[.agg #[.int .i64 0, .int .i64 0, .int .i64 0, .int .i64 0], .int .i64 (weighE s m.id n)]) ∧ OpR w w' g mb sg T (weighS s m.id n) := by
  have H := hid h
  have k2 := ((Kp.refl No w).alloc (.cells #[.int .i64 4, .int .i64 m.id, .int .i64 m.w, .int .i64 m.v, .int .i64 m.r, .int .i64 n] 72)).alloc (.cells #[.int .i64 0, .int .i64 0, .int .i64 0, .int .i64 0] 67)
  have b0 := (Blk.new w 72 #[.int .i64 4, .int .i64 m.id, .int .i64 m.w, .int .i64 m.v, .int .i64 m.r, .int .i64 n]).kp0 ((Kp.refl No _).alloc (.cells #[.int .i64 0, .int .i64 0, .int .i64 0, .int .i64 0] 67))
  have b1 := (Blk.new (w.alloc (.cells #[.int .i64 4, .int .i64 m.id, .int .i64 m.w, .int .i64 m.v, .int .i64 m.r, .int .i64 n] 72)) 67 #[.int .i64 0, .int .i64 0, .int .i64 0, .int .i64 0]).next (h := w.heap.size + 1) (by simp)
  have hz : _ = w.heap.size + 2 := show ((w.alloc (.cells #[.int .i64 4, .int .i64 m.id, .int .i64 m.w, .int .i64 m.v, .int .i64 m.r, .int .i64 n] 72)).alloc (.cells #[.int .i64 0, .int .i64 0, .int .i64 0, .int .i64 0] 67)).heap.size = w.heap.size + 2 by simp
  clear h
  go_enter Try.func39, Try.ntmps39
  go_wp2_with fail
  generalize ((w.alloc (.cells #[.int .i64 4, .int .i64 m.id, .int .i64 m.w, .int .i64 m.v, .int .i64 m.r, .int .i64 n] 72)).alloc (.cells #[.int .i64 0, .int .i64 0, .int .i64 0, .int .i64 0] 67)) = w2 at k2 b0 b1 hz ⊢
  have K2 := hid k2
  have B1 := hid b1
  have Q2 := hid (H.out.trim.kp0 k2)
  have HZ := hid hz
  clear k2 b1 hz
  refine (weigh_all Q2.out hi n).mono ?_
  rintro e w3 ⟨rfl, r3⟩
  have b3 := B1.out.kp r3.1 (H.out.new (by omega))
  have c0 := b3.cell 0
  have c1 := b3.cell 1
  have c2 := b3.cell 2
  have c3 := b3.cell 3
  have f0 := b3.frozen 0
  have f1 := b3.frozen 1
  have f2 := b3.frozen 2
  have f3 := b3.frozen 3
  simp at c0 c1 c2 c3
  have kf := kp4 (w.heap.size + 1) w3 (.int .i64 0) (.int .i64 0) (.int .i64 0) (.int .i64 0)
  have bf := b3.put4 (.int .i64 0) (.int .i64 0) (.int .i64 0) (.int .i64 0)
  have R := hid (OpR.fin H.out K2.out r3 kf (by omega) (by have := HZ.out; omega))
  clear kf
  go_wp2_with fail
  generalize ((((w3.setCell ⟨w.heap.size + 1, 0, none⟩ (.int .i64 0)).setCell ⟨w.heap.size + 1, 1, none⟩ (.int .i64 0)).setCell ⟨w.heap.size + 1, 2, none⟩ (.int .i64 0)).setCell ⟨w.heap.size + 1, 3, none⟩ (.int .i64 0)) = wf at bf R ⊢
  have e0 := bf.cell 0
  have e1 := bf.cell 1
  have e2 := bf.cell 2
  have e3 := bf.cell 3
  simp at e0 e1 e2 e3
  exact bodyPost_ret (v := .tuple #[.agg #[(.int .i64 0), (.int .i64 0), (.int .i64 0), (.int .i64 0)], .int .i64 (weighE s m.id n)]) (by simp [results, Try.results39, go_sem, e0, e1, e2, e3]) rfl ⟨rfl, R.out⟩

set_option maxRecDepth 100000 in
set_option maxHeartbeats 1000000 in
theorem do_2 (h : Qu w g mb sg T s) (m : Mb) (n : Int) {x : Mb} (hx : leaveM s m.id = x) (hi : I64 m.id) :
    Calls Try.prog 39 #[.pointer (some ⟨g, 0, none⟩), .agg #[.int .i64 2, .int .i64 m.id, .int .i64 m.w, .int .i64 m.v, .int .i64 m.r, .int .i64 n]] w fun e w' => e = .returned (.tuple #[.agg #[.int .i64 x.id, .int .i64 x.w, .int .i64 x.v, .int .i64 x.r], .int .i64 (leaveE s m.id)]) ∧ OpR w w' g mb sg T (leaveS s m.id) := by
  have H := hid h
  have k2 := ((Kp.refl No w).alloc (.cells #[.int .i64 2, .int .i64 m.id, .int .i64 m.w, .int .i64 m.v, .int .i64 m.r, .int .i64 n] 72)).alloc (.cells #[.int .i64 0, .int .i64 0, .int .i64 0, .int .i64 0] 67)
  have b0 := (Blk.new w 72 #[.int .i64 2, .int .i64 m.id, .int .i64 m.w, .int .i64 m.v, .int .i64 m.r, .int .i64 n]).kp0 ((Kp.refl No _).alloc (.cells #[.int .i64 0, .int .i64 0, .int .i64 0, .int .i64 0] 67))
  have b1 := (Blk.new (w.alloc (.cells #[.int .i64 2, .int .i64 m.id, .int .i64 m.w, .int .i64 m.v, .int .i64 m.r, .int .i64 n] 72)) 67 #[.int .i64 0, .int .i64 0, .int .i64 0, .int .i64 0]).next (h := w.heap.size + 1) (by simp)
  have hz : _ = w.heap.size + 2 := show ((w.alloc (.cells #[.int .i64 2, .int .i64 m.id, .int .i64 m.w, .int .i64 m.v, .int .i64 m.r, .int .i64 n] 72)).alloc (.cells #[.int .i64 0, .int .i64 0, .int .i64 0, .int .i64 0] 67)).heap.size = w.heap.size + 2 by simp
  clear h
  go_enter Try.func39, Try.ntmps39
  go_wp2_with fail
  generalize ((w.alloc (.cells #[.int .i64 2, .int .i64 m.id, .int .i64 m.w, .int .i64 m.v, .int .i64 m.r, .int .i64 n] 72)).alloc (.cells #[.int .i64 0, .int .i64 0, .int .i64 0, .int .i64 0] 67)) = w2 at k2 b0 b1 hz ⊢
  have K2 := hid k2
  have B1 := hid b1
  have Q2 := hid (H.out.trim.kp0 k2)
  have HZ := hid hz
  clear k2 b1 hz
  refine (leave_all Q2.out hi).mono ?_
  rintro e w3 ⟨rfl, r3⟩
  rw [hx]
  have b3 := B1.out.kp r3.1 (H.out.new (by omega))
  have c0 := b3.cell 0
  have c1 := b3.cell 1
  have c2 := b3.cell 2
  have c3 := b3.cell 3
  have f0 := b3.frozen 0
  have f1 := b3.frozen 1
  have f2 := b3.frozen 2
  have f3 := b3.frozen 3
  simp at c0 c1 c2 c3
  have kf := kp4 (w.heap.size + 1) w3 (.int .i64 x.id) (.int .i64 x.w) (.int .i64 x.v) (.int .i64 x.r)
  have bf := b3.put4 (.int .i64 x.id) (.int .i64 x.w) (.int .i64 x.v) (.int .i64 x.r)
  have hlt3 := b3.lt
  have R := hid (OpR.fin H.out K2.out r3 kf (by omega) (by have := HZ.out; omega))
  clear kf
  go_wp2_with fail
  generalize (((w3.setCell ⟨w.heap.size + 1, 0, none⟩ (.int .i64 x.id)).setCell ⟨w.heap.size + 1, 1, none⟩ (.int .i64 x.w)).setCell ⟨w.heap.size + 1, 2, none⟩ (.int .i64 x.v)).setCell ⟨w.heap.size + 1, 3, none⟩ (.int .i64 x.r) = wf at bf R ⊢
  have kz := (Kp.refl No wf).alloc (.cells #[.int .i64 x.id, .int .i64 x.w, .int .i64 x.v, .int .i64 x.r] 67)
  have bz := bf.kp0 kz
  have RZ := hid (R.out.post kz)
  have e0 := bz.cell 0
  have e1 := bz.cell 1
  have e2 := bz.cell 2
  have e3 := bz.cell 3
  simp at e0 e1 e2 e3
  exact bodyPost_ret (v := .tuple #[.agg #[.int .i64 x.id, .int .i64 x.w, .int .i64 x.v, .int .i64 x.r], .int .i64 (leaveE s m.id)]) (by simp [results, Try.results39, go_sem, e0, e1, e2, e3]) rfl ⟨rfl, RZ.out⟩
end
end Go.Proofs.Ytpbnmfoecmhnnaa
