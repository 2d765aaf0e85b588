/-
  Contract of package queue: Mean.
-/
import Derived.Test.YtpbnmfoecmhnnaaQMom
import Derived.Test.YtpbnmfoecmhnnaaQMath2
namespace Go.Proofs.Ytpbnmfoecmhnnaa
open Go.RowKit Go.Shelf

attribute [local go_sem] Oper.semAt_some

/-- All weights. -/
def Wq : List Mb → Int
  | [] => 0
  | m :: l => m.w + Wq l
/-- How far all are, by weight. -/
def Pq (b : Int) : List Mb → Int
  | [] => 0
  | m :: l => m.w * (m.v - b) + Pq b l
theorem Wq_app (l : List Mb) (y : Mb) : Wq (l ++ [y]) = Wq l + y.w := by
  induction l with
  | nil => simp [Wq]
  | cons m l ih => simp only [List.cons_append, Wq, ih]; omega
theorem Pq_app (b : Int) (l : List Mb) (y : Mb) : Pq b (l ++ [y]) = Pq b l + y.w * (y.v - b) := by
  induction l with
  | nil => simp [Pq]
  | cons m l ih => simp only [List.cons_append, Pq, ih]; omega
/-- What can be reckoned. -/
def Nr (b : Int) (m : Mb) : Prop := 1 ≤ m.w ∧ m.w ≤ 1048576 ∧ 0 ≤ m.v - b ∧ m.v - b ≤ 1048576
theorem near_mul {b : Int} {m : Mb} (h : Nr b m) : 0 ≤ m.w * (m.v - b) ∧ m.w * (m.v - b) ≤ 1099511627776 := by
  obtain ⟨h1, h2, h3, h4⟩ := h
  refine ⟨Int.mul_nonneg (by omega) h3, ?_⟩
  have := Int.mul_le_mul h2 h4 h3 (by omega)
  omega
theorem near_bd {b : Int} {l : List Mb} (h : ∀ m ∈ l, Nr b m) : (l.length : Int) ≤ Wq l ∧ Wq l ≤ 1048576 * (l.length : Int) ∧ 0 ≤ Pq b l ∧ Pq b l ≤ 1099511627776 * (l.length : Int) := by
  induction l with
  | nil => simp [Wq, Pq]
  | cons m l ih =>
    have h1 := ih fun x hx => h x (List.mem_cons_of_mem _ hx)
    have h2 := near_mul (h m (by simp))
    have h3 := h m (by simp)
    unfold Nr at h3
    simp only [Wq, Pq, List.length_cons]
    omega

section
variable {w w' w1 w2 : World} {g mb sg : Nat} {S T : Nat → Prop} {s s' : Qs} {l : List Mb}

/-- What the first region reads. -/
def RM1 (w : World) (g sg : Nat) (w' : World) : Prop :=
  w'.cell? ⟨w.heap.size, 0, none⟩ = some (.pointer (some ⟨g, 0, none⟩)) ∧ w'.cell? ⟨g, 1, none⟩ = some (.pointer (some ⟨sg, 0, none⟩)) ∧ Kp No (w.alloc (.cells #[.pointer (some ⟨g, 0, none⟩)] 58)) w'
theorem RM1.start (h : Qu w g mb sg T s) (k : Kp No (w.alloc (.cells #[.pointer (some ⟨g, 0, none⟩)] 58)) w') : RM1 w g sg w' := by
  have k1 := (Kp.refl No w).alloc (.cells #[.pointer (some ⟨g, 0, none⟩)] 58)
  have c1 := (h.kp0 (k1.trans k)).hd.cell 1
  have c0 := ((Blk.new w 58 #[.pointer (some ⟨g, 0, none⟩)]).kp0 k).cell 0
  exact ⟨by simpa using c0, by simpa using c1, k⟩
theorem RM1.alloc {a : World} {A B : Prop} (h : A ∧ B ∧ Kp No a w') (o : Obj) : Kp No a (w'.alloc o) := h.2.2.alloc o
theorem RM1.put {a : World} {A B : Prop} (h : A ∧ B ∧ Kp No a w') {p : Nat} (hp : a.heap.size ≤ p) (u v : Value) : Kp No a ((w'.setCell ⟨p, 0, none⟩ u).setCell ⟨p, 1, none⟩ v) := kp_put h.2.2 hp
theorem RM1.at (h : Hid (Kp No w w')) (o : Obj) : Kp No w (w'.alloc o) := h.out.alloc o
theorem RM1.blk {t : TypeId} {x y : Value} {o : Obj} (k : Kp No ((w.alloc o).drew.alloc (.cells #[x, y] t)) w') : Hid (Blk w' (w.heap.size + 1) t #[x, y]) ∧ w'.frozen? ⟨w.heap.size + 1, 0, none⟩ = false ∧ w'.frozen? ⟨w.heap.size + 1, 1, none⟩ = false ∧ w.heap.size + 1 < w'.heap.size ∧ w'.cell? ⟨w.heap.size + 1, 0, none⟩ = some x ∧ w'.cell? ⟨w.heap.size + 1, 1, none⟩ = some y := by
  have b := ((Blk.new (w.alloc o).drew t #[x, y]).kp0 k).next (h := w.heap.size + 1) (by simp)
  exact ⟨hid b, b.frozen 0, b.frozen 1, b.lt, b.cell 0, b.cell 1⟩
theorem RM1.blk2 {t : TypeId} {x y : Value} {o : Obj} (k : Kp No ((w.alloc o).alloc (.cells #[x, y] t)).drew w') : Hid (Blk w' (w.heap.size + 1) t #[x, y]) ∧ w'.frozen? ⟨w.heap.size + 1, 0, none⟩ = false ∧ w'.frozen? ⟨w.heap.size + 1, 1, none⟩ = false ∧ w.heap.size + 1 < w'.heap.size ∧ w'.cell? ⟨w.heap.size + 1, 0, none⟩ = some x ∧ w'.cell? ⟨w.heap.size + 1, 1, none⟩ = some y := by
  have b := ((Blk.new (w.alloc o) t #[x, y]).kp0 ((Kp.refl No _).drew.trans k)).next (h := w.heap.size + 1) (by simp)
  exact ⟨hid b, b.frozen 0, b.frozen 1, b.lt, b.cell 0, b.cell 1⟩


set_option maxRecDepth 100000 in
set_option maxHeartbeats 2000000 in
theorem mean_none (h : Qu w g mb sg T s) (hl : s.l = []) :
    Calls Try.prog 41 #[.pointer (some ⟨g, 0, none⟩)] w fun e w' => e = .returned (.tuple #[.int .i64 0, .bool false]) ∧ Kp No w w' := by
  have hgl := h.hd.lt
  have H := hid h
  have RS := hid fun w' => RM1.start (w' := w') h
  have k1 := (Kp.refl No w).alloc (.cells #[.pointer (some ⟨g, 0, none⟩)] 58)
  have K1 := hid k1
  have LEN := hid fun w' (k : Kp No (w.alloc (.cells #[.pointer (some ⟨g, 0, none⟩)] 58)) w') => len_is (m := 0) (H.out.kp0 (k1.trans k)).shf (by simp [hl])
  have AT := hid fun w' (k : Kp No (w.alloc (.cells #[.pointer (some ⟨g, 0, none⟩)] 58)) w') => at_out (H.out.kp0 (k1.trans k)).shf (-1) (by omega)
  clear h k1
  go_enter Try.func41, Try.ntmps41
  go_wp2_with fail
  go_region_held3 (fun w' => w'.cell? ⟨w.heap.size, 0, none⟩ = some (.pointer (some ⟨g, 0, none⟩)) ∧ w'.cell? ⟨g, 1, none⟩ = some (.pointer (some ⟨sg, 0, none⟩)) ∧ Kp No (w.alloc (.cells #[.pointer (some ⟨g, 0, none⟩)] 58)) w')
    (first | exact RS.out _ (Kp.refl No _).drew | exact RS.out _ ((Kp.refl No _).alloc _).drew | exact RS.out _ (by assumption) | exact RS.out _ (RM1.alloc (by assumption) _) | exact RS.out _ (RM1.at (by assumption) _) | exact RS.out _ (RM1.put (by assumption) (by simp) _ _))
    (first
    | (go_at_call 24; refine (LEN.out _ (And.right (And.right (by assumption)))).mono ?_; rintro e w5 ⟨rfl, rfl⟩)
    | (go_at_call 27; refine (AT.out _ (And.right (And.right (by assumption)))).mono ?_; rintro e w5 ⟨rfl, k5⟩; have KA := hid (Kp.trans (And.right (And.right (by assumption))) k5); first | (have hb := RM1.blk k5; obtain ⟨BI, fI0, fI1, lI, cI0, cI1⟩ := hb) | (have hb := RM1.blk2 k5; obtain ⟨BI, fI0, fI1, lI, cI0, cI1⟩ := hb) | skip))
  · rename_i hh
    have KX := hid (K1.out.trans hh.2.2)
    have BX := hid (Blk.new w5 24 #[.int .i64 0, .int .i64 0])
    clear hh KA k5
    generalize w5.alloc (.cells #[.int .i64 0, .int .i64 0] 24) = wx at KX BX ⊢
    generalize w5.heap.size = ax at BX ⊢
    go_wp2_with fail
    go_quiet (fail)
    go_wp2_with fail
    exact bodyPost_ret (v := .tuple #[.int .i64 0, .bool false]) (by simp [results, Try.results41, go_sem]) rfl ⟨rfl, KX.out.drewN _⟩
  · rename_i hh
    have KX := hid (K1.out.trans hh.2.2)
    have BX := hid (show Blk _ (w.heap.size + 1) 24 #[.int .i64 0, .int .i64 0] from by have := (BI.out.put 0 (.int .i64 0)).put 1 (.int .i64 0); simpa using this)
    clear hh KA k5 BI fI0 fI1 lI cI0 cI1
    generalize (w5.setCell ⟨w.heap.size + 1, 0, none⟩ (.int .i64 0)).setCell ⟨w.heap.size + 1, 1, none⟩ (.int .i64 0) = wx at KX BX ⊢
    generalize w.heap.size + 1 = ax at BX ⊢
    go_wp2_with fail
    go_quiet (fail)
    go_wp2_with fail
    exact bodyPost_ret (v := .tuple #[.int .i64 0, .bool false]) (by simp [results, Try.results41, go_sem]) rfl ⟨rfl, KX.out.drewN _⟩
  · rename_i hh
    have KX := hid (K1.out.trans hh.2.2)
    have BX := hid (show Blk _ (w.heap.size + 1) 24 #[.int .i64 0, .int .i64 0] from by have := (BI.out.put 0 (.int .i64 0)).put 1 (.int .i64 0); simpa using this)
    clear hh KA k5 BI fI0 fI1 lI cI0 cI1
    generalize (w5.setCell ⟨w.heap.size + 1, 0, none⟩ (.int .i64 0)).setCell ⟨w.heap.size + 1, 1, none⟩ (.int .i64 0) = wx at KX BX ⊢
    generalize w.heap.size + 1 = ax at BX ⊢
    go_wp2_with fail
    go_quiet (fail)
    go_wp2_with fail
    exact bodyPost_ret (v := .tuple #[.int .i64 0, .bool false]) (by simp [results, Try.results41, go_sem]) rfl ⟨rfl, KX.out.drewN _⟩


set_option maxRecDepth 100000 in
set_option maxHeartbeats 2000000 in
theorem mean_far (h : Qu w g mb sg T s) {p : Nat} (hp : s.l.length = p + 1) {y : Mb} (hy : s.l.getD p mb0 = y) (hfar : 1048576 < y.v - s.base) :
    Calls Try.prog 41 #[.pointer (some ⟨g, 0, none⟩)] w fun e w' => e = .returned (.tuple #[.int .i64 0, .bool false]) ∧ Kp No w w' := by
  have hgl := h.hd.lt
  have H := hid h
  have RS := hid fun w' => RM1.start (w' := w') h
  have k1 := (Kp.refl No w).alloc (.cells #[.pointer (some ⟨g, 0, none⟩)] 58)
  have K1 := hid k1
  have B1 := hid (Blk.new w 58 #[.pointer (some ⟨g, 0, none⟩)])
  obtain ⟨N, hN⟩ : ∃ N : Int, ((s.l.length : Nat) : Int) = N := ⟨_, rfl⟩
  have LEN : Hid (∀ w' (_ : Kp No (w.alloc (.cells #[.pointer (some ⟨g, 0, none⟩)] 58)) w'), Calls Try.prog 24 #[.pointer (some ⟨sg, 0, none⟩)] w' fun e w'' => e = .returned (.int .i64 N) ∧ w' = w'') := hid fun w' k => by rw [← hN]; exact len_is (H.out.kp0 (k1.trans k)).shf (by simp)
  have fN : IntKind.i64.wrap (N - 1) = (p : Int) := by rw [← hN, hp]; rw [show (((p + 1 : Nat) : Int) - 1) = (p : Int) by omega]; exact wrapI (by have := h.ok.len; unfold I64; omega)
  have AT : Hid (∀ w' (_ : Kp No (w.alloc (.cells #[.pointer (some ⟨g, 0, none⟩)] 58)) w'), Calls Try.prog 27 #[.pointer (some ⟨sg, 0, none⟩), .int .i64 (p : Int)] w' fun e w'' => e = .returned (.tuple #[.agg #[.int .i64 y.v, .int .i64 y.id], .bool true]) ∧ Kp No w' w'') := hid fun w' k => at_is (H.out.kp0 (k1.trans k)).shf p (by simp; omega) (itM y) (by rw [← hy]; simp [List.getD, show p < s.l.length by omega])
  have hb1 := h.ok.b1
  have hyo := h.ok.ok y (by rw [← hy]; exact getD_mem (by omega))
  have hb2 := hyo.v1
  have hb3 := hyo.v2
  have flag : IntKind.i64.wrap (y.v - s.base) = y.v - s.base := wrapI (by unfold I64; omega)
  clear h k1 hN hyo hb1 hb2 hb3 hy
  go_enter Try.func41, Try.ntmps41
  go_wp2_with fail
  go_region_held3 (fun w' => w'.cell? ⟨w.heap.size, 0, none⟩ = some (.pointer (some ⟨g, 0, none⟩)) ∧ w'.cell? ⟨g, 1, none⟩ = some (.pointer (some ⟨sg, 0, none⟩)) ∧ Kp No (w.alloc (.cells #[.pointer (some ⟨g, 0, none⟩)] 58)) w')
    (first | exact RS.out _ (Kp.refl No _).drew | exact RS.out _ ((Kp.refl No _).alloc _).drew | exact RS.out _ (by assumption) | exact RS.out _ (RM1.alloc (by assumption) _) | exact RS.out _ (RM1.at (by assumption) _) | exact RS.out _ (RM1.put (by assumption) (by simp) _ _))
    (first
    | (go_at_call 24; refine (LEN.out _ (And.right (And.right (by assumption)))).mono ?_; rintro e w5 ⟨rfl, rfl⟩)
    | (go_at_call 27; refine (AT.out _ (And.right (And.right (by assumption)))).mono ?_; rintro e w5 ⟨rfl, k5⟩; have KA := hid (Kp.trans (And.right (And.right (by assumption))) k5); first | (have hb := RM1.blk k5; obtain ⟨BI, fI0, fI1, lI, cI0, cI1⟩ := hb) | (have hb := RM1.blk2 k5; obtain ⟨BI, fI0, fI1, lI, cI0, cI1⟩ := hb) | skip))
  · rename_i hh
    have KX := hid (K1.out.trans hh.2.2)
    have KY := hid hh.2.2
    have BX := hid (Blk.new w5 24 #[.int .i64 y.v, .int .i64 y.id])
    clear hh KA k5
    generalize w5.alloc (.cells #[.int .i64 y.v, .int .i64 y.id] 24) = wx at KX KY BX ⊢
    generalize w5.heap.size = ax at BX ⊢
    have c0 := (H.out.kp0 KX.out).hd.cell 2
    have c1 := BX.out.cell 0
    have c2 := (RS.out _ (by first | exact KY.out | exact KX.out)).1
    simp at c0 c1
    go_wp2_with fail
    go_quiet (fail)
    go_wp2_with fail
    exact bodyPost_ret (v := .tuple #[.int .i64 0, .bool false]) (by simp [results, Try.results41, go_sem]) rfl ⟨rfl, KX.out.drewN _⟩
  · rename_i hh
    have KX := hid (K1.out.trans hh.2.2)
    have KY := hid hh.2.2
    have BX := hid (show Blk _ (w.heap.size + 1) 24 #[.int .i64 y.v, .int .i64 y.id] from by have := (BI.out.put 0 (.int .i64 y.v)).put 1 (.int .i64 y.id); simpa using this)
    clear hh KA k5 BI fI0 fI1 lI cI0 cI1
    generalize (w5.setCell ⟨w.heap.size + 1, 0, none⟩ (.int .i64 y.v)).setCell ⟨w.heap.size + 1, 1, none⟩ (.int .i64 y.id) = wx at KX KY BX ⊢
    generalize w.heap.size + 1 = ax at BX ⊢
    have c0 := (H.out.kp0 KX.out).hd.cell 2
    have c1 := BX.out.cell 0
    have c2 := (RS.out _ (by first | exact KY.out | exact KX.out)).1
    simp at c0 c1
    go_wp2_with fail
    go_quiet (fail)
    go_wp2_with fail
    exact bodyPost_ret (v := .tuple #[.int .i64 0, .bool false]) (by simp [results, Try.results41, go_sem]) rfl ⟨rfl, KX.out.drewN _⟩
  · rename_i hh
    have KX := hid (K1.out.trans hh.2.2)
    have KY := hid hh.2.2
    have BX := hid (show Blk _ (w.heap.size + 1) 24 #[.int .i64 y.v, .int .i64 y.id] from by have := (BI.out.put 0 (.int .i64 y.v)).put 1 (.int .i64 y.id); simpa using this)
    clear hh KA k5 BI fI0 fI1 lI cI0 cI1
    generalize (w5.setCell ⟨w.heap.size + 1, 0, none⟩ (.int .i64 y.v)).setCell ⟨w.heap.size + 1, 1, none⟩ (.int .i64 y.id) = wx at KX KY BX ⊢
    generalize w.heap.size + 1 = ax at BX ⊢
    have c0 := (H.out.kp0 KX.out).hd.cell 2
    have c1 := BX.out.cell 0
    have c2 := (RS.out _ (by first | exact KY.out | exact KX.out)).1
    simp at c0 c1
    go_wp2_with fail
    go_quiet (fail)
    go_wp2_with fail
    exact bodyPost_ret (v := .tuple #[.int .i64 0, .bool false]) (by simp [results, Try.results41, go_sem]) rfl ⟨rfl, KX.out.drewN _⟩

end
end Go.Proofs.Ytpbnmfoecmhnnaa
