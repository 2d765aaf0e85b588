/-
  slices.AppendSeq, slices.Collect over an iterator: at groups, tasks and ints.
-/
import Derived.Test.YtjmaingpiieioaaGreatZSeq
namespace Go.Proofs.YtjmaingpiieioaaGreat
open Go.RowKit Go.Shelf

attribute [local go_sem] Oper.semAt_some

section
variable {w w' : World} {S P Q : Nat → Prop} {v u : Value} {xs ys : List GS}
set_option maxRecDepth 100000 in
set_option maxHeartbeats 2000000 in
theorem aseqG_any {gf : Nat} {lb : Array Value} {Rd : Nat → Prop} (hseq : SeqO Tryz.prog gf lb (fun x : GS => #[.agg #[.int .i64 x.id, .int .i64 x.par, .int .i64 x.wt, .int .i64 x.pd, .int .i64 x.qt, .int .i64 x.us]]) Rd xs w) (eg : ∀ args w, (callFunc gf args).run Tryz.prog w = .ok (.enter gf args) w) (hRd : ∀ k, Rd k → k < w.heap.size) (hl : xs.length ≤ 1000000000) :
    Calls Tryz.prog 108 #[.slice none 0 0, .func (.func gf) #[] lb] w fun e w' => ∃ u, e = .returned u ∧ Ow w' w.heap.size 51 6 gc u xs ∧ Kp No w w' := by
  have HL := hid hl
  clear hl
  refine (callsIn_wide (n := 5)).1 ?_
  refine callsIn_of_wp_marks Tryz.func108 rfl trivial ?_ rfl
  simp only [Tryz.ntmps108, List.size_toArray, List.length_cons, List.length_nil, Nat.reduceAdd, Nat.reduceSub, Array.replicate_succ, Array.replicate_zero, List.push_toArray, List.append_toArray, List.nil_append, List.cons_append]
  refine wpIn_wide.2 ?_
  go_wp2_with fail
  have k0 := (Kp.refl No w).alloc (.cells #[.slice none 0 0] 22)
  have b0 := Blk.new w 22 #[.slice none 0 0]
  have I0 := hid (show AI 51 22 6 gc w No ([] : List GS) (.slice none 0 0) (w.alloc (.cells #[.slice none 0 0] 22)) from
    ⟨k0, b0, Ow.nil _ _ _ _ _, (fun e => by cases e), (fun e => e), (fun i e => by cases e), fun k e => e.elim⟩)
  have SQ := hid (hseq.kp k0.all)
  have hz0 := World.size_alloc w (.cells #[.slice none 0 0] 22)
  generalize w.alloc (.cells #[.slice none 0 0] 22) = w1 at I0 SQ hz0 ⊢
  clear hseq k0 b0
  refine (wpIn_wide (n := 5)).1 ?_
  refine range_own (gf := gf) (lb := lb) rfl eg SQ.out (fun k hk => by have := hRd k hk; omega) (fun _ => rfl)
    (fun O pre W => ∃ sv, AI 51 22 6 gc w O pre sv W) (fun _ _ _ _ => False) AI.ab (fun _ _ _ _ _ _ h _ _ => h) ⟨_, I0.out⟩ ?round ?done ?stop
  case stop =>
    rintro D' O c' pre rest W' _ _ _ h _
    exact h.elim
  case done =>
    rintro D' O W8 hD hO ⟨sv, hI⟩ hKD
    have HI := hid hI
    have HD := hid (And.intro hKD hO)
    have hb0 := hI.bx.cell 0
    simp only [List.getElem?_toArray, List.getElem?_cons_zero] at hb0
    clear hI hKD hO
    go_wp2_with fail
    refine marks_taken [D'] _ (by simp) (fun D hD => ?_) fun w2 k2 => ?_
    · rw [List.mem_singleton] at hD
      subst hD
      exact HD.out.1
    · refine ⟨sv, by simp [results, Tryz.results108, go_sem], sv, rfl, ?_, HI.out.kp.step k2 fun i hi e => ?_⟩
      · exact HI.out.ow.kpx k2 fun i hi e => by
          rw [List.mem_singleton] at e
          subst e
          exact HI.out.on _ hi HD.out.2
      · rw [List.mem_singleton] at e
        omega
  case round =>
    rintro l' O pre x rest W6 hx6 hOl hl1 hl2 ⟨sv, hI⟩
    have hpl6 : pre.length + 1 + rest.length = xs.length := by
      have := congrArg List.length hx6
      simp at this
      omega
    try dsimp only
    gi_wp2
    have kA := (Kp.refl No W6).alloc (.cells #[.int .i64 x.id, .int .i64 x.par, .int .i64 x.wt, .int .i64 x.pd, .int .i64 x.qt, .int .i64 x.us] 51)
    have X6 := hid (Blk.new W6 51 #[.int .i64 x.id, .int .i64 x.par, .int .i64 x.wt, .int .i64 x.pd, .int .i64 x.qt, .int .i64 x.us])
    have H6 := hid hI.bx.lt
    refine ⟨kA.all, fun W7 hk7 => ?_⟩
    have X7 := hid (X6.out.kp hk7 fun e => by have e' : W6.heap.size = l' := e; omega)
    have HOO := hid (fun k (hk : O k) => show k < W7.heap.size from Nat.lt_of_lt_of_le (Nat.lt_of_lt_of_le (hI.ol k hk).2 kA.size) hk7.size)
    have hL : ∀ i, Only l' i → O i := fun i e => by cases e; exact hOl
    obtain ⟨_, hI7⟩ := And.intro trivial (show AI 51 22 6 gc w O pre sv W7 from ⟨(hI.kp.trans kA).step hk7 (fun i hi e => by have := (hI.ol i (hL i e)).1; omega), (hI.bx.kp0 kA).kp hk7 (fun e => hI.no (hL _ e)), (hI.ow.kp0 kA).kpx hk7 (fun i hi e => hI.on i hi (hL i e)), hI.ne, hI.no, hI.on, fun i hi => ⟨(hI.ol i hi).1, HOO.out i hi⟩⟩)
    have J7 := hid hI7
    have OL := hid hOl
    have ZL := hid (show l' < W7.heap.size from Nat.lt_of_lt_of_le (Nat.lt_of_lt_of_le hl2 kA.size) hk7.size)
    have hz7 := J7.out.kp.size
    have hb0 := J7.out.bx.cell 0
    have hbf := J7.out.bx.frozen 0
    simp only [List.getElem?_toArray, List.getElem?_cons_zero] at hb0
    have x0 := X7.out.cell 0
    have x1 := X7.out.cell 1
    have x2 := X7.out.cell 2
    have x3 := X7.out.cell 3
    have x4 := X7.out.cell 4
    have x5 := X7.out.cell 5
    simp only [List.getElem?_toArray, List.getElem?_cons_zero, List.getElem?_cons_succ] at x0 x1 x2 x3 x4 x5
    obtain ⟨M, hM⟩ : ∃ M, pre.length = M := ⟨_, rfl⟩
    have HM := hid hM
    have hML : M + 1 ≤ 1000000000 := by have := HL.out; omega
    clear hM
    have KA := hid ((Kp.refl No W7).alloc (.cells #[.int .i64 x.id, .int .i64 x.par, .int .i64 x.wt, .int .i64 x.pd, .int .i64 x.qt, .int .i64 x.us] 51))
    have BZ := hid (Blk.new W7 51 #[.int .i64 x.id, .int .i64 x.par, .int .i64 x.wt, .int .i64 x.pd, .int .i64 x.qt, .int .i64 x.us])
    have JA := hid (show AI 51 22 6 gc w O pre sv (W7.alloc (.cells #[.int .i64 x.id, .int .i64 x.par, .int .i64 x.wt, .int .i64 x.pd, .int .i64 x.qt, .int .i64 x.us] 51)) from ⟨J7.out.kp.trans KA.out, J7.out.bx.kp0 KA.out, J7.out.ow.kp0 KA.out, J7.out.ne, J7.out.no, J7.out.on, fun i hi => ⟨(J7.out.ol i hi).1, Nat.lt_of_lt_of_le (J7.out.ol i hi).2 KA.out.size⟩⟩)
    have hz8 := World.size_alloc W7 (.cells #[.int .i64 x.id, .int .i64 x.par, .int .i64 x.wt, .int .i64 x.pd, .int .i64 x.qt, .int .i64 x.us] 51)
    clear hI hk7 hI7 hpl6
    refine wpIn_block ?_
    refine region_lit_in (by kernel_rfl) (fun ⟨_, _, h⟩ => h.elim) ?_
    go_wp2_with (first
      | (at_builtin
         refine wp_app1 usG gc_one rfl (.tmp 8) (.tmp 10) rfl (base := w.heap.size) (y := x) (by exact JA.out.ow) rfl (by
           intro i hi
           match i, hi with
           | 0, _ => exact BZ.out.cell 0
           | 1, _ => exact BZ.out.cell 1
           | 2, _ => exact BZ.out.cell 2
           | 3, _ => exact BZ.out.cell 3
           | 4, _ => exact BZ.out.cell 4
           | 5, _ => exact BZ.out.cell 5) (by rw [HM.out]; omega) (by rw [HM.out]; simp only [maxLen]; omega) (by exact JA.out.kp.size) ?_
         intro v8 w8 o8 k8 p8
         have kB := (Kp.refl (fun i => sv.ownBlock = some i) _).grown k8 fun k hk => .inl hk
         have b8 := JA.out.bx.kp kB fun e => JA.out.ne e
         have f8 : w8.frozen? ⟨w.heap.size, 0, none⟩ = false := b8.frozen 0
         have c8 := b8.cell 0
         simp only [List.getElem?_toArray, List.getElem?_cons_zero] at c8
         obtain ⟨A8, q8, rfl⟩ := o8.formN (m := M + 1) (by rw [List.length_append, HM.out]; rfl)
         have P8 := hid (JA.out.push o8 k8 p8)
         clear o8 k8 p8 b8 kB))
    obtain ⟨P9, K9⟩ := P8.out
    refine ⟨(KA.out.all).step K9 fun i hi e => ?_, _, P9⟩
    rcases e with e | e
    · exact ⟨fun h => J7.out.no (e ▸ h), fun h => by have := hRd i h; omega⟩
    · exact ⟨fun h => J7.out.on i e h, fun h => by have := hRd i h; have := (J7.out.ow.blk e).1; omega⟩
theorem collectG_any {gf : Nat} {lb : Array Value} {Rd : Nat → Prop} (hseq : SeqO Tryz.prog gf lb (fun x : GS => #[.agg #[.int .i64 x.id, .int .i64 x.par, .int .i64 x.wt, .int .i64 x.pd, .int .i64 x.qt, .int .i64 x.us]]) Rd xs w) (eg : ∀ args w, (callFunc gf args).run Tryz.prog w = .ok (.enter gf args) w) (hRd : ∀ k, Rd k → k < w.heap.size) (hl : xs.length ≤ 1000000000) :
    Calls Tryz.prog 86 #[.func (.func gf) #[] lb] w fun e w' => ∃ u, e = .returned u ∧ Ow w' w.heap.size 51 6 gc u xs ∧ Kp No w w' := by
  have HA := hid (aseqG_any hseq eg hRd hl)
  clear hseq
  go_enter Tryz.func86, Tryz.ntmps86
  go_wp2_with (first
    | (go_at_call 108
       refine HA.out.mono ?_
       rintro e w1 ⟨u, rfl, o1, k1⟩
       have R1 := hid (And.intro o1 k1)
       clear o1 k1))
  go_ret
  exact ⟨u, rfl, R1.out.1, R1.out.2⟩
end

section
variable {w w' : World} {S P Q : Nat → Prop} {v u : Value} {xs ys : List TS}
set_option maxRecDepth 100000 in
set_option maxHeartbeats 2000000 in
theorem aseqT_any {gf : Nat} {lb : Array Value} {Rd : Nat → Prop} (hseq : SeqO Tryz.prog gf lb (fun x : TS => #[.agg #[.int .i64 x.id, .int .i64 x.gr, .int .i64 x.wt, .int .u64 x.co, .bool x.sl, .int .i64 x.ra, .int .i64 x.lv, .int .i64 x.lr]]) Rd xs w) (eg : ∀ args w, (callFunc gf args).run Tryz.prog w = .ok (.enter gf args) w) (hRd : ∀ k, Rd k → k < w.heap.size) (hl : xs.length ≤ 1000000000) :
    Calls Tryz.prog 77 #[.slice none 0 0, .func (.func gf) #[] lb] w fun e w' => ∃ u, e = .returned u ∧ Ow w' w.heap.size 46 8 tc u xs ∧ Kp No w w' := by
  have HL := hid hl
  clear hl
  refine (callsIn_wide (n := 5)).1 ?_
  refine callsIn_of_wp_marks Tryz.func77 rfl trivial ?_ rfl
  simp only [Tryz.ntmps77, List.size_toArray, List.length_cons, List.length_nil, Nat.reduceAdd, Nat.reduceSub, Array.replicate_succ, Array.replicate_zero, List.push_toArray, List.append_toArray, List.nil_append, List.cons_append]
  refine wpIn_wide.2 ?_
  go_wp2_with fail
  have k0 := (Kp.refl No w).alloc (.cells #[.slice none 0 0] 23)
  have b0 := Blk.new w 23 #[.slice none 0 0]
  have I0 := hid (show AI 46 23 8 tc w No ([] : List TS) (.slice none 0 0) (w.alloc (.cells #[.slice none 0 0] 23)) from
    ⟨k0, b0, Ow.nil _ _ _ _ _, (fun e => by cases e), (fun e => e), (fun i e => by cases e), fun k e => e.elim⟩)
  have SQ := hid (hseq.kp k0.all)
  have hz0 := World.size_alloc w (.cells #[.slice none 0 0] 23)
  generalize w.alloc (.cells #[.slice none 0 0] 23) = w1 at I0 SQ hz0 ⊢
  clear hseq k0 b0
  refine (wpIn_wide (n := 5)).1 ?_
  refine range_own (gf := gf) (lb := lb) rfl eg SQ.out (fun k hk => by have := hRd k hk; omega) (fun _ => rfl)
    (fun O pre W => ∃ sv, AI 46 23 8 tc w O pre sv W) (fun _ _ _ _ => False) AI.ab (fun _ _ _ _ _ _ h _ _ => h) ⟨_, I0.out⟩ ?round ?done ?stop
  case stop =>
    rintro D' O c' pre rest W' _ _ _ h _
    exact h.elim
  case done =>
    rintro D' O W8 hD hO ⟨sv, hI⟩ hKD
    have HI := hid hI
    have HD := hid (And.intro hKD hO)
    have hb0 := hI.bx.cell 0
    simp only [List.getElem?_toArray, List.getElem?_cons_zero] at hb0
    clear hI hKD hO
    go_wp2_with fail
    refine marks_taken [D'] _ (by simp) (fun D hD => ?_) fun w2 k2 => ?_
    · rw [List.mem_singleton] at hD
      subst hD
      exact HD.out.1
    · refine ⟨sv, by simp [results, Tryz.results77, go_sem], sv, rfl, ?_, HI.out.kp.step k2 fun i hi e => ?_⟩
      · exact HI.out.ow.kpx k2 fun i hi e => by
          rw [List.mem_singleton] at e
          subst e
          exact HI.out.on _ hi HD.out.2
      · rw [List.mem_singleton] at e
        omega
  case round =>
    rintro l' O pre x rest W6 hx6 hOl hl1 hl2 ⟨sv, hI⟩
    have hpl6 : pre.length + 1 + rest.length = xs.length := by
      have := congrArg List.length hx6
      simp at this
      omega
    try dsimp only
    gi_wp2
    have kA := (Kp.refl No W6).alloc (.cells #[.int .i64 x.id, .int .i64 x.gr, .int .i64 x.wt, .int .u64 x.co, .bool x.sl, .int .i64 x.ra, .int .i64 x.lv, .int .i64 x.lr] 46)
    have X6 := hid (Blk.new W6 46 #[.int .i64 x.id, .int .i64 x.gr, .int .i64 x.wt, .int .u64 x.co, .bool x.sl, .int .i64 x.ra, .int .i64 x.lv, .int .i64 x.lr])
    have H6 := hid hI.bx.lt
    refine ⟨kA.all, fun W7 hk7 => ?_⟩
    have X7 := hid (X6.out.kp hk7 fun e => by have e' : W6.heap.size = l' := e; omega)
    have HOO := hid (fun k (hk : O k) => show k < W7.heap.size from Nat.lt_of_lt_of_le (Nat.lt_of_lt_of_le (hI.ol k hk).2 kA.size) hk7.size)
    have hL : ∀ i, Only l' i → O i := fun i e => by cases e; exact hOl
    obtain ⟨_, hI7⟩ := And.intro trivial (show AI 46 23 8 tc w O pre sv W7 from ⟨(hI.kp.trans kA).step hk7 (fun i hi e => by have := (hI.ol i (hL i e)).1; omega), (hI.bx.kp0 kA).kp hk7 (fun e => hI.no (hL _ e)), (hI.ow.kp0 kA).kpx hk7 (fun i hi e => hI.on i hi (hL i e)), hI.ne, hI.no, hI.on, fun i hi => ⟨(hI.ol i hi).1, HOO.out i hi⟩⟩)
    have J7 := hid hI7
    have OL := hid hOl
    have ZL := hid (show l' < W7.heap.size from Nat.lt_of_lt_of_le (Nat.lt_of_lt_of_le hl2 kA.size) hk7.size)
    have hz7 := J7.out.kp.size
    have hb0 := J7.out.bx.cell 0
    have hbf := J7.out.bx.frozen 0
    simp only [List.getElem?_toArray, List.getElem?_cons_zero] at hb0
    have x0 := X7.out.cell 0
    have x1 := X7.out.cell 1
    have x2 := X7.out.cell 2
    have x3 := X7.out.cell 3
    have x4 := X7.out.cell 4
    have x5 := X7.out.cell 5
    have x6 := X7.out.cell 6
    have x7 := X7.out.cell 7
    simp only [List.getElem?_toArray, List.getElem?_cons_zero, List.getElem?_cons_succ] at x0 x1 x2 x3 x4 x5 x6 x7
    obtain ⟨M, hM⟩ : ∃ M, pre.length = M := ⟨_, rfl⟩
    have HM := hid hM
    have hML : M + 1 ≤ 1000000000 := by have := HL.out; omega
    clear hM
    have KA := hid ((Kp.refl No W7).alloc (.cells #[.int .i64 x.id, .int .i64 x.gr, .int .i64 x.wt, .int .u64 x.co, .bool x.sl, .int .i64 x.ra, .int .i64 x.lv, .int .i64 x.lr] 46))
    have BZ := hid (Blk.new W7 46 #[.int .i64 x.id, .int .i64 x.gr, .int .i64 x.wt, .int .u64 x.co, .bool x.sl, .int .i64 x.ra, .int .i64 x.lv, .int .i64 x.lr])
    have JA := hid (show AI 46 23 8 tc w O pre sv (W7.alloc (.cells #[.int .i64 x.id, .int .i64 x.gr, .int .i64 x.wt, .int .u64 x.co, .bool x.sl, .int .i64 x.ra, .int .i64 x.lv, .int .i64 x.lr] 46)) from ⟨J7.out.kp.trans KA.out, J7.out.bx.kp0 KA.out, J7.out.ow.kp0 KA.out, J7.out.ne, J7.out.no, J7.out.on, fun i hi => ⟨(J7.out.ol i hi).1, Nat.lt_of_lt_of_le (J7.out.ol i hi).2 KA.out.size⟩⟩)
    have hz8 := World.size_alloc W7 (.cells #[.int .i64 x.id, .int .i64 x.gr, .int .i64 x.wt, .int .u64 x.co, .bool x.sl, .int .i64 x.ra, .int .i64 x.lv, .int .i64 x.lr] 46)
    clear hI hk7 hI7 hpl6
    refine wpIn_block ?_
    refine region_lit_in (by kernel_rfl) (fun ⟨_, _, h⟩ => h.elim) ?_
    go_wp2_with (first
      | (at_builtin
         refine wp_app1 usT tc_one rfl (.tmp 8) (.tmp 10) rfl (base := w.heap.size) (y := x) (by exact JA.out.ow) rfl (by
           intro i hi
           match i, hi with
           | 0, _ => exact BZ.out.cell 0
           | 1, _ => exact BZ.out.cell 1
           | 2, _ => exact BZ.out.cell 2
           | 3, _ => exact BZ.out.cell 3
           | 4, _ => exact BZ.out.cell 4
           | 5, _ => exact BZ.out.cell 5
           | 6, _ => exact BZ.out.cell 6
           | 7, _ => exact BZ.out.cell 7) (by rw [HM.out]; omega) (by rw [HM.out]; simp only [maxLen]; omega) (by exact JA.out.kp.size) ?_
         intro v8 w8 o8 k8 p8
         have kB := (Kp.refl (fun i => sv.ownBlock = some i) _).grown k8 fun k hk => .inl hk
         have b8 := JA.out.bx.kp kB fun e => JA.out.ne e
         have f8 : w8.frozen? ⟨w.heap.size, 0, none⟩ = false := b8.frozen 0
         have c8 := b8.cell 0
         simp only [List.getElem?_toArray, List.getElem?_cons_zero] at c8
         obtain ⟨A8, q8, rfl⟩ := o8.formN (m := M + 1) (by rw [List.length_append, HM.out]; rfl)
         have P8 := hid (JA.out.push o8 k8 p8)
         clear o8 k8 p8 b8 kB))
    obtain ⟨P9, K9⟩ := P8.out
    refine ⟨(KA.out.all).step K9 fun i hi e => ?_, _, P9⟩
    rcases e with e | e
    · exact ⟨fun h => J7.out.no (e ▸ h), fun h => by have := hRd i h; omega⟩
    · exact ⟨fun h => J7.out.on i e h, fun h => by have := hRd i h; have := (J7.out.ow.blk e).1; omega⟩
theorem collectT_any {gf : Nat} {lb : Array Value} {Rd : Nat → Prop} (hseq : SeqO Tryz.prog gf lb (fun x : TS => #[.agg #[.int .i64 x.id, .int .i64 x.gr, .int .i64 x.wt, .int .u64 x.co, .bool x.sl, .int .i64 x.ra, .int .i64 x.lv, .int .i64 x.lr]]) Rd xs w) (eg : ∀ args w, (callFunc gf args).run Tryz.prog w = .ok (.enter gf args) w) (hRd : ∀ k, Rd k → k < w.heap.size) (hl : xs.length ≤ 1000000000) :
    Calls Tryz.prog 62 #[.func (.func gf) #[] lb] w fun e w' => ∃ u, e = .returned u ∧ Ow w' w.heap.size 46 8 tc u xs ∧ Kp No w w' := by
  have HA := hid (aseqT_any hseq eg hRd hl)
  clear hseq
  go_enter Tryz.func62, Tryz.ntmps62
  go_wp2_with (first
    | (go_at_call 77
       refine HA.out.mono ?_
       rintro e w1 ⟨u, rfl, o1, k1⟩
       have R1 := hid (And.intro o1 k1)
       clear o1 k1))
  go_ret
  exact ⟨u, rfl, R1.out.1, R1.out.2⟩
end

section
variable {w w' : World} {S P Q : Nat → Prop} {v u : Value} {xs ys : List Int}
set_option maxRecDepth 100000 in
set_option maxHeartbeats 2000000 in
theorem aseqI_any {gf : Nat} {lb : Array Value} {Rd : Nat → Prop} (hseq : SeqO Tryz.prog gf lb (fun x : Int => #[.int .i64 x]) Rd xs w) (eg : ∀ args w, (callFunc gf args).run Tryz.prog w = .ok (.enter gf args) w) (hRd : ∀ k, Rd k → k < w.heap.size) (hl : xs.length ≤ 1000000000) :
    Calls Tryz.prog 84 #[.slice none 0 0, .func (.func gf) #[] lb] w fun e w' => ∃ u, e = .returned u ∧ Ow w' w.heap.size 3 1 zI u xs ∧ Kp No w w' := by
  have HL := hid hl
  clear hl
  refine (callsIn_wide (n := 5)).1 ?_
  refine callsIn_of_wp_marks Tryz.func84 rfl trivial ?_ rfl
  simp only [Tryz.ntmps84, List.size_toArray, List.length_cons, List.length_nil, Nat.reduceAdd, Nat.reduceSub, Array.replicate_succ, Array.replicate_zero, List.push_toArray, List.append_toArray, List.nil_append, List.cons_append]
  refine wpIn_wide.2 ?_
  go_wp2_with fail
  have k0 := (Kp.refl No w).alloc (.cells #[.slice none 0 0] 31)
  have b0 := Blk.new w 31 #[.slice none 0 0]
  have I0 := hid (show AI 3 31 1 zI w No ([] : List Int) (.slice none 0 0) (w.alloc (.cells #[.slice none 0 0] 31)) from
    ⟨k0, b0, Ow.nil _ _ _ _ _, (fun e => by cases e), (fun e => e), (fun i e => by cases e), fun k e => e.elim⟩)
  have SQ := hid (hseq.kp k0.all)
  have hz0 := World.size_alloc w (.cells #[.slice none 0 0] 31)
  generalize w.alloc (.cells #[.slice none 0 0] 31) = w1 at I0 SQ hz0 ⊢
  clear hseq k0 b0
  refine (wpIn_wide (n := 5)).1 ?_
  refine range_own (gf := gf) (lb := lb) rfl eg SQ.out (fun k hk => by have := hRd k hk; omega) (fun _ => rfl)
    (fun O pre W => ∃ sv, AI 3 31 1 zI w O pre sv W) (fun _ _ _ _ => False) AI.ab (fun _ _ _ _ _ _ h _ _ => h) ⟨_, I0.out⟩ ?round ?done ?stop
  case stop =>
    rintro D' O c' pre rest W' _ _ _ h _
    exact h.elim
  case done =>
    rintro D' O W8 hD hO ⟨sv, hI⟩ hKD
    have HI := hid hI
    have HD := hid (And.intro hKD hO)
    have hb0 := hI.bx.cell 0
    simp only [List.getElem?_toArray, List.getElem?_cons_zero] at hb0
    clear hI hKD hO
    go_wp2_with fail
    refine marks_taken [D'] _ (by simp) (fun D hD => ?_) fun w2 k2 => ?_
    · rw [List.mem_singleton] at hD
      subst hD
      exact HD.out.1
    · refine ⟨sv, by simp [results, Tryz.results84, go_sem], sv, rfl, ?_, HI.out.kp.step k2 fun i hi e => ?_⟩
      · exact HI.out.ow.kpx k2 fun i hi e => by
          rw [List.mem_singleton] at e
          subst e
          exact HI.out.on _ hi HD.out.2
      · rw [List.mem_singleton] at e
        omega
  case round =>
    rintro l' O pre x rest W6 hx6 hOl hl1 hl2 ⟨sv, hI⟩
    have hpl6 : pre.length + 1 + rest.length = xs.length := by
      have := congrArg List.length hx6
      simp at this
      omega
    try dsimp only
    gi_wp2
    have kA := Kp.refl No W6
    refine ⟨kA.all, fun W7 hk7 => ?_⟩
    have HOO := hid (fun k (hk : O k) => show k < W7.heap.size from Nat.lt_of_lt_of_le (hI.ol k hk).2 hk7.size)
    have hL : ∀ i, Only l' i → O i := fun i e => by cases e; exact hOl
    obtain ⟨_, hI7⟩ := And.intro trivial (show AI 3 31 1 zI w O pre sv W7 from ⟨(hI.kp.trans kA).step hk7 (fun i hi e => by have := (hI.ol i (hL i e)).1; omega), (hI.bx.kp0 kA).kp hk7 (fun e => hI.no (hL _ e)), (hI.ow.kp0 kA).kpx hk7 (fun i hi e => hI.on i hi (hL i e)), hI.ne, hI.no, hI.on, fun i hi => ⟨(hI.ol i hi).1, HOO.out i hi⟩⟩)
    have J7 := hid hI7
    have OL := hid hOl
    have ZL := hid (show l' < W7.heap.size from Nat.lt_of_lt_of_le (Nat.lt_of_lt_of_le hl2 kA.size) hk7.size)
    have hz7 := J7.out.kp.size
    have hb0 := J7.out.bx.cell 0
    have hbf := J7.out.bx.frozen 0
    simp only [List.getElem?_toArray, List.getElem?_cons_zero] at hb0
    obtain ⟨M, hM⟩ : ∃ M, pre.length = M := ⟨_, rfl⟩
    have HM := hid hM
    have hML : M + 1 ≤ 1000000000 := by have := HL.out; omega
    clear hM
    have KA := hid ((Kp.refl No W7).alloc (.cells #[.int .i64 x] 3))
    have BZ := hid (Blk.new W7 3 #[.int .i64 x])
    have JA := hid (show AI 3 31 1 zI w O pre sv (W7.alloc (.cells #[.int .i64 x] 3)) from ⟨J7.out.kp.trans KA.out, J7.out.bx.kp0 KA.out, J7.out.ow.kp0 KA.out, J7.out.ne, J7.out.no, J7.out.on, fun i hi => ⟨(J7.out.ol i hi).1, Nat.lt_of_lt_of_le (J7.out.ol i hi).2 KA.out.size⟩⟩)
    have hz8 := World.size_alloc W7 (.cells #[.int .i64 x] 3)
    clear hI hk7 hI7 hpl6
    refine wpIn_block ?_
    refine region_lit_in (by kernel_rfl) (fun ⟨_, _, h⟩ => h.elim) ?_
    go_wp2_with (first
      | (at_builtin
         refine wp_app1 usI zI_one rfl (.tmp 8) (.tmp 10) rfl (base := w.heap.size) (y := x) (by exact JA.out.ow) rfl (by
           intro i hi
           match i, hi with
           | 0, _ => exact BZ.out.cell 0) (by rw [HM.out]; omega) (by rw [HM.out]; simp only [maxLen]; omega) (by exact JA.out.kp.size) ?_
         intro v8 w8 o8 k8 p8
         have kB := (Kp.refl (fun i => sv.ownBlock = some i) _).grown k8 fun k hk => .inl hk
         have b8 := JA.out.bx.kp kB fun e => JA.out.ne e
         have f8 : w8.frozen? ⟨w.heap.size, 0, none⟩ = false := b8.frozen 0
         have c8 := b8.cell 0
         simp only [List.getElem?_toArray, List.getElem?_cons_zero] at c8
         obtain ⟨A8, q8, rfl⟩ := o8.formN (m := M + 1) (by rw [List.length_append, HM.out]; rfl)
         have P8 := hid (JA.out.push o8 k8 p8)
         clear o8 k8 p8 b8 kB))
    obtain ⟨P9, K9⟩ := P8.out
    refine ⟨(KA.out.all).step K9 fun i hi e => ?_, _, P9⟩
    rcases e with e | e
    · exact ⟨fun h => J7.out.no (e ▸ h), fun h => by have := hRd i h; omega⟩
    · exact ⟨fun h => J7.out.on i e h, fun h => by have := hRd i h; have := (J7.out.ow.blk e).1; omega⟩
theorem collectI_any {gf : Nat} {lb : Array Value} {Rd : Nat → Prop} (hseq : SeqO Tryz.prog gf lb (fun x : Int => #[.int .i64 x]) Rd xs w) (eg : ∀ args w, (callFunc gf args).run Tryz.prog w = .ok (.enter gf args) w) (hRd : ∀ k, Rd k → k < w.heap.size) (hl : xs.length ≤ 1000000000) :
    Calls Tryz.prog 71 #[.func (.func gf) #[] lb] w fun e w' => ∃ u, e = .returned u ∧ Ow w' w.heap.size 3 1 zI u xs ∧ Kp No w w' := by
  have HA := hid (aseqI_any hseq eg hRd hl)
  clear hseq
  go_enter Tryz.func71, Tryz.ntmps71
  go_wp2_with (first
    | (go_at_call 84
       refine HA.out.mono ?_
       rintro e w1 ⟨u, rfl, o1, k1⟩
       have R1 := hid (And.intro o1 k1)
       clear o1 k1))
  go_ret
  exact ⟨u, rfl, R1.out.1, R1.out.2⟩
end
end Go.Proofs.YtjmaingpiieioaaGreat
