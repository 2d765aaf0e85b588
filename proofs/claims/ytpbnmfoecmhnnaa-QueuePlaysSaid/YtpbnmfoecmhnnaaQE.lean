/-
  Contract of package queue: All.
-/
import Derived.Test.YtpbnmfoecmhnnaaQD
namespace Go.Proofs.Ytpbnmfoecmhnnaa
open Go.RowKit Go.Shelf

attribute [local go_sem] Oper.semAt_some

def mc (m : Mb) : Nat → Value
  | 0 => .int .i64 m.id
  | 1 => .int .i64 m.w
  | 2 => .int .i64 m.v
  | _ => .int .i64 m.r
theorem mc_one (x : Mb) (i : Nat) : (mc x i).oneCell' = true := by
  unfold mc
  split <;> rfl
theorem infoMb : (Try.prog.info? 67).map (fun i => (i.zero, i.size, i.bytes)) = some (some (.agg #[.int .i64 0, .int .i64 0, .int .i64 0, .int .i64 0]), 4, 32) := by kernel_rfl
theorem usMb : Us Try.prog 77 67 4 32 (.agg #[.int .i64 0, .int .i64 0, .int .i64 0, .int .i64 0]) := ⟨by kernel_rfl, infoMb, by kernel_rfl, by omega⟩
theorem mk_mb (H : Nat) (hH : H ≤ 1000000000) : ∃ X : Array Value, X.size = H * 4 ∧ ∀ w, (Instr.makeSlice 77 (.int .i64 0) (.int .i64 (H : Int))).run Try.prog w = .ok (.slice (some ⟨w.heap.size, 0, none⟩) 0 H) (w.alloc (.cells X 67)) := by
  obtain ⟨i, hi, hz, hs, hb⟩ := info_parts infoMb
  refine ⟨madeCells (Value.agg #[.int .i64 0, .int .i64 0, .int .i64 0, .int .i64 0]).cells (H * 4), ?_, fun w => ?_⟩
  · simp [madeCells]
  · have hr := run_make (P := Try.prog) w 77 67 i _ usMb.un hi hz .i64 .i64 0 (H : Int) (by omega) (by omega) (by rw [hb]; omega) (by omega)
    rw [hs] at hr
    simpa using hr
theorem Ow.made {H : Nat} (w : World) (X : Array Value) (hX : X.size = H * 4) (hH : H ≤ 1000000000) : Ow (w.alloc (.cells X 67)) w.heap.size 67 4 mc (.slice (some ⟨w.heap.size, 0, none⟩) 0 H) [] :=
  ⟨by simp [flat], .inr ⟨w.heap.size, H, X, rfl, Nat.le_refl _, heap_alloc_new w _, by simp, by simp [maxLen]; omega, by simpa using hX, by simp [flat]⟩⟩

section
variable {P : Program} {Q : Exit → Act → World → Prop} {o : Oper}
/-- A drawn region whose last operation waits for all others: those first. -/
theorem any_last {a : Act} {w : World} {full : List Oper} (n : Nat) (hn : full.drop n = [o]) (hT : lastB (full.take n) o = true)
    (h : wpAny P .any (full.take n).toArray (Then P Q (full.take n) o) (full.take n).length (Array.replicate (full.take n).length false) a w) : wpAny P .any full.toArray Q full.toArray.size (Array.replicate full.toArray.size false) a w := by
  have e : full = full.take n ++ [o] := by rw [← hn, List.take_append_drop]
  generalize full.take n = l at *
  subst e
  have h3 := (last_of hT).any _ _ _ _ (by simp) h
  have e2 : (Array.replicate l.length false).push false = Array.replicate (l ++ [o]).toArray.size false := by simp [Array.replicate_succ]
  rw [e2] at h3
  simpa using h3
end

section
variable {w w' w1 w2 : World} {g mb sg : Nat} {S T : Nat → Prop} {s s' : Qs} {l : List Mb}

/-- What the round's region reads. -/
def RdS (q g mb bx : Nat) (v : Value) (y : Mb) (w' : World) : Prop :=
  w'.cell? ⟨q + 1 + 1, 0, none⟩ = some v ∧ w'.cell? ⟨q, 0, none⟩ = some (.pointer (some ⟨g, 0, none⟩)) ∧ w'.cell? ⟨bx, 1, none⟩ = some (.int .i64 y.id) ∧ w'.cell? ⟨g, 0, none⟩ = some (.map (some mb)) ∧
    (Instr.lookup 114 (.map (some mb)) (.int .i64 y.id) false).run Try.prog w' = .ok (.agg #[.int .i64 y.w, .int .i64 y.v, .int .i64 y.r]) w'

/-- The blocks that it reads. -/
structure RB (q g mb sg bx : Nat) (T : Nat → Prop) (s : Qs) (v : Value) (y : Mb) (w' : World) : Prop where
  b0 : Blk w' q 58 #[.pointer (some ⟨g, 0, none⟩)]
  b2 : Blk w' (q + 1 + 1) 77 #[v]
  bx : Blk w' bx 24 #[.int .i64 y.v, .int .i64 y.id]
  qu : Qu w' g mb sg T s
theorem RB.kp0 {q g mb sg bx : Nat} {v : Value} {y : Mb} (h : RB q g mb sg bx T s v y w) (k : Kp No w w') : RB q g mb sg bx T s v y w' :=
  ⟨h.b0.kp0 k, h.b2.kp0 k, h.bx.kp0 k, h.qu.kp0 k⟩
theorem RB.rd {q g mb sg bx : Nat} {v : Value} {y : Mb} (h : RB q g mb sg bx T s v y w) (hy : y ∈ s.l) : RdS q g mb bx v y w := by
  have c4 := h.b2.cell 0
  have c2 := h.b0.cell 0
  have x1 := h.bx.cell 1
  have cg := h.qu.hd.cell 0
  have lk := h.qu.mp.look_some (h.qu.ok.ok y hy).id64 (finM_of h.qu.ok.ids hy) false
  simp [ev] at lk
  exact ⟨by simpa using c4, by simpa using c2, by simpa using x1, by simpa using cg, lk⟩
theorem then_list {P : Program} {Q : Exit → Act → World → Prop} {o : Oper} {a : Act} {l : List Oper} (h : wpList P (l ++ [o]).toArray Q [o] a w) : Then P Q l o .normal a w := by
  show wpOp P (l ++ [o]).toArray Q l.length (Q .normal) a w
  unfold wpOp
  rw [op_last]
  exact h

/-- Between two rounds of All. -/
def AQ (w : World) (q g : Nat) (s : Qs) (O : Nat → Prop) (pre : List (Nat × It)) (W : World) : Prop :=
  ∃ v, Kp No w W ∧ Blk W q 58 #[.pointer (some ⟨g, 0, none⟩)] ∧ Blk W (q + 1 + 1) 77 #[v] ∧ Ow W w.heap.size 67 4 mc v ((s.l.take pre.length).map (tl s.base)) ∧
    (∀ k, OV v k → ¬ O k ∧ q < k ∧ k ≠ q + 2 ∧ k ≠ q + 3) ∧ (∀ k, O k → q + 3 < k ∧ k < W.heap.size) ∧ q + 3 < W.heap.size
theorem AQ.ab (w : World) (q g : Nat) (s : Qs) (hq : w.heap.size ≤ q) : AbO (AQ w q g s) := by
  rintro O O' pre W W' ⟨v, h1, h2, h4, h5, h6, h7, h8⟩ hk hO
  have hs := hk.size
  refine ⟨v, h1.step hk fun i hi e => absurd (h7 i e).1 (by omega), h2.kp hk (fun e => absurd (h7 _ e).1 (by omega)), h4.kp hk (fun e => absurd (h7 _ e).1 (by omega)), h5.kpv hk fun i hi => (h6 i hi).1, fun k hv => ⟨fun e => ?_, (h6 k hv).2⟩, fun k e => ?_, by omega⟩
  · have hlt := (World.ownsRow.lt h5 k hv).2
    rcases hO k e with e | e
    · exact (h6 k hv).1 e
    · omega
  · rcases hO k e with e | e
    · have := h7 k e
      omega
    · omega

theorem en_at {i : Nat} {l : List It} {pre rest : List (Nat × It)} {x : Nat × It} (h : en i l = pre ++ x :: rest) : pre.length < l.length ∧ l.getD pre.length it0 = x.2 := by
  have h1 := congrArg (List.map Prod.snd) h
  rw [en_snd, List.map_append, List.map_cons] at h1
  subst h1
  constructor
  · simp
  · simp [List.getD]

set_option maxRecDepth 100000 in
set_option maxHeartbeats 1000000 in
theorem allq_any (h : Qu w g mb sg T s) :
    Calls Try.prog 45 #[.pointer (some ⟨g, 0, none⟩)] w fun e w' => ∃ v, e = .returned v ∧ Kp No w w' ∧ Ow w' w.heap.size 67 4 mc v (s.l.map (tl s.base)) := by
  have hgl := h.hd.lt
  have hml := h.mp.lt
  have H := hid h.trim
  have hlen := h.ok.len
  have c1 := h.hd.cell 1
  simp at c1
  obtain ⟨X, hX, hmk⟩ := mk_mb s.l.length (by omega)
  have hg1 : g < w.heap.size + 1 := by omega
  have hg2 : g < w.heap.size + 1 + 1 := by omega
  have hg3 : g < w.heap.size + 1 + 1 + 1 := by omega
  clear h
  refine (callsIn_wide (n := 5)).1 ?_
  refine callsIn_of_wp_marks Try.func45 rfl trivial ?_ rfl
  simp only [Try.ntmps45, List.size_toArray, List.length_cons, List.length_nil, Nat.reduceAdd, Nat.reduceSub, Array.replicate_succ, Array.replicate_zero, List.push_toArray, List.append_toArray, List.nil_append, List.cons_append]
  gi_wp2_with (first
    | (refine ⟨trivial, ?_⟩
       gi_at_call 24
       refine (callsIn_wide.2 (len_is (m := s.l.length) (H.out.shf.kp0 ((Kp.refl No w).alloc _)) (by simp))).mono ?_
       rintro e w' ⟨rfl, rfl⟩)
    | (refine ⟨trivial, ?_⟩
       gi_at_call 36
       refine (callsIn_wide.2 (all_any _ _)).mono ?_
       rintro e w' ⟨rfl, rfl⟩))
  have b0 : Blk ((((w.alloc (.cells #[.pointer (some ⟨g, 0, none⟩)] 58)).alloc (.cells X 67)).alloc (.cells #[.slice (some ⟨w.heap.size + 1, 0, none⟩) 0 s.l.length] 77)).alloc (.cells #[.pointer (some ⟨sg, 0, none⟩)] 26)) w.heap.size 58 #[.pointer (some ⟨g, 0, none⟩)] := (((Blk.new w _ _).kp0 ((Kp.refl No _).alloc _)).kp0 ((Kp.refl No _).alloc _)).kp0 ((Kp.refl No _).alloc _)
  have o1 : Ow ((((w.alloc (.cells #[.pointer (some ⟨g, 0, none⟩)] 58)).alloc (.cells X 67)).alloc (.cells #[.slice (some ⟨w.heap.size + 1, 0, none⟩) 0 s.l.length] 77)).alloc (.cells #[.pointer (some ⟨sg, 0, none⟩)] 26)) w.heap.size 67 4 mc (.slice (some ⟨w.heap.size + 1, 0, none⟩) 0 s.l.length) [] := by
    have := Ow.made (w.alloc (.cells #[.pointer (some ⟨g, 0, none⟩)] 58)) X hX (by omega)
    rw [World.size_alloc] at this
    exact ((this.lower (Nat.le_succ _)).kp0 ((Kp.refl No _).alloc _)).kp0 ((Kp.refl No _).alloc _)
  have b2 : Blk ((((w.alloc (.cells #[.pointer (some ⟨g, 0, none⟩)] 58)).alloc (.cells X 67)).alloc (.cells #[.slice (some ⟨w.heap.size + 1, 0, none⟩) 0 s.l.length] 77)).alloc (.cells #[.pointer (some ⟨sg, 0, none⟩)] 26)) (w.heap.size + 1 + 1) 77 #[.slice (some ⟨w.heap.size + 1, 0, none⟩) 0 s.l.length] := ((Blk.new ((w.alloc (.cells #[.pointer (some ⟨g, 0, none⟩)] 58)).alloc (.cells X 67)) _ _).next (by simp)).kp0 ((Kp.refl No _).alloc _)
  have b3 : Blk ((((w.alloc (.cells #[.pointer (some ⟨g, 0, none⟩)] 58)).alloc (.cells X 67)).alloc (.cells #[.slice (some ⟨w.heap.size + 1, 0, none⟩) 0 s.l.length] 77)).alloc (.cells #[.pointer (some ⟨sg, 0, none⟩)] 26)) (w.heap.size + 1 + 1 + 1) 26 #[.pointer (some ⟨sg, 0, none⟩)] := (Blk.new (((w.alloc (.cells #[.pointer (some ⟨g, 0, none⟩)] 58)).alloc (.cells X 67)).alloc (.cells #[.slice (some ⟨w.heap.size + 1, 0, none⟩) 0 s.l.length] 77)) _ _).next (by simp)
  have k0 : Kp No w ((((w.alloc (.cells #[.pointer (some ⟨g, 0, none⟩)] 58)).alloc (.cells X 67)).alloc (.cells #[.slice (some ⟨w.heap.size + 1, 0, none⟩) 0 s.l.length] 77)).alloc (.cells #[.pointer (some ⟨sg, 0, none⟩)] 26)) := ((((Kp.refl No w).alloc _).alloc _).alloc _).alloc _
  have hz : ((((w.alloc (.cells #[.pointer (some ⟨g, 0, none⟩)] 58)).alloc (.cells X 67)).alloc (.cells #[.slice (some ⟨w.heap.size + 1, 0, none⟩) 0 s.l.length] 77)).alloc (.cells #[.pointer (some ⟨sg, 0, none⟩)] 26)).heap.size = w.heap.size + 4 := by simp
  generalize ((((w.alloc (.cells #[.pointer (some ⟨g, 0, none⟩)] 58)).alloc (.cells X 67)).alloc (.cells #[.slice (some ⟨w.heap.size + 1, 0, none⟩) 0 s.l.length] 77)).alloc (.cells #[.pointer (some ⟨sg, 0, none⟩)] 26)) = W0 at b0 o1 b2 b3 k0 hz ⊢
  obtain ⟨Rd, hRd, hseq⟩ := All_seq (H.out.shf.kp0 k0) _ b3
  have i0 : AQ w w.heap.size g s No [] W0 := ⟨_, k0, b0, b2, by simpa using o1, (fun k hk => by
    have : k = w.heap.size + 1 := by simpa [OV, Value.ownBlock] using hk.symm
    exact ⟨fun h => h, by omega, by omega, by omega⟩), (fun k hk => hk.elim), by omega⟩
  have I0 := hid i0
  have SQ := hid hseq
  have HZ := hid hz
  have HRd := hid hRd
  clear i0 hseq hz hRd b0 b2 b3 k0 o1 c1 hmk hX
  refine range_own (gf := 62) (lb := #[.pointer (some ⟨w.heap.size + 1 + 1 + 1, 0, none⟩)]) rfl (enters_of Try.func62 (by kernel_rfl) rfl)
    SQ.out (fun k hk => (HRd.out k hk).1) (fun _ => rfl) (AQ w w.heap.size g s) (fun _ _ _ _ => False) (AQ.ab w _ g s (Nat.le_refl _)) (fun _ _ _ _ _ _ h => h.elim) I0.out ?round ?done ?stop
  case stop => exact fun _ _ _ _ _ _ _ _ _ h => h.elim
  case done =>
    rintro D O W hD hO ⟨v, h1, h2, h4, h5, h6, h7, h8⟩ hK
    rw [show (en 0 (s.l.map itM)).length = s.l.length by rw [← List.length_map (f := Prod.snd), en_snd, List.length_map], List.take_length] at h5
    have c2 := h4.cell 0
    simp at c2
    gi_wp2
    have kp := Kp.put1 D W (.deferred none)
    have hD2 := HZ.out
    refine ⟨by simp, .inl ⟨_, _, rfl, run_takeDeferred hK, ?_⟩⟩
    refine ⟨v, by simp [results, Try.results45, go_sem], _, rfl, ?_, ?_⟩
    · exact h1.step kp fun i hi e => by have : i = D := e; omega
    · refine h5.kpv kp fun i hi e => ?_
      have : i = D := e
      subst this
      exact (h6 i hi).1 hO
  case round =>
    rintro l' O pre x rest W hx hOl hl1 hl2 ⟨v, h1, h2, h4, h5, h6, h7, h8⟩
    have hx1 := en_split hx
    obtain ⟨hpl, hxi⟩ := en_at hx
    rw [List.length_map] at hpl
    obtain ⟨xr, x⟩ := x
    simp only [Nat.zero_add] at hx1 hxi
    subst hx1
    obtain ⟨y, hy⟩ : ∃ y, s.l.getD pre.length mb0 = y := ⟨_, rfl⟩
    have hxy : x = itM y := by
      rw [← hxi, ← hy]
      simp [List.getD, hpl]
    subst hxy
    have hym : y ∈ s.l := by
      rw [← hy]
      simp [List.getD, hpl]
    have hyt : s.l.take (pre.length + 1) = s.l.take pre.length ++ [y] := by rw [take_at s.l mb0 hpl, hy]
    have OKY := hid (H.out.ok.ok y hym)
    have FY := hid (finM_of H.out.ok.ids hym)
    have HYT := hid hyt
    have hvl : ((s.l.take pre.length).map (tl s.base)).length = pre.length := by simp; omega
    clear hx hxi hy hyt
    dsimp only
    gi_wp2
    refine ⟨(Kp.refl _ _).alloc _, fun W2 hk2 => ?_⟩
    have hl3 := (h7 l' hOl).1
    have hOb : ∀ k, O k → W2.heap.size ≤ k → False := fun k ho hk => by have := (h7 k ho).2; have := hk2.size; simp at this; omega
    have h7' : ∀ k, O k → w.heap.size + 3 < k ∧ k < W2.heap.size := fun k ho => by have := h7 k ho; have := hk2.size; simp at this; omega
    have bX : Blk W2 W.heap.size 24 #[.int .i64 (itM y).key, .int .i64 (itM y).id] := (Blk.new W 24 _).kp hk2 (fun e => by have : W.heap.size = l' := e; omega)
    have kA : Kp (Only l') W W2 := ((Kp.refl (Only l') W).alloc _).trans hk2
    have g2 := h2.kp kA (fun e => by have : w.heap.size = l' := e; omega)
    have g4 := h4.kp kA (fun e => by have : w.heap.size + 1 + 1 = l' := e; omega)
    have g5 := h5.kpv kA fun i hi e => (h6 i hi).1 (by have : i = l' := e; rw [this]; exact hOl)
    have g1 : Kp No w W2 := h1.step kA fun i hi e => by have : i = l' := e; omega
    have hW2 := kA.size
    have hw2 := g1.size
    have rb := (⟨g2, g4, by simpa [itM] using bX, H.out.kp0 g1⟩ : RB w.heap.size g mb sg W.heap.size (fun i => T i ∧ i < w.heap.size) s v y W2)
    have RB2 := hid rb
    have HYM := hid hym
    have HS5 := (rb.kp0 (Kp.refl No W2).drew).rd hym
    have hvlt : ∀ k, OV v k → k < W.heap.size := fun k hk => (World.ownsRow.lt h5 k hk).2
    have G5 := hid g5
    have G6 := hid h6
    have G4 := hid g4
    have GV := hid hvlt
    clear h1 h2 h4 h5 h6 kA hk2 g2 g4 g5 rb hvlt hym bX
    gi_wp2
    refine region_in (by kernel_rfl) (by kernel_rfl) (fun ⟨_, _, h⟩ => h.elim) ?_
    refine any_last 14 rfl (by kernel_rfl) ?_
    simp only [List.take_succ_cons, List.take_zero]
    refine wpAny_of_held (S := RdS w.heap.size g mb W.heap.size v y) _ _ _ _ ?_
    simp only [List.length_cons, List.length_nil, Nat.reduceAdd, Array.replicate_succ, Array.replicate_zero, List.push_toArray, List.nil_append, List.cons_append]
    refine wpAnyH_take (i := 0) (v := v) rfl (by kernel_rfl) (by kernel_rfl) (by kernel_rfl) (fun _ _ _ h => h) (Or.inl ⟨by rfl, ?_⟩) HS5 ?_
    · (intro w6 hS6; obtain ⟨z1, z2, z3, z4, z5⟩ := hS6; go_simp)
    simp only [List.getElem_toArray, List.getElem_cons_zero, Act.put, List.setIfInBounds_toArray, List.set_cons_zero, List.set_cons_succ]
    refine wpAnyH_take (i := 1) (v := .pointer (some ⟨g, 0, none⟩)) rfl (by kernel_rfl) (by kernel_rfl) (by kernel_rfl) (fun _ _ _ h => h) (Or.inl ⟨by rfl, ?_⟩) HS5 ?_
    · (intro w6 hS6; obtain ⟨z1, z2, z3, z4, z5⟩ := hS6; go_simp)
    simp only [List.getElem_toArray, List.getElem_cons_zero, List.getElem_cons_succ, Act.put, List.setIfInBounds_toArray, List.set_cons_zero, List.set_cons_succ]
    refine wpAnyH_take (i := 2) (v := .pointer (some ⟨W.heap.size, 1, none⟩)) rfl (by kernel_rfl) (by kernel_rfl) (by kernel_rfl) (fun _ _ _ h => h) (Or.inl ⟨by rfl, ?_⟩) HS5 ?_
    · (intro w6 hS6; obtain ⟨z1, z2, z3, z4, z5⟩ := hS6; go_simp)
    simp only [List.getElem_toArray, List.getElem_cons_zero, List.getElem_cons_succ, Act.put, List.setIfInBounds_toArray, List.set_cons_zero, List.set_cons_succ]
    refine wpAnyH_take (i := 3) (v := .int .i64 y.id) rfl (by kernel_rfl) (by kernel_rfl) (by kernel_rfl) (fun _ _ _ h => h) (Or.inl ⟨by rfl, ?_⟩) HS5 ?_
    · (intro w6 hS6; obtain ⟨z1, z2, z3, z4, z5⟩ := hS6; go_simp)
    simp only [List.getElem_toArray, List.getElem_cons_zero, List.getElem_cons_succ, Act.put, List.setIfInBounds_toArray, List.set_cons_zero, List.set_cons_succ]
    refine wpAnyH_take (i := 4) (v := .pointer (some ⟨g, 0, none⟩)) rfl (by kernel_rfl) (by kernel_rfl) (by kernel_rfl) (fun _ _ _ h => h) (Or.inl ⟨by rfl, ?_⟩) HS5 ?_
    · (intro w6 hS6; obtain ⟨z1, z2, z3, z4, z5⟩ := hS6; go_simp)
    simp only [List.getElem_toArray, List.getElem_cons_zero, List.getElem_cons_succ, Act.put, List.setIfInBounds_toArray, List.set_cons_zero, List.set_cons_succ]
    refine wpAnyH_take (i := 5) (v := .pointer (some ⟨g, 0, none⟩)) rfl (by kernel_rfl) (by kernel_rfl) (by kernel_rfl) (fun _ _ _ h => h) (Or.inl ⟨by rfl, ?_⟩) HS5 ?_
    · (intro w6 hS6; obtain ⟨z1, z2, z3, z4, z5⟩ := hS6; go_simp)
    simp only [List.getElem_toArray, List.getElem_cons_zero, List.getElem_cons_succ, Act.put, List.setIfInBounds_toArray, List.set_cons_zero, List.set_cons_succ]
    refine wpAnyH_take (i := 6) (v := .pointer (some ⟨g, 0, none⟩)) rfl (by kernel_rfl) (by kernel_rfl) (by kernel_rfl) (fun _ _ _ h => h) (Or.inl ⟨by rfl, ?_⟩) HS5 ?_
    · (intro w6 hS6; obtain ⟨z1, z2, z3, z4, z5⟩ := hS6; go_simp)
    simp only [List.getElem_toArray, List.getElem_cons_zero, List.getElem_cons_succ, Act.put, List.setIfInBounds_toArray, List.set_cons_zero, List.set_cons_succ]
    refine wpAnyH_take (i := 7) (v := .map (some mb)) rfl (by kernel_rfl) (by kernel_rfl) (by kernel_rfl) (fun _ _ _ h => h) (Or.inl ⟨by rfl, ?_⟩) HS5 ?_
    · (intro w6 hS6; obtain ⟨z1, z2, z3, z4, z5⟩ := hS6; go_simp)
    simp only [List.getElem_toArray, List.getElem_cons_zero, List.getElem_cons_succ, Act.put, List.setIfInBounds_toArray, List.set_cons_zero, List.set_cons_succ]
    refine wpAnyH_take (i := 8) (v := .pointer (some ⟨W.heap.size, 1, none⟩)) rfl (by kernel_rfl) (by kernel_rfl) (by kernel_rfl) (fun _ _ _ h => h) (Or.inl ⟨by rfl, ?_⟩) HS5 ?_
    · (intro w6 hS6; obtain ⟨z1, z2, z3, z4, z5⟩ := hS6; go_simp)
    simp only [List.getElem_toArray, List.getElem_cons_zero, List.getElem_cons_succ, Act.put, List.setIfInBounds_toArray, List.set_cons_zero, List.set_cons_succ]
    refine wpAnyH_take (i := 9) (v := .int .i64 y.id) rfl (by kernel_rfl) (by kernel_rfl) (by kernel_rfl) (fun _ _ _ h => h) (Or.inl ⟨by rfl, ?_⟩) HS5 ?_
    · (intro w6 hS6; obtain ⟨z1, z2, z3, z4, z5⟩ := hS6; go_simp)
    simp only [List.getElem_toArray, List.getElem_cons_zero, List.getElem_cons_succ, Act.put, List.setIfInBounds_toArray, List.set_cons_zero, List.set_cons_succ]
    refine wpAnyH_take (i := 10) (v := .agg #[.int .i64 y.w, .int .i64 y.v, .int .i64 y.r]) rfl (by kernel_rfl) (by kernel_rfl) (by kernel_rfl) (fun _ _ _ h => h) (Or.inl ⟨by rfl, ?_⟩) HS5 ?_
    · (intro w6 hS6; obtain ⟨z1, z2, z3, z4, z5⟩ := hS6; go_simp)
    simp only [List.getElem_toArray, List.getElem_cons_zero, List.getElem_cons_succ, Act.put, List.setIfInBounds_toArray, List.set_cons_zero, List.set_cons_succ]
    refine wpAnyH_ready (rs := [11]) (by kernel_rfl) (by simp) (AllReadyH.cons rfl (fun K hK => ?_) AllReadyH.nil)
    simp only [List.getElem_toArray, List.getElem_cons_zero, List.getElem_cons_succ]
    clear HS5
    go_simp
    refine (tell_any (RB2.out.qu.kp0 (Kp.refl No W2).drew) y OKY.out).mono ?_
    rintro e w6 ⟨rfl, k6⟩
    have R6 := hid ((RB2.out.kp0 (Kp.refl No W2).drew).kp0 k6)
    have K6 := hid ((Kp.refl No W2).drew.trans k6)
    clear k6
    refine hK.out _ _ (R6.out.rd HYM.out) (fun hS6 => ?_)
    clear hK K hS6
    simp only [List.setIfInBounds_toArray, List.set_cons_zero, List.set_cons_succ]
    refine wpAnyH_ready (rs := [12]) (by kernel_rfl) (by simp) (AllReadyH.cons rfl (fun K hK => ?_) AllReadyH.nil)
    simp only [List.getElem_toArray, List.getElem_cons_zero, List.getElem_cons_succ]
    go_simp
    have b7 := Blk.new w6 67 #[.int .i64 y.id, .int .i64 y.w, .int .i64 (y.v - s.base), .int .i64 y.r]
    have k7 := (Kp.refl No w6).alloc (.cells #[.int .i64 y.id, .int .i64 y.w, .int .i64 (y.v - s.base), .int .i64 y.r] 67)
    have hz7 : _ = w6.heap.size + 1 := show (w6.alloc (.cells #[.int .i64 y.id, .int .i64 y.w, .int .i64 (y.v - s.base), .int .i64 y.r] 67)).heap.size = w6.heap.size + 1 by simp
    generalize w6.alloc (.cells #[.int .i64 y.id, .int .i64 y.w, .int .i64 (y.v - s.base), .int .i64 y.r] 67) = w7 at b7 k7 hz7 ⊢
    have R7 := hid (R6.out.kp0 k7)
    have K7 := hid (K6.out.trans k7)
    have B7 := hid b7
    have Z7 := hid hz7
    have hs6 := hid K6.out.size
    clear b7 k7 hz7
    refine hK.out _ _ (R7.out.rd HYM.out) (fun hS7 => ?_)
    clear hK K hS7
    simp only [List.setIfInBounds_toArray, List.set_cons_zero, List.set_cons_succ]
    refine wpAnyH_ready (rs := [13]) (by kernel_rfl) (by simp) (AllReadyH.cons rfl (fun K hK => ?_) AllReadyH.nil)
    refine step_one usMb mc_one (by rfl) (.tmp 19) (.tmp 31) (by rfl) (tl s.base y) _ (by rfl) (by exact G5.out.kp0 K7.out) (by rfl) (fun i hi => by
        have hb := B7.out
        match i, hi with
        | 0, _ => exact hb.cell 0
        | 1, _ => exact hb.cell 1
        | 2, _ => exact hb.cell 2
        | 3, _ => exact hb.cell 3) (by rw [hvl]; omega) (by rw [hvl]; simp [maxLen]; omega) (by have := K7.out.size; omega) ?_
    intro v8 w8 o8 q8 p8
    have K8 : Kp (OV v) W2 w8 := (K7.out.all (S := OV v)).trans ((Kp.refl _ w7).grown q8 fun k hk => .inl hk)
    have nq : ∀ k, OV v k → ¬ QB g mb (fun i => T i ∧ i < w.heap.size) k := fun k hk e => by
      have := (G6.out k hk).2.1
      rcases e with e | e | e
      · omega
      · omega
      · omega
    have R8 := hid (show RB w.heap.size g mb sg W.heap.size (fun i => T i ∧ i < w.heap.size) s v y w8 from
      have k8 : Kp (OV v) w7 w8 := (Kp.refl _ w7).grown q8 fun k hk => .inl hk
      ⟨R7.out.b0.kp k8 (fun e => absurd (G6.out _ e).2.1 (by omega)), R7.out.b2.kp k8 (fun e => absurd (G6.out _ e).2.2.1 (by omega)), R7.out.bx.kp k8 (fun e => absurd (GV.out _ e) (by omega)),
        ⟨R7.out.qu.hd.kp k8 (fun e => nq _ e (.inl rfl)), R7.out.qu.mp.kp k8 (fun e => nq _ e (.inr (.inl rfl))), R7.out.qu.shf.kp k8 (fun i hi e => nq i e (.inr (.inr hi))), R7.out.qu.ne, R7.out.qu.tg, R7.out.qu.tm, R7.out.qu.ok⟩⟩)
    obtain ⟨A8, cp8, rfl⟩ := o8.formN (m := pre.length + 1) (by rw [List.length_append, hvl]; rfl)
    refine hK.out _ _ (R8.out.rd HYM.out) (fun hS8 => ?_)
    clear hK K hS8
    simp only [List.getElem_toArray, List.getElem_cons_zero, List.getElem_cons_succ]
    refine wpAnyH_done (by kernel_rfl) ?_ _
    refine then_list ?_
    simp only [List.cons_append, List.nil_append, Act.put, List.setIfInBounds_toArray, List.set_cons_zero, List.set_cons_succ]
    have g48 := R8.out.b2
    have c48 := g48.cell 0
    have f48 := g48.frozen 0
    simp at c48
    go_wp2_with fail
    have ks := Kp.set1 (w.heap.size + 1 + 1) 0 w8 (.slice A8 (pre.length + 1) cp8)
    have hz := HZ.out
    have nR : ∀ k, Rd k → k = w.heap.size + 1 + 1 + 1 ∨ k < w.heap.size := fun k hk => (HRd.out k hk).2.imp id fun h => h.2
    have hk7 := K7.out.size
    have ob : ∀ k, OV (.slice A8 (pre.length + 1) cp8) k → ¬ O k ∧ w.heap.size < k ∧ k ≠ w.heap.size + 2 ∧ k ≠ w.heap.size + 3 := fun k hk => by
      rcases p8 with e | e
      · exact G6.out k (e.symm.trans hk)
      · have : k = w7.heap.size := by
          have := e.symm.trans hk
          simpa using this.symm
        have h1 := h7' l' hOl
        exact ⟨fun ho => hOb k ho (by omega), by omega, by omega, by omega⟩
    have kk : Kp (Out O Rd) W2 (w8.setCell ⟨w.heap.size + 1 + 1, 0, none⟩ (.slice A8 (pre.length + 1) cp8)) := by
      refine (K8.mono fun k _ hk => ⟨(G6.out k hk).1, fun hr => ?_⟩).setCell (p := ⟨w.heap.size + 1 + 1, 0, none⟩) (.inl ⟨fun ho => absurd (h7 _ ho).1 (by simp only; omega), fun hr => ?_⟩) _
      · have h9 := (G6.out k hk).2
        rcases nR k hr with e | e <;> omega
      · rcases nR _ hr with e | e <;> simp only at e <;> omega
    refine ⟨kk, _, ?_, R8.out.b0.kp ks (fun e => by have : w.heap.size = w.heap.size + 1 + 1 := e; omega), g48.put 0 _, ?_, ob, (fun k ho => by have := h7' k ho; have := kk.size; omega), by have := kk.size; omega⟩
    · exact (g1.step K8 fun i hi e => absurd (G6.out i e).2.1 (by omega)).setCell (p := ⟨w.heap.size + 1 + 1, 0, none⟩) (.inr (by simp only; omega)) _
    · rw [List.length_append, List.length_singleton, HYT.out, List.map_append]
      exact o8.kpv ks fun i hi e => by
        have h9 := (ob i hi).2
        have : i = w.heap.size + 1 + 1 := e
        omega
end
end Go.Proofs.Ytpbnmfoecmhnnaa
