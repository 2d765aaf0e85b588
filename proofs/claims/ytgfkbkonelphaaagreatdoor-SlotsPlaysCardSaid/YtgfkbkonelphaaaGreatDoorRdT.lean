/-
  RdN RdO RdP RdQ RdR RdS RdT: texts laid into one.
-/
import Derived.Test.YtgfkbkonelphaaaGreatDoorRdE
import Derived.Test.YtgfkbkonelphaaaGreatDoorSlFa
import Derived.Deep.RegionLaw
import Derived.Test.YtgfkbkonelphaaaGreatDoorSlQ
import Derived.Test.YtgfkbkonelphaaaGreatDoorLeB
import Derived.Test.YtgfkbkonelphaaaGreatDoorZeros
import Derived.Test.YtgfkbkonelphaaaGreatDoorPCrcC
import Derived.Lib.SmallJoins
import Derived.Test.YtgfkbkonelphaaaGreatDoorSlKA

/-
  Contract of the document's New.
-/
namespace Go.Proofs.YtgfkbkonelphaaaGreatDoor
open Go.RowKit

section
variable {P : Program} {e t : TypeId} {bytes base : Nat} {z v : Value} {vs : List Value}
/-- append of one cell onto what is owned, as one step of a region that draws. -/
theorem step_row1 (u : Us P t e 1 bytes z) {ops : Array Oper} {o : Oper} {a : Act} {w : World} {K : Act → World → Prop} {Q : Exit → Act → World → Prop} {E : Prop} (hgd : o.guard = none) (s x : Operand)
    (ho : o.op = .call { callee := .builtin .append, args := #[s, x], argTypes := #[t, t] }) {q : Nat} {y : Value} (hv : a.eval s = v) (hown : Rv w base e v vs) (hx : a.eval x = .slice (some ⟨q, 0, none⟩) 1 1) (hq : w.cell? ⟨q, 0, none⟩ = some y) (h1 : y.oneCell' = true)
    (hle : (vs.length + 1) * bytes ≤ 140737488355328) (h63 : vs.length + 1 ≤ maxLen) (hbase : base ≤ w.heap.size)
    (h : ∀ v' w', Rv w' base e v' (vs ++ [y]) → w.grownBy w' v.ownBlock → (v'.ownBlock = v.ownBlock ∨ v'.ownBlock = some w.heap.size) → K (a.put o.dst v') w') : if Region.wanted o (yielded ops a.tmps) = true then Oper.wp P o a w K Q else E := by
  have hw : Region.wanted o (yielded ops a.tmps) = true := by simp [Region.wanted, hgd]
  rw [if_pos hw]
  obtain ⟨i, hi, hz, hs, hb⟩ := info_parts u.info
  obtain ⟨v', w', hrun, h2, h3, _, h5⟩ := run_append_own_at (P := P) w base t o.type e i z 1 bytes u.un hi hz hs hb u.zero u.pos v vs.length vs hown ⟨q, 0, none⟩ 1 1 [y] rfl (fun j x hx => by
    match j with
    | 0 =>
      have ha : (⟨q, 0, none⟩ : Addr).add 0 = ⟨q, 0, none⟩ := by unfold Addr.add; split <;> simp_all
      rw [ha, hq]
      simpa using hx
    | j + 1 => simp at hx) (fun x hx => by rw [List.mem_singleton.1 hx]; exact h1) h63 hle hbase
  unfold Oper.wp execOp
  simp only [ho, resolve, invoke, builtin, Sem.run_bind, Sem.run_pure, Result.andThen_ok, List.map_toArray, List.map_cons, List.map_nil, hv, hx, hrun]
  refine h v' w' ?_ h3 h5
  unfold Rv
  rw [List.length_append, List.length_singleton]
  exact h2
end
theorem made_run {P : Program} {t e : TypeId} (u : U8 P t e) (w : World) : ∃ cs, (Instr.makeSlice t (.int .i64 64) (.int .i64 64)).run P w.drew = .ok (.slice (some ⟨w.heap.size, 0, none⟩) 64 64) (w.drew.alloc (.cells cs e)) ∧ Own (w.drew.alloc (.cells cs e)) w.heap.size e (.slice (some ⟨w.heap.size, 0, none⟩) 64 64) zs := by
  obtain ⟨i, hi, hz, hs, hb⟩ := info_parts u.info
  have hr := run_make (P := P) w.drew t e i (.int .u8 0) u.un hi hz .i64 .i64 64 64 (by omega) (by omega) (by rw [hb]; omega) (by omega)
  rw [hs] at hr
  refine ⟨_, hr, ⟨⟨by simp [zs], .inr ⟨w.heap.size, 64, _, by simp [zs], Nat.le_refl _, heap_alloc_new w.drew _, by simp [zs], by simp [maxLen], ?_, ?_⟩⟩, ?_⟩⟩
  · rw [← Array.length_toList, show (Value.int IntKind.u8 0).cells = #[.int .u8 0] from rfl, toList_madeCells_one]
    simp
  · rw [show (Value.int IntKind.u8 0).cells = #[.int .u8 0] from rfl, toList_madeCells_one]
    simp [zs]
  · intro x hx
    rw [List.eq_of_mem_replicate hx]
    omega
theorem wp_row2 {P : Program} {e t : TypeId} {bytes base : Nat} {z : Value} {vs : List Value} (u : Us P t e 1 bytes z) {ops : Array Oper} {rest : List Oper} {o : Oper} {a : Act} {w : World} {Q : Exit → Act → World → Prop} (hw : Region.wanted o (yielded ops a.tmps) = true) (s x : Operand)
    (ho : o.op = .call { callee := .builtin .append, args := #[s, x], argTypes := #[t, t] }) {q : Nat} {y : Value} (hown : Rv w base e (a.eval s) vs) (hx : a.eval x = .slice (some ⟨q, 0, none⟩) 1 1) (hq : w.cell? ⟨q, 0, none⟩ = some y) (h1 : y.oneCell' = true)
    (hle : (vs.length + 1) * bytes ≤ 140737488355328) (h63 : vs.length + 1 ≤ maxLen) (hbase : base ≤ w.heap.size)
    (h : ∀ v' w', Rv w' base e v' (vs ++ [y]) → w.grownBy w' (a.eval s).ownBlock → (v'.ownBlock = (a.eval s).ownBlock ∨ v'.ownBlock = some w.heap.size) → wpList P ops Q rest (a.put o.dst v') w') : wpList P ops Q (o :: rest) a w := by
  refine BigFrame.wpList_want hw fun K hK => ?_
  obtain ⟨i, hi, hz, hs, hb⟩ := info_parts u.info
  obtain ⟨v', w', hrun, h2, h3, _, h5⟩ := run_append_own_at (P := P) w base t o.type e i z 1 bytes u.un hi hz hs hb u.zero u.pos (a.eval s) vs.length vs hown ⟨q, 0, none⟩ 1 1 [y] rfl (fun j x hx => by
    match j with
    | 0 =>
      have ha : (⟨q, 0, none⟩ : Addr).add 0 = ⟨q, 0, none⟩ := by unfold Addr.add; split <;> simp_all
      rw [ha, hq]
      simpa using hx
    | j + 1 => simp at hx) (fun x hx => by rw [List.mem_singleton.1 hx]; exact h1) h63 hle hbase
  unfold Oper.wp execOp
  simp only [ho, hx, resolve, invoke, builtin, Sem.run_bind, Sem.run_pure, Result.andThen_ok, List.map_toArray, List.map_cons, List.map_nil, hrun]
  refine hK _ _ (h v' w' ?_ h3 h5)
  unfold Rv
  rw [List.length_append, List.length_singleton]
  exact h2
theorem Rv.kpx {w w' : World} {S : Nat → Prop} {base : Nat} {e : TypeId} {v : Value} {vs : List Value} (h : Rv w base e v vs) (kk : Kp S w w') (hs : ∀ i, v.ownBlock = some i → ¬ S i) : Rv w' base e v vs := by
  refine ⟨h.1, ?_⟩
  rcases h.2 with hn | ⟨g, cap, cur, rfl, hb, hg, r⟩
  · exact .inl hn
  · exact .inr ⟨g, cap, cur, rfl, hb, (kk.block g (Array.getElem?_eq_some_iff.1 hg).1 (hs g rfl)).trans hg, r⟩
theorem Te.lt {w : World} {e : TypeId} {i : Nat} (h : Te w e i) : i < w.heap.size := by
  obtain ⟨c, f, h⟩ := h
  exact (Array.getElem?_eq_some_iff.1 h).1
/-- Behind so many rounds, row by row. -/
structure NI (base g k0 k1 k2 : Nat) (v0 v1 v2 : Value) (vs : List Value) (w : World) : Prop where
  hd : Blk w g 54 #[v0, v1, v2, .int .i64 (-1)]
  ra : Rv w base 36 v0 vs
  rb : Rv w base 36 v1 (List.replicate k1 (.slice none 0 0))
  rc : Rv w base 4 v2 (List.replicate k2 (.bool false))
  len : vs.length = k0
  by' : ∀ v ∈ vs, Byu w (fun i => base ≤ i) v zs
  ne : ∀ i, v0.ownBlock = some i → v1.ownBlock ≠ some i
section
variable {base g k0 k1 k2 : Nat} {v0 v1 v2 v u : Value} {vs : List Value} {w w' W : World}
theorem NI.kp0 (h : NI base g k0 k1 k2 v0 v1 v2 vs w) (kk : Kp No w w') : NI base g k0 k1 k2 v0 v1 v2 vs w' :=
  ⟨h.hd.kp kk fun h => h, h.ra.kp0 kk, h.rb.kp0 kk, h.rc.kp0 kk, h.len, fun v hv => (h.by' v hv).kp0 kk, h.ne⟩
theorem NI.s0 (h : NI base g k0 k1 k2 v0 v1 v2 vs w) (K : Kp No w W) (hu : Byu W (fun i => base ≤ i) u zs) (o : Rv w' base 36 v (vs ++ [u])) (k : W.grownBy w' v0.ownBlock) (p : v.ownBlock = v0.ownBlock ∨ v.ownBlock = some W.heap.size) :
    Kp (fun i => v0.ownBlock = some i) W w' ∧ Blk w' g 54 #[v0, v1, v2, .int .i64 (-1)] ∧ NI base g (k0 + 1) k1 k2 v v1 v2 (vs ++ [u]) (w'.setCell ⟨g, 0, none⟩ v) := by
  have N := h.kp0 K
  have kA : Kp (fun i => v0.ownBlock = some i) W w' := (Kp.refl _ W).grown k fun k hk => .inl hk
  have hg : ¬ v0.ownBlock = some g := fun e => absurd ((N.ra.te e).1.uniq N.hd.te) (by decide)
  have B7 := N.hd.kp kA hg
  have kB := Kp.set1 g 0 w' v
  have hr1 : ∀ i, Te w' 36 i → base ≤ i → ¬ Only g i := fun i ht _ e => absurd (ht.uniq (show Te w' 54 i from (show i = g from e) ▸ B7.te)) (by decide)
  have hr2 : ∀ i, Te w' 4 i → base ≤ i → ¬ Only g i := fun i ht _ e => absurd (ht.uniq (show Te w' 54 i from (show i = g from e) ▸ B7.te)) (by decide)
  have hr3 : ∀ i, Te w' 5 i → ¬ Only g i := fun i ht e => absurd (ht.uniq (show Te w' 54 i from (show i = g from e) ▸ B7.te)) (by decide)
  refine ⟨kA, B7, ⟨B7.put 0 v, o.kp kB hr1, (N.rb.kpx kA fun i h1 h0 => N.ne i h0 h1).kp kB hr1, (N.rc.kp kA fun i ht _ hs => absurd (ht.uniq (N.ra.te hs).1) (by decide)).kp kB hr2, by rw [List.length_append, h.len]; rfl, fun x hx => ?_, fun i hi hi1 => ?_⟩⟩
  · have hB : Byu W (fun i => base ≤ i) x zs := by
      rcases List.mem_append.1 hx with hx | hx
      · exact N.by' x hx
      · rw [List.mem_singleton.1 hx]
        exact hu
    exact (hB.kp kA fun i _ ht hs => absurd (Te.uniq ht (N.ra.te hs).1) (by decide)).kp kB fun i _ ht => hr3 i ht
  · rcases p with p | p
    · exact N.ne i (p.symm.trans hi) hi1
    · rw [p] at hi
      have := (N.rb.te hi1).1.lt
      have e : W.heap.size = i := Option.some.inj hi
      omega
theorem NI.s1 (h : NI base g k0 k1 k2 v0 v1 v2 vs w) (K : Kp No w W) (o : Rv w' base 36 v (List.replicate k1 (.slice none 0 0) ++ [.slice none 0 0])) (k : W.grownBy w' v1.ownBlock) (p : v.ownBlock = v1.ownBlock ∨ v.ownBlock = some W.heap.size) :
    Kp (fun i => v1.ownBlock = some i) W w' ∧ Blk w' g 54 #[v0, v1, v2, .int .i64 (-1)] ∧ NI base g k0 (k1 + 1) k2 v0 v v2 vs (w'.setCell ⟨g, 1, none⟩ v) := by
  have N := h.kp0 K
  have kA : Kp (fun i => v1.ownBlock = some i) W w' := (Kp.refl _ W).grown k fun k hk => .inl hk
  have hg : ¬ v1.ownBlock = some g := fun e => absurd ((N.rb.te e).1.uniq N.hd.te) (by decide)
  have B7 := N.hd.kp kA hg
  have kB := Kp.set1 g 1 w' v
  have hr1 : ∀ i, Te w' 36 i → base ≤ i → ¬ Only g i := fun i ht _ e => absurd (ht.uniq (show Te w' 54 i from (show i = g from e) ▸ B7.te)) (by decide)
  have hr2 : ∀ i, Te w' 4 i → base ≤ i → ¬ Only g i := fun i ht _ e => absurd (ht.uniq (show Te w' 54 i from (show i = g from e) ▸ B7.te)) (by decide)
  have hr3 : ∀ i, Te w' 5 i → ¬ Only g i := fun i ht e => absurd (ht.uniq (show Te w' 54 i from (show i = g from e) ▸ B7.te)) (by decide)
  refine ⟨kA, B7, ⟨B7.put 1 v, (N.ra.kpx kA fun i h1 h0 => N.ne i h1 h0).kp kB hr1, by rw [List.replicate_succ']; exact o.kp kB hr1, (N.rc.kp kA fun i ht _ hs => absurd (ht.uniq (N.rb.te hs).1) (by decide)).kp kB hr2, h.len, fun x hx => ?_, fun i hi hi1 => ?_⟩⟩
  · exact ((N.by' x hx).kp kA fun i _ ht hs => absurd (Te.uniq ht (N.rb.te hs).1) (by decide)).kp kB fun i _ ht => hr3 i ht
  · rcases p with p | p
    · exact N.ne i hi (p.symm.trans hi1)
    · rw [p] at hi1
      have := (N.ra.te hi).1.lt
      have e : W.heap.size = i := Option.some.inj hi1
      omega
theorem NI.s2 (h : NI base g k0 k1 k2 v0 v1 v2 vs w) (K : Kp No w W) (o : Rv w' base 4 v (List.replicate k2 (.bool false) ++ [.bool false])) (k : W.grownBy w' v2.ownBlock) :
    Kp (fun i => v2.ownBlock = some i) W w' ∧ Blk w' g 54 #[v0, v1, v2, .int .i64 (-1)] ∧ NI base g k0 k1 (k2 + 1) v0 v1 v vs (w'.setCell ⟨g, 2, none⟩ v) := by
  have N := h.kp0 K
  have kA : Kp (fun i => v2.ownBlock = some i) W w' := (Kp.refl _ W).grown k fun k hk => .inl hk
  have hg : ¬ v2.ownBlock = some g := fun e => absurd ((N.rc.te e).1.uniq N.hd.te) (by decide)
  have B7 := N.hd.kp kA hg
  have kB := Kp.set1 g 2 w' v
  have hr1 : ∀ i, Te w' 36 i → base ≤ i → ¬ Only g i := fun i ht _ e => absurd (ht.uniq (show Te w' 54 i from (show i = g from e) ▸ B7.te)) (by decide)
  have hr2 : ∀ i, Te w' 4 i → base ≤ i → ¬ Only g i := fun i ht _ e => absurd (ht.uniq (show Te w' 54 i from (show i = g from e) ▸ B7.te)) (by decide)
  have hr3 : ∀ i, Te w' 5 i → ¬ Only g i := fun i ht e => absurd (ht.uniq (show Te w' 54 i from (show i = g from e) ▸ B7.te)) (by decide)
  refine ⟨kA, B7, ⟨B7.put 2 v, (N.ra.kp kA fun i ht _ hs => absurd (ht.uniq (N.rc.te hs).1) (by decide)).kp kB hr1, (N.rb.kp kA fun i ht _ hs => absurd (ht.uniq (N.rc.te hs).1) (by decide)).kp kB hr1, by rw [List.replicate_succ']; exact o.kp kB hr2, h.len, fun x hx => ?_, h.ne⟩⟩
  exact ((N.by' x hx).kp kA fun i _ ht hs => absurd (Te.uniq ht (N.rc.te hs).1) (by decide)).kp kB fun i _ ht => hr3 i ht
end

set_option maxRecDepth 100000 in
set_option maxHeartbeats 1000000 in
theorem rnew_any (n : Nat) (hn : n ≤ 512) (w : World) : Calls Tryz.prog 7 #[.int .i64 (n : Int)] w fun e w' => ∃ g v0 v1 v2 vs, e = .returned (.pointer (some ⟨g, 0, none⟩)) ∧ w.heap.size ≤ g ∧ NI w.heap.size g n n n v0 v1 v2 vs w' ∧ Kp No w w' := by
  go_enter Tryz.func7, Tryz.ntmps7
  go_wp2_with fail
  have N0 := hid (show NI w.heap.size w.heap.size 0 0 0 (.slice none 0 0) (.slice none 0 0) (.slice none 0 0) [] (w.alloc (.cells #[.slice none 0 0, .slice none 0 0, .slice none 0 0, .int .i64 (-1)] 54)) from
    ⟨Blk.new w _ _, Rv.nil _ _ _, Rv.nil _ _ _, Rv.nil _ _ _, rfl, fun v hv => (by cases hv), fun i hi => (by cases hi)⟩)
  go_loopw [4] (fun i wr => ∃ k : Nat, k ≤ n ∧ i = .int .i64 (k : Int) ∧ Hid (∃ v0 v1 v2 vs, NI w.heap.size w.heap.size k k k v0 v1 v2 vs wr) ∧ Hid (Kp No w wr)) (fun i _ => n - (intOf i).toNat)
  case atStart => exact ⟨0, Nat.zero_le _, rfl, hid ⟨_, _, _, _, N0.out⟩, hid ((Kp.refl No w).alloc _)⟩
  case round =>
    obtain ⟨k, hk, rfl, HN, KR⟩ := hrel
    clear N0
    obtain ⟨v0, v1, v2, vs, hni⟩ := HN.out
    have N1 := hid hni
    have hl0 := (hni.ra.formN hni.len)
    obtain ⟨A0, c0, rfl⟩ := hl0
    obtain ⟨A1, c1, rfl⟩ := hni.rb.formN (n := k) (by simp)
    obtain ⟨A2, c2, rfl⟩ := hni.rc.formN (n := k) (by simp)
    clear hni HN
    have hsum := wrapI (x := (k : Int) + 1) (by unfold I64; omega)
    by_cases hkn : k < n
    · have hk1 : (k : Int) < (n : Int) := by omega
      have hk2 : (k : Int) < 512 := by omega
      obtain ⟨cs, hmk, hmo⟩ := made_run (P := Tryz.prog) isU8 wr
      have K6 := hid (((Kp.refl No wr).alloc (.cells cs 5)).alloc (.cells #[.slice (some ⟨wr.heap.size, 0, none⟩) 64 64] 36)).drew
      have O6 := hid (show Own ((wr.alloc (.cells cs 5)).alloc (.cells #[.slice (some ⟨wr.heap.size, 0, none⟩) 64 64] 36)).drew wr.heap.size 5 (.slice (some ⟨wr.heap.size, 0, none⟩) 64 64) zs from (show Own (wr.alloc (.cells cs 5)) wr.heap.size 5 (.slice (some ⟨wr.heap.size, 0, none⟩) 64 64) zs from hmo).alloc _)
      have cq : ((wr.alloc (.cells cs 5)).alloc (.cells #[.slice (some ⟨wr.heap.size, 0, none⟩) 64 64] 36)).drew.cell? ⟨wr.heap.size + 1, 0, none⟩ = some (.slice (some ⟨wr.heap.size, 0, none⟩) 64 64) := by
        simp
      have cb4 := N1.out.hd.cell 0
      simp only [List.getElem?_toArray, List.getElem?_cons_zero] at cb4
      have cb5 := (N1.out.kp0 ((Kp.refl No wr).alloc (.cells cs 5))).hd.cell 0
      simp only [List.getElem?_toArray, List.getElem?_cons_zero] at cb5
      have cb6 := (N1.out.kp0 (((Kp.refl No wr).alloc (.cells cs 5)).alloc (.cells #[.slice (some ⟨wr.heap.size, 0, none⟩) 64 64] 36))).hd.cell 0
      simp only [List.getElem?_toArray, List.getElem?_cons_zero] at cb6
      clear hmo
      go_wp2_with fail
      go_region_law (first
        | (refine step_row1 usB (by rfl) (.tmp 20) (.tmp 22) (by rfl) (base := w.heap.size) (by rfl) (by exact (N1.out.kp0 K6.out).ra) (by rfl) (by exact cq) (by rfl) (by rw [N1.out.len]; omega) (by rw [N1.out.len]; simp [maxLen]; omega) (by exact (KR.out.trans (K6.out.all)).size) ?_
           intro v7 w7 o7 k7 p7
           obtain ⟨k8, b8, n8⟩ := N1.out.s0 K6.out (O6.out.byu (Q := fun i => w.heap.size ≤ i) fun i hi => by have := KR.out.size; omega) o7 k7 p7
           obtain ⟨A7, c7, rfl⟩ := o7.formN (n := k + 1) (by rw [List.length_append, N1.out.len]; rfl)
           have cc0 := b8.cell 0
           have ff0 := b8.frozen 0
           simp only [List.getElem?_toArray, List.getElem?_cons_zero] at cc0
           have K8 := hid ((KR.out.trans K6.out).step k8 fun i hi hs => by have := ((N1.out.kp0 K6.out).ra.te hs).2; omega)
           have N8 := hid n8
           clear o7 k7 p7 k8 b8 n8))
      all_goals
        have K9 := hid (K8.out.setCell (p := ⟨w.heap.size, 0, none⟩) (.inr (Nat.le_refl _)) (.slice A7 (k + 1) c7))
        generalize w7.setCell ⟨w.heap.size, 0, none⟩ (.slice A7 (k + 1) c7) = w9 at N8 K9 ⊢
        have q1 := N8.out.hd.cell 1
        simp only [List.getElem?_toArray, List.getElem?_cons_zero, List.getElem?_cons_succ] at q1
        clear cc0 ff0 cb4 cb5 cb6 cq hmk
        go_wp2_with (first
          | (at_builtin
             refine wp_row2 usB rfl (.tmp 30) (.tmp 31) rfl (y := .slice none 0 0) (by exact (N8.out.kp0 ((Kp.refl No w9).alloc (.cells #[.slice none 0 0] 36))).rb) rfl (by exact (Blk.new w9 36 #[.slice none 0 0]).cell 0) rfl (by simp; omega) (by simp [maxLen]; omega) (by exact (K9.out.alloc _).size) ?_
             intro v10 w10 o10 k10 p10
             obtain ⟨k11, b11, n11⟩ := N8.out.s1 ((Kp.refl No w9).alloc (.cells #[.slice none 0 0] 36)) o10 k10 p10
             obtain ⟨A10, c10, rfl⟩ := o10.formN (n := k + 1) (by simp)
             have cc1 := b11.cell 1
             have ff1 := b11.frozen 1
             simp only [List.getElem?_toArray, List.getElem?_cons_zero, List.getElem?_cons_succ] at cc1
             have K11 := hid ((K9.out.alloc (.cells #[.slice none 0 0] 36)).step k11 fun i hi hs => by have := ((N8.out.kp0 ((Kp.refl No w9).alloc (.cells #[.slice none 0 0] 36))).rb.te hs).2; omega)
             have N11 := hid n11
             have K12 := hid (K11.out.setCell (p := ⟨w.heap.size, 1, none⟩) (.inr (Nat.le_refl _)) (.slice A10 (k + 1) c10))
             have q2 := N11.out.hd.cell 2
             simp only [List.getElem?_toArray, List.getElem?_cons_zero, List.getElem?_cons_succ] at q2
             have hsz : (w10.setCell ⟨w.heap.size, 1, none⟩ (.slice A10 (k + 1) c10)).heap.size = w10.heap.size := by simp [World.setCell]
             have cqb : ((w10.setCell ⟨w.heap.size, 1, none⟩ (.slice A10 (k + 1) c10)).alloc (.cells #[.bool false] 4)).cell? ⟨w10.heap.size, 0, none⟩ = some (.bool false) := by
               rw [← hsz]
               exact (Blk.new _ _ #[.bool false]).cell 0
             clear o10 k10 p10 k11 b11 n11 hsz)
          | (at_builtin
             refine wp_row2 (q := w10.heap.size) usZ rfl (.tmp 39) (.tmp 40) rfl (y := .bool false) (by exact (N11.out.kp0 ((Kp.refl No _).alloc (.cells #[.bool false] 4))).rc) rfl (by exact cqb) rfl (by simp; omega) (by simp [maxLen]; omega) (by exact (K12.out.alloc _).size) ?_
             intro v13 w13 o13 k13 p13
             obtain ⟨k14, b14, n14⟩ := N11.out.s2 ((Kp.refl No _).alloc (.cells #[.bool false] 4)) o13 k13
             obtain ⟨A13, c13, rfl⟩ := o13.formN (n := k + 1) (by simp)
             have cc2 := b14.cell 2
             have ff2 := b14.frozen 2
             simp only [List.getElem?_toArray, List.getElem?_cons_zero, List.getElem?_cons_succ] at cc2
             have K14 := hid ((K12.out.alloc (.cells #[.bool false] 4)).step k14 fun i hi hs => by have := ((N11.out.kp0 ((Kp.refl No _).alloc (.cells #[.bool false] 4))).rc.te hs).2; omega)
             have N14 := hid n14
             have K15 := hid (K14.out.setCell (p := ⟨w.heap.size, 2, none⟩) (.inr (Nat.le_refl _)) (.slice A13 (k + 1) c13))
             clear o13 k13 p13 k14 b14 n14))
        go_roundw
        case rel => exact ⟨k + 1, by omega, by go_num, hid ⟨_, _, _, _, N14.out⟩, K15⟩
        case measure => simp [intOf]; omega
    · have hkn2 : k = n := by omega
      subst hkn2
      go_wp2
      go_ret
      exact ⟨_, _, _, _, _, rfl, Nat.le_refl _, N1.out, KR.out⟩
end Go.Proofs.YtgfkbkonelphaaaGreatDoor

/-
  The document's new disk, as the plain thing; contracts: Half, Head of the document's store.
-/
namespace Go.Proofs.YtgfkbkonelphaaaGreatDoor
open Go.RowKit

theorem Rv.blk {w : World} {base : Nat} {e : TypeId} {v : Value} {vs : List Value} {n : Nat} (h : Rv w base e v vs) (hl : vs.length = n) (h0 : 0 < n) : ∃ g c cs, v = .slice (some ⟨g, 0, none⟩) n c ∧ n ≤ c ∧ c ≤ maxLen ∧ base ≤ g ∧ Blk w g e cs ∧ ∀ j, j < n → cs[j]? = some (vs.getD j undef) := by
  obtain ⟨g, c, hv, hc, hcell⟩ := h.spot hl h0
  rcases h.2 with ⟨h1, _⟩ | ⟨g', cap, cur, h1, hb, hg, hle, hcm, hs, ht⟩
  · rw [hv] at h1
    cases h1
  · have e1 := hv.symm.trans h1
    injection e1 with e1 e2 e3
    injection e1 with e1
    injection e1 with e1
    subst e1 e3
    have hB : Blk w g e cur := hg
    exact ⟨g, c, cur, hv, hc, hcm, hb, hB, fun j hj => by rw [← hB.cell]; exact hcell j hj⟩
section
variable {w w' : World} {P S Z : Nat → Prop} {base g kb wb ib n : Nat} {s : Ds} {v v0 v1 v2 : Value} {vs : List Value} {xs : List Int}
theorem NI.rdk (h : NI base g n n n v0 v1 v2 vs w) (hg : base ≤ g) (h0 : 0 < n) (hn : n ≤ 512) (hz : ∀ i, base ≤ i → ¬ Z i) : ∃ kb wb ib, Rdk Z w g kb wb ib n (dsN n) ∧ base ≤ kb ∧ base ≤ wb ∧ base ≤ ib := by
  obtain ⟨kb, ck, csk, rfl, a1, a2, bk, Bk, hk⟩ := h.ra.blk h.len h0
  obtain ⟨wb, cw, csw, rfl, a3, a4, bw, Bw, hw⟩ := h.rb.blk (n := n) (by simp) h0
  obtain ⟨ib, ci, csi, rfl, a5, a6, bi, Bi, hi⟩ := h.rc.blk (n := n) (by simp) h0
  unfold maxLen at a2 a4 a6
  have n1 : g ≠ kb := fun e => absurd ((show Te w _ g from h.hd.te).uniq (show Te w _ g from e ▸ Bk.te)) (by decide)
  have n2 : g ≠ wb := fun e => absurd ((show Te w _ g from h.hd.te).uniq (show Te w _ g from e ▸ Bw.te)) (by decide)
  have n3 : g ≠ ib := fun e => absurd ((show Te w _ g from h.hd.te).uniq (show Te w _ g from e ▸ Bi.te)) (by decide)
  have n4 : kb ≠ wb := fun e => h.ne kb rfl (by rw [e]; rfl)
  have n5 : kb ≠ ib := fun e => absurd ((show Te w _ kb from Bk.te).uniq (show Te w _ kb from e ▸ Bi.te)) (by decide)
  have n6 : wb ≠ ib := fun e => absurd ((show Te w _ wb from Bw.te).uniq (show Te w _ wb from e ▸ Bi.te)) (by decide)
  have hnq : ∀ i, base ≤ i ∧ Tu w i → Nq Z g kb wb ib i := fun i hi => by
    obtain ⟨hib, ht⟩ := hi
    refine ⟨fun e => ?_, fun e => ?_, fun e => ?_, fun e => ?_, hz i hib⟩
    · exact absurd ((show Te w _ i from ht).uniq (show Te w _ i from e ▸ h.hd.te)) (by decide)
    · exact absurd ((show Te w _ i from ht).uniq (show Te w _ i from e ▸ Bk.te)) (by decide)
    · exact absurd ((show Te w _ i from ht).uniq (show Te w _ i from e ▸ Bw.te)) (by decide)
    · exact absurd ((show Te w _ i from ht).uniq (show Te w _ i from e ▸ Bi.te)) (by decide)
  refine ⟨kb, wb, ib, ⟨⟨ck, cw, ci, a1, by omega, a3, by omega, a5, by omega, h.hd⟩, ⟨csk, Bk, fun j hj => ⟨_, hk j hj, ?_⟩⟩, ⟨csw, Bw, fun j hj => ⟨_, [], hw j hj, ?_, fun l' hl' => (by cases hl')⟩⟩, ⟨csi, Bi, fun j hj => ?_⟩, n1, n2, n3, n4, n5, n6, fun i hi => ?_, by simp [dsN], dsN_ok hn⟩, bk, bw, bi⟩
  · have hm : vs.getD j undef ∈ vs := by
      have hj' : j < vs.length := by rw [h.len]; exact hj
      rw [show vs.getD j undef = vs[j] by simp [List.getD, hj']]
      exact List.getElem_mem hj'
    have e : (dsN n).k.getD j [] = zs := by simp [dsN, List.getD, hj]
    rw [e]
    exact Byt.mono (h.by' _ hm) fun i _ hi => hnq i hi
  · rw [show (List.replicate n (Value.slice none 0 0)).getD j undef = .slice none 0 0 by simp [List.getD, hj]]
    exact Byt.nil _ _
  · rw [hi j hj]
    simp [List.getD, hj, dsN]
  · rcases hi with rfl | rfl | rfl | rfl
    · exact hz _ hg
    · exact hz _ bk
    · exact hz _ bw
    · exact hz _ bi
theorem rhalf_any (h : Rdk Z w g kb wb ib n s) (h4 : 4 ≤ n) : Calls Tryz.prog 22 #[.pointer (some ⟨g, 0, none⟩)] w fun e w' => e = .returned (.int .i64 (((n - 2) / 2 : Nat) : Int)) ∧ w' = w := by
  obtain ⟨ck, cw, ci, a1, a2, a3, a4, a5, a6, c0, _⟩ := h.cells
  have hlen : n ≤ 512 := by have := h.ok.len; rw [h.len] at this; exact this
  have hw1 := wrapI (x := (n : Int) - 2) (by unfold I64; omega)
  have hq : ((n : Int) - 2).tdiv 2 = (((n - 2) / 2 : Nat) : Int) := by rw [Int.tdiv_eq_ediv_of_nonneg (by omega)]; omega
  obtain ⟨hh, hhe⟩ : ∃ hh, (n - 2) / 2 = hh := ⟨_, rfl⟩
  rw [hhe] at hq ⊢
  have hw2 := wrapI (x := (hh : Int)) (by unfold I64; omega)
  clear h hhe
  go_enter Tryz.func22, Tryz.ntmps22
  go_wp2
  go_ret
  exact ⟨rfl, rfl⟩
end
end Go.Proofs.YtgfkbkonelphaaaGreatDoor

/-
  Contract of the document's Head; append onto bytes that have no room.
-/
namespace Go.Proofs.YtgfkbkonelphaaaGreatDoor
open Go.RowKit

section
variable {P : Program}
theorem wp_app_full {t e : TypeId} (u : U8 P t e) {ops : Array Oper} {rest : List Oper} {o : Oper} {a : Act} {w : World} {Q : Exit → Act → World → Prop} (hw : Region.wanted o (yielded ops a.tmps) = true) (s x : Operand)
    (ho : o.op = .call { callee := .builtin .append, args := #[s, x], argTypes := #[t, t] }) {base q n : Nat} {xs ys : List Int} {Pb : Nat → Prop}
    (hs : a.eval s = .slice (some ⟨q, 0, none⟩) n n) (hl : xs.length = n) (hcell : ∀ j, j < n → w.cell? ⟨q, j, none⟩ = some (.int .u8 (xs.getD j 0))) (hb : ∀ z ∈ xs, 0 ≤ z ∧ z ≤ 255)
    (hx : Byt w Pb (a.eval x) ys) (h0 : 0 < ys.length) (hle : xs.length + ys.length ≤ 100000) (hbase : base ≤ w.heap.size)
    (h : ∀ v' w', Own w' base e v' (xs ++ ys) → Kp No w w' → wpList P ops Q rest (a.put o.dst v') w') : wpList P ops Q (o :: rest) a w := by
  refine BigFrame.wpList_want hw fun K hK => ?_
  obtain ⟨i, hi, hz, hsz, hby⟩ := info_parts u.info
  obtain ⟨A, c, he, hc, hm, hys, hr⟩ := hx
  obtain ⟨b, of, rfl, _, _, hbc⟩ := hr h0
  have hrun := run_append_grow (P := P) w t o.type e i (.int .u8 0) u.un hi hz ⟨q, 0, none⟩ n n (xs.map (Value.int .u8)) (by rw [hsz, List.length_map, hl]; omega) (fun j v hv => by
    have hj : j < xs.length := by simpa using (List.getElem?_eq_some_iff.1 hv).1
    have ha : (⟨q, 0, none⟩ : Addr).add j = ⟨q, j, none⟩ := by unfold Addr.add; split <;> simp_all
    rw [ha, hcell j (by omega), ← hv]
    simp [List.getElem?_map, List.getElem?_eq_getElem hj, List.getD]) ⟨b, of, none⟩ ys.length c (ys.map (Value.int .u8)) (by rw [hsz, List.length_map]; omega) (fun j v hv => by
    have hj : j < ys.length := by simpa using (List.getElem?_eq_some_iff.1 hv).1
    have ha : (⟨b, of, none⟩ : Addr).add j = ⟨b, of + j, none⟩ := by unfold Addr.add; split <;> simp_all
    rw [ha, hbc j hj, ← hv]
    simp [List.getElem?_map, List.getElem?_eq_getElem hj, List.getD]) (by omega) (by omega) (by
      rw [hby]
      have := nextslicecap_le (need := n + ys.length) (old := n) (by omega)
      omega)
  unfold Oper.wp execOp
  simp only [ho, resolve, invoke, builtin, Sem.run_bind, Sem.run_pure, Result.andThen_ok, List.map_toArray, List.map_cons, List.map_nil, hs, he, hrun]
  have hge := grownCap_ge w (n + ys.length) n e
  have hcm : grownCap w (n + ys.length) n e ≤ maxLen := grownCap_le_maxLen w (n + ys.length) n e (by unfold maxLen; omega)
  refine hK _ _ (h _ _ ⟨⟨by simp, .inr ⟨w.heap.size, _, _, by simp [hl], hbase, heap_alloc_new w.drew _, by simpa [hl] using hge, hcm, ?_, ?_⟩⟩, fun z hz => ?_⟩ ((Kp.refl No w).drew.alloc _))
  · simp only [Array.size_append, List.size_toArray, List.length_map, size_zeroCells, Value.cells, List.length_cons, List.length_nil, hl]
    omega
  · simp only [Array.toList_append, zero_cells, List.append_assoc]
    rw [← List.append_assoc, ← List.map_append]
    exact List.take_left' (by simp)
  · rcases List.mem_append.1 hz with hz | hz
    · exact hb z hz
    · exact hys z hz
end
set_option maxRecDepth 100000 in
set_option maxHeartbeats 1000000 in
theorem rhead_any {P : Nat → Prop} {w : World} {v : Value} {img : List Int} (a : Nat) (has : Bool) (ha : a ≤ 1099511627776) (hl : img.length ≤ 16384) (hv : Byt w P v img) :
    Calls Tryz.prog 34 #[.int .i64 (a : Int), .bool has, v] w fun e w' => ∃ u, e = .returned u ∧ Own w' w.heap.size 5 u (hsec a has img) ∧ Kp No w w' := by
  obtain ⟨A, c, rfl, _⟩ := id hv
  have HV := hid hv
  obtain ⟨n, hn⟩ : ∃ n, img.length = n := ⟨_, rfl⟩
  have HN := hid hn
  rw [hn] at HV hl ⊢
  clear hv hn
  have wa : IntKind.u64.wrap (a : Int) = (a : Int) := by rw [IntKind.wrap_u64]; omega
  have wn : IntKind.u64.wrap (n : Int) = (n : Int) := by rw [IntKind.wrap_u64]; omega
  have kc := Lib.run_convert_bytes_const (P := Tryz.prog) w 36 5 #[.int .u8 68, .int .u8 80, .int .u8 90, .int .u8 83] 4 4 (by kernel_rfl) (by kernel_rfl)
  go_enter Tryz.func34, Tryz.ntmps34
  go_wp2_with fail
  have W1 := hid (((Kp.refl No w).alloc (.cells #[.int .u8 68, .int .u8 80, .int .u8 90, .int .u8 83] 5 (4, 5))))
  have hcells : ∀ j, j < 4 → (w.alloc (.cells #[.int .u8 68, .int .u8 80, .int .u8 90, .int .u8 83] 5 (4, 5))).cell? ⟨w.heap.size, j, none⟩ = some (.int .u8 (([68, 80, 90, 83] : List Int).getD j 0)) := fun j hj => by
    obtain ⟨A', c', e', _, _, _, hr'⟩ := lit_byt (P := Anyb) w 5 (4, 5) trivial [68, 80, 90, 83] (by decide) (by simp)
    cases e'
    obtain ⟨b, o, e2, _, _, hc⟩ := hr' (by decide)
    cases e2
    have := hc j hj
    rw [Nat.zero_add] at this
    exact this
  generalize w.alloc (.cells #[.int .u8 68, .int .u8 80, .int .u8 90, .int .u8 83] 5 (4, 5)) = w1 at W1 hcells ⊢
  have hsz1 : w.heap.size < w1.heap.size := World.block_lt_of_cell? w1 _ (hcells 0 (by omega))
  have HC1 := hid hcells
  clear hcells kc
  refine (digits_any (a : Int) 8 w1 (by omega)).mono ?_
  rintro e w2 ⟨u2, rfl, o2, k2⟩
  rw [show hw 8 = 8 from rfl] at o2
  obtain ⟨A2, c2, rfl⟩ := o2.formN (n := 8) (dg_len 8 _)
  have W2 := hid (W1.out.trans k2)
  have HC2 := hid (show ∀ j, j < 4 → w2.cell? ⟨w.heap.size, j, none⟩ = some (.int .u8 (([68, 80, 90, 83] : List Int).getD j 0)) from fun j hj => (k2.cell (p := ⟨w.heap.size, j, none⟩) hsz1 fun h => h).trans (HC1.out j hj))
  have B2 := hid (o2.byt (P := Anyb) fun _ _ => trivial)
  clear o2 k2 HC1
  have HB0 := hid (show ∀ z ∈ ([68, 80, 90, 83] : List Int), 0 ≤ z ∧ z ≤ 255 by decide)
  have hk := ck_lt img
  obtain ⟨k, hkk⟩ : ∃ k, (if has then ck img else 0) = k := ⟨_, rfl⟩
  have hk2 : k < 4294967296 := by rw [← hkk]; split <;> omega
  obtain ⟨fl, hfl⟩ : ∃ fl : Int, (if has then 1 else 0) = fl := ⟨_, rfl⟩
  have hfl2 : 0 ≤ fl ∧ fl ≤ 255 := by rw [← hfl]; split <;> omega
  have wk : IntKind.u64.wrap (k : Int) = (k : Int) := by rw [IntKind.wrap_u64]; omega
  have HCO := hid (show [68, 80, 90, 83] ++ dg (a : Int) 8 ++ [fl] ++ dg (n : Int) 4 ++ dg (k : Int) 4 = hcore a has img by unfold hcore; rw [hfl, hkk, HN.out])
  clear hk
  cases has with
  | false =>
    have e1 : fl = 0 := by rw [← hfl]; rfl
    have e2 : k = 0 := by rw [← hkk]; rfl
    clear hkk hfl
    subst e1 e2
    go_wp2_with (first
      | (at_builtin
         refine wp_app_full isU8 rfl (.tmp 11) (.tmp 14) rfl (base := w.heap.size) (xs := [68, 80, 90, 83]) (ys := dg (a : Int) 8) (by rfl) rfl (by exact HC2.out) HB0.out (by exact B2.out) (by rw [dg_len]; omega) (by rw [dg_len]; simp) (by exact W2.out.size) ?_
         intro v3 w3 o3 k3
         have W3 := hid (W2.out.trans k3)
         have V3 := hid (HV.out.kp0 W3.out)
         have O3 := hid o3
         clear o3 k3 HC2 B2)
      | (go_at_call 54
         refine (refof_any _ _ w3 V3.out).mono ?_
         rintro e w3' ⟨rfl, rfl⟩)
      | (at_builtin
         refine wp_app isU8 rfl (.tmp 19) (.tmp 21) rfl (base := w.heap.size) (xs := [68, 80, 90, 83] ++ dg (a : Int) 8) (ys := [0]) (by exact O3.out.alloc _) (by exact Byt.one (P := Anyb) _ _ _ (by omega) trivial) (by rw [List.length_append, dg_len]; simp) (by exact (W3.out.alloc _).size) ?_
         intro v4 w4 o4 k4
         have W4 := hid ((W3.out.alloc (.cells #[.int .u8 0] 5)).step k4 fun j hj h => absurd hj (Nat.not_lt.2 h))
         have O4 := hid o4
         clear o4 k4)
      | (go_at_call 53
         with_reducible refine (digits_any (n : Int) 4 w4 (by omega)).mono ?_
         rintro e w5 ⟨u5, rfl, o5, k5⟩
         rw [show hw 4 = 4 from rfl] at o5
         have W5 := hid (W4.out.trans k5)
         have O5 := hid (O4.out.kp k5 fun _ _ h => h)
         have B5 := hid (o5.byt (P := Anyb) fun _ _ => trivial)
         clear o5 k5)
      | (at_builtin
         refine wp_app isU8 rfl (.tmp 23) (.tmp 27) rfl (base := w.heap.size) (xs := [68, 80, 90, 83] ++ dg (a : Int) 8 ++ [0]) (ys := dg (n : Int) 4) (by exact O5.out) (by exact B5.out) (by simp [dg_len]) (by exact W5.out.size) ?_
         intro v6 w6 o6 k6
         have W6 := hid (W5.out.step k6 fun j hj h => absurd hj (Nat.not_lt.2 h))
         have O6 := hid o6
         clear o6 k6)
      | (go_at_call 53
         with_reducible refine (digits_any (0 : Int) 4 w6 (by omega)).mono ?_
         rintro e w7 ⟨u7, rfl, o7, k7⟩
         rw [show hw 4 = 4 from rfl] at o7
         have W7 := hid (W6.out.trans k7)
         have O7 := hid (O6.out.kp k7 fun _ _ h => h)
         have B7 := hid (o7.byt (P := Anyb) fun _ _ => trivial)
         clear o7 k7)
      | (at_builtin
         refine wp_app isU8 rfl (.tmp 29) (.tmp 32) rfl (base := w.heap.size) (xs := [68, 80, 90, 83] ++ dg (a : Int) 8 ++ [0] ++ dg (n : Int) 4) (ys := dg (0 : Int) 4) (by exact O7.out) (by exact B7.out) (by simp [dg_len]) (by exact W7.out.size) ?_
         intro v8 w8 o8 k8
         have W8 := hid (W7.out.step k8 fun j hj h => absurd hj (Nat.not_lt.2 h))
         have o8' : Own w8 w.heap.size 5 v8 (hcore a false img) := by rw [← HCO.out]; exact o8
         have O8 := hid o8'
         have B8 := hid (o8'.byt (P := Anyb) fun _ _ => trivial)
         clear o8 k8 o8')
      | (go_at_call 54
         refine (refof_any _ _ w8 B8.out).mono ?_
         rintro e w8' ⟨rfl, rfl⟩
         have wq : IntKind.u64.wrap (ck (hcore a false img) : Int) = (ck (hcore a false img) : Int) := by have := ck_lt (hcore a false img); rw [IntKind.wrap_u64]; omega)
      | (go_at_call 53
         with_reducible refine (digits_any (ck (hcore a false img) : Int) 4 w8 (by have := ck_lt (hcore a false img); omega)).mono ?_
         rintro e w9 ⟨u9, rfl, o9, k9⟩
         rw [show hw 4 = 4 from rfl] at o9
         have W9 := hid (W8.out.trans k9)
         have O9 := hid (O8.out.kp k9 fun _ _ h => h)
         have B9 := hid (o9.byt (P := Anyb) fun _ _ => trivial)
         clear o9 k9)
      | (at_builtin
         refine wp_app isU8 rfl (.tmp 34) (.tmp 38) rfl (base := w.heap.size) (xs := hcore a false img) (ys := ck4 (hcore a false img)) (by exact O9.out) (by exact B9.out) (by rw [hcore_len, ck4_len]; omega) (by exact W9.out.size) ?_
         intro v10 w10 o10 k10
         have W10 := hid (W9.out.step k10 fun j hj h => absurd hj (Nat.not_lt.2 h))
         have O10 := hid (show Own w10 w.heap.size 5 v10 (hhead a false img ++ List.replicate 0 0) by rw [List.replicate_zero, List.append_nil]; exact o10)
         clear o10 k10))
    go_loopw [7] (fun u wr => ∃ m : Nat, m ≤ 39 ∧ Own wr w.heap.size 5 u (hhead a false img ++ List.replicate m 0) ∧ Kp No w wr) (fun u _ => 64 - lenOf u)
    case atStart => exact ⟨0, by omega, O10.out, W10.out⟩
    case round =>
      obtain ⟨m, hm, hown, hkp⟩ := hrel
      clear O10 W10
      obtain ⟨A3, c3, rfl⟩ := hown.formN (n := 25 + m) (by rw [List.length_append, hhead_len, List.length_replicate])
      have OW := hid hown
      have KW := hid hkp
      clear hown hkp
      by_cases hm64 : m < 39
      · have g1 : (25 : Int) + (m : Int) < 64 := by omega
        have g2 : ((25 + m : Nat) : Int) < 64 := by omega
        go_wp2_with (first
          | (at_builtin
             refine wp_app isU8 rfl (.tmp 43) (.tmp 44) rfl (base := w.heap.size) (xs := hhead a false img ++ List.replicate m 0) (ys := [0]) (by exact OW.out.alloc _) (by exact Byt.one (P := Anyb) _ _ _ (by omega) trivial) (by rw [List.length_append, hhead_len, List.length_replicate]; simp; omega) (by exact (KW.out.alloc _).size) ?_
             intro v14 w14 o14 k14
             have K14 := hid ((KW.out.alloc (.cells #[.int .u8 0] 5)).step k14 fun j hj h => absurd hj (Nat.not_lt.2 h))
             have o4' : Own w14 w.heap.size 5 v14 (hhead a false img ++ List.replicate (m + 1) 0) := by
               rw [List.append_assoc] at o14
               rw [List.replicate_succ']
               exact o14
             have O14 := hid o4'
             obtain ⟨A5, c5, rfl⟩ := o4'.formN (n := 25 + m + 1) (by rw [List.length_append, hhead_len, List.length_replicate]; omega)
             clear o14 k14 o4'))
        go_roundw
        case rel => exact ⟨m + 1, by omega, O14.out, K14.out⟩
        case measure => simp [lenOf]; omega
      · have hmm : m = 39 := by omega
        subst hmm
        have g2 : ¬ ((25 + 39 : Nat) : Int) < 64 := by omega
        go_wp2
        go_ret
        exact ⟨_, rfl, OW.out, KW.out⟩
  | true =>
    have e1 : fl = 1 := by rw [← hfl]; rfl
    have e2 : k = ck img := by rw [← hkk]; rfl
    clear hkk hfl
    subst e1 e2
    go_wp2_with (first
      | (at_builtin
         refine wp_app_full isU8 rfl (.tmp 11) (.tmp 14) rfl (base := w.heap.size) (xs := [68, 80, 90, 83]) (ys := dg (a : Int) 8) (by rfl) rfl (by exact HC2.out) HB0.out (by exact B2.out) (by rw [dg_len]; omega) (by rw [dg_len]; simp) (by exact W2.out.size) ?_
         intro v3 w3 o3 k3
         have W3 := hid (W2.out.trans k3)
         have V3 := hid (HV.out.kp0 W3.out)
         have O3 := hid o3
         clear o3 k3 HC2 B2)
      | (go_at_call 54
         refine (refof_any _ _ w3 V3.out).mono ?_
         rintro e w3' ⟨rfl, rfl⟩)
      | (at_builtin
         refine wp_app isU8 rfl (.tmp 19) (.tmp 21) rfl (base := w.heap.size) (xs := [68, 80, 90, 83] ++ dg (a : Int) 8) (ys := [1]) (by exact O3.out.alloc _) (by exact Byt.one (P := Anyb) _ _ _ (by omega) trivial) (by rw [List.length_append, dg_len]; simp) (by exact (W3.out.alloc _).size) ?_
         intro v4 w4 o4 k4
         have W4 := hid ((W3.out.alloc (.cells #[.int .u8 1] 5)).step k4 fun j hj h => absurd hj (Nat.not_lt.2 h))
         have O4 := hid o4
         clear o4 k4)
      | (go_at_call 53
         with_reducible refine (digits_any (n : Int) 4 w4 (by omega)).mono ?_
         rintro e w5 ⟨u5, rfl, o5, k5⟩
         rw [show hw 4 = 4 from rfl] at o5
         have W5 := hid (W4.out.trans k5)
         have O5 := hid (O4.out.kp k5 fun _ _ h => h)
         have B5 := hid (o5.byt (P := Anyb) fun _ _ => trivial)
         clear o5 k5)
      | (at_builtin
         refine wp_app isU8 rfl (.tmp 23) (.tmp 27) rfl (base := w.heap.size) (xs := [68, 80, 90, 83] ++ dg (a : Int) 8 ++ [1]) (ys := dg (n : Int) 4) (by exact O5.out) (by exact B5.out) (by simp [dg_len]) (by exact W5.out.size) ?_
         intro v6 w6 o6 k6
         have W6 := hid (W5.out.step k6 fun j hj h => absurd hj (Nat.not_lt.2 h))
         have O6 := hid o6
         clear o6 k6)
      | (go_at_call 53
         with_reducible refine (digits_any (ck img : Int) 4 w6 (by omega)).mono ?_
         rintro e w7 ⟨u7, rfl, o7, k7⟩
         rw [show hw 4 = 4 from rfl] at o7
         have W7 := hid (W6.out.trans k7)
         have O7 := hid (O6.out.kp k7 fun _ _ h => h)
         have B7 := hid (o7.byt (P := Anyb) fun _ _ => trivial)
         clear o7 k7)
      | (at_builtin
         refine wp_app isU8 rfl (.tmp 29) (.tmp 32) rfl (base := w.heap.size) (xs := [68, 80, 90, 83] ++ dg (a : Int) 8 ++ [1] ++ dg (n : Int) 4) (ys := dg (ck img : Int) 4) (by exact O7.out) (by exact B7.out) (by simp [dg_len]) (by exact W7.out.size) ?_
         intro v8 w8 o8 k8
         have W8 := hid (W7.out.step k8 fun j hj h => absurd hj (Nat.not_lt.2 h))
         have o8' : Own w8 w.heap.size 5 v8 (hcore a true img) := by rw [← HCO.out]; exact o8
         have O8 := hid o8'
         have B8 := hid (o8'.byt (P := Anyb) fun _ _ => trivial)
         clear o8 k8 o8')
      | (go_at_call 54
         refine (refof_any _ _ w8 B8.out).mono ?_
         rintro e w8' ⟨rfl, rfl⟩
         have wq : IntKind.u64.wrap (ck (hcore a true img) : Int) = (ck (hcore a true img) : Int) := by have := ck_lt (hcore a true img); rw [IntKind.wrap_u64]; omega)
      | (go_at_call 53
         with_reducible refine (digits_any (ck (hcore a true img) : Int) 4 w8 (by have := ck_lt (hcore a true img); omega)).mono ?_
         rintro e w9 ⟨u9, rfl, o9, k9⟩
         rw [show hw 4 = 4 from rfl] at o9
         have W9 := hid (W8.out.trans k9)
         have O9 := hid (O8.out.kp k9 fun _ _ h => h)
         have B9 := hid (o9.byt (P := Anyb) fun _ _ => trivial)
         clear o9 k9)
      | (at_builtin
         refine wp_app isU8 rfl (.tmp 34) (.tmp 38) rfl (base := w.heap.size) (xs := hcore a true img) (ys := ck4 (hcore a true img)) (by exact O9.out) (by exact B9.out) (by rw [hcore_len, ck4_len]; omega) (by exact W9.out.size) ?_
         intro v10 w10 o10 k10
         have W10 := hid (W9.out.step k10 fun j hj h => absurd hj (Nat.not_lt.2 h))
         have O10 := hid (show Own w10 w.heap.size 5 v10 (hhead a true img ++ List.replicate 0 0) by rw [List.replicate_zero, List.append_nil]; exact o10)
         clear o10 k10))
    go_loopw [7] (fun u wr => ∃ m : Nat, m ≤ 39 ∧ Own wr w.heap.size 5 u (hhead a true img ++ List.replicate m 0) ∧ Kp No w wr) (fun u _ => 64 - lenOf u)
    case atStart => exact ⟨0, by omega, O10.out, W10.out⟩
    case round =>
      obtain ⟨m, hm, hown, hkp⟩ := hrel
      clear O10 W10
      obtain ⟨A3, c3, rfl⟩ := hown.formN (n := 25 + m) (by rw [List.length_append, hhead_len, List.length_replicate])
      have OW := hid hown
      have KW := hid hkp
      clear hown hkp
      by_cases hm64 : m < 39
      · have g1 : (25 : Int) + (m : Int) < 64 := by omega
        have g2 : ((25 + m : Nat) : Int) < 64 := by omega
        go_wp2_with (first
          | (at_builtin
             refine wp_app isU8 rfl (.tmp 43) (.tmp 44) rfl (base := w.heap.size) (xs := hhead a true img ++ List.replicate m 0) (ys := [0]) (by exact OW.out.alloc _) (by exact Byt.one (P := Anyb) _ _ _ (by omega) trivial) (by rw [List.length_append, hhead_len, List.length_replicate]; simp; omega) (by exact (KW.out.alloc _).size) ?_
             intro v14 w14 o14 k14
             have K14 := hid ((KW.out.alloc (.cells #[.int .u8 0] 5)).step k14 fun j hj h => absurd hj (Nat.not_lt.2 h))
             have o4' : Own w14 w.heap.size 5 v14 (hhead a true img ++ List.replicate (m + 1) 0) := by
               rw [List.append_assoc] at o14
               rw [List.replicate_succ']
               exact o14
             have O14 := hid o4'
             obtain ⟨A5, c5, rfl⟩ := o4'.formN (n := 25 + m + 1) (by rw [List.length_append, hhead_len, List.length_replicate]; omega)
             clear o14 k14 o4'))
        go_roundw
        case rel => exact ⟨m + 1, by omega, O14.out, K14.out⟩
        case measure => simp [lenOf]; omega
      · have hmm : m = 39 := by omega
        subst hmm
        have g2 : ¬ ((25 + 39 : Nat) : Int) < 64 := by omega
        go_wp2
        go_ret
        exact ⟨_, rfl, OW.out, KW.out⟩
end Go.Proofs.YtgfkbkonelphaaaGreatDoor

/-
  Contracts of the document's store: seal, Commit, Delete.
-/
namespace Go.Proofs.YtgfkbkonelphaaaGreatDoor
open Go.RowKit

/-- The document's store at q, over its disk: age, whether there is an image, the image. -/
structure Rst (Z : Nat → Prop) (w : World) (q g kb wb ib n a : Nat) (has : Bool) (img : List Int) : Prop where
  hd : ∃ iv, Blk w q 47 #[.pointer (some ⟨g, 0, none⟩), .int .i64 (a : Int), .bool has, iv] ∧ Byt w (Nq Z g kb wb ib) iv img
  age : a ≤ 1099511627776
  len : img.length ≤ 64 * ((n - 2) / 2)
  no : has = false → img = []
  qn : ¬ RB g kb wb ib q
  qz : Z q
section
variable {w w' : World} {P S Z : Nat → Prop} {q g kb wb ib n a : Nat} {s : Ds} {has : Bool} {img : List Int} {v : Value}
theorem Rst.kp (h : Rst Z w q g kb wb ib n a has img) (k : Kp S w w') (h1 : ¬ S q) (h2 : ∀ i, Nq Z g kb wb ib i → ¬ S i) : Rst Z w' q g kb wb ib n a has img := by
  obtain ⟨iv, hb, hy⟩ := h.hd
  exact ⟨⟨iv, hb.kp k h1, hy.kp k h2⟩, h.age, h.len, h.no, h.qn, h.qz⟩
theorem Rst.kp0 (h : Rst Z w q g kb wb ib n a has img) (k : Kp No w w') : Rst Z w' q g kb wb ib n a has img := h.kp k (fun h => h) fun _ _ h => h
/-- What the disk does leaves it. -/
theorem Rst.kpd (h : Rst Z w q g kb wb ib n a has img) (k : Kp (RB g kb wb ib) w w') : Rst Z w' q g kb wb ib n a has img := h.kp k h.qn fun i hi e => by rcases e with e | e | e | e; exact hi.1 e; exact hi.2.1 e; exact hi.2.2.1 e; exact hi.2.2.2.1 e
/-- A block that is new is one where the disk's bytes never lie. -/
theorem Rdk.more (h : Rdk Z w g kb wb ib n s) (k : Kp No w w') (hq : w.heap.size ≤ q) : Rdk (fun i => Z i ∨ i = q) w' g kb wb ib n s := by
  have h' := h.kp0 k
  obtain ⟨_, _, _, _, _, _, _, _, _, l1⟩ := h.hd
  obtain ⟨csk, l2, hk⟩ := h.kc
  obtain ⟨csw, l3, hw⟩ := h.wc
  obtain ⟨csi, l4, hi⟩ := h.ic
  have g1 := l1.lt
  have g2 := l2.lt
  have g3 := l3.lt
  have g4 := l4.lt
  refine ⟨h'.hd, ⟨csk, l2.kp k fun h => h, fun j hj => ?_⟩, ⟨csw, l3.kp k fun h => h, fun j hj => ?_⟩, h'.ic, h.gk, h.gw, h.gi, h.kw, h.ki, h.wi, fun i hi e => ?_, h.len, h.ok⟩
  · obtain ⟨v, hv, hy⟩ := hk j hj
    exact ⟨v, hv, (hy.mono fun i hl hi => ⟨hi.1, hi.2.1, hi.2.2.1, hi.2.2.2.1, fun e => e.elim hi.2.2.2.2 fun e => by omega⟩).kp k fun _ _ h => h⟩
  · obtain ⟨v, l, hv, hy, hl⟩ := hw j hj
    exact ⟨v, l, hv, (hy.mono fun i hl hi => ⟨hi.1, hi.2.1, hi.2.2.1, hi.2.2.2.1, fun e => e.elim hi.2.2.2.2 fun e => by omega⟩).kp k fun _ _ h => h, hl⟩
  · rcases e with e | e
    · exact h.zs i hi e
    · rcases hi with hi | hi | hi | hi <;> omega
end
section
variable {w w' : World} {P S Z : Nat → Prop} {g kb wb ib n : Nat} {s : Ds} {v : Value} {xs : List Int}
theorem rwrite_st (h : Rdk Z w g kb wb ib n s) {i : Nat} (hi : i < n) (hv : Byt w P v xs) (hP : ¬ P g) (hl : xs.length ≤ 64) (hz : ∀ j, w.heap.size ≤ j → ¬ Z j) :
    Calls Tryz.prog 38 #[.pointer (some ⟨g, 0, none⟩), .int .i64 (i : Int), v] w fun e w' => e = .returned (.int .i64 (cod (wr1 s i xs).2)) ∧ Kp (RB g kb wb ib) w w' ∧ Rdk Z w' g kb wb ib n (wr1 s i xs).1 := by
  unfold wr1
  cases ho : off s with
  | true => exact (rwrite_off h ho _ _).mono fun e w' ⟨he, k, d⟩ => ⟨he, k.mono fun _ _ e => .inl e, d⟩
  | false => exact (rwrite_is h ho hi hv hP hl hz).mono fun e w' ⟨he, k, d⟩ => ⟨he, k, d⟩
theorem rflush_st (h : Rdk Z w g kb wb ib n s) : Calls Tryz.prog 39 #[.pointer (some ⟨g, 0, none⟩)] w fun e w' => e = .returned (.int .i64 (cod (fls s).2)) ∧ Kp (RB g kb wb ib) w w' ∧ Rdk Z w' g kb wb ib n (fls s).1 := by
  unfold fls
  cases ho : off s with
  | true => exact (rflush_off h ho).mono fun e w' ⟨he, k, d⟩ => ⟨he, k.mono fun _ _ e => .inl e, d⟩
  | false => exact (rflush_is h ho).mono fun e w' ⟨he, k, d⟩ => ⟨he, k, d⟩
end
/-- What is sealed. -/
def SePost (Z : Nat → Prop) (q g kb wb ib n a : Nat) (h0 has : Bool) (img I : List Int) (w : World) (p : Ds × Bool) (e : Ending) (w' : World) : Prop :=
  e = .returned (.int .i64 (cod p.2)) ∧ Kp (fun i => RB g kb wb ib i ∨ i = q) w w' ∧ Rdk Z w' g kb wb ib n p.1 ∧ (if p.2 then Rst Z w' q g kb wb ib n (a + 1) has I else Rst Z w' q g kb wb ib n a h0 img)
set_option maxRecDepth 100000 in
set_option maxHeartbeats 2000000 in
theorem rseal_any {w : World} {P Z : Nat → Prop} {q g kb wb ib n a : Nat} {s : Ds} {has h0 : Bool} {img I : List Int} {v : Value} (h : Rdk Z w g kb wb ib n s) (hs : Rst Z w q g kb wb ib n a h0 img) (h4 : 4 ≤ n) (hz : ∀ j, w.heap.size ≤ j → ¬ Z j) (hv : Byt w P v I) (hP : ∀ i, RB g kb wb ib i ∨ i = q → ¬ P i) (ha : a + 1 ≤ 1099511627776) (hI : I.length ≤ 64 * ((n - 2) / 2)) (hno : has = false → I = []) :
    Calls Tryz.prog 40 #[.pointer (some ⟨q, 0, none⟩), .bool has, v] w (SePost Z q g kb wb ib n a h0 has img I w (sealD s (a + 1) has I)) := by
  obtain ⟨iv, hb, hy⟩ := hs.hd
  have hlen : n ≤ 512 := by have := h.ok.len; rw [h.len] at this; exact this
  have HCC := hid (show ∀ w', Kp (RB g kb wb ib) w w' → w'.cell? ⟨q, 0, none⟩ = some (.pointer (some ⟨g, 0, none⟩)) ∧ w'.cell? ⟨q, 1, none⟩ = some (.int .i64 (a : Int)) from fun w' k => ⟨(hb.kp k hs.qn).cell 0, (hb.kp k hs.qn).cell 1⟩)
  obtain ⟨c0, c1⟩ := HCC.out _ (Kp.refl _ w)
  obtain ⟨c0', c1'⟩ := HCC.out _ (Kp.refl _ w).drew
  obtain ⟨A, c, rfl, _⟩ := id hv
  have HD := hid h
  have HS := hid hs
  have HV := hid hv
  have HZ := hid hz
  have HP := hid hP
  obtain ⟨nI, hnI⟩ : ∃ nI, I.length = nI := ⟨_, rfl⟩
  have HNI := hid hnI
  have HGL := hid (show g < w.heap.size from by obtain ⟨_, _, _, _, _, _, _, _, _, hbg⟩ := h.hd; exact hbg.lt)
  rw [hnI] at HV hI ⊢
  clear h hb hy hv hs hz hP hnI
  obtain ⟨a2, ha2⟩ : ∃ a2, a + 1 = a2 := ⟨_, rfl⟩
  have HA2 := hid ha2
  rw [ha2] at ha ⊢
  have hw1 : IntKind.i64.wrap ((a : Int) + 1) = (a2 : Int) := by rw [wrapI (by unfold I64; omega)]; omega
  obtain ⟨m, hm⟩ : ∃ m, a2 % 2 = m := ⟨_, rfl⟩
  have hm2 : (a2 : Int).tmod 2 = (m : Int) := by rw [Int.tmod_eq_emod_of_nonneg (by omega)]; omega
  have hwm := wrapI (x := (m : Int)) (by unfold I64; omega)
  have hmn : m < n := by omega
  have HM := hid hm
  clear ha2 hm
  have HE := hid (sealD_eq s a2 has I)
  obtain ⟨p1, hp1⟩ : ∃ p1, wr1 s m (hsec a2 has I) = p1 := ⟨_, rfl⟩
  have HP1 := hid hp1
  rw [HM.out, hp1] at HE
  clear hp1
  go_enter Tryz.func40, Tryz.ntmps40
  go_upto_region 1 with fail
  go_cut [7] from 9 to 27 (fun x wx => x = .int .i64 (cod p1.2) ∧ Hid (Kp (RB g kb wb ib) w wx ∧ Rdk Z wx g kb wb ib n p1.1))
  case first =>
    go_region_with (first
      | (go_at_call 34
         refine (rhead_any (P := P) a2 has ha (by rw [HNI.out]; omega) (HV.out.kp0 (Kp.refl No w).drew)).mono ?_
         rintro e w2 ⟨u, rfl, o2, k2⟩
         have K2 := hid ((Kp.refl No w).drew.trans k2)
         have B2 := hid (o2.byt (P := fun i => w.heap.size ≤ i) fun i hi => hi)
         obtain ⟨y0, y1⟩ := HCC.out _ K2.out.all
         clear o2 k2)
      | (go_at_call 38
         refine (rwrite_st (HD.out.kp0 K2.out) hmn B2.out (by have := HGL.out; omega) (by rw [hsec_len]; omega) (fun j hj => HZ.out j (by have := K2.out.size; omega))).mono ?_
         rintro e w3 ⟨rfl, k3, d3⟩
         rw [HP1.out] at d3 ⊢
         have F5 := hid (show Kp (RB g kb wb ib) w w3 ∧ Rdk Z w3 g kb wb ib n p1.1 from ⟨K2.out.all.trans k3, d3⟩)
         clear k3 d3))
    all_goals
      go_wp2_with fail
      go_meet
      exact ⟨rfl, F5⟩
  case rest =>
    obtain ⟨rfl, HW⟩ := hcut
    obtain ⟨pd, pb⟩ := p1
    simp only at HW HE ⊢
    have KW := hid (show Kp (RB g kb wb ib) w wc from HW.out.1)
    have DW := hid (show Rdk Z wc g kb wb ib n pd from HW.out.2)
    have SW := hid (HS.out.kpd KW.out)
    have VW := hid (HV.out.kp KW.out fun i hi e => HP.out i (.inl e) hi)
    obtain ⟨x0, x1⟩ := HCC.out _ KW.out
    clear c0 c1 c0' c1'
    cases pb with
    | false =>
      have e1 : ((19 : Int) != 0) = true := rfl
      rw [show cod false = 19 from rfl]
      have HR := hid (show SePost Z q g kb wb ib n a h0 has img I w (sealD s a2 has I) (.returned (.int .i64 19)) wc by
        rw [HE.out]
        exact ⟨rfl, KW.out.mono fun _ _ h => .inl h, DW.out, SW.out⟩)
      go_wp2
      go_ret
      exact HR.out
    | true =>
      rw [show cod true = 0 from rfl]
      have HFl := hid (show sealD s a2 has I = fls pd from HE.out)
      obtain ⟨⟨fd, fb⟩, hf⟩ : ∃ p, fls pd = p := ⟨_, rfl⟩
      have HFd := hid hf
      have e0 : ((0 : Int) != 0) = false := rfl
      clear hf
      go_upto_region 5 with (first
        | (go_at_call 39
           refine (rflush_st DW.out).mono ?_
           rintro e w6 ⟨rfl, k6, d6⟩
           rw [HFd.out] at d6 ⊢
           have K6 := hid (KW.out.trans k6)
           have D6 := hid (show Rdk Z w6 g kb wb ib n fd from d6)
           have S6 := hid (SW.out.kpd k6)
           have V6 := hid (VW.out.kp k6 fun i hi e => HP.out i (.inl e) hi)
           clear k6 d6 x0 x1))
      cases fb with
      | false =>
        have e1 : ((19 : Int) != 0) = true := rfl
        rw [show cod false = 19 from rfl]
        have HR := hid (show SePost Z q g kb wb ib n a h0 has img I w (sealD s a2 has I) (.returned (.int .i64 19)) w6 by
          rw [HFl.out, HFd.out]
          exact ⟨rfl, K6.out.mono fun _ _ h => .inl h, D6.out, S6.out⟩)
        go_wp2
        go_ret
        exact HR.out
      | true =>
        rw [show cod true = 0 from rfl]
        obtain ⟨iv0, hb0, _⟩ := S6.out.hd
        have c1 : w6.cell? ⟨q, 1, none⟩ = some (.int .i64 (a : Int)) := hb0.cell 1
        have c2 : w6.cell? ⟨q, 2, none⟩ = some (.bool h0) := hb0.cell 2
        have z1 := hb0.frozen 1
        have z2 := hb0.frozen 2
        have B8 := hid ((hb0.put 1 (.int .i64 (a2 : Int))).put 2 (.bool has))
        have L8 := hid (((Kp.refl (Only q) w6).setCell (p := ⟨q, 1, none⟩) (.inl rfl) (.int .i64 (a2 : Int))).setCell (p := ⟨q, 2, none⟩) (.inl rfl) (.bool has))
        have hqz : ∀ i, RB g kb wb ib i → i ≠ q := fun i hi e => S6.out.qn (e ▸ hi)
        clear hb0
        go_upto_region 9 with fail
        generalize (w6.setCell ⟨q, 1, none⟩ (.int .i64 (a2 : Int))).setCell ⟨q, 2, none⟩ (.bool has) = w8 at B8 L8 ⊢
        clear c1 c2 z1 z2
        go_wp2_with (first
          | (at_builtin
             refine wp_app isU8 rfl (.tmp 51) (.tmp 52) rfl (base := w8.heap.size) (xs := []) (ys := I) (by exact Own.mt _ _) (by exact (V6.out.kp L8.out fun i hi e => HP.out i (.inr e) hi).kp0 ((Kp.refl _ _).alloc _)) (by rw [HNI.out]; simp; omega) (by simp) ?_
             intro v9 w9 o9 k9
             rw [List.nil_append] at o9
             have L9 := hid (((Kp.refl No w8).alloc (.cells #[] 5)).step k9 fun j hj h => absurd hj (Nat.not_lt.2 h))
             have B9 := hid (B8.out.kp L9.out fun h => h)
             obtain ⟨A9, c9, rfl⟩ := o9.formN HNI.out
             have O9 := hid o9
             have c3 : w9.cell? ⟨q, 3, none⟩ = some iv0 := B9.out.cell 3
             have z3 := B9.out.frozen 3
             clear o9 k9))
        have LA := hid ((L8.out.trans L9.out.all).setCell (p := ⟨q, 3, none⟩) (.inl rfl) (.slice A9 nI c9))
        have BA := hid (B9.out.put 3 (.slice A9 nI c9))
        have kA := Kp.set1 q 3 w9 (.slice A9 nI c9)
        have hql := B9.out.lt
        have hq6 := S6.out.hd.choose_spec.1.lt
        have OA := hid (O9.out.kp kA fun i hi e => by have : i = q := e; have := L8.out.size; omega)
        have HR := hid (show SePost Z q g kb wb ib n a h0 has img I w (sealD s a2 has I) (.returned (.int .i64 0)) (w9.setCell ⟨q, 3, none⟩ (.slice A9 nI c9)) by
          rw [HFl.out, HFd.out]
          have hsz := K6.out.size
          have hs8 := L8.out.size
          refine ⟨rfl, (K6.out.mono fun _ _ h => .inl h).trans (LA.out.mono fun _ _ h => .inr h), D6.out.kp LA.out (fun i hi e => hqz i hi e) (fun i hi e => hi.2.2.2.2 (by have : i = q := e; rw [this]; exact S6.out.qz)), ?_⟩
          rw [if_pos rfl]
          exact ⟨⟨_, by rw [HA2.out]; exact BA.out, Byt.mono (OA.out.byt (P := fun i => w8.heap.size ≤ i) fun i hi => hi) fun i _ hi => by
              obtain ⟨_, _, _, _, _, _, _, _, _, l1⟩ := HD.out.hd
              obtain ⟨_, l2, _⟩ := HD.out.kc
              obtain ⟨_, l3, _⟩ := HD.out.wc
              obtain ⟨_, l4, _⟩ := HD.out.ic
              have := l1.lt
              have := l2.lt
              have := l3.lt
              have := l4.lt
              exact ⟨by omega, by omega, by omega, by omega, HZ.out i (by omega)⟩⟩, by have := HA2.out; omega, by rw [HNI.out]; exact hI, hno, S6.out.qn, S6.out.qz⟩)
        clear kA
        go_ret
        exact HR.out
end Go.Proofs.YtgfkbkonelphaaaGreatDoor

/-
  Contract of the document's Delete.
-/
namespace Go.Proofs.YtgfkbkonelphaaaGreatDoor
open Go.RowKit

/-- What a step leaves: the answer, the disk, what the store has. -/
def RcPost (Z : Nat → Prop) (q g kb wb ib n : Nat) (w : World) (x : Int × Ds × (Nat × Bool × List Int)) (e : Ending) (w' : World) : Prop :=
  e = .returned (.int .i64 x.1) ∧ Kp (fun i => RB g kb wb ib i ∨ i = q) w w' ∧ Rdk Z w' g kb wb ib n x.2.1 ∧ Rst Z w' q g kb wb ib n x.2.2.1 x.2.2.2.1 x.2.2.2.2
set_option maxRecDepth 100000 in
set_option maxHeartbeats 1000000 in
theorem rdelete_any {w : World} {Z : Nat → Prop} {q g kb wb ib n a : Nat} {s : Ds} {has : Bool} {img : List Int} (h : Rdk Z w g kb wb ib n s) (hs : Rst Z w q g kb wb ib n a has img) (h4 : 4 ≤ n) (hz : ∀ j, w.heap.size ≤ j → ¬ Z j) :
    Calls Tryz.prog 13 #[.pointer (some ⟨q, 0, none⟩)] w (RcPost Z q g kb wb ib n w (delR s (a, has, img))) := by
  obtain ⟨iv, hb, hy⟩ := hs.hd
  have c1 : w.cell? ⟨q, 1, none⟩ = some (.int .i64 (a : Int)) := hb.cell 1
  have c2 : w.cell? ⟨q, 2, none⟩ = some (.bool has) := hb.cell 2
  have ha := hs.age
  have HD := hid h
  have HS := hid hs
  have HZ := hid hz
  clear h hb hy hs hz
  cases has with
  | false =>
    have HR := hid (show RcPost Z q g kb wb ib n w (delR s (a, false, img)) (.returned (.int .i64 8)) w from ⟨rfl, Kp.refl _ _, HD.out, HS.out⟩)
    go_enter Tryz.func13, Tryz.ntmps13
    go_wp2
    go_ret
    exact HR.out
  | true =>
    by_cases hm : a = 1099511627776
    · subst hm
      have HR := hid (show RcPost Z q g kb wb ib n w (delR s (1099511627776, true, img)) (.returned (.int .i64 (delR s (1099511627776, true, img)).1)) w by
        have e : (delR s (1099511627776, true, img)).2 = (s, (1099511627776, true, img)) := by simp [delR]
        refine ⟨rfl, Kp.refl _ _, ?_, ?_⟩
        · rw [e]; exact HD.out
        · rw [e]; exact HS.out)
      have e1 : (delR s (1099511627776, true, img)).1 = 6 := by simp [delR]
      rw [e1] at HR
      go_enter Tryz.func13, Tryz.ntmps13
      go_wp2
      go_ret
      exact HR.out
    · have g1 : ¬ (a : Int) = 1099511627776 := by omega
      have g2 : ((a : Int) == 1099511627776) = false := by simp; omega
      go_enter Tryz.func13, Tryz.ntmps13
      go_wp2_with fail
      refine (rseal_any (P := No) (I := []) (has := false) HD.out HS.out h4 HZ.out (Byt.nil _ _) (fun _ _ h => h) (by omega) (by simp) (fun _ => rfl)).mono ?_
      intro e w2 hp
      obtain ⟨p, hpe⟩ : ∃ p, sealD s (a + 1) false [] = p := ⟨_, rfl⟩
      rw [hpe] at hp
      obtain ⟨rfl, k2, d2, s2⟩ := hp
      have HR := hid (show RcPost Z q g kb wb ib n w (delR s (a, true, img)) (.returned (.int .i64 (cod p.2))) w2 by
        have e : delR s (a, true, img) = (cod p.2, p.1, if p.2 then (a + 1, false, []) else (a, true, img)) := by
          unfold delR
          simp only [hm, if_false, hpe]
          cases p.2 <;> rfl
        rw [e]
        refine ⟨rfl, k2, d2, ?_⟩
        cases hpb : p.2 with
        | false => rw [hpb] at s2; exact s2
        | true => rw [hpb] at s2; exact s2)
      clear k2 d2 s2
      go_wp2
      go_ret
      exact HR.out
end Go.Proofs.YtgfkbkonelphaaaGreatDoor

/-
  Contract of the document's Commit.
-/
namespace Go.Proofs.YtgfkbkonelphaaaGreatDoor
open Go.RowKit

section
variable {w : World} {P Z : Nat → Prop} {q g kb wb ib n a : Nat} {s : Ds} {has : Bool} {img I : List Int} {v : Value}
/-- Its I-th part. -/
theorem Byt.bit {b o N c k e : Nat} {xs : List Int} (h : Byt w P (.slice (some ⟨b, o, none⟩) N c) xs) (hl : xs.length = N) (hk : k ≤ e) (he : e ≤ N) (h64 : e = k + 64 ∨ e = N ∧ N ≤ k + 64) : Byt w P (.slice (some ⟨b, o + k, none⟩) (e - k) (c - k)) ((xs.drop k).take 64) := by
  have h1 := h.part (i := k) (m := e - k) (by omega)
  have e2 : (xs.drop k).take (e - k) = (xs.drop k).take 64 := by
    rcases h64 with h | ⟨h, h'⟩
    · rw [h, Nat.add_sub_cancel_left]
    · rw [List.take_of_length_le (by rw [List.length_drop]; omega), List.take_of_length_le (by rw [List.length_drop]; omega)]
  rw [e2] at h1
  exact h1
set_option maxRecDepth 100000 in
set_option maxHeartbeats 4000000 in
theorem rcommit_any (h : Rdk Z w g kb wb ib n s) (hs : Rst Z w q g kb wb ib n a has img) (h4 : 4 ≤ n) (hz : ∀ j, w.heap.size ≤ j → ¬ Z j) (hv : Byt w P v I) (hP : ∀ i, RB g kb wb ib i ∨ i = q → ¬ P i) (hI : I.length ≤ 100000) :
    Calls Tryz.prog 11 #[.pointer (some ⟨q, 0, none⟩), v] w (RcPost Z q g kb wb ib n w (comR s ((n - 2) / 2) (a, has, img) I)) := by
  obtain ⟨iv, hb, hy⟩ := hs.hd
  have hlen : n ≤ 512 := by have := h.ok.len; rw [h.len] at this; exact this
  have HCC := hid (show ∀ w', Kp (RB g kb wb ib) w w' → w'.cell? ⟨q, 0, none⟩ = some (.pointer (some ⟨g, 0, none⟩)) ∧ w'.cell? ⟨q, 1, none⟩ = some (.int .i64 (a : Int)) from fun w' k => ⟨(hb.kp k hs.qn).cell 0, (hb.kp k hs.qn).cell 1⟩)
  obtain ⟨c0, c1⟩ := HCC.out _ (Kp.refl _ w)
  have ha := hs.age
  obtain ⟨A, c, rfl, hvc, hvm, _, _⟩ := id hv
  have HD := hid h
  have HS := hid hs
  have HV := hid hv
  have HZ := hid hz
  have HP := hid hP
  obtain ⟨hh, hhe⟩ : ∃ hh, (n - 2) / 2 = hh := ⟨_, rfl⟩
  have HHH := hid hhe
  have h2n : 2 + 2 * hh ≤ n := by omega
  obtain ⟨nI, hnI⟩ : ∃ nI, I.length = nI := ⟨_, rfl⟩
  have HNI := hid hnI
  have HGL := hid (show g < w.heap.size from by obtain ⟨_, _, _, _, _, _, _, _, _, hbg⟩ := h.hd; exact hbg.lt)
  rw [hnI] at hvc hI HV ⊢
  rw [hhe]
  have hw0 := wrapI (x := 64 * (hh : Int)) (by unfold I64; omega)
  clear h hb hy hv hs hz hP hhe
  by_cases hl : 64 * hh < nI
  · have HR := hid (show comR s hh (a, has, img) I = (22, s, a, has, img) by unfold comR; rw [if_pos (by rw [HNI.out]; exact hl)])
    have g1 : 64 * (hh : Int) < (nI : Int) := by omega
    clear hnI
    go_enter Tryz.func11, Tryz.ntmps11
    go_wp2_with (first
      | (go_at_call 22
         refine (rhalf_any HD.out h4).mono ?_
         rintro e w ⟨rfl, rfl⟩
         rw [HHH.out]))
    go_ret
    unfold RcPost
    rw [HR.out]
    exact ⟨rfl, Kp.refl _ _, HD.out, HS.out⟩
  have g1 : ¬ 64 * (hh : Int) < (nI : Int) := by omega
  by_cases h40 : a = 1099511627776
  · subst h40
    have HR := hid (show comR s hh (1099511627776, has, img) I = (6, s, 1099511627776, has, img) by unfold comR; rw [if_neg (by rw [HNI.out]; exact hl), if_pos rfl])
    have e1 : (((1099511627776 : Nat) : Int) == 1099511627776) = true := by decide
    clear hnI
    go_enter Tryz.func11, Tryz.ntmps11
    go_wp2_with (first
      | (go_at_call 22
         refine (rhalf_any HD.out h4).mono ?_
         rintro e w ⟨rfl, rfl⟩
         rw [HHH.out]))
    go_ret
    unfold RcPost
    rw [HR.out]
    exact ⟨rfl, Kp.refl _ _, HD.out, HS.out⟩
  have e40 : ((a : Int) == 1099511627776) = false := by rw [beq_eq_false_iff_ne]; omega
  obtain ⟨a2, ha2⟩ : ∃ a2, a + 1 = a2 := ⟨_, rfl⟩
  have HA2 := hid ha2
  have hwa : IntKind.i64.wrap ((a : Int) + 1) = (a2 : Int) := by rw [wrapI (by unfold I64; omega)]; omega
  obtain ⟨m, hm⟩ : ∃ m, a2 % 2 = m := ⟨_, rfl⟩
  have hm2 : (a2 : Int).tmod 2 = (m : Int) := by rw [Int.tmod_eq_emod_of_nonneg (by omega)]; omega
  have hwm := wrapI (x := (m : Int)) (by unfold I64; omega)
  have hmlt : m < 2 := by omega
  have hmh : m * hh ≤ hh := by rcases (show m = 0 ∨ m = 1 by omega) with rfl | rfl <;> omega
  obtain ⟨mh, hmhe⟩ : ∃ x, m * hh = x := ⟨_, rfl⟩
  have hwmul : IntKind.i64.wrap ((m : Int) * (hh : Int)) = (mh : Int) := by
    have e : (m : Int) * (hh : Int) = (mh : Int) := by rw [← hmhe]; simp
    rw [e]
    exact wrapI (by unfold I64; omega)
  obtain ⟨bg, hbg⟩ : ∃ x, 2 + mh = x := ⟨_, rfl⟩
  have hwbg : IntKind.i64.wrap (2 + (mh : Int)) = (bg : Int) := by rw [wrapI (by unfold I64; omega)]; omega
  have hbn : bg + hh ≤ n := by omega
  obtain ⟨ps, hps⟩ : ∃ ps, parts I = ps := ⟨_, rfl⟩
  have HPS := hid hps
  have HPA := hid (show ∀ k, 64 * k < nI → ps[k]? = some ((I.drop (64 * k)).take 64) from fun k hk => by rw [← hps]; exact parts_at (by rw [hnI]; exact hk))
  obtain ⟨np, hnp⟩ : ∃ np, ps.length = np := ⟨_, rfl⟩
  have hnp2 : np = (nI + 63) / 64 := by rw [← hnp, ← hps, parts_len, hnI]
  have HNP := hid hnp
  have HR := hid (show comR s hh (a, has, img) I = (cod (comD s hh a2 I).2, (comD s hh a2 I).1, pick (comD s hh a2 I).2 (a2, true, I) (a, has, img)) by
    unfold comR
    rw [if_neg (by rw [hnI]; exact hl), if_neg (by exact h40), ← ha2])
  have HCD := hid (show comD s hh a2 I = andThen (andThen (wrs s bg ps) fls) fun t => sealD t a2 true I by
    unfold comD
    rw [hps, hm, hmhe, hbg])
  rw [hmhe] at hmh
  have K0 := hid (Kp.refl (RB g kb wb ib) w)
  have D0 := hid (show Rdk Z w g kb wb ib n (wrs s bg (ps.take 0)).1 from HD.out)
  have B0 := hid (show (wrs s bg (ps.take 0)).2 = true from rfl)
  clear hnI hm hmhe ha2 hbg hps hnp
  go_enter Tryz.func11, Tryz.ntmps11
  go_wp2_with (first
    | (go_at_call 22
       refine (rhalf_any HD.out h4).mono ?_
       rintro e w ⟨rfl, rfl⟩
       rw [HHH.out]))
  go_loopw [5] (fun i wr => ∃ k : Nat, k ≤ np ∧ i = .int .i64 (k : Int) ∧ Hid (Kp (RB g kb wb ib) w wr) ∧ Hid (Rdk Z wr g kb wb ib n (wrs s bg (ps.take k)).1) ∧ Hid ((wrs s bg (ps.take k)).2 = true)) (fun i _ => np - (intOf i).toNat)
  case atStart => exact ⟨0, Nat.zero_le _, rfl, K0, D0, B0⟩
  case round =>
    obtain ⟨k, hk, rfl, KP, DR, OKR⟩ := hrel
    clear K0 D0 B0 c0 c1
    obtain ⟨c0, c1⟩ := HCC.out _ KP.out
    have hwk := wrapI (x := 64 * (k : Int)) (by unfold I64; omega)
    by_cases hkn : k < np
    · have g2 : 64 * (k : Int) < (nI : Int) := by omega
      obtain ⟨k4, hk4⟩ : ∃ k4, 64 * k = k4 := ⟨_, rfl⟩
      have hwk' : IntKind.i64.wrap (64 * (k : Int)) = (k4 : Int) := by rw [hwk]; omega
      have hwk64 := wrapI (x := (k4 : Int) + 64) (by unfold I64; omega)
      have g3 : (k4 : Int) < (nI : Int) := by omega
      have hpk := HPA.out k (by omega)
      rw [hk4] at hpk
      obtain ⟨bk, hbk⟩ : ∃ bk, bg + k = bk := ⟨_, rfl⟩
      have hwbk : IntKind.i64.wrap ((bg : Int) + (k : Int)) = (bk : Int) := by rw [wrapI (by unfold I64; omega)]; omega
      have hwk1 := wrapI (x := (k : Int) + 1) (by unfold I64; omega)
      have hbkn : bk < n := by omega
      have HBK := hid hbk
      obtain ⟨b, o, hA, _, _, _⟩ : ∃ b o, A = some ⟨b, o, none⟩ ∧ b < w.heap.size ∧ P b ∧ True := by
        obtain ⟨A', c', he, _, _, _, hr⟩ := HV.out
        obtain ⟨b, o, h1, h2, h3, _⟩ := hr (by rw [HNI.out]; omega)
        injection he with e1 _ _
        exact ⟨b, o, e1.trans h1, h2, h3, trivial⟩
      subst hA
      have ps1 : ps.take (k + 1) = ps.take k ++ [(I.drop k4).take 64] := by rw [List.take_add_one, hpk]; rfl
      have hlt3 : (ps.take k).length = k := by rw [List.length_take, HNP.out]; omega
      have hsn := wrs_snoc (ps.take k) s bg ((I.drop k4).take 64)
      rw [OKR.out, if_pos rfl, hlt3, ← ps1, hbk] at hsn
      have hp64 : ((I.drop k4).take 64).length ≤ 64 := by rw [List.length_take]; omega
      have HST := hid (show (wrs s bg (ps.take (k + 1))).2 = false → wrs s bg ps = wrs s bg (ps.take (k + 1)) from fun h => by
        have := wrs_stop (ps.take (k + 1)) (ps.drop (k + 1)) s bg h
        rw [List.take_append_drop] at this
        exact this)
      obtain ⟨dk, hdk⟩ : ∃ dk, (wrs s bg (ps.take k)).1 = dk := ⟨_, rfl⟩
      rw [hdk] at hsn DR
      obtain ⟨⟨nd, nb⟩, hnw⟩ : ∃ p, wr1 dk bk ((I.drop k4).take 64) = p := ⟨_, rfl⟩
      have HNW := hid hnw
      have HSN := hid (hsn.trans hnw)
      have hgl := HGL.out
      have hsz := KP.out.size
      have HP64 := hid hp64
      have HK4 := hid hk4
      clear hsn hnw hdk ps1 hpk hlt3 hp64 hwk hk4 hbk
      have VB := fun e he1 he2 he3 => hid ((HV.out.kp KP.out fun i hi e => HP.out i (.inl e) hi).bit (k := k4) (e := e) HNI.out he1 he2 he3)
      obtain ⟨ek, hek1, hek2, hek3⟩ : ∃ ek : Nat, k4 ≤ ek ∧ ek ≤ nI ∧ (ek = k4 + 64 ∨ ek = nI ∧ nI ≤ k4 + 64) := by
        rcases Nat.le_total (k4 + 64) nI with h | h
        · exact ⟨k4 + 64, by omega, h, .inl rfl⟩
        · exact ⟨nI, by omega, Nat.le_refl _, .inr ⟨rfl, h⟩⟩
      have VV := VB ek hek1 hek2 hek3
      have q1 : (ek : Int) ≤ (c : Int) := by omega
      have q2 : (k4 : Int) ≤ (ek : Int) := by omega
      have q3 : (c = k4) = False := eq_false (by omega)
      have q4 : min (nI : Int) ((k4 : Int) + 64) = (ek : Int) := by omega
      clear VB hek3
      go_upto_region 8 with fail
      refine region_tail 29 (by kernel_rfl) (by kernel_rfl) ?_
      simp only [List.take_succ_cons, List.take_zero, List.drop_succ_cons, List.drop_zero]
      repeat (first | still_step | (still_call (by simpa only [HHH.out] using (rhalf_any (DR.out.kp0 (Kp.refl No _).drew) h4))))
      refine wpStill_nil ?_
      have D3 := hid (DR.out.kp0 (Kp.refl No wr).drew)
      have K3 := hid KP.out.drew
      have V3 := hid (VV.out.kp0 (Kp.refl No wr).drew)
      generalize wr.drew = w3 at D3 K3 V3 ⊢
      clear VV q4 q1 q2 c0 c1
      cases nb with
      | true =>
        go_wp2_with (first
          | (go_at_call 38
             refine (rwrite_st D3.out hbkn V3.out (fun e => HP.out _ (.inl (.inl rfl)) e) HP64.out (fun j hj => HZ.out j (by have := K3.out.size; omega))).mono ?_
             rintro e w6 ⟨rfl, k6, d6⟩
             rw [HNW.out] at d6 ⊢
             rw [show cod true = 0 from rfl]
             have e0 : ((0 : Int) != 0) = false := rfl
             have K6 := hid (K3.out.trans k6)
             have D6 := hid (show Rdk Z w6 g kb wb ib n (wrs s bg (ps.take (k + 1))).1 by rw [HSN.out]; exact d6)
             have B6 := hid (show (wrs s bg (ps.take (k + 1))).2 = true by rw [HSN.out])
             clear k6 d6))
        go_roundw
        case rel => exact ⟨k + 1, by omega, by go_num, K6, D6, B6⟩
        case measure => simp [intOf]; omega
      | false =>
        have HW := hid (show wrs s bg ps = (nd, false) by rw [HST.out (by rw [HSN.out]), HSN.out])
        go_wp2_with (first
          | (go_at_call 38
             refine (rwrite_st D3.out hbkn V3.out (fun e => HP.out _ (.inl (.inl rfl)) e) HP64.out (fun j hj => HZ.out j (by have := K3.out.size; omega))).mono ?_
             rintro e w6 ⟨rfl, k6, d6⟩
             rw [HNW.out] at d6 ⊢
             rw [show cod false = 19 from rfl]
             have e1 : ((19 : Int) != 0) = true := rfl
             have K6 := hid (K3.out.trans k6)
             have D6 := hid d6
             clear k6 d6))
        go_ret
        unfold RcPost
        rw [HR.out, HCD.out, HW.out]
        exact ⟨rfl, K6.out.mono fun _ _ h => .inl h, D6.out, HS.out.kpd K6.out⟩
    · have g2 : ¬ 64 * (k : Int) < (nI : Int) := by omega
      have hkk : k = np := by omega
      subst hkk
      rw [show ps.take k = ps by rw [← HNP.out, List.take_length]] at DR OKR
      obtain ⟨⟨pd, pb⟩, hp⟩ : ∃ p, wrs s bg ps = p := ⟨_, rfl⟩
      rw [hp] at DR OKR
      obtain rfl : pb = true := OKR.out
      have HPD := hid hp
      obtain ⟨⟨fd, fb⟩, hf⟩ : ∃ p, fls pd = p := ⟨_, rfl⟩
      have HFD := hid hf
      have HS1 := hid (HS.out.kpd KP.out)
      clear hp hf c1
      cases fb with
      | false =>
        have HW := hid (show comD s hh a2 I = (fd, false) by rw [HCD.out, HPD.out]; show andThen (fls pd) _ = _; rw [HFD.out]; rfl)
        go_wp2_with (first
          | (go_at_call 39
             refine (rflush_st DR.out).mono ?_
             rintro e w6 ⟨rfl, k6, d6⟩
             rw [HFD.out] at d6 ⊢
             rw [show cod false = 19 from rfl]
             have e1 : ((19 : Int) != 0) = true := rfl
             have K6 := hid (KP.out.trans k6)
             have D6 := hid d6
             clear k6 d6))
        go_ret
        unfold RcPost
        rw [HR.out, HW.out]
        exact ⟨rfl, K6.out.mono fun _ _ h => .inl h, D6.out, HS.out.kpd K6.out⟩
      | true =>
        have HW := hid (show comD s hh a2 I = sealD fd a2 true I by rw [HCD.out, HPD.out]; show andThen (fls pd) _ = _; rw [HFD.out]; rfl)
        obtain ⟨⟨sd, sb⟩, hse⟩ : ∃ p, sealD fd a2 true I = p := ⟨_, rfl⟩
        have HSE := hid hse
        have hroom := hl
        clear hse
        go_wp2_with (first
          | (go_at_call 39
             refine (rflush_st DR.out).mono ?_
             rintro e w6 ⟨rfl, k6, d6⟩
             rw [HFD.out] at d6 ⊢
             rw [show cod true = 0 from rfl]
             have e0 : ((0 : Int) != 0) = false := rfl
             have K6 := hid (KP.out.trans k6)
             have D6 := hid (show Rdk Z w6 g kb wb ib n fd from d6)
             clear k6 d6)
          | (go_at_call 40
             refine (rseal_any (P := P) (I := I) (has := true) D6.out (HS.out.kpd K6.out) h4 (fun j hj => HZ.out j (by have := K6.out.size; omega)) (by exact HV.out.kp K6.out fun i hi e => HP.out i (.inl e) hi) HP.out (by omega) (by rw [HNI.out, HHH.out]; omega) (fun h => by cases h)).mono ?_
             intro e w7 hp
             rw [HA2.out, HSE.out] at hp
             obtain ⟨rfl, k7, d7, s7⟩ := hp
             have K7 := hid ((K6.out.mono fun _ _ h => .inl h).trans k7)
             have D7 := hid d7
             have S7 := hid s7
             clear k7 d7 s7))
        go_ret
        unfold RcPost
        rw [HR.out, HW.out, HSE.out]
        refine ⟨rfl, K7.out, D7.out, ?_⟩
        have := S7.out
        cases sb with
        | false => exact this
        | true => rw [if_pos rfl, HA2.out] at this; exact this
end
end Go.Proofs.YtgfkbkonelphaaaGreatDoor

/-
  Contract of the document's slot.
-/
namespace Go.Proofs.YtgfkbkonelphaaaGreatDoor
open Go.RowKit

set_option maxRecDepth 100000 in
set_option maxHeartbeats 1000000 in
theorem rslot_any {w : World} {Z : Nat → Prop} {g kb wb ib n : Nat} {s : Ds} (h : Rdk Z w g kb wb ib n s) (ho : off s = false) (h4 : 4 ≤ n) {k many : Nat} (hk : k < 2) (hm : many ≤ 64 * ((n - 2) / 2)) :
    Calls Tryz.prog 32 #[.pointer (some ⟨g, 0, none⟩), .int .i64 (k : Int), .int .i64 (many : Int)] w fun e w' => ∃ u, e = .returned u ∧ Byt w' (fun i => w.heap.size ≤ i) u ((slotB (look s) ((n - 2) / 2) k).take many) ∧ Kp No w w' := by
  have hlen : n ≤ 512 := by have := h.ok.len; rw [h.len] at this; exact this
  have HD := hid h
  have HSec := hid (show ∀ j, j < n → (look s j).length = 64 from fun j hj => (look_sec h.ok (by rw [h.len]; exact hj)).len)
  obtain ⟨hh, hhe⟩ : ∃ hh, (n - 2) / 2 = hh := ⟨_, rfl⟩
  have HHH := hid hhe
  have h2n : 2 + 2 * hh ≤ n := by omega
  rw [hhe] at hm ⊢
  have hkh : k * hh ≤ hh := by rcases (show k = 0 ∨ k = 1 by omega) with rfl | rfl <;> omega
  obtain ⟨kh, hkhe⟩ : ∃ x, k * hh = x := ⟨_, rfl⟩
  have hwmul : IntKind.i64.wrap ((k : Int) * (hh : Int)) = (kh : Int) := by
    have e : (k : Int) * (hh : Int) = (kh : Int) := by rw [← hkhe]; simp
    rw [e]
    exact wrapI (by unfold I64; omega)
  obtain ⟨bg, hbg⟩ : ∃ x, 2 + kh = x := ⟨_, rfl⟩
  have hwbg : IntKind.i64.wrap (2 + (kh : Int)) = (bg : Int) := by rw [wrapI (by unfold I64; omega)]; omega
  have hbn : bg + hh ≤ n := by omega
  have HE := hid (show slotB (look s) hh k = segs (look s) bg hh by rw [← hbg, ← hkhe]; rfl)
  have HL := hid (show ∀ j, j ≤ hh → (segs (look s) bg j).length = 64 * j from fun j hj => segs_len fun i hi => HSec.out _ (by omega))
  rw [hkhe] at hkh
  clear h hhe hkhe hbg
  go_enter Tryz.func32, Tryz.ntmps32
  go_wp2_with fail
  go_loopw [7, 8] (fun u i wr => ∃ j : Nat, j ≤ hh ∧ i = .int .i64 (j : Int) ∧ Hid (Own wr w.heap.size 5 u (segs (look s) bg j)) ∧ Hid (Kp No w wr)) (fun _ i _ => hh - (intOf i).toNat)
  case atStart => exact ⟨0, Nat.zero_le _, rfl, hid (Own.nil _ _ _), hid (Kp.refl _ _)⟩
  case round =>
    obtain ⟨j, hj, rfl, OW, KW⟩ := hrel
    by_cases hjh : j < hh
    · have g1 : (j : Int) < (hh : Int) := by omega
      obtain ⟨bj, hbj⟩ : ∃ x, bg + j = x := ⟨_, rfl⟩
      have hwbj : IntKind.i64.wrap ((bg : Int) + (j : Int)) = (bj : Int) := by rw [wrapI (by unfold I64; omega)]; omega
      have hwj := wrapI (x := (j : Int) + 1) (by unfold I64; omega)
      have hbjn : bj < n := by omega
      have HBJ := hid hbj
      clear hbj
      go_wp2_with (first
        | (go_at_call 22
           refine (rhalf_any (HD.out.kp0 KW.out) h4).mono ?_
           rintro e w1 ⟨rfl, rfl⟩
           rw [HHH.out])
        | (go_at_call 30
           refine (rread_is (HD.out.kp0 KW.out) hbjn ho).mono ?_
           rintro e w2 ⟨⟨v2, rfl, y2⟩, rfl⟩
           have Y2 := hid y2
           clear y2)
        | (at_builtin
           refine wp_app isU8 rfl (.tmp 29) (.tmp 30) rfl (base := w.heap.size) (xs := segs (look s) bg j) (ys := look s bj) (by exact OW.out) (by exact Y2.out) (by rw [HL.out j hj, HSec.out bj hbjn]; omega) KW.out.size ?_
           intro v3 w3 o3 k3
           rw [← HBJ.out, ← segs_succ] at o3
           have O3 := hid o3
           have K3 := hid (KW.out.step k3 fun i hi h => by omega)
           clear o3 k3))
      go_roundw
      case rel => exact ⟨j + 1, by omega, by go_num, O3, K3⟩
      case measure => simp [intOf]; omega
    · have g1 : ¬ (j : Int) < (hh : Int) := by omega
      have hjj : j = hh := by omega
      subst hjj
      obtain ⟨y, hy⟩ : ∃ y, 64 * j = y := ⟨_, rfl⟩
      have hl := HL.out j hj
      rw [hy] at hl hm
      obtain ⟨A, c, rfl⟩ := OW.out.formN hl
      have BW := hid (OW.out.byt (P := fun i => w.heap.size ≤ i) fun i hi => hi)
      have hcap : y ≤ c := by
        obtain ⟨_, c', he, hc', _⟩ := BW.out
        injection he with _ _ e3
        omega
      have g2 : (many : Int) ≤ (c : Int) := by omega
      have HLe := hid hl
      clear hy hl
      go_wp2_with (first
        | (go_at_call 22
           refine (rhalf_any (HD.out.kp0 KW.out) h4).mono ?_
           rintro e w1 ⟨rfl, rfl⟩
           rw [HHH.out]))
      all_goals
        go_ret
        refine ⟨_, rfl, ?_, KW.out⟩
        rw [HE.out]
        exact BW.out.take _ (by rw [HLe.out]; exact hm)
end Go.Proofs.YtgfkbkonelphaaaGreatDoor
