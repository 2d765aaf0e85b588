/-
  slices.Values as an iterator, slices.AppendSeq and Collect over one: at groups, tasks and ints.
-/
import Derived.Test.YtjmaingpiieioaaGreatZShl
import Derived.Test.YtjmaingpiieioaaGreatZGen
import Derived.Test.YtjmaingpiieioaaGreatHeld
import Derived.Test.YtjmaingpiieioaaGreatInRound
import Derived.Shelf.Abstract
import Derived.Shelf.RegionOpen
import Derived.WalkKit
import Derived.OwnWalkIn
import Derived.TacticsInMore
import Derived.LoopNIn
import Derived.LoopIn
import Derived.LoopTactic
namespace Go.Proofs.YtjmaingpiieioaaGreat
open Go.RowKit Go.Shelf

attribute [local go_sem] Oper.semAt_some

def zI (x : Int) (_ : Nat) : Value := .int .i64 x
theorem zI_one (x : Int) (i : Nat) : (zI x i).oneCell' = true := rfl
def vI : Value → Int
  | .int _ x => x
  | _ => 0
theorem usG : Us Tryz.prog 22 51 6 48 (.agg #[.int .i64 0, .int .i64 0, .int .i64 0, .int .i64 0, .int .i64 0, .int .i64 0]) := ⟨by kernel_rfl, by kernel_rfl, by decide, by decide⟩
theorem usT : Us Tryz.prog 23 46 8 64 (.agg #[.int .i64 0, .int .i64 0, .int .i64 0, .int .u64 0, .bool false, .int .i64 0, .int .i64 0, .int .i64 0]) := ⟨by kernel_rfl, by kernel_rfl, by decide, by decide⟩
theorem usI : Us Tryz.prog 31 3 1 8 (.int .i64 0) := ⟨by kernel_rfl, by kernel_rfl, by decide, by decide⟩
/-- What append has gathered so far, behind the box of the slice. -/
structure AI {α : Type} (te ts : TypeId) (n : Nat) (f : α → Nat → Value) (w : World) (O : Nat → Prop) (pre : List α) (sv : Value) (W : World) : Prop where
  kp : Kp No w W
  bx : Blk W w.heap.size ts #[sv]
  ow : Ow W w.heap.size te n f sv pre
  ne : sv.ownBlock ≠ some w.heap.size
  no : ¬ O w.heap.size
  on : ∀ i, sv.ownBlock = some i → ¬ O i
  ol : ∀ k, O k → w.heap.size ≤ k ∧ k < W.heap.size
theorem AI.ab {α : Type} {te ts : TypeId} {n : Nat} {f : α → Nat → Value} {w : World} : AbO (fun O (pre : List α) W => ∃ sv, AI te ts n f w O pre sv W) := by
  rintro O O' s W W' ⟨sv, h⟩ hk ho
  refine ⟨sv, h.kp.step hk (fun i hi e => by have := (h.ol i e).1; omega), h.bx.kp hk h.no, h.ow.kpx hk h.on, h.ne, fun e => ?_, fun i hi e => ?_, fun k e => ?_⟩
  · rcases ho _ e with e | e
    · exact h.no e
    · have := h.bx.lt
      omega
  · rcases ho _ e with e | e
    · exact h.on i hi e
    · have := (h.ow.blk hi).2.1
      omega
  · have hs := hk.size
    rcases ho _ e with e | e
    · have := h.ol k e
      omega
    · have := h.kp.size
      omega
/-- .. with one element more. -/
theorem AI.push {α : Type} {te ts : TypeId} {n : Nat} {f : α → Nat → Value} {w : World} {O : Nat → Prop} {pre : List α} {x : α} {sv sv' : Value} {W W2 : World} (h : AI te ts n f w O pre sv W) (o : Ow W2 w.heap.size te n f sv' (pre ++ [x])) (k : W.grownBy W2 sv.ownBlock)
    (p : sv'.ownBlock = sv.ownBlock ∨ sv'.ownBlock = some W.heap.size) : AI te ts n f w O (pre ++ [x]) sv' (W2.setCell ⟨w.heap.size, 0, none⟩ sv') ∧ Kp (fun i => i = w.heap.size ∨ sv.ownBlock = some i) W (W2.setCell ⟨w.heap.size, 0, none⟩ sv') := by
  have kA := (Kp.refl (fun i => sv.ownBlock = some i) W).grown k fun k hk => .inl hk
  have kS := Kp.set1 w.heap.size 0 W2 sv'
  have hlt := h.bx.lt
  have hne : sv'.ownBlock ≠ some w.heap.size := fun e => by
    rcases p with p | p
    · exact h.ne (p ▸ e)
    · rw [p] at e
      injection e with e
      omega
  have kT : Kp (fun i => i = w.heap.size ∨ sv.ownBlock = some i) W (W2.setCell ⟨w.heap.size, 0, none⟩ sv') := (kA.mono fun i _ e => .inr e).trans (kS.mono fun i _ e => .inl e)
  refine ⟨⟨h.kp.step kT (fun i hi e => ?_), ?_, o.kpx kS fun i hi e => ?_, hne, h.no, fun i hi e => ?_, fun i hi => ⟨(h.ol i hi).1, Nat.lt_of_lt_of_le (h.ol i hi).2 kT.size⟩⟩, kT⟩
  · rcases e with e | e
    · omega
    · have := (h.ow.blk e).1
      omega
  · exact (h.bx.kp kA fun e => h.ne e).put 0 sv'
  · have e : i = w.heap.size := e
    exact hne (e ▸ hi)
  · rcases p with p | p
    · exact h.on i (p ▸ hi) e
    · rw [p] at hi
      injection hi with hi
      have := (h.ol i e).2
      omega

section
variable {w w' : World} {S P Q : Nat → Prop} {v u : Value} {xs ys : List GS}
theorem valuesG_any (v : Value) (hv : v.oneCell' = true) (w : World) :
    Calls Tryz.prog 75 #[v] w fun e w' => e = .returned (.func (.func 88) #[] #[.pointer (some ⟨w.heap.size, 0, none⟩)]) ∧ w' = w.alloc (.cells #[v] 22) := by
  go_enter Tryz.func75, Tryz.ntmps75
  go_wp2
  go_ret
  exact ⟨rfl, rfl⟩
set_option maxRecDepth 100000 in
set_option maxHeartbeats 1000000 in
/-- The elements, one after the other, to whatever body. -/
theorem valuesG_seq (B b o c : Nat) (A : Option Addr) (xs : List GS) (w : World) (hB : B < w.heap.size) (hc : w.cell? ⟨B, 0, none⟩ = some (.slice A xs.length c)) (hb : 0 < xs.length → A = some ⟨b, o, none⟩ ∧ b < w.heap.size)
    (hx : ∀ j i, j < xs.length → i < 6 → w.cell? ⟨b, o + (j * 6 + i), none⟩ = some (gc (xs.getD j gs0) i)) (hl : xs.length ≤ 1000000000) :
    SeqO Tryz.prog 88 #[.pointer (some ⟨B, 0, none⟩)] (fun x : GS => #[.agg #[.int .i64 x.id, .int .i64 x.par, .int .i64 x.wt, .int .i64 x.pd, .int .i64 x.qt, .int .i64 x.us]]) (fun k => k = B ∨ k = b) xs w := by
  intro l J Jx W hW hJ hJx hY h0
  refine (callsIn_wide (n := 5)).1 ?_
  refine callsIn_of_wp Tryz.func88 rfl trivial ?_ rfl
  simp only [Tryz.ntmps88, List.size_toArray, List.length_cons, List.length_nil, Nat.reduceAdd, Nat.reduceSub, Array.replicate_succ, Array.replicate_zero, List.push_toArray, List.append_toArray, List.nil_append, List.cons_append]
  have hcW : W.cell? ⟨B, 0, none⟩ = some (.slice A xs.length c) := (hW.cell (p := ⟨B, 0, none⟩) hB (fun h => h (.inl rfl))).trans hc
  have HX := hid hx
  obtain ⟨n, hn⟩ : ∃ n, xs.length = n := ⟨_, rfl⟩
  have HN := hid hn
  rw [hn] at hcW hb hl
  clear hc hx hn
  gi_wp2
  gi_loopw [7] (fun i wr => ∃ m : Nat, m ≤ n ∧ i = .int .i64 (m : Int) ∧ Hid (Kp (Nt fun k => k = B ∨ k = b) w wr ∧ J No (xs.take m) wr)) (fun i _ => n - (vI i).toNat)
  case atStart => exact ⟨0, by omega, rfl, hid ⟨hW, h0⟩⟩
  case round =>
    obtain ⟨m, hm, rfl, HK⟩ := hrel
    by_cases hlt : m < n
    · obtain ⟨rfl, hbl⟩ := hb (by omega)
      have hml : m < xs.length := by rw [HN.out]; exact hlt
      have hg : (m : Int) < (n : Int) := by omega
      have hws := wrapI (x := (m : Int) + 1) (by unfold I64; omega)
      have HS := hid (take_s xs hml gs0)
      have HP := hid (list_split xs hml gs0)
      have c0 := (HK.out.1.cell (p := ⟨b, o + (m * 6 + 0), none⟩) hbl (fun h => h (.inr rfl))).trans (HX.out m 0 hml (by omega))
      have c1 := (HK.out.1.cell (p := ⟨b, o + (m * 6 + 1), none⟩) hbl (fun h => h (.inr rfl))).trans (HX.out m 1 hml (by omega))
      have c2 := (HK.out.1.cell (p := ⟨b, o + (m * 6 + 2), none⟩) hbl (fun h => h (.inr rfl))).trans (HX.out m 2 hml (by omega))
      have c3 := (HK.out.1.cell (p := ⟨b, o + (m * 6 + 3), none⟩) hbl (fun h => h (.inr rfl))).trans (HX.out m 3 hml (by omega))
      have c4 := (HK.out.1.cell (p := ⟨b, o + (m * 6 + 4), none⟩) hbl (fun h => h (.inr rfl))).trans (HX.out m 4 hml (by omega))
      have c5 := (HK.out.1.cell (p := ⟨b, o + (m * 6 + 5), none⟩) hbl (fun h => h (.inr rfl))).trans (HX.out m 5 hml (by omega))
      obtain ⟨x, hxx⟩ : ∃ x, xs.getD m gs0 = x := ⟨_, rfl⟩
      rw [hxx] at HS HP c0 c1 c2 c3 c4 c5
      clear hxx
      have HA := hid ((Kp.refl (Nt fun k => k = B ∨ k = b) wr).alloc (.cells #[.int .i64 x.id, .int .i64 x.par, .int .i64 x.wt, .int .i64 x.pd, .int .i64 x.qt, .int .i64 x.us] 51))
      have HJ := hid (hJ No No _ _ _ HK.out.2 ((Kp.refl No wr).alloc (.cells #[.int .i64 x.id, .int .i64 x.par, .int .i64 x.wt, .int .i64 x.pd, .int .i64 x.qt, .int .i64 x.us] 51)) fun k h => h.elim)
      obtain ⟨fn, tmps, assign, body, hy, hR⟩ := hY _ _ _ _ _ HP.out HJ.out
      try dsimp only at hy
      rw [← Nat.add_assoc] at c0 c1 c2 c3 c4 c5
      simp only [gc, ge, List.getD_cons_zero, List.getD_cons_succ, Nat.add_zero] at c0 c1 c2 c3 c4 c5
      gi_wp2
      refine (RoundIn.any hR).mono ?_
      rintro e W3 (⟨rfl, hJ3, hk3⟩ | ⟨rfl, hx3, _⟩)
      · clear c0 c1 c2 c3 c4 c5 hy
        gi_wp2
        go_roundw
        case rel => exact ⟨m + 1, by omega, by go_num, hid ⟨(HK.out.1.trans HA.out).trans (hk3.mono fun k _ h => h.2), by rw [HS.out]; exact hJ3⟩⟩
        case measure => simp [vI]; omega
      · gi_wp2
        refine bodyPost_ret (results_none rfl _ _ _) rfl ?_
        exact ⟨⟨_, rfl⟩, .inr ⟨No, _, _, by rw [← List.append_cons]; exact HP.out, hx3⟩⟩
    · have hmn : m = n := by omega
      subst hmn
      clear hcW
      gi_wp2
      go_end0
      exact ⟨⟨_, rfl⟩, .inl ⟨No, by have := HK.out.2; rwa [List.take_of_length_le (by rw [HN.out]; omega)] at this⟩⟩
end

section
variable {w w' : World} {S P Q : Nat → Prop} {v u : Value} {xs ys : List TS}
theorem valuesT_any (v : Value) (hv : v.oneCell' = true) (w : World) :
    Calls Tryz.prog 41 #[v] w fun e w' => e = .returned (.func (.func 64) #[] #[.pointer (some ⟨w.heap.size, 0, none⟩)]) ∧ w' = w.alloc (.cells #[v] 23) := by
  go_enter Tryz.func41, Tryz.ntmps41
  go_wp2
  go_ret
  exact ⟨rfl, rfl⟩
set_option maxRecDepth 100000 in
set_option maxHeartbeats 1000000 in
/-- The elements, one after the other, to whatever body. -/
theorem valuesT_seq (B b o c : Nat) (A : Option Addr) (xs : List TS) (w : World) (hB : B < w.heap.size) (hc : w.cell? ⟨B, 0, none⟩ = some (.slice A xs.length c)) (hb : 0 < xs.length → A = some ⟨b, o, none⟩ ∧ b < w.heap.size)
    (hx : ∀ j i, j < xs.length → i < 8 → w.cell? ⟨b, o + (j * 8 + i), none⟩ = some (tc (xs.getD j ts0) i)) (hl : xs.length ≤ 1000000000) :
    SeqO Tryz.prog 64 #[.pointer (some ⟨B, 0, none⟩)] (fun x : TS => #[.agg #[.int .i64 x.id, .int .i64 x.gr, .int .i64 x.wt, .int .u64 x.co, .bool x.sl, .int .i64 x.ra, .int .i64 x.lv, .int .i64 x.lr]]) (fun k => k = B ∨ k = b) xs w := by
  intro l J Jx W hW hJ hJx hY h0
  refine (callsIn_wide (n := 5)).1 ?_
  refine callsIn_of_wp Tryz.func64 rfl trivial ?_ rfl
  simp only [Tryz.ntmps64, List.size_toArray, List.length_cons, List.length_nil, Nat.reduceAdd, Nat.reduceSub, Array.replicate_succ, Array.replicate_zero, List.push_toArray, List.append_toArray, List.nil_append, List.cons_append]
  have hcW : W.cell? ⟨B, 0, none⟩ = some (.slice A xs.length c) := (hW.cell (p := ⟨B, 0, none⟩) hB (fun h => h (.inl rfl))).trans hc
  have HX := hid hx
  obtain ⟨n, hn⟩ : ∃ n, xs.length = n := ⟨_, rfl⟩
  have HN := hid hn
  rw [hn] at hcW hb hl
  clear hc hx hn
  gi_wp2
  gi_loopw [7] (fun i wr => ∃ m : Nat, m ≤ n ∧ i = .int .i64 (m : Int) ∧ Hid (Kp (Nt fun k => k = B ∨ k = b) w wr ∧ J No (xs.take m) wr)) (fun i _ => n - (vI i).toNat)
  case atStart => exact ⟨0, by omega, rfl, hid ⟨hW, h0⟩⟩
  case round =>
    obtain ⟨m, hm, rfl, HK⟩ := hrel
    by_cases hlt : m < n
    · obtain ⟨rfl, hbl⟩ := hb (by omega)
      have hml : m < xs.length := by rw [HN.out]; exact hlt
      have hg : (m : Int) < (n : Int) := by omega
      have hws := wrapI (x := (m : Int) + 1) (by unfold I64; omega)
      have HS := hid (take_s xs hml ts0)
      have HP := hid (list_split xs hml ts0)
      have c0 := (HK.out.1.cell (p := ⟨b, o + (m * 8 + 0), none⟩) hbl (fun h => h (.inr rfl))).trans (HX.out m 0 hml (by omega))
      have c1 := (HK.out.1.cell (p := ⟨b, o + (m * 8 + 1), none⟩) hbl (fun h => h (.inr rfl))).trans (HX.out m 1 hml (by omega))
      have c2 := (HK.out.1.cell (p := ⟨b, o + (m * 8 + 2), none⟩) hbl (fun h => h (.inr rfl))).trans (HX.out m 2 hml (by omega))
      have c3 := (HK.out.1.cell (p := ⟨b, o + (m * 8 + 3), none⟩) hbl (fun h => h (.inr rfl))).trans (HX.out m 3 hml (by omega))
      have c4 := (HK.out.1.cell (p := ⟨b, o + (m * 8 + 4), none⟩) hbl (fun h => h (.inr rfl))).trans (HX.out m 4 hml (by omega))
      have c5 := (HK.out.1.cell (p := ⟨b, o + (m * 8 + 5), none⟩) hbl (fun h => h (.inr rfl))).trans (HX.out m 5 hml (by omega))
      have c6 := (HK.out.1.cell (p := ⟨b, o + (m * 8 + 6), none⟩) hbl (fun h => h (.inr rfl))).trans (HX.out m 6 hml (by omega))
      have c7 := (HK.out.1.cell (p := ⟨b, o + (m * 8 + 7), none⟩) hbl (fun h => h (.inr rfl))).trans (HX.out m 7 hml (by omega))
      obtain ⟨x, hxx⟩ : ∃ x, xs.getD m ts0 = x := ⟨_, rfl⟩
      rw [hxx] at HS HP c0 c1 c2 c3 c4 c5 c6 c7
      clear hxx
      have HA := hid ((Kp.refl (Nt fun k => k = B ∨ k = b) wr).alloc (.cells #[.int .i64 x.id, .int .i64 x.gr, .int .i64 x.wt, .int .u64 x.co, .bool x.sl, .int .i64 x.ra, .int .i64 x.lv, .int .i64 x.lr] 46))
      have HJ := hid (hJ No No _ _ _ HK.out.2 ((Kp.refl No wr).alloc (.cells #[.int .i64 x.id, .int .i64 x.gr, .int .i64 x.wt, .int .u64 x.co, .bool x.sl, .int .i64 x.ra, .int .i64 x.lv, .int .i64 x.lr] 46)) fun k h => h.elim)
      obtain ⟨fn, tmps, assign, body, hy, hR⟩ := hY _ _ _ _ _ HP.out HJ.out
      try dsimp only at hy
      rw [← Nat.add_assoc] at c0 c1 c2 c3 c4 c5 c6 c7
      simp only [tc, te, List.getD_cons_zero, List.getD_cons_succ, Nat.add_zero] at c0 c1 c2 c3 c4 c5 c6 c7
      gi_wp2
      refine (RoundIn.any hR).mono ?_
      rintro e W3 (⟨rfl, hJ3, hk3⟩ | ⟨rfl, hx3, _⟩)
      · clear c0 c1 c2 c3 c4 c5 c6 c7 hy
        gi_wp2
        go_roundw
        case rel => exact ⟨m + 1, by omega, by go_num, hid ⟨(HK.out.1.trans HA.out).trans (hk3.mono fun k _ h => h.2), by rw [HS.out]; exact hJ3⟩⟩
        case measure => simp [vI]; omega
      · gi_wp2
        refine bodyPost_ret (results_none rfl _ _ _) rfl ?_
        exact ⟨⟨_, rfl⟩, .inr ⟨No, _, _, by rw [← List.append_cons]; exact HP.out, hx3⟩⟩
    · have hmn : m = n := by omega
      subst hmn
      clear hcW
      gi_wp2
      go_end0
      exact ⟨⟨_, rfl⟩, .inl ⟨No, by have := HK.out.2; rwa [List.take_of_length_le (by rw [HN.out]; omega)] at this⟩⟩
end

section
variable {w w' : World} {S P Q : Nat → Prop} {v u : Value} {xs ys : List Int}
theorem valuesI_any (v : Value) (hv : v.oneCell' = true) (w : World) :
    Calls Tryz.prog 54 #[v] w fun e w' => e = .returned (.func (.func 73) #[] #[.pointer (some ⟨w.heap.size, 0, none⟩)]) ∧ w' = w.alloc (.cells #[v] 31) := by
  go_enter Tryz.func54, Tryz.ntmps54
  go_wp2
  go_ret
  exact ⟨rfl, rfl⟩
set_option maxRecDepth 100000 in
set_option maxHeartbeats 1000000 in
/-- The elements, one after the other, to whatever body. -/
theorem valuesI_seq (B b o c : Nat) (A : Option Addr) (xs : List Int) (w : World) (hB : B < w.heap.size) (hc : w.cell? ⟨B, 0, none⟩ = some (.slice A xs.length c)) (hb : 0 < xs.length → A = some ⟨b, o, none⟩ ∧ b < w.heap.size)
    (hx : ∀ j i, j < xs.length → i < 1 → w.cell? ⟨b, o + (j * 1 + i), none⟩ = some (zI (xs.getD j 0) i)) (hl : xs.length ≤ 1000000000) :
    SeqO Tryz.prog 73 #[.pointer (some ⟨B, 0, none⟩)] (fun x : Int => #[.int .i64 x]) (fun k => k = B ∨ k = b) xs w := by
  intro l J Jx W hW hJ hJx hY h0
  refine (callsIn_wide (n := 5)).1 ?_
  refine callsIn_of_wp Tryz.func73 rfl trivial ?_ rfl
  simp only [Tryz.ntmps73, List.size_toArray, List.length_cons, List.length_nil, Nat.reduceAdd, Nat.reduceSub, Array.replicate_succ, Array.replicate_zero, List.push_toArray, List.append_toArray, List.nil_append, List.cons_append]
  have hcW : W.cell? ⟨B, 0, none⟩ = some (.slice A xs.length c) := (hW.cell (p := ⟨B, 0, none⟩) hB (fun h => h (.inl rfl))).trans hc
  have HX := hid hx
  obtain ⟨n, hn⟩ : ∃ n, xs.length = n := ⟨_, rfl⟩
  have HN := hid hn
  rw [hn] at hcW hb hl
  clear hc hx hn
  gi_wp2
  gi_loopw [7] (fun i wr => ∃ m : Nat, m ≤ n ∧ i = .int .i64 (m : Int) ∧ Hid (Kp (Nt fun k => k = B ∨ k = b) w wr ∧ J No (xs.take m) wr)) (fun i _ => n - (vI i).toNat)
  case atStart => exact ⟨0, by omega, rfl, hid ⟨hW, h0⟩⟩
  case round =>
    obtain ⟨m, hm, rfl, HK⟩ := hrel
    by_cases hlt : m < n
    · obtain ⟨rfl, hbl⟩ := hb (by omega)
      have hml : m < xs.length := by rw [HN.out]; exact hlt
      have hg : (m : Int) < (n : Int) := by omega
      have hws := wrapI (x := (m : Int) + 1) (by unfold I64; omega)
      have HS := hid (take_s xs hml 0)
      have HP := hid (list_split xs hml 0)
      have c0 := (HK.out.1.cell (p := ⟨b, o + (m * 1 + 0), none⟩) hbl (fun h => h (.inr rfl))).trans (HX.out m 0 hml (by omega))
      obtain ⟨x, hxx⟩ : ∃ x, xs.getD m 0 = x := ⟨_, rfl⟩
      rw [hxx] at HS HP c0
      clear hxx
      have HA := hid (Kp.refl (Nt fun k => k = B ∨ k = b) wr)
      have HJ := hid HK.out.2
      obtain ⟨fn, tmps, assign, body, hy, hR⟩ := hY _ _ _ _ _ HP.out HJ.out
      try dsimp only at hy
      simp only [zI, Nat.mul_one, Nat.add_zero] at c0
      gi_wp2
      refine (RoundIn.any hR).mono ?_
      rintro e W3 (⟨rfl, hJ3, hk3⟩ | ⟨rfl, hx3, _⟩)
      · clear c0 hy
        gi_wp2
        go_roundw
        case rel => exact ⟨m + 1, by omega, by go_num, hid ⟨(HK.out.1.trans HA.out).trans (hk3.mono fun k _ h => h.2), by rw [HS.out]; exact hJ3⟩⟩
        case measure => simp [vI]; omega
      · gi_wp2
        refine bodyPost_ret (results_none rfl _ _ _) rfl ?_
        exact ⟨⟨_, rfl⟩, .inr ⟨No, _, _, by rw [← List.append_cons]; exact HP.out, hx3⟩⟩
    · have hmn : m = n := by omega
      subst hmn
      clear hcW
      gi_wp2
      go_end0
      exact ⟨⟨_, rfl⟩, .inl ⟨No, by have := HK.out.2; rwa [List.take_of_length_le (by rw [HN.out]; omega)] at this⟩⟩
end
end Go.Proofs.YtjmaingpiieioaaGreat
