/-
  ZSeq ZApp ZSort: texts laid into one.
-/
import Derived.Test.YtggmdgdgljlddaaGreatZShl
import Derived.Test.YtggmdgdgljlddaaGreatZGen
import Derived.Test.YtggmdgdgljlddaaGreatHeld
import Derived.Test.YtggmdgdgljlddaaGreatInRound
import Derived.Shelf.Abstract
import Derived.Shelf.RegionOpen
import Derived.WalkKit
import Derived.OwnWalkIn
import Derived.TacticsInMore
import Derived.LoopNIn
import Derived.LoopIn
import Derived.LoopTactic
import Derived.Shelf.SlSortCmp.NoneTotal

/-
  slices.Values as an iterator, slices.AppendSeq and Collect over one: at groups, tasks and ints.
-/
namespace Go.Proofs.YtggmdgdgljlddaaGreat
open Go.RowKit Go.Shelf

attribute [local go_sem] Oper.semAt_some

def zI (x : Int) (_ : Nat) : Value := .int .i64 x
theorem zI_one (x : Int) (i : Nat) : (zI x i).oneCell' = true := rfl
def vI : Value → Int
  | .int _ x => x
  | _ => 0
theorem usG : Us Tryz.prog 22 37 6 48 (.agg #[.int .i64 0, .int .i64 0, .int .i64 0, .int .i64 0, .int .i64 0, .int .i64 0]) := ⟨by kernel_rfl, by kernel_rfl, by decide, by decide⟩
theorem usT : Us Tryz.prog 23 41 8 64 (.agg #[.int .i64 0, .int .i64 0, .int .i64 0, .int .u64 0, .bool false, .int .i64 0, .int .i64 0, .int .i64 0]) := ⟨by kernel_rfl, by kernel_rfl, by decide, by decide⟩
theorem usI : Us Tryz.prog 32 3 1 8 (.int .i64 0) := ⟨by kernel_rfl, by kernel_rfl, by decide, by decide⟩
/-- What append has gathered so far, behind the box of the slice. -/
structure AI {α : Type} (te ts : TypeId) (n : Nat) (f : α → Nat → Value) (w : World) (O : Nat → Prop) (pre : List α) (sv : Value) (W : World) : Prop where
  kp : Kp No w W
  bx : Blk W w.heap.size ts #[sv]
  ow : Ow W w.heap.size te n f sv pre
  ne : sv.ownBlock ≠ some w.heap.size
  no : ¬ O w.heap.size
  on : ∀ i, sv.ownBlock = some i → ¬ O i
  ol : ∀ k, O k → w.heap.size ≤ k ∧ k < W.heap.size
theorem AI.ab {α : Type} {te ts : TypeId} {n : Nat} {f : α → Nat → Value} {w : World} : AbO (fun O (pre : List α) W => ∃ sv, AI te ts n f w O pre sv W) := by
  rintro O O' s W W' ⟨sv, h⟩ hk ho
  refine ⟨sv, h.kp.step hk (fun i hi e => by have := (h.ol i e).1; omega), h.bx.kp hk h.no, h.ow.kpx hk h.on, h.ne, fun e => ?_, fun i hi e => ?_, fun k e => ?_⟩
  · rcases ho _ e with e | e
    · exact h.no e
    · have := h.bx.lt
      omega
  · rcases ho _ e with e | e
    · exact h.on i hi e
    · have := (h.ow.blk hi).2.1
      omega
  · have hs := hk.size
    rcases ho _ e with e | e
    · have := h.ol k e
      omega
    · have := h.kp.size
      omega
/-- .. with one element more. -/
theorem AI.push {α : Type} {te ts : TypeId} {n : Nat} {f : α → Nat → Value} {w : World} {O : Nat → Prop} {pre : List α} {x : α} {sv sv' : Value} {W W2 : World} (h : AI te ts n f w O pre sv W) (o : Ow W2 w.heap.size te n f sv' (pre ++ [x])) (k : W.grownBy W2 sv.ownBlock)
    (p : sv'.ownBlock = sv.ownBlock ∨ sv'.ownBlock = some W.heap.size) : AI te ts n f w O (pre ++ [x]) sv' (W2.setCell ⟨w.heap.size, 0, none⟩ sv') ∧ Kp (fun i => i = w.heap.size ∨ sv.ownBlock = some i) W (W2.setCell ⟨w.heap.size, 0, none⟩ sv') := by
  have kA := (Kp.refl (fun i => sv.ownBlock = some i) W).grown k fun k hk => .inl hk
  have kS := Kp.set1 w.heap.size 0 W2 sv'
  have hlt := h.bx.lt
  have hne : sv'.ownBlock ≠ some w.heap.size := fun e => by
    rcases p with p | p
    · exact h.ne (p ▸ e)
    · rw [p] at e
      injection e with e
      omega
  have kT : Kp (fun i => i = w.heap.size ∨ sv.ownBlock = some i) W (W2.setCell ⟨w.heap.size, 0, none⟩ sv') := (kA.mono fun i _ e => .inr e).trans (kS.mono fun i _ e => .inl e)
  refine ⟨⟨h.kp.step kT (fun i hi e => ?_), ?_, o.kpx kS fun i hi e => ?_, hne, h.no, fun i hi e => ?_, fun i hi => ⟨(h.ol i hi).1, Nat.lt_of_lt_of_le (h.ol i hi).2 kT.size⟩⟩, kT⟩
  · rcases e with e | e
    · omega
    · have := (h.ow.blk e).1
      omega
  · exact (h.bx.kp kA fun e => h.ne e).put 0 sv'
  · have e : i = w.heap.size := e
    exact hne (e ▸ hi)
  · rcases p with p | p
    · exact h.on i (p ▸ hi) e
    · rw [p] at hi
      injection hi with hi
      have := (h.ol i e).2
      omega

section
variable {w w' : World} {S P Q : Nat → Prop} {v u : Value} {xs ys : List GS}
theorem valuesG_any (v : Value) (hv : v.oneCell' = true) (w : World) :
    Calls Tryz.prog 48 #[v] w fun e w' => e = .returned (.func (.func 61) #[] #[.pointer (some ⟨w.heap.size, 0, none⟩)]) ∧ w' = w.alloc (.cells #[v] 22) := by
  go_enter Tryz.func48, Tryz.ntmps48
  go_wp2
  go_ret
  exact ⟨rfl, rfl⟩
set_option maxRecDepth 100000 in
set_option maxHeartbeats 1000000 in
/-- The elements, one after the other, to whatever body. -/
theorem valuesG_seq (B b o c : Nat) (A : Option Addr) (xs : List GS) (w : World) (hB : B < w.heap.size) (hc : w.cell? ⟨B, 0, none⟩ = some (.slice A xs.length c)) (hb : 0 < xs.length → A = some ⟨b, o, none⟩ ∧ b < w.heap.size)
    (hx : ∀ j i, j < xs.length → i < 6 → w.cell? ⟨b, o + (j * 6 + i), none⟩ = some (gc (xs.getD j gs0) i)) (hl : xs.length ≤ 1000000000) :
    SeqO Tryz.prog 61 #[.pointer (some ⟨B, 0, none⟩)] (fun x : GS => #[.agg #[.int .i64 x.id, .int .i64 x.par, .int .i64 x.wt, .int .i64 x.pd, .int .i64 x.qt, .int .i64 x.us]]) (fun k => k = B ∨ k = b) xs w := by
  intro l J Jx W hW hJ hJx hY h0
  refine (callsIn_wide (n := 5)).1 ?_
  refine callsIn_of_wp Tryz.func61 rfl trivial ?_ rfl
  simp only [Tryz.ntmps61, List.size_toArray, List.length_cons, List.length_nil, Nat.reduceAdd, Nat.reduceSub, Array.replicate_succ, Array.replicate_zero, List.push_toArray, List.append_toArray, List.nil_append, List.cons_append]
  have hcW : W.cell? ⟨B, 0, none⟩ = some (.slice A xs.length c) := (hW.cell (p := ⟨B, 0, none⟩) hB (fun h => h (.inl rfl))).trans hc
  have HX := hid hx
  obtain ⟨n, hn⟩ : ∃ n, xs.length = n := ⟨_, rfl⟩
  have HN := hid hn
  rw [hn] at hcW hb hl
  clear hc hx hn
  gi_wp2
  gi_loopw [7] (fun i wr => ∃ m : Nat, m ≤ n ∧ i = .int .i64 (m : Int) ∧ Hid (Kp (Nt fun k => k = B ∨ k = b) w wr ∧ J No (xs.take m) wr)) (fun i _ => n - (vI i).toNat)
  case atStart => exact ⟨0, by omega, rfl, hid ⟨hW, h0⟩⟩
  case round =>
    obtain ⟨m, hm, rfl, HK⟩ := hrel
    by_cases hlt : m < n
    · obtain ⟨rfl, hbl⟩ := hb (by omega)
      have hml : m < xs.length := by rw [HN.out]; exact hlt
      have hg : (m : Int) < (n : Int) := by omega
      have hws := wrapI (x := (m : Int) + 1) (by unfold I64; omega)
      have HS := hid (take_s xs hml gs0)
      have HP := hid (list_split xs hml gs0)
      have c0 := (HK.out.1.cell (p := ⟨b, o + (m * 6 + 0), none⟩) hbl (fun h => h (.inr rfl))).trans (HX.out m 0 hml (by omega))
      have c1 := (HK.out.1.cell (p := ⟨b, o + (m * 6 + 1), none⟩) hbl (fun h => h (.inr rfl))).trans (HX.out m 1 hml (by omega))
      have c2 := (HK.out.1.cell (p := ⟨b, o + (m * 6 + 2), none⟩) hbl (fun h => h (.inr rfl))).trans (HX.out m 2 hml (by omega))
      have c3 := (HK.out.1.cell (p := ⟨b, o + (m * 6 + 3), none⟩) hbl (fun h => h (.inr rfl))).trans (HX.out m 3 hml (by omega))
      have c4 := (HK.out.1.cell (p := ⟨b, o + (m * 6 + 4), none⟩) hbl (fun h => h (.inr rfl))).trans (HX.out m 4 hml (by omega))
      have c5 := (HK.out.1.cell (p := ⟨b, o + (m * 6 + 5), none⟩) hbl (fun h => h (.inr rfl))).trans (HX.out m 5 hml (by omega))
      obtain ⟨x, hxx⟩ : ∃ x, xs.getD m gs0 = x := ⟨_, rfl⟩
      rw [hxx] at HS HP c0 c1 c2 c3 c4 c5
      clear hxx
      have HA := hid ((Kp.refl (Nt fun k => k = B ∨ k = b) wr).alloc (.cells #[.int .i64 x.id, .int .i64 x.par, .int .i64 x.wt, .int .i64 x.pd, .int .i64 x.qt, .int .i64 x.us] 37))
      have HJ := hid (hJ No No _ _ _ HK.out.2 ((Kp.refl No wr).alloc (.cells #[.int .i64 x.id, .int .i64 x.par, .int .i64 x.wt, .int .i64 x.pd, .int .i64 x.qt, .int .i64 x.us] 37)) fun k h => h.elim)
      obtain ⟨fn, tmps, assign, body, hy, hR⟩ := hY _ _ _ _ _ HP.out HJ.out
      try dsimp only at hy
      rw [← Nat.add_assoc] at c0 c1 c2 c3 c4 c5
      simp only [gc, ge, List.getD_cons_zero, List.getD_cons_succ, Nat.add_zero] at c0 c1 c2 c3 c4 c5
      gi_wp2
      refine (RoundIn.any hR).mono ?_
      rintro e W3 (⟨rfl, hJ3, hk3⟩ | ⟨rfl, hx3, _⟩)
      · clear c0 c1 c2 c3 c4 c5 hy
        gi_wp2
        go_roundw
        case rel => exact ⟨m + 1, by omega, by go_num, hid ⟨(HK.out.1.trans HA.out).trans (hk3.mono fun k _ h => h.2), by rw [HS.out]; exact hJ3⟩⟩
        case measure => simp [vI]; omega
      · gi_wp2
        refine bodyPost_ret (results_none rfl _ _ _) rfl ?_
        exact ⟨⟨_, rfl⟩, .inr ⟨No, _, _, by rw [← List.append_cons]; exact HP.out, hx3⟩⟩
    · have hmn : m = n := by omega
      subst hmn
      clear hcW
      gi_wp2
      go_end0
      exact ⟨⟨_, rfl⟩, .inl ⟨No, by have := HK.out.2; rwa [List.take_of_length_le (by rw [HN.out]; omega)] at this⟩⟩
end

section
variable {w w' : World} {S P Q : Nat → Prop} {v u : Value} {xs ys : List TS}
theorem valuesT_any (v : Value) (hv : v.oneCell' = true) (w : World) :
    Calls Tryz.prog 20 #[v] w fun e w' => e = .returned (.func (.func 40) #[] #[.pointer (some ⟨w.heap.size, 0, none⟩)]) ∧ w' = w.alloc (.cells #[v] 23) := by
  go_enter Tryz.func20, Tryz.ntmps20
  go_wp2
  go_ret
  exact ⟨rfl, rfl⟩
set_option maxRecDepth 100000 in
set_option maxHeartbeats 1000000 in
/-- The elements, one after the other, to whatever body. -/
theorem valuesT_seq (B b o c : Nat) (A : Option Addr) (xs : List TS) (w : World) (hB : B < w.heap.size) (hc : w.cell? ⟨B, 0, none⟩ = some (.slice A xs.length c)) (hb : 0 < xs.length → A = some ⟨b, o, none⟩ ∧ b < w.heap.size)
    (hx : ∀ j i, j < xs.length → i < 8 → w.cell? ⟨b, o + (j * 8 + i), none⟩ = some (tc (xs.getD j ts0) i)) (hl : xs.length ≤ 1000000000) :
    SeqO Tryz.prog 40 #[.pointer (some ⟨B, 0, none⟩)] (fun x : TS => #[.agg #[.int .i64 x.id, .int .i64 x.gr, .int .i64 x.wt, .int .u64 x.co, .bool x.sl, .int .i64 x.ra, .int .i64 x.lv, .int .i64 x.lr]]) (fun k => k = B ∨ k = b) xs w := by
  intro l J Jx W hW hJ hJx hY h0
  refine (callsIn_wide (n := 5)).1 ?_
  refine callsIn_of_wp Tryz.func40 rfl trivial ?_ rfl
  simp only [Tryz.ntmps40, List.size_toArray, List.length_cons, List.length_nil, Nat.reduceAdd, Nat.reduceSub, Array.replicate_succ, Array.replicate_zero, List.push_toArray, List.append_toArray, List.nil_append, List.cons_append]
  have hcW : W.cell? ⟨B, 0, none⟩ = some (.slice A xs.length c) := (hW.cell (p := ⟨B, 0, none⟩) hB (fun h => h (.inl rfl))).trans hc
  have HX := hid hx
  obtain ⟨n, hn⟩ : ∃ n, xs.length = n := ⟨_, rfl⟩
  have HN := hid hn
  rw [hn] at hcW hb hl
  clear hc hx hn
  gi_wp2
  gi_loopw [7] (fun i wr => ∃ m : Nat, m ≤ n ∧ i = .int .i64 (m : Int) ∧ Hid (Kp (Nt fun k => k = B ∨ k = b) w wr ∧ J No (xs.take m) wr)) (fun i _ => n - (vI i).toNat)
  case atStart => exact ⟨0, by omega, rfl, hid ⟨hW, h0⟩⟩
  case round =>
    obtain ⟨m, hm, rfl, HK⟩ := hrel
    by_cases hlt : m < n
    · obtain ⟨rfl, hbl⟩ := hb (by omega)
      have hml : m < xs.length := by rw [HN.out]; exact hlt
      have hg : (m : Int) < (n : Int) := by omega
      have hws := wrapI (x := (m : Int) + 1) (by unfold I64; omega)
      have HS := hid (take_s xs hml ts0)
      have HP := hid (list_split xs hml ts0)
      have c0 := (HK.out.1.cell (p := ⟨b, o + (m * 8 + 0), none⟩) hbl (fun h => h (.inr rfl))).trans (HX.out m 0 hml (by omega))
      have c1 := (HK.out.1.cell (p := ⟨b, o + (m * 8 + 1), none⟩) hbl (fun h => h (.inr rfl))).trans (HX.out m 1 hml (by omega))
      have c2 := (HK.out.1.cell (p := ⟨b, o + (m * 8 + 2), none⟩) hbl (fun h => h (.inr rfl))).trans (HX.out m 2 hml (by omega))
      have c3 := (HK.out.1.cell (p := ⟨b, o + (m * 8 + 3), none⟩) hbl (fun h => h (.inr rfl))).trans (HX.out m 3 hml (by omega))
      have c4 := (HK.out.1.cell (p := ⟨b, o + (m * 8 + 4), none⟩) hbl (fun h => h (.inr rfl))).trans (HX.out m 4 hml (by omega))
      have c5 := (HK.out.1.cell (p := ⟨b, o + (m * 8 + 5), none⟩) hbl (fun h => h (.inr rfl))).trans (HX.out m 5 hml (by omega))
      have c6 := (HK.out.1.cell (p := ⟨b, o + (m * 8 + 6), none⟩) hbl (fun h => h (.inr rfl))).trans (HX.out m 6 hml (by omega))
      have c7 := (HK.out.1.cell (p := ⟨b, o + (m * 8 + 7), none⟩) hbl (fun h => h (.inr rfl))).trans (HX.out m 7 hml (by omega))
      obtain ⟨x, hxx⟩ : ∃ x, xs.getD m ts0 = x := ⟨_, rfl⟩
      rw [hxx] at HS HP c0 c1 c2 c3 c4 c5 c6 c7
      clear hxx
      have HA := hid ((Kp.refl (Nt fun k => k = B ∨ k = b) wr).alloc (.cells #[.int .i64 x.id, .int .i64 x.gr, .int .i64 x.wt, .int .u64 x.co, .bool x.sl, .int .i64 x.ra, .int .i64 x.lv, .int .i64 x.lr] 41))
      have HJ := hid (hJ No No _ _ _ HK.out.2 ((Kp.refl No wr).alloc (.cells #[.int .i64 x.id, .int .i64 x.gr, .int .i64 x.wt, .int .u64 x.co, .bool x.sl, .int .i64 x.ra, .int .i64 x.lv, .int .i64 x.lr] 41)) fun k h => h.elim)
      obtain ⟨fn, tmps, assign, body, hy, hR⟩ := hY _ _ _ _ _ HP.out HJ.out
      try dsimp only at hy
      rw [← Nat.add_assoc] at c0 c1 c2 c3 c4 c5 c6 c7
      simp only [tc, te, List.getD_cons_zero, List.getD_cons_succ, Nat.add_zero] at c0 c1 c2 c3 c4 c5 c6 c7
      gi_wp2
      refine (RoundIn.any hR).mono ?_
      rintro e W3 (⟨rfl, hJ3, hk3⟩ | ⟨rfl, hx3, _⟩)
      · clear c0 c1 c2 c3 c4 c5 c6 c7 hy
        gi_wp2
        go_roundw
        case rel => exact ⟨m + 1, by omega, by go_num, hid ⟨(HK.out.1.trans HA.out).trans (hk3.mono fun k _ h => h.2), by rw [HS.out]; exact hJ3⟩⟩
        case measure => simp [vI]; omega
      · gi_wp2
        refine bodyPost_ret (results_none rfl _ _ _) rfl ?_
        exact ⟨⟨_, rfl⟩, .inr ⟨No, _, _, by rw [← List.append_cons]; exact HP.out, hx3⟩⟩
    · have hmn : m = n := by omega
      subst hmn
      clear hcW
      gi_wp2
      go_end0
      exact ⟨⟨_, rfl⟩, .inl ⟨No, by have := HK.out.2; rwa [List.take_of_length_le (by rw [HN.out]; omega)] at this⟩⟩
end

section
variable {w w' : World} {S P Q : Nat → Prop} {v u : Value} {xs ys : List Int}
theorem valuesI_any (v : Value) (hv : v.oneCell' = true) (w : World) :
    Calls Tryz.prog 30 #[v] w fun e w' => e = .returned (.func (.func 46) #[] #[.pointer (some ⟨w.heap.size, 0, none⟩)]) ∧ w' = w.alloc (.cells #[v] 32) := by
  go_enter Tryz.func30, Tryz.ntmps30
  go_wp2
  go_ret
  exact ⟨rfl, rfl⟩
set_option maxRecDepth 100000 in
set_option maxHeartbeats 1000000 in
/-- The elements, one after the other, to whatever body. -/
theorem valuesI_seq (B b o c : Nat) (A : Option Addr) (xs : List Int) (w : World) (hB : B < w.heap.size) (hc : w.cell? ⟨B, 0, none⟩ = some (.slice A xs.length c)) (hb : 0 < xs.length → A = some ⟨b, o, none⟩ ∧ b < w.heap.size)
    (hx : ∀ j i, j < xs.length → i < 1 → w.cell? ⟨b, o + (j * 1 + i), none⟩ = some (zI (xs.getD j 0) i)) (hl : xs.length ≤ 1000000000) :
    SeqO Tryz.prog 46 #[.pointer (some ⟨B, 0, none⟩)] (fun x : Int => #[.int .i64 x]) (fun k => k = B ∨ k = b) xs w := by
  intro l J Jx W hW hJ hJx hY h0
  refine (callsIn_wide (n := 5)).1 ?_
  refine callsIn_of_wp Tryz.func46 rfl trivial ?_ rfl
  simp only [Tryz.ntmps46, List.size_toArray, List.length_cons, List.length_nil, Nat.reduceAdd, Nat.reduceSub, Array.replicate_succ, Array.replicate_zero, List.push_toArray, List.append_toArray, List.nil_append, List.cons_append]
  have hcW : W.cell? ⟨B, 0, none⟩ = some (.slice A xs.length c) := (hW.cell (p := ⟨B, 0, none⟩) hB (fun h => h (.inl rfl))).trans hc
  have HX := hid hx
  obtain ⟨n, hn⟩ : ∃ n, xs.length = n := ⟨_, rfl⟩
  have HN := hid hn
  rw [hn] at hcW hb hl
  clear hc hx hn
  gi_wp2
  gi_loopw [7] (fun i wr => ∃ m : Nat, m ≤ n ∧ i = .int .i64 (m : Int) ∧ Hid (Kp (Nt fun k => k = B ∨ k = b) w wr ∧ J No (xs.take m) wr)) (fun i _ => n - (vI i).toNat)
  case atStart => exact ⟨0, by omega, rfl, hid ⟨hW, h0⟩⟩
  case round =>
    obtain ⟨m, hm, rfl, HK⟩ := hrel
    by_cases hlt : m < n
    · obtain ⟨rfl, hbl⟩ := hb (by omega)
      have hml : m < xs.length := by rw [HN.out]; exact hlt
      have hg : (m : Int) < (n : Int) := by omega
      have hws := wrapI (x := (m : Int) + 1) (by unfold I64; omega)
      have HS := hid (take_s xs hml 0)
      have HP := hid (list_split xs hml 0)
      have c0 := (HK.out.1.cell (p := ⟨b, o + (m * 1 + 0), none⟩) hbl (fun h => h (.inr rfl))).trans (HX.out m 0 hml (by omega))
      obtain ⟨x, hxx⟩ : ∃ x, xs.getD m 0 = x := ⟨_, rfl⟩
      rw [hxx] at HS HP c0
      clear hxx
      have HA := hid (Kp.refl (Nt fun k => k = B ∨ k = b) wr)
      have HJ := hid HK.out.2
      obtain ⟨fn, tmps, assign, body, hy, hR⟩ := hY _ _ _ _ _ HP.out HJ.out
      try dsimp only at hy
      simp only [zI, Nat.mul_one, Nat.add_zero] at c0
      gi_wp2
      refine (RoundIn.any hR).mono ?_
      rintro e W3 (⟨rfl, hJ3, hk3⟩ | ⟨rfl, hx3, _⟩)
      · clear c0 hy
        gi_wp2
        go_roundw
        case rel => exact ⟨m + 1, by omega, by go_num, hid ⟨(HK.out.1.trans HA.out).trans (hk3.mono fun k _ h => h.2), by rw [HS.out]; exact hJ3⟩⟩
        case measure => simp [vI]; omega
      · gi_wp2
        refine bodyPost_ret (results_none rfl _ _ _) rfl ?_
        exact ⟨⟨_, rfl⟩, .inr ⟨No, _, _, by rw [← List.append_cons]; exact HP.out, hx3⟩⟩
    · have hmn : m = n := by omega
      subst hmn
      clear hcW
      gi_wp2
      go_end0
      exact ⟨⟨_, rfl⟩, .inl ⟨No, by have := HK.out.2; rwa [List.take_of_length_le (by rw [HN.out]; omega)] at this⟩⟩
end
end Go.Proofs.YtggmdgdgljlddaaGreat

/-
  slices.AppendSeq, slices.Collect over an iterator: at groups, tasks and ints.
-/
namespace Go.Proofs.YtggmdgdgljlddaaGreat
open Go.RowKit Go.Shelf

attribute [local go_sem] Oper.semAt_some

section
variable {w w' : World} {S P Q : Nat → Prop} {v u : Value} {xs ys : List GS}
set_option maxRecDepth 100000 in
set_option maxHeartbeats 2000000 in
theorem aseqG_any {gf : Nat} {lb : Array Value} {Rd : Nat → Prop} (hseq : SeqO Tryz.prog gf lb (fun x : GS => #[.agg #[.int .i64 x.id, .int .i64 x.par, .int .i64 x.wt, .int .i64 x.pd, .int .i64 x.qt, .int .i64 x.us]]) Rd xs w) (eg : ∀ args w, (callFunc gf args).run Tryz.prog w = .ok (.enter gf args) w) (hRd : ∀ k, Rd k → k < w.heap.size) (hl : xs.length ≤ 1000000000) :
    Calls Tryz.prog 81 #[.slice none 0 0, .func (.func gf) #[] lb] w fun e w' => ∃ u, e = .returned u ∧ Ow w' w.heap.size 37 6 gc u xs ∧ Kp No w w' := by
  have HL := hid hl
  clear hl
  refine (callsIn_wide (n := 5)).1 ?_
  refine callsIn_of_wp_marks Tryz.func81 rfl trivial ?_ rfl
  simp only [Tryz.ntmps81, List.size_toArray, List.length_cons, List.length_nil, Nat.reduceAdd, Nat.reduceSub, Array.replicate_succ, Array.replicate_zero, List.push_toArray, List.append_toArray, List.nil_append, List.cons_append]
  refine wpIn_wide.2 ?_
  go_wp2_with fail
  have k0 := (Kp.refl No w).alloc (.cells #[.slice none 0 0] 22)
  have b0 := Blk.new w 22 #[.slice none 0 0]
  have I0 := hid (show AI 37 22 6 gc w No ([] : List GS) (.slice none 0 0) (w.alloc (.cells #[.slice none 0 0] 22)) from
    ⟨k0, b0, Ow.nil _ _ _ _ _, (fun e => by cases e), (fun e => e), (fun i e => by cases e), fun k e => e.elim⟩)
  have SQ := hid (hseq.kp k0.all)
  have hz0 := World.size_alloc w (.cells #[.slice none 0 0] 22)
  generalize w.alloc (.cells #[.slice none 0 0] 22) = w1 at I0 SQ hz0 ⊢
  clear hseq k0 b0
  refine (wpIn_wide (n := 5)).1 ?_
  refine range_own (gf := gf) (lb := lb) rfl eg SQ.out (fun k hk => by have := hRd k hk; omega) (fun _ => rfl)
    (fun O pre W => ∃ sv, AI 37 22 6 gc w O pre sv W) (fun _ _ _ _ => False) AI.ab (fun _ _ _ _ _ _ h _ _ => h) ⟨_, I0.out⟩ ?round ?done ?stop
  case stop =>
    rintro D' O c' pre rest W' _ _ _ h _
    exact h.elim
  case done =>
    rintro D' O W8 hD hO ⟨sv, hI⟩ hKD
    have HI := hid hI
    have HD := hid (And.intro hKD hO)
    have hb0 := hI.bx.cell 0
    simp only [List.getElem?_toArray, List.getElem?_cons_zero] at hb0
    clear hI hKD hO
    go_wp2_with fail
    refine marks_taken [D'] _ (by simp) (fun D hD => ?_) fun w2 k2 => ?_
    · rw [List.mem_singleton] at hD
      subst hD
      exact HD.out.1
    · refine ⟨sv, by simp [results, Tryz.results81, go_sem], sv, rfl, ?_, HI.out.kp.step k2 fun i hi e => ?_⟩
      · exact HI.out.ow.kpx k2 fun i hi e => by
          rw [List.mem_singleton] at e
          subst e
          exact HI.out.on _ hi HD.out.2
      · rw [List.mem_singleton] at e
        omega
  case round =>
    rintro l' O pre x rest W6 hx6 hOl hl1 hl2 ⟨sv, hI⟩
    have hpl6 : pre.length + 1 + rest.length = xs.length := by
      have := congrArg List.length hx6
      simp at this
      omega
    try dsimp only
    gi_wp2
    have kA := (Kp.refl No W6).alloc (.cells #[.int .i64 x.id, .int .i64 x.par, .int .i64 x.wt, .int .i64 x.pd, .int .i64 x.qt, .int .i64 x.us] 37)
    have X6 := hid (Blk.new W6 37 #[.int .i64 x.id, .int .i64 x.par, .int .i64 x.wt, .int .i64 x.pd, .int .i64 x.qt, .int .i64 x.us])
    have H6 := hid hI.bx.lt
    refine ⟨kA.all, fun W7 hk7 => ?_⟩
    have X7 := hid (X6.out.kp hk7 fun e => by have e' : W6.heap.size = l' := e; omega)
    have HOO := hid (fun k (hk : O k) => show k < W7.heap.size from Nat.lt_of_lt_of_le (Nat.lt_of_lt_of_le (hI.ol k hk).2 kA.size) hk7.size)
    have hL : ∀ i, Only l' i → O i := fun i e => by cases e; exact hOl
    obtain ⟨_, hI7⟩ := And.intro trivial (show AI 37 22 6 gc w O pre sv W7 from ⟨(hI.kp.trans kA).step hk7 (fun i hi e => by have := (hI.ol i (hL i e)).1; omega), (hI.bx.kp0 kA).kp hk7 (fun e => hI.no (hL _ e)), (hI.ow.kp0 kA).kpx hk7 (fun i hi e => hI.on i hi (hL i e)), hI.ne, hI.no, hI.on, fun i hi => ⟨(hI.ol i hi).1, HOO.out i hi⟩⟩)
    have J7 := hid hI7
    have OL := hid hOl
    have ZL := hid (show l' < W7.heap.size from Nat.lt_of_lt_of_le (Nat.lt_of_lt_of_le hl2 kA.size) hk7.size)
    have hz7 := J7.out.kp.size
    have hb0 := J7.out.bx.cell 0
    have hbf := J7.out.bx.frozen 0
    simp only [List.getElem?_toArray, List.getElem?_cons_zero] at hb0
    have x0 := X7.out.cell 0
    have x1 := X7.out.cell 1
    have x2 := X7.out.cell 2
    have x3 := X7.out.cell 3
    have x4 := X7.out.cell 4
    have x5 := X7.out.cell 5
    simp only [List.getElem?_toArray, List.getElem?_cons_zero, List.getElem?_cons_succ] at x0 x1 x2 x3 x4 x5
    obtain ⟨M, hM⟩ : ∃ M, pre.length = M := ⟨_, rfl⟩
    have HM := hid hM
    have hML : M + 1 ≤ 1000000000 := by have := HL.out; omega
    clear hM
    have KA := hid ((Kp.refl No W7).alloc (.cells #[.int .i64 x.id, .int .i64 x.par, .int .i64 x.wt, .int .i64 x.pd, .int .i64 x.qt, .int .i64 x.us] 37))
    have BZ := hid (Blk.new W7 37 #[.int .i64 x.id, .int .i64 x.par, .int .i64 x.wt, .int .i64 x.pd, .int .i64 x.qt, .int .i64 x.us])
    have JA := hid (show AI 37 22 6 gc w O pre sv (W7.alloc (.cells #[.int .i64 x.id, .int .i64 x.par, .int .i64 x.wt, .int .i64 x.pd, .int .i64 x.qt, .int .i64 x.us] 37)) from ⟨J7.out.kp.trans KA.out, J7.out.bx.kp0 KA.out, J7.out.ow.kp0 KA.out, J7.out.ne, J7.out.no, J7.out.on, fun i hi => ⟨(J7.out.ol i hi).1, Nat.lt_of_lt_of_le (J7.out.ol i hi).2 KA.out.size⟩⟩)
    have hz8 := World.size_alloc W7 (.cells #[.int .i64 x.id, .int .i64 x.par, .int .i64 x.wt, .int .i64 x.pd, .int .i64 x.qt, .int .i64 x.us] 37)
    clear hI hk7 hI7 hpl6
    refine wpIn_block ?_
    refine region_lit_in (by kernel_rfl) (fun ⟨_, _, h⟩ => h.elim) ?_
    go_wp2_with (first
      | (at_builtin
         refine wp_app1 usG gc_one rfl (.tmp 8) (.tmp 10) rfl (base := w.heap.size) (y := x) (by exact JA.out.ow) rfl (by
           intro i hi
           match i, hi with
           | 0, _ => exact BZ.out.cell 0
           | 1, _ => exact BZ.out.cell 1
           | 2, _ => exact BZ.out.cell 2
           | 3, _ => exact BZ.out.cell 3
           | 4, _ => exact BZ.out.cell 4
           | 5, _ => exact BZ.out.cell 5) (by rw [HM.out]; omega) (by rw [HM.out]; simp only [maxLen]; omega) (by exact JA.out.kp.size) ?_
         intro v8 w8 o8 k8 p8
         have kB := (Kp.refl (fun i => sv.ownBlock = some i) _).grown k8 fun k hk => .inl hk
         have b8 := JA.out.bx.kp kB fun e => JA.out.ne e
         have f8 : w8.frozen? ⟨w.heap.size, 0, none⟩ = false := b8.frozen 0
         have c8 := b8.cell 0
         simp only [List.getElem?_toArray, List.getElem?_cons_zero] at c8
         obtain ⟨A8, q8, rfl⟩ := o8.formN (m := M + 1) (by rw [List.length_append, HM.out]; rfl)
         have P8 := hid (JA.out.push o8 k8 p8)
         clear o8 k8 p8 b8 kB))
    obtain ⟨P9, K9⟩ := P8.out
    refine ⟨(KA.out.all).step K9 fun i hi e => ?_, _, P9⟩
    rcases e with e | e
    · exact ⟨fun h => J7.out.no (e ▸ h), fun h => by have := hRd i h; omega⟩
    · exact ⟨fun h => J7.out.on i e h, fun h => by have := hRd i h; have := (J7.out.ow.blk e).1; omega⟩
theorem collectG_any {gf : Nat} {lb : Array Value} {Rd : Nat → Prop} (hseq : SeqO Tryz.prog gf lb (fun x : GS => #[.agg #[.int .i64 x.id, .int .i64 x.par, .int .i64 x.wt, .int .i64 x.pd, .int .i64 x.qt, .int .i64 x.us]]) Rd xs w) (eg : ∀ args w, (callFunc gf args).run Tryz.prog w = .ok (.enter gf args) w) (hRd : ∀ k, Rd k → k < w.heap.size) (hl : xs.length ≤ 1000000000) :
    Calls Tryz.prog 59 #[.func (.func gf) #[] lb] w fun e w' => ∃ u, e = .returned u ∧ Ow w' w.heap.size 37 6 gc u xs ∧ Kp No w w' := by
  have HA := hid (aseqG_any hseq eg hRd hl)
  clear hseq
  go_enter Tryz.func59, Tryz.ntmps59
  go_wp2_with (first
    | (go_at_call 81
       refine HA.out.mono ?_
       rintro e w1 ⟨u, rfl, o1, k1⟩
       have R1 := hid (And.intro o1 k1)
       clear o1 k1))
  go_ret
  exact ⟨u, rfl, R1.out.1, R1.out.2⟩
end

section
variable {w w' : World} {S P Q : Nat → Prop} {v u : Value} {xs ys : List TS}
set_option maxRecDepth 100000 in
set_option maxHeartbeats 2000000 in
theorem aseqT_any {gf : Nat} {lb : Array Value} {Rd : Nat → Prop} (hseq : SeqO Tryz.prog gf lb (fun x : TS => #[.agg #[.int .i64 x.id, .int .i64 x.gr, .int .i64 x.wt, .int .u64 x.co, .bool x.sl, .int .i64 x.ra, .int .i64 x.lv, .int .i64 x.lr]]) Rd xs w) (eg : ∀ args w, (callFunc gf args).run Tryz.prog w = .ok (.enter gf args) w) (hRd : ∀ k, Rd k → k < w.heap.size) (hl : xs.length ≤ 1000000000) :
    Calls Tryz.prog 50 #[.slice none 0 0, .func (.func gf) #[] lb] w fun e w' => ∃ u, e = .returned u ∧ Ow w' w.heap.size 41 8 tc u xs ∧ Kp No w w' := by
  have HL := hid hl
  clear hl
  refine (callsIn_wide (n := 5)).1 ?_
  refine callsIn_of_wp_marks Tryz.func50 rfl trivial ?_ rfl
  simp only [Tryz.ntmps50, List.size_toArray, List.length_cons, List.length_nil, Nat.reduceAdd, Nat.reduceSub, Array.replicate_succ, Array.replicate_zero, List.push_toArray, List.append_toArray, List.nil_append, List.cons_append]
  refine wpIn_wide.2 ?_
  go_wp2_with fail
  have k0 := (Kp.refl No w).alloc (.cells #[.slice none 0 0] 23)
  have b0 := Blk.new w 23 #[.slice none 0 0]
  have I0 := hid (show AI 41 23 8 tc w No ([] : List TS) (.slice none 0 0) (w.alloc (.cells #[.slice none 0 0] 23)) from
    ⟨k0, b0, Ow.nil _ _ _ _ _, (fun e => by cases e), (fun e => e), (fun i e => by cases e), fun k e => e.elim⟩)
  have SQ := hid (hseq.kp k0.all)
  have hz0 := World.size_alloc w (.cells #[.slice none 0 0] 23)
  generalize w.alloc (.cells #[.slice none 0 0] 23) = w1 at I0 SQ hz0 ⊢
  clear hseq k0 b0
  refine (wpIn_wide (n := 5)).1 ?_
  refine range_own (gf := gf) (lb := lb) rfl eg SQ.out (fun k hk => by have := hRd k hk; omega) (fun _ => rfl)
    (fun O pre W => ∃ sv, AI 41 23 8 tc w O pre sv W) (fun _ _ _ _ => False) AI.ab (fun _ _ _ _ _ _ h _ _ => h) ⟨_, I0.out⟩ ?round ?done ?stop
  case stop =>
    rintro D' O c' pre rest W' _ _ _ h _
    exact h.elim
  case done =>
    rintro D' O W8 hD hO ⟨sv, hI⟩ hKD
    have HI := hid hI
    have HD := hid (And.intro hKD hO)
    have hb0 := hI.bx.cell 0
    simp only [List.getElem?_toArray, List.getElem?_cons_zero] at hb0
    clear hI hKD hO
    go_wp2_with fail
    refine marks_taken [D'] _ (by simp) (fun D hD => ?_) fun w2 k2 => ?_
    · rw [List.mem_singleton] at hD
      subst hD
      exact HD.out.1
    · refine ⟨sv, by simp [results, Tryz.results50, go_sem], sv, rfl, ?_, HI.out.kp.step k2 fun i hi e => ?_⟩
      · exact HI.out.ow.kpx k2 fun i hi e => by
          rw [List.mem_singleton] at e
          subst e
          exact HI.out.on _ hi HD.out.2
      · rw [List.mem_singleton] at e
        omega
  case round =>
    rintro l' O pre x rest W6 hx6 hOl hl1 hl2 ⟨sv, hI⟩
    have hpl6 : pre.length + 1 + rest.length = xs.length := by
      have := congrArg List.length hx6
      simp at this
      omega
    try dsimp only
    gi_wp2
    have kA := (Kp.refl No W6).alloc (.cells #[.int .i64 x.id, .int .i64 x.gr, .int .i64 x.wt, .int .u64 x.co, .bool x.sl, .int .i64 x.ra, .int .i64 x.lv, .int .i64 x.lr] 41)
    have X6 := hid (Blk.new W6 41 #[.int .i64 x.id, .int .i64 x.gr, .int .i64 x.wt, .int .u64 x.co, .bool x.sl, .int .i64 x.ra, .int .i64 x.lv, .int .i64 x.lr])
    have H6 := hid hI.bx.lt
    refine ⟨kA.all, fun W7 hk7 => ?_⟩
    have X7 := hid (X6.out.kp hk7 fun e => by have e' : W6.heap.size = l' := e; omega)
    have HOO := hid (fun k (hk : O k) => show k < W7.heap.size from Nat.lt_of_lt_of_le (Nat.lt_of_lt_of_le (hI.ol k hk).2 kA.size) hk7.size)
    have hL : ∀ i, Only l' i → O i := fun i e => by cases e; exact hOl
    obtain ⟨_, hI7⟩ := And.intro trivial (show AI 41 23 8 tc w O pre sv W7 from ⟨(hI.kp.trans kA).step hk7 (fun i hi e => by have := (hI.ol i (hL i e)).1; omega), (hI.bx.kp0 kA).kp hk7 (fun e => hI.no (hL _ e)), (hI.ow.kp0 kA).kpx hk7 (fun i hi e => hI.on i hi (hL i e)), hI.ne, hI.no, hI.on, fun i hi => ⟨(hI.ol i hi).1, HOO.out i hi⟩⟩)
    have J7 := hid hI7
    have OL := hid hOl
    have ZL := hid (show l' < W7.heap.size from Nat.lt_of_lt_of_le (Nat.lt_of_lt_of_le hl2 kA.size) hk7.size)
    have hz7 := J7.out.kp.size
    have hb0 := J7.out.bx.cell 0
    have hbf := J7.out.bx.frozen 0
    simp only [List.getElem?_toArray, List.getElem?_cons_zero] at hb0
    have x0 := X7.out.cell 0
    have x1 := X7.out.cell 1
    have x2 := X7.out.cell 2
    have x3 := X7.out.cell 3
    have x4 := X7.out.cell 4
    have x5 := X7.out.cell 5
    have x6 := X7.out.cell 6
    have x7 := X7.out.cell 7
    simp only [List.getElem?_toArray, List.getElem?_cons_zero, List.getElem?_cons_succ] at x0 x1 x2 x3 x4 x5 x6 x7
    obtain ⟨M, hM⟩ : ∃ M, pre.length = M := ⟨_, rfl⟩
    have HM := hid hM
    have hML : M + 1 ≤ 1000000000 := by have := HL.out; omega
    clear hM
    have KA := hid ((Kp.refl No W7).alloc (.cells #[.int .i64 x.id, .int .i64 x.gr, .int .i64 x.wt, .int .u64 x.co, .bool x.sl, .int .i64 x.ra, .int .i64 x.lv, .int .i64 x.lr] 41))
    have BZ := hid (Blk.new W7 41 #[.int .i64 x.id, .int .i64 x.gr, .int .i64 x.wt, .int .u64 x.co, .bool x.sl, .int .i64 x.ra, .int .i64 x.lv, .int .i64 x.lr])
    have JA := hid (show AI 41 23 8 tc w O pre sv (W7.alloc (.cells #[.int .i64 x.id, .int .i64 x.gr, .int .i64 x.wt, .int .u64 x.co, .bool x.sl, .int .i64 x.ra, .int .i64 x.lv, .int .i64 x.lr] 41)) from ⟨J7.out.kp.trans KA.out, J7.out.bx.kp0 KA.out, J7.out.ow.kp0 KA.out, J7.out.ne, J7.out.no, J7.out.on, fun i hi => ⟨(J7.out.ol i hi).1, Nat.lt_of_lt_of_le (J7.out.ol i hi).2 KA.out.size⟩⟩)
    have hz8 := World.size_alloc W7 (.cells #[.int .i64 x.id, .int .i64 x.gr, .int .i64 x.wt, .int .u64 x.co, .bool x.sl, .int .i64 x.ra, .int .i64 x.lv, .int .i64 x.lr] 41)
    clear hI hk7 hI7 hpl6
    refine wpIn_block ?_
    refine region_lit_in (by kernel_rfl) (fun ⟨_, _, h⟩ => h.elim) ?_
    go_wp2_with (first
      | (at_builtin
         refine wp_app1 usT tc_one rfl (.tmp 8) (.tmp 10) rfl (base := w.heap.size) (y := x) (by exact JA.out.ow) rfl (by
           intro i hi
           match i, hi with
           | 0, _ => exact BZ.out.cell 0
           | 1, _ => exact BZ.out.cell 1
           | 2, _ => exact BZ.out.cell 2
           | 3, _ => exact BZ.out.cell 3
           | 4, _ => exact BZ.out.cell 4
           | 5, _ => exact BZ.out.cell 5
           | 6, _ => exact BZ.out.cell 6
           | 7, _ => exact BZ.out.cell 7) (by rw [HM.out]; omega) (by rw [HM.out]; simp only [maxLen]; omega) (by exact JA.out.kp.size) ?_
         intro v8 w8 o8 k8 p8
         have kB := (Kp.refl (fun i => sv.ownBlock = some i) _).grown k8 fun k hk => .inl hk
         have b8 := JA.out.bx.kp kB fun e => JA.out.ne e
         have f8 : w8.frozen? ⟨w.heap.size, 0, none⟩ = false := b8.frozen 0
         have c8 := b8.cell 0
         simp only [List.getElem?_toArray, List.getElem?_cons_zero] at c8
         obtain ⟨A8, q8, rfl⟩ := o8.formN (m := M + 1) (by rw [List.length_append, HM.out]; rfl)
         have P8 := hid (JA.out.push o8 k8 p8)
         clear o8 k8 p8 b8 kB))
    obtain ⟨P9, K9⟩ := P8.out
    refine ⟨(KA.out.all).step K9 fun i hi e => ?_, _, P9⟩
    rcases e with e | e
    · exact ⟨fun h => J7.out.no (e ▸ h), fun h => by have := hRd i h; omega⟩
    · exact ⟨fun h => J7.out.on i e h, fun h => by have := hRd i h; have := (J7.out.ow.blk e).1; omega⟩
theorem collectT_any {gf : Nat} {lb : Array Value} {Rd : Nat → Prop} (hseq : SeqO Tryz.prog gf lb (fun x : TS => #[.agg #[.int .i64 x.id, .int .i64 x.gr, .int .i64 x.wt, .int .u64 x.co, .bool x.sl, .int .i64 x.ra, .int .i64 x.lv, .int .i64 x.lr]]) Rd xs w) (eg : ∀ args w, (callFunc gf args).run Tryz.prog w = .ok (.enter gf args) w) (hRd : ∀ k, Rd k → k < w.heap.size) (hl : xs.length ≤ 1000000000) :
    Calls Tryz.prog 38 #[.func (.func gf) #[] lb] w fun e w' => ∃ u, e = .returned u ∧ Ow w' w.heap.size 41 8 tc u xs ∧ Kp No w w' := by
  have HA := hid (aseqT_any hseq eg hRd hl)
  clear hseq
  go_enter Tryz.func38, Tryz.ntmps38
  go_wp2_with (first
    | (go_at_call 50
       refine HA.out.mono ?_
       rintro e w1 ⟨u, rfl, o1, k1⟩
       have R1 := hid (And.intro o1 k1)
       clear o1 k1))
  go_ret
  exact ⟨u, rfl, R1.out.1, R1.out.2⟩
end

section
variable {w w' : World} {S P Q : Nat → Prop} {v u : Value} {xs ys : List Int}
set_option maxRecDepth 100000 in
set_option maxHeartbeats 2000000 in
theorem aseqI_any {gf : Nat} {lb : Array Value} {Rd : Nat → Prop} (hseq : SeqO Tryz.prog gf lb (fun x : Int => #[.int .i64 x]) Rd xs w) (eg : ∀ args w, (callFunc gf args).run Tryz.prog w = .ok (.enter gf args) w) (hRd : ∀ k, Rd k → k < w.heap.size) (hl : xs.length ≤ 1000000000) :
    Calls Tryz.prog 57 #[.slice none 0 0, .func (.func gf) #[] lb] w fun e w' => ∃ u, e = .returned u ∧ Ow w' w.heap.size 3 1 zI u xs ∧ Kp No w w' := by
  have HL := hid hl
  clear hl
  refine (callsIn_wide (n := 5)).1 ?_
  refine callsIn_of_wp_marks Tryz.func57 rfl trivial ?_ rfl
  simp only [Tryz.ntmps57, List.size_toArray, List.length_cons, List.length_nil, Nat.reduceAdd, Nat.reduceSub, Array.replicate_succ, Array.replicate_zero, List.push_toArray, List.append_toArray, List.nil_append, List.cons_append]
  refine wpIn_wide.2 ?_
  go_wp2_with fail
  have k0 := (Kp.refl No w).alloc (.cells #[.slice none 0 0] 32)
  have b0 := Blk.new w 32 #[.slice none 0 0]
  have I0 := hid (show AI 3 32 1 zI w No ([] : List Int) (.slice none 0 0) (w.alloc (.cells #[.slice none 0 0] 32)) from
    ⟨k0, b0, Ow.nil _ _ _ _ _, (fun e => by cases e), (fun e => e), (fun i e => by cases e), fun k e => e.elim⟩)
  have SQ := hid (hseq.kp k0.all)
  have hz0 := World.size_alloc w (.cells #[.slice none 0 0] 32)
  generalize w.alloc (.cells #[.slice none 0 0] 32) = w1 at I0 SQ hz0 ⊢
  clear hseq k0 b0
  refine (wpIn_wide (n := 5)).1 ?_
  refine range_own (gf := gf) (lb := lb) rfl eg SQ.out (fun k hk => by have := hRd k hk; omega) (fun _ => rfl)
    (fun O pre W => ∃ sv, AI 3 32 1 zI w O pre sv W) (fun _ _ _ _ => False) AI.ab (fun _ _ _ _ _ _ h _ _ => h) ⟨_, I0.out⟩ ?round ?done ?stop
  case stop =>
    rintro D' O c' pre rest W' _ _ _ h _
    exact h.elim
  case done =>
    rintro D' O W8 hD hO ⟨sv, hI⟩ hKD
    have HI := hid hI
    have HD := hid (And.intro hKD hO)
    have hb0 := hI.bx.cell 0
    simp only [List.getElem?_toArray, List.getElem?_cons_zero] at hb0
    clear hI hKD hO
    go_wp2_with fail
    refine marks_taken [D'] _ (by simp) (fun D hD => ?_) fun w2 k2 => ?_
    · rw [List.mem_singleton] at hD
      subst hD
      exact HD.out.1
    · refine ⟨sv, by simp [results, Tryz.results57, go_sem], sv, rfl, ?_, HI.out.kp.step k2 fun i hi e => ?_⟩
      · exact HI.out.ow.kpx k2 fun i hi e => by
          rw [List.mem_singleton] at e
          subst e
          exact HI.out.on _ hi HD.out.2
      · rw [List.mem_singleton] at e
        omega
  case round =>
    rintro l' O pre x rest W6 hx6 hOl hl1 hl2 ⟨sv, hI⟩
    have hpl6 : pre.length + 1 + rest.length = xs.length := by
      have := congrArg List.length hx6
      simp at this
      omega
    try dsimp only
    gi_wp2
    have kA := Kp.refl No W6
    refine ⟨kA.all, fun W7 hk7 => ?_⟩
    have HOO := hid (fun k (hk : O k) => show k < W7.heap.size from Nat.lt_of_lt_of_le (hI.ol k hk).2 hk7.size)
    have hL : ∀ i, Only l' i → O i := fun i e => by cases e; exact hOl
    obtain ⟨_, hI7⟩ := And.intro trivial (show AI 3 32 1 zI w O pre sv W7 from ⟨(hI.kp.trans kA).step hk7 (fun i hi e => by have := (hI.ol i (hL i e)).1; omega), (hI.bx.kp0 kA).kp hk7 (fun e => hI.no (hL _ e)), (hI.ow.kp0 kA).kpx hk7 (fun i hi e => hI.on i hi (hL i e)), hI.ne, hI.no, hI.on, fun i hi => ⟨(hI.ol i hi).1, HOO.out i hi⟩⟩)
    have J7 := hid hI7
    have OL := hid hOl
    have ZL := hid (show l' < W7.heap.size from Nat.lt_of_lt_of_le (Nat.lt_of_lt_of_le hl2 kA.size) hk7.size)
    have hz7 := J7.out.kp.size
    have hb0 := J7.out.bx.cell 0
    have hbf := J7.out.bx.frozen 0
    simp only [List.getElem?_toArray, List.getElem?_cons_zero] at hb0
    obtain ⟨M, hM⟩ : ∃ M, pre.length = M := ⟨_, rfl⟩
    have HM := hid hM
    have hML : M + 1 ≤ 1000000000 := by have := HL.out; omega
    clear hM
    have KA := hid ((Kp.refl No W7).alloc (.cells #[.int .i64 x] 3))
    have BZ := hid (Blk.new W7 3 #[.int .i64 x])
    have JA := hid (show AI 3 32 1 zI w O pre sv (W7.alloc (.cells #[.int .i64 x] 3)) from ⟨J7.out.kp.trans KA.out, J7.out.bx.kp0 KA.out, J7.out.ow.kp0 KA.out, J7.out.ne, J7.out.no, J7.out.on, fun i hi => ⟨(J7.out.ol i hi).1, Nat.lt_of_lt_of_le (J7.out.ol i hi).2 KA.out.size⟩⟩)
    have hz8 := World.size_alloc W7 (.cells #[.int .i64 x] 3)
    clear hI hk7 hI7 hpl6
    refine wpIn_block ?_
    refine region_lit_in (by kernel_rfl) (fun ⟨_, _, h⟩ => h.elim) ?_
    go_wp2_with (first
      | (at_builtin
         refine wp_app1 usI zI_one rfl (.tmp 8) (.tmp 10) rfl (base := w.heap.size) (y := x) (by exact JA.out.ow) rfl (by
           intro i hi
           match i, hi with
           | 0, _ => exact BZ.out.cell 0) (by rw [HM.out]; omega) (by rw [HM.out]; simp only [maxLen]; omega) (by exact JA.out.kp.size) ?_
         intro v8 w8 o8 k8 p8
         have kB := (Kp.refl (fun i => sv.ownBlock = some i) _).grown k8 fun k hk => .inl hk
         have b8 := JA.out.bx.kp kB fun e => JA.out.ne e
         have f8 : w8.frozen? ⟨w.heap.size, 0, none⟩ = false := b8.frozen 0
         have c8 := b8.cell 0
         simp only [List.getElem?_toArray, List.getElem?_cons_zero] at c8
         obtain ⟨A8, q8, rfl⟩ := o8.formN (m := M + 1) (by rw [List.length_append, HM.out]; rfl)
         have P8 := hid (JA.out.push o8 k8 p8)
         clear o8 k8 p8 b8 kB))
    obtain ⟨P9, K9⟩ := P8.out
    refine ⟨(KA.out.all).step K9 fun i hi e => ?_, _, P9⟩
    rcases e with e | e
    · exact ⟨fun h => J7.out.no (e ▸ h), fun h => by have := hRd i h; omega⟩
    · exact ⟨fun h => J7.out.on i e h, fun h => by have := hRd i h; have := (J7.out.ow.blk e).1; omega⟩
theorem collectI_any {gf : Nat} {lb : Array Value} {Rd : Nat → Prop} (hseq : SeqO Tryz.prog gf lb (fun x : Int => #[.int .i64 x]) Rd xs w) (eg : ∀ args w, (callFunc gf args).run Tryz.prog w = .ok (.enter gf args) w) (hRd : ∀ k, Rd k → k < w.heap.size) (hl : xs.length ≤ 1000000000) :
    Calls Tryz.prog 44 #[.func (.func gf) #[] lb] w fun e w' => ∃ u, e = .returned u ∧ Ow w' w.heap.size 3 1 zI u xs ∧ Kp No w w' := by
  have HA := hid (aseqI_any hseq eg hRd hl)
  clear hseq
  go_enter Tryz.func44, Tryz.ntmps44
  go_wp2_with (first
    | (go_at_call 57
       refine HA.out.mono ?_
       rintro e w1 ⟨u, rfl, o1, k1⟩
       have R1 := hid (And.intro o1 k1)
       clear o1 k1))
  go_ret
  exact ⟨u, rfl, R1.out.1, R1.out.2⟩
end
end Go.Proofs.YtggmdgdgljlddaaGreat

/-
  slices.SortFunc and slices.SortedFunc at groups (falling by number) and tasks (rising).
-/
namespace Go.Proofs.YtggmdgdgljlddaaGreat
open Go.RowKit Go.Shelf Go.Sort

section
variable {α : Type} [Inhabited α] {enc : α → List Value} {n : Nat} {f : α → Nat → Value} {w : World} {base g m c q : Nat} {e : TypeId} {xs : List α} {d' : Array α} {os : Array Obj}
theorem map_other (w : World) (g k : Nat) (F : Array Value → Array Value) (h : k ≠ g) : (mapBlock w g F).heap[k]? = w.heap[k]? := by
  unfold mapBlock
  simp only [Array.getElem?_modify]
  rw [if_neg (Ne.symm h)]
theorem map_same (w : World) (g : Nat) (F : Array Value → Array Value) {cs : Array Value} {t : TypeId} {x : Nat × Nat} (h : w.heap[g]? = some (.cells cs t x)) : (mapBlock w g F).heap[g]? = some (.cells (F cs) t x) := by
  unfold mapBlock
  simp only [Array.getElem?_modify, if_true, h, Option.map_some, onCells]
theorem map_size (w : World) (g : Nat) (F : Array Value → Array Value) : (mapBlock w g F).heap.size = w.heap.size := by
  unfold mapBlock
  simp
theorem grow_heap (w : World) (os : Array Obj) {k : Nat} (h : k < w.heap.size) : (grow w os).heap[k]? = w.heap[k]? := by
  unfold grow
  simp only
  rw [Array.getElem?_append_left h]
theorem Ow.sortK (h : Ow w base e n f (.slice (some ⟨g, 0, none⟩) m c) xs) (hn : 0 < n) (hf : ∀ x i, i < n → f x i = (enc x)[i]!) (hm : d'.size = xs.length) :
    Ow (sortWorldK enc n w g 0 q d' os) base e n f (.slice (some ⟨g, 0, none⟩) m c) d'.toList ∧ Kp (Only g) w (sortWorldK enc n w g 0 q d' os) := by
  rcases h.2 with ⟨h1, _⟩ | ⟨g', cap, cur, h1, hb, hg, hl, hmx, hs, ht⟩
  · cases h1
  · injection h1 with e1 e2 e3
    cases e1
    subst e2 e3
    have hlt : g < w.heap.size := (Array.getElem?_eq_some_iff.1 hg).1
    have hW : ∀ k, k < w.heap.size → (sortWorldK enc n w g 0 q d' os).heap[k]? = (mapBlock (Sort.ahead w q) g (putCells id 0 (flatK enc n d'))).heap[k]? := fun k hk => by
      unfold sortWorldK putRowK putRow
      exact grow_heap _ _ (by rw [map_size]; exact hk)
    refine ⟨⟨?_, 
      .inr ⟨g, c, putCells id 0 (flatK enc n d') cur, by rw [show d'.toList.length = xs.length from hm], hb, ?_, by rw [Array.length_toList, hm]; exact hl, hmx, by unfold putCells; simpa using hs, ?_⟩⟩, ?_⟩
    · rw [flat_len, Array.length_toList]
    · rw [hW g hlt]
      exact map_same _ g _ hg
    · have hle : xs.length * n ≤ c * n := Nat.mul_le_mul_right _ hl
      apply List.ext_getElem?
      intro j
      by_cases hj : j < xs.length * n
      · rw [List.getElem?_take_of_lt (by rw [Array.length_toList, hm]; exact hj)]
        have hq : j / n < d'.toList.length := by rw [Array.length_toList, hm]; exact Nat.div_lt_of_lt_mul (by rwa [Nat.mul_comm])
        have hi : j % n < n := Nat.mod_lt _ hn
        have e : j = j / n * n + j % n := by rw [Nat.mul_comm]; exact (Nat.div_add_mod j n).symm
        have h1 := flat_at (f := f) (d := default) d'.toList hq hi
        rw [← e] at h1
        rw [h1, Array.getElem?_toList]
        unfold putCells
        rw [Array.getElem?_mapIdx]
        have hjc : j < cur.size := by omega
        rw [Array.getElem?_eq_getElem hjc]
        simp only [Option.map_some, Nat.zero_le, Nat.zero_add, true_and, Nat.sub_zero, id]
        rw [if_pos (by rw [size_flatK, hm]; exact hj), get_flatK _ _ _ _ (by rw [hm]; exact hj), hf _ _ hi]
        congr 3
        have hq2 : j / n < d'.size := by rw [← Array.length_toList]; exact hq
        simp [List.getD, hq2]
      · rw [List.getElem?_eq_none (by rw [List.length_take, Array.length_toList, hm]; omega), List.getElem?_eq_none (by rw [flat_len, Array.length_toList, hm]; omega)]
    · refine ⟨rfl, rfl, rfl, ?_, fun k hk hs => ?_⟩
      · unfold sortWorldK grow putRowK putRow
        simp only [Array.size_append]
        rw [map_size]
        exact Nat.le_add_right _ _
      · rw [hW k hk]
        exact map_other _ _ _ _ fun e => hs e
theorem Ow.holdsK (h : Ow w base e n f (.slice (some ⟨g, 0, none⟩) m c) xs) (hn : 0 < n) (hf : ∀ x i, i < n → f x i = (enc x)[i]!) : HoldsK enc n w g 0 xs.toArray := by
  intro j hj
  rw [size_flatK, List.size_toArray] at hj
  have hq : j / n < xs.length := Nat.div_lt_of_lt_mul (by rwa [Nat.mul_comm])
  have hi : j % n < n := Nat.mod_lt _ hn
  have ej : j = j / n * n + j % n := by rw [Nat.mul_comm]; exact (Nat.div_add_mod j n).symm
  have h1 := h.cellAt (d := default) hq hi
  rw [← ej] at h1
  obtain ⟨_, hlt, cs, hb⟩ := h.blk (k := g) rfl
  refine ⟨?_, ?_⟩
  · rw [Nat.zero_add, h1, get_flatK _ _ _ _ (by rw [List.size_toArray]; exact hj), hf _ _ hi]
    congr 3
    simp [List.getD, hq]
  · exact Blk.frozen (t := e) (cs := cs) hb _
end
theorem perm_of {α : Type} [Inhabited α] {xs : List α} {d' : Array α} (h : PermIn 0 xs.length xs.toArray d') : d'.toList.Perm xs ∧ d'.size = xs.length := by
  obtain ⟨h1, _, h3⟩ := h
  have h1' : d'.size = xs.length := h1
  refine ⟨?_, h1'⟩
  have e1 : d'.extract 0 xs.length = d' := by rw [← h1']; simp
  have e2 : xs.toArray.extract 0 xs.length = xs.toArray := by simp
  rw [e1, e2] at h3
  exact h3
theorem pair_of {α : Type} [Inhabited α] {R : α → α → Prop} {d' : Array α} (h : ∀ i j, i < j → j < d'.size → R d'[i]! d'[j]!) : d'.toList.Pairwise R := by
  rw [List.pairwise_iff_getElem]
  intro i j hi hj hij
  rw [Array.length_toList] at hi hj
  have := h i j hij hj
  rw [getElem!_pos d' i hi, getElem!_pos d' j hj] at this
  simpa using this
theorem cmpI_neg {a b : Int} : cmpI a b < 0 ↔ a < b := by
  unfold cmpI
  split
  · simp [*]
  · split <;> simp <;> omega
def cfT (x y : TS) : Int := cmpI x.id y.id
def cfG (x y : GS) : Int := cmpI y.id x.id
theorem ltT (x y : TS) : ltOf cfT x y = decide (x.id < y.id) := by
  unfold ltOf cfT
  rw [decide_eq_decide, cmpI_neg]
theorem ltG (x y : GS) : ltOf cfG x y = decide (y.id < x.id) := by
  unfold ltOf cfG
  rw [decide_eq_decide, cmpI_neg]
theorem swoT : SWO (ltOf cfT) where
  irrefl x := by rw [ltT]; simp
  trans x y z h1 h2 := by rw [ltT] at *; simp at *; omega
  ntrans x y z h1 h2 := by rw [ltT] at *; simp at *; omega
theorem swoG : SWO (ltOf cfG) where
  irrefl x := by rw [ltG]; simp
  trans x y z h1 h2 := by rw [ltG] at *; simp at *; omega
  ntrans x y z h1 h2 := by rw [ltG] at *; simp at *; omega
theorem tc_enc (x : TS) (i : Nat) (h : i < 8) : tc x i = (te x)[i]! := by
  match i, h with
  | 0, _ => rfl
  | 1, _ => rfl
  | 2, _ => rfl
  | 3, _ => rfl
  | 4, _ => rfl
  | 5, _ => rfl
  | 6, _ => rfl
  | 7, _ => rfl
theorem gc_enc (x : GS) (i : Nat) (h : i < 6) : gc x i = (ge x)[i]! := by
  match i, h with
  | 0, _ => rfl
  | 1, _ => rfl
  | 2, _ => rfl
  | 3, _ => rfl
  | 4, _ => rfl
  | 5, _ => rfl

section
variable {w w' : World} {S P Q : Nat → Prop} {v u : Value} {xs ys : List GS} {base : Nat}
set_option maxRecDepth 100000 in
theorem closeG (x y : GS) (W : World) : Calls Tryz.prog 49 #[.agg (ge x).toArray, .agg (ge y).toArray] W fun e w' => e = .returned (.int .i64 (cfG x y)) ∧ ∃ q os', w' = grow (W.drewN q) os' := by
  obtain ⟨r, hr⟩ : ∃ r, cfG x y = r := ⟨_, rfl⟩
  have HC := hid (fun W' => cmp_is (show cmpI y.id x.id = r from hr) W')
  rw [hr]
  unfold ge
  clear hr
  go_enter Tryz.func49, Tryz.ntmps49
  go_wp2_with (go_at_call 22; refine (HC.out _).mono ?_; rintro e w' ⟨rfl, rfl⟩)
  go_ret
  exact ⟨rfl, 0, _, by rw [alloc_eq_grow, alloc_eq_grow, grow_grow]; rfl⟩
theorem sortG_any (h : Ow w base 37 6 gc u xs) (hl : xs.length ≤ 1000000000) :
    Calls Tryz.prog 60 #[u, .func (.func 49) #[] #[]] w fun e w' => e = .returned (.tuple #[]) ∧ ∃ ys, Ow w' base 37 6 gc u ys ∧ ys.Perm xs ∧ ys.Pairwise (fun a b => b.id ≤ a.id) ∧ Kp (fun i => u.ownBlock = some i) w w' := by
  by_cases h0 : xs = []
  · subst h0
    obtain ⟨A, c, rfl⟩ := h.formN (m := 0) rfl
    refine Calls.mono (AnyF.slices_SortFunc_none Tryz.sortG A c (.func (.func 49) #[] #[]) w) ?_
    rintro e w' ⟨rfl, rfl⟩
    exact ⟨rfl, [], h, .refl _, List.Pairwise.nil, Kp.refl _ _⟩
  · obtain ⟨b, c, rfl, hb, hbl, hc, hm⟩ := h.form2 (List.length_pos_iff.2 h0)
    have eg : ∀ args w, (callFunc 49 args).run Tryz.prog w = .ok (.enter 49 args) w := enters_of Tryz.func49 (by kernel_rfl) rfl
    have hcon := AnyQ.slices_SortFunc Tryz.sortG 6 Tryz.isAgg37 Tryz.sizeOf37 ge ge_len ge_one cfG swoG 49 #[] b 0 c xs.toArray w eg (fun _ _ _ _ x y => closeG x y _) (h.holdsK (by decide) gc_enc) hbl (by rw [List.size_toArray]; omega)
    rw [List.size_toArray] at hcon
    refine Calls.mono hcon ?_
    rintro e w' ⟨rfl, d', q, os, hp, hs, rfl⟩
    obtain ⟨p1, p2⟩ := perm_of (xs := xs) hp
    obtain ⟨o1, k1⟩ := h.sortK (enc := ge) (d' := d') (q := q) (os := os) (by decide) gc_enc p2
    refine ⟨rfl, d'.toList, o1, p1, pair_of fun i j hij hj => ?_, k1.mono fun i _ e => by rw [show i = b from e]; rfl⟩
    have := hs i j (Nat.zero_le _) hij (by rw [← p2]; exact hj)
    rw [ltG, decide_eq_false_iff_not] at this
    omega
theorem sortedfG_any {gf : Nat} {lb : Array Value} {Rd : Nat → Prop} (hseq : SeqO Tryz.prog gf lb (fun x : GS => #[.agg #[.int .i64 x.id, .int .i64 x.par, .int .i64 x.wt, .int .i64 x.pd, .int .i64 x.qt, .int .i64 x.us]]) Rd xs w) (eg : ∀ args w, (callFunc gf args).run Tryz.prog w = .ok (.enter gf args) w) (hRd : ∀ k, Rd k → k < w.heap.size) (hl : xs.length ≤ 1000000000) :
    Calls Tryz.prog 47 #[.func (.func gf) #[] lb, .func (.func 49) #[] #[]] w fun e w' => ∃ u ys, e = .returned u ∧ Ow w' w.heap.size 37 6 gc u ys ∧ ys.Perm xs ∧ ys.Pairwise (fun a b => b.id ≤ a.id) ∧ Kp No w w' := by
  have HA := hid (collectG_any hseq eg hRd hl)
  have HL := hid hl
  clear hseq hl
  go_enter Tryz.func47, Tryz.ntmps47
  go_wp2_with (first
    | (go_at_call 59
       refine HA.out.mono ?_
       rintro e w1 ⟨u, rfl, o1, k1⟩
       have R1 := hid (And.intro o1 k1)
       clear o1 k1)
    | (go_at_call 60
       refine (sortG_any R1.out.1 HL.out).mono ?_
       rintro e w2 ⟨rfl, ys, o2, p2, s2, k2⟩
       have R2 := hid (And.intro o2 (And.intro p2 (And.intro s2 (R1.out.2.step k2 fun i hi e => by have := (R1.out.1.blk e).1; omega))))
       clear o2 p2 s2 k2))
  go_ret
  exact ⟨u, ys, rfl, R2.out⟩
/-- The values of a row, as an iterator behind its box. -/
theorem Rw.seqG (h : Rw 6 gc gs0 w P v xs) (hl : xs.length ≤ 1000000000) : ∃ b, b ≤ w.heap.size ∧ SeqO Tryz.prog 61 #[.pointer (some ⟨w.heap.size, 0, none⟩)] (fun x : GS => #[.agg #[.int .i64 x.id, .int .i64 x.par, .int .i64 x.wt, .int .i64 x.pd, .int .i64 x.qt, .int .i64 x.us]]) (fun k => k = w.heap.size ∨ k = b) xs (w.alloc (.cells #[v] 22)) := by
  obtain ⟨A, c, rfl, hc, hm, hx⟩ := h
  have k0 := (Kp.refl No w).alloc (.cells #[.slice A xs.length c] 22)
  have b0 := Blk.new w 22 #[.slice A xs.length c]
  have hz := World.size_alloc w (.cells #[.slice A xs.length c] 22)
  by_cases h0 : xs = []
  · subst h0
    exact ⟨w.heap.size, Nat.le_refl _, valuesG_seq w.heap.size w.heap.size 0 c A [] _ b0.lt (b0.cell 0) (fun h => by simp at h) (fun j i hj => by simp at hj) hl⟩
  · obtain ⟨b, o, rfl, hb, _, hcell⟩ := hx (List.length_pos_iff.2 h0)
    exact ⟨b, by omega, valuesG_seq w.heap.size b o c _ xs _ b0.lt (b0.cell 0) (fun _ => ⟨rfl, by omega⟩) (fun j i hj hi => (k0.cell (p := ⟨b, o + (j * 6 + i), none⟩) hb (fun e => e)).trans (hcell j i hj hi)) hl⟩
end

section
variable {w w' : World} {S P Q : Nat → Prop} {v u : Value} {xs ys : List TS} {base : Nat}
set_option maxRecDepth 100000 in
theorem closeT (x y : TS) (W : World) : Calls Tryz.prog 21 #[.agg (te x).toArray, .agg (te y).toArray] W fun e w' => e = .returned (.int .i64 (cfT x y)) ∧ ∃ q os', w' = grow (W.drewN q) os' := by
  obtain ⟨r, hr⟩ : ∃ r, cfT x y = r := ⟨_, rfl⟩
  have HC := hid (fun W' => cmp_is (show cmpI x.id y.id = r from hr) W')
  rw [hr]
  unfold te
  clear hr
  go_enter Tryz.func21, Tryz.ntmps21
  go_wp2_with (go_at_call 22; refine (HC.out _).mono ?_; rintro e w' ⟨rfl, rfl⟩)
  go_ret
  exact ⟨rfl, 0, _, by rw [alloc_eq_grow, alloc_eq_grow, grow_grow]; rfl⟩
theorem sortT_any (h : Ow w base 41 8 tc u xs) (hl : xs.length ≤ 1000000000) :
    Calls Tryz.prog 39 #[u, .func (.func 21) #[] #[]] w fun e w' => e = .returned (.tuple #[]) ∧ ∃ ys, Ow w' base 41 8 tc u ys ∧ ys.Perm xs ∧ ys.Pairwise (fun a b => a.id ≤ b.id) ∧ Kp (fun i => u.ownBlock = some i) w w' := by
  by_cases h0 : xs = []
  · subst h0
    obtain ⟨A, c, rfl⟩ := h.formN (m := 0) rfl
    refine Calls.mono (AnyF.slices_SortFunc_none Tryz.sortT A c (.func (.func 21) #[] #[]) w) ?_
    rintro e w' ⟨rfl, rfl⟩
    exact ⟨rfl, [], h, .refl _, List.Pairwise.nil, Kp.refl _ _⟩
  · obtain ⟨b, c, rfl, hb, hbl, hc, hm⟩ := h.form2 (List.length_pos_iff.2 h0)
    have eg : ∀ args w, (callFunc 21 args).run Tryz.prog w = .ok (.enter 21 args) w := enters_of Tryz.func21 (by kernel_rfl) rfl
    have hcon := AnyQ.slices_SortFunc Tryz.sortT 8 Tryz.isAgg41 Tryz.sizeOf41 te te_len te_one cfT swoT 21 #[] b 0 c xs.toArray w eg (fun _ _ _ _ x y => closeT x y _) (h.holdsK (by decide) tc_enc) hbl (by rw [List.size_toArray]; omega)
    rw [List.size_toArray] at hcon
    refine Calls.mono hcon ?_
    rintro e w' ⟨rfl, d', q, os, hp, hs, rfl⟩
    obtain ⟨p1, p2⟩ := perm_of (xs := xs) hp
    obtain ⟨o1, k1⟩ := h.sortK (enc := te) (d' := d') (q := q) (os := os) (by decide) tc_enc p2
    refine ⟨rfl, d'.toList, o1, p1, pair_of fun i j hij hj => ?_, k1.mono fun i _ e => by rw [show i = b from e]; rfl⟩
    have := hs i j (Nat.zero_le _) hij (by rw [← p2]; exact hj)
    rw [ltT, decide_eq_false_iff_not] at this
    omega
theorem sortedfT_any {gf : Nat} {lb : Array Value} {Rd : Nat → Prop} (hseq : SeqO Tryz.prog gf lb (fun x : TS => #[.agg #[.int .i64 x.id, .int .i64 x.gr, .int .i64 x.wt, .int .u64 x.co, .bool x.sl, .int .i64 x.ra, .int .i64 x.lv, .int .i64 x.lr]]) Rd xs w) (eg : ∀ args w, (callFunc gf args).run Tryz.prog w = .ok (.enter gf args) w) (hRd : ∀ k, Rd k → k < w.heap.size) (hl : xs.length ≤ 1000000000) :
    Calls Tryz.prog 19 #[.func (.func gf) #[] lb, .func (.func 21) #[] #[]] w fun e w' => ∃ u ys, e = .returned u ∧ Ow w' w.heap.size 41 8 tc u ys ∧ ys.Perm xs ∧ ys.Pairwise (fun a b => a.id ≤ b.id) ∧ Kp No w w' := by
  have HA := hid (collectT_any hseq eg hRd hl)
  have HL := hid hl
  clear hseq hl
  go_enter Tryz.func19, Tryz.ntmps19
  go_wp2_with (first
    | (go_at_call 38
       refine HA.out.mono ?_
       rintro e w1 ⟨u, rfl, o1, k1⟩
       have R1 := hid (And.intro o1 k1)
       clear o1 k1)
    | (go_at_call 39
       refine (sortT_any R1.out.1 HL.out).mono ?_
       rintro e w2 ⟨rfl, ys, o2, p2, s2, k2⟩
       have R2 := hid (And.intro o2 (And.intro p2 (And.intro s2 (R1.out.2.step k2 fun i hi e => by have := (R1.out.1.blk e).1; omega))))
       clear o2 p2 s2 k2))
  go_ret
  exact ⟨u, ys, rfl, R2.out⟩
/-- The values of a row, as an iterator behind its box. -/
theorem Rw.seqT (h : Rw 8 tc ts0 w P v xs) (hl : xs.length ≤ 1000000000) : ∃ b, b ≤ w.heap.size ∧ SeqO Tryz.prog 40 #[.pointer (some ⟨w.heap.size, 0, none⟩)] (fun x : TS => #[.agg #[.int .i64 x.id, .int .i64 x.gr, .int .i64 x.wt, .int .u64 x.co, .bool x.sl, .int .i64 x.ra, .int .i64 x.lv, .int .i64 x.lr]]) (fun k => k = w.heap.size ∨ k = b) xs (w.alloc (.cells #[v] 23)) := by
  obtain ⟨A, c, rfl, hc, hm, hx⟩ := h
  have k0 := (Kp.refl No w).alloc (.cells #[.slice A xs.length c] 23)
  have b0 := Blk.new w 23 #[.slice A xs.length c]
  have hz := World.size_alloc w (.cells #[.slice A xs.length c] 23)
  by_cases h0 : xs = []
  · subst h0
    exact ⟨w.heap.size, Nat.le_refl _, valuesT_seq w.heap.size w.heap.size 0 c A [] _ b0.lt (b0.cell 0) (fun h => by simp at h) (fun j i hj => by simp at hj) hl⟩
  · obtain ⟨b, o, rfl, hb, _, hcell⟩ := hx (List.length_pos_iff.2 h0)
    exact ⟨b, by omega, valuesT_seq w.heap.size b o c _ xs _ b0.lt (b0.cell 0) (fun _ => ⟨rfl, by omega⟩) (fun j i hj hi => (k0.cell (p := ⟨b, o + (j * 8 + i), none⟩) hb (fun e => e)).trans (hcell j i hj hi)) hl⟩
end
end Go.Proofs.YtggmdgdgljlddaaGreat
