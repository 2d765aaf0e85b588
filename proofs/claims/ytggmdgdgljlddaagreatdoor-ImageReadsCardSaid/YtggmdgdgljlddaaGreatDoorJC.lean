/-
  JA JB JC: texts laid into one.
-/
import Derived.Test.YtggmdgdgljlddaaGreatDoorLeB
import Derived.Test.YtggmdgdgljlddaaGreatDoorJMath
import Derived.Test.YtggmdgdgljlddaaGreatDoorHeld
import Derived.Test.YtggmdgdgljlddaaGreatDoorOwn
import Derived.Test.YtggmdgdgljlddaaGreatDoorZSort
import Derived.Test.YtggmdgdgljlddaaGreatDoorZEq
import Derived.Deep.RegionHeldLaw
import Derived.Test.YtggmdgdgljlddaaGreatDoorZIds
import Derived.Test.YtggmdgdgljlddaaGreatDoorApp
import Derived.Test.YtggmdgdgljlddaaGreatDoorPSec

/-
  Contracts of image's row, small, ticks, whole, flag, and of the four rows.
-/
namespace Go.Proofs.YtggmdgdgljlddaaGreatDoor
open Go.RowKit

/-- A number, and in how many bytes it lies. -/
def nbc (x : Int × Nat) (i : Nat) : Value := if i = 0 then .int .u64 x.1 else .int .i64 (x.2 : Int)
def NB (l : List (Int × Nat)) : Prop := ∀ x ∈ l, (0 ≤ x.1 ∧ x.1 ≤ 18446744073709551615) ∧ 1 ≤ x.2 ∧ x.2 ≤ 8
theorem hw_in {k : Nat} (h : 1 ≤ k ∧ k ≤ 8) : hw (k : Int) = k := by
  unfold hw
  split
  · omega
  · split
    · omega
    · omega
theorem rowOf_snoc {l : List (Int × Nat)} {k : Nat} (h : k < l.length) : rowOf (l.take (k + 1)) = rowOf (l.take k) ++ dg (l.getD k (0, 1)).1 (l.getD k (0, 1)).2 := by
  unfold rowOf
  rw [take_s l h (0, 1), List.flatMap_append]
  simp
theorem rowOf_len {l : List (Int × Nat)} (h : NB l) : (rowOf l).length ≤ 8 * l.length := by
  induction l with
  | nil => simp [rowOf]
  | cons x l ih =>
    have h1 := (h x (List.mem_cons_self ..)).2.2
    have h2 := ih fun y hy => h y (List.mem_cons_of_mem _ hy)
    unfold rowOf at h2 ⊢
    rw [List.flatMap_cons, List.length_append, dg_len, List.length_cons]
    omega
theorem NB.take {l : List (Int × Nat)} (h : NB l) (k : Nat) : NB (l.take k) := fun x hx => h x (List.mem_of_mem_take hx)
/-- A row that is laid at once. -/
theorem Rw.lit {α : Type} {n : Nat} {f : α → Nat → Value} {d : α} (w : World) (t : TypeId) (l : List α) (cs : Array Value) (hn : l.length ≤ maxLen) (hcs : cs.toList = flat n f l) : Rw n f d (w.alloc (.cells cs t)) Anyb (.slice (some ⟨w.heap.size, 0, none⟩) l.length l.length) l :=
  ⟨_, _, rfl, Nat.le_refl _, hn, fun _ => ⟨w.heap.size, 0, rfl, by simp, trivial, fun j i hj hi => by
    rw [Nat.zero_add, (Blk.new w t cs).cell, ← flat_at (f := f) (d := d) l hj hi, ← hcs, Array.getElem?_toList]⟩⟩
section
variable {w : World} {P : Nat → Prop} {v : Value}
set_option maxRecDepth 100000 in
set_option maxHeartbeats 1000000 in
theorem row_any {l : List (Int × Nat)} (h : Rw 2 nbc (0, 1) w P v l) (hn : NB l) (hl : l.length ≤ 100) : Calls Tryz.prog 84 #[v] w fun e w' => ∃ u, e = .returned u ∧ Own w' w.heap.size 5 u (rowOf l) ∧ Kp No w w' := by
  have HR := hid h
  have HB := hid hn
  obtain ⟨A, c, rfl, hc, hm, _⟩ := h
  unfold maxLen at hm
  obtain ⟨n, hn⟩ : ∃ n, l.length = n := ⟨_, rfl⟩
  have HN := hid hn
  rw [hn] at hc HR hl ⊢
  clear hn
  go_enter Tryz.func84, Tryz.ntmps84
  go_wp2_with fail
  go_loopw [3, 8] (fun u i wr => ∃ k : Nat, k ≤ n ∧ i = .int .i64 (k : Int) ∧ Hid (Own wr w.heap.size 5 u (rowOf (l.take k))) ∧ Hid (Kp No w wr)) (fun _ i _ => n - (intOf i).toNat)
  case atStart => exact ⟨0, Nat.zero_le _, rfl, hid (by simpa [rowOf] using Own.nil _ _ _), hid (Kp.refl _ _)⟩
  case round =>
    obtain ⟨k, hk, rfl, HO, KW⟩ := hrel
    by_cases hkn : k < n
    · have hkl : k < l.length := by rw [HN.out]; exact hkn
      have g1 : (k : Int) < (n : Int) := by omega
      have hwk := wrapI (x := (k : Int) + 1) (by unfold I64; omega)
      have Rk := HR.out.kp0 KW.out
      obtain ⟨b, o, rfl⟩ := Rk.there (by omega)
      have q0 := Rk.cell (j := k) (i := 0) (Kp.refl No _) hkl (by omega) rfl
      have q1 := Rk.cell (j := k) (i := 1) (Kp.refl No _) hkl (by omega) rfl
      have HS := hid (rowOf_snoc hkl)
      have hle := rowOf_len (HB.out.take k)
      have hlen : (l.take k).length = k := by rw [List.length_take]; omega
      obtain ⟨x, hx⟩ : ∃ x, l.getD k (0, 1) = x := ⟨_, rfl⟩
      have HX := hid (HB.out x (by rw [← hx]; simp [List.getD, hkl]))
      rw [hx] at q0 q1 HS
      obtain ⟨xn, xk⟩ := x
      simp only [nbc, if_true, Nat.one_ne_zero, if_false, Nat.add_zero, ← Nat.add_assoc] at q0 q1
      simp only at HX HS
      have HL := hid (show (rowOf (l.take k)).length ≤ 100000 by omega)
      have KA := hid (KW.out.alloc (.cells #[.int .u64 xn, .int .i64 (xk : Int)] 124))
      have OA := hid (HO.out.alloc (.cells #[.int .u64 xn, .int .i64 (xk : Int)] 124))
      clear Rk hx hlen hle
      go_wp2_with (first
        | (go_at_call 32
           refine (put_any (S := Anyb) _ (rowOf (l.take k)) xn (xk : Int) _ (OA.out.byt fun _ _ => trivial) HX.out.1 HL.out).mono ?_
           rintro e w3 ⟨u3, rfl, o3, k3⟩
           rw [hw_in HX.out.2, ← HS.out] at o3
           have O3 := hid (o3.lower KA.out.size)
           have K3 := hid (KA.out.trans k3)
           clear o3 k3))
      go_roundw
      case rel => exact ⟨k + 1, by omega, by go_num, O3, K3⟩
      case measure => simp [intOf]; omega
    · have hkk : k = n := by omega
      subst hkk
      have hng : ¬ (k : Int) < (k : Int) := by omega
      have ho := HO.out
      rw [List.take_of_length_le (by rw [HN.out]; omega)] at ho
      have HO2 := hid ho
      clear ho HO
      go_wp2_with fail
      go_ret
      exact ⟨_, rfl, HO2.out, KW.out⟩
theorem jsmall_any (n : Int) (w : World) : Calls Tryz.prog 85 #[.int .i64 n] w fun e w' => e = .returned (.agg #[.int .u64 (IntKind.u64.wrap n), .int .i64 3]) ∧ Kp No w w' := by
  go_enter Tryz.func85, Tryz.ntmps85
  go_wp2
  refine bodyPost_ret (v := .agg #[.int .u64 (IntKind.u64.wrap n), .int .i64 3]) ?_ rfl ⟨rfl, (Kp.refl No w).alloc _⟩
  rw [results_cell rfl]
  go_simp
theorem jticks_any (n : Int) (w : World) : Calls Tryz.prog 86 #[.int .i64 n] w fun e w' => e = .returned (.agg #[.int .u64 (IntKind.u64.wrap n), .int .i64 6]) ∧ Kp No w w' := by
  go_enter Tryz.func86, Tryz.ntmps86
  go_wp2
  refine bodyPost_ret (v := .agg #[.int .u64 (IntKind.u64.wrap n), .int .i64 6]) ?_ rfl ⟨rfl, (Kp.refl No w).alloc _⟩
  rw [results_cell rfl]
  go_simp
theorem jwhole_any (n : Int) (w : World) : Calls Tryz.prog 88 #[.int .u64 n] w fun e w' => e = .returned (.agg #[.int .u64 n, .int .i64 8]) ∧ Kp No w w' := by
  go_enter Tryz.func88, Tryz.ntmps88
  go_wp2
  refine bodyPost_ret (v := .agg #[.int .u64 n, .int .i64 8]) ?_ rfl ⟨rfl, (Kp.refl No w).alloc _⟩
  rw [results_cell rfl]
  go_simp
theorem jflag_any (b : Bool) (w : World) : Calls Tryz.prog 87 #[.bool b] w fun e w' => e = .returned (.agg #[.int .u64 (flg b), .int .i64 1]) ∧ Kp No w w' := by
  cases b
  · go_enter Tryz.func87, Tryz.ntmps87
    go_wp2
    refine bodyPost_ret (v := .agg #[.int .u64 0, .int .i64 1]) ?_ rfl ⟨rfl, (Kp.refl No w).alloc _⟩
    rw [results_cell rfl]
    go_simp
  · go_enter Tryz.func87, Tryz.ntmps87
    go_wp2
    refine bodyPost_ret (v := .agg #[.int .u64 1, .int .i64 1]) ?_ rfl ⟨rfl, (Kp.refl No w).alloc _⟩
    rw [results_cell rfl]
    go_simp
theorem dg_u64 (n : Int) {k : Nat} (h : k ≤ 8) : dg (IntKind.u64.wrap n) k = dg n k := by
  rw [dg_eq, u64w]
  rcases pw_of k h with ⟨e, _⟩ | ⟨e, _⟩ | ⟨e, _⟩ | ⟨e, _⟩ | ⟨e, _⟩ | ⟨e, _⟩ | ⟨e, _⟩ | ⟨e, _⟩ | ⟨e, _⟩ <;> rw [e] <;> omega
theorem u64_bd (n : Int) : 0 ≤ IntKind.u64.wrap n ∧ IntKind.u64.wrap n ≤ 18446744073709551615 := by rw [u64w]; omega
end
end Go.Proofs.YtggmdgdgljlddaaGreatDoor

/-
  Contracts of image's groupRow, bandRow, taskRow, coresRow.
-/
namespace Go.Proofs.YtggmdgdgljlddaaGreatDoor
open Go.RowKit
theorem groupRow_all {a w : World} {b : Nat} {g : GS} (h : At a b 45 #[.int .i64 g.id, .int .i64 g.par, .int .i64 g.wt, .int .i64 g.pd, .int .i64 g.qt, .int .i64 g.us] w) : w.cell? ⟨b, 0, none⟩ = some (.int .i64 g.id) ∧ w.cell? ⟨b, 1, none⟩ = some (.int .i64 g.par) ∧ w.cell? ⟨b, 2, none⟩ = some (.int .i64 g.wt) ∧ At a b 45 #[.int .i64 g.id, .int .i64 g.par, .int .i64 g.wt, .int .i64 g.pd, .int .i64 g.qt, .int .i64 g.us] w := ⟨h.blk.cell 0, h.blk.cell 1, h.blk.cell 2, h⟩
theorem groupRow_step {a w w' : World} {b : Nat} {g : GS} (k : Kp No w w') (h : w.cell? ⟨b, 0, none⟩ = some (.int .i64 g.id) ∧ w.cell? ⟨b, 1, none⟩ = some (.int .i64 g.par) ∧ w.cell? ⟨b, 2, none⟩ = some (.int .i64 g.wt) ∧ At a b 45 #[.int .i64 g.id, .int .i64 g.par, .int .i64 g.wt, .int .i64 g.pd, .int .i64 g.qt, .int .i64 g.us] w) : w'.cell? ⟨b, 0, none⟩ = some (.int .i64 g.id) ∧ w'.cell? ⟨b, 1, none⟩ = some (.int .i64 g.par) ∧ w'.cell? ⟨b, 2, none⟩ = some (.int .i64 g.wt) ∧ At a b 45 #[.int .i64 g.id, .int .i64 g.par, .int .i64 g.wt, .int .i64 g.pd, .int .i64 g.qt, .int .i64 g.us] w' := groupRow_all (h.2.2.2.kp k)
theorem groupRow_kp {a w : World} {b : Nat} {g : GS} (h : w.cell? ⟨b, 0, none⟩ = some (.int .i64 g.id) ∧ w.cell? ⟨b, 1, none⟩ = some (.int .i64 g.par) ∧ w.cell? ⟨b, 2, none⟩ = some (.int .i64 g.wt) ∧ At a b 45 #[.int .i64 g.id, .int .i64 g.par, .int .i64 g.wt, .int .i64 g.pd, .int .i64 g.qt, .int .i64 g.us] w) : Kp No a w := h.2.2.2.kept
set_option maxRecDepth 100000 in
set_option maxHeartbeats 2000000 in
theorem groupRow_any (g : GS) (w : World) : Calls Tryz.prog 44 #[.agg (ge g).toArray] w fun e w' => ∃ u, e = .returned u ∧ Own w' w.heap.size 5 u (grow g) ∧ Kp No w w' := by
  have HNB := hid (show NB [(IntKind.u64.wrap g.id, 3), (IntKind.u64.wrap g.par, 3), (IntKind.u64.wrap g.wt, 3)] from (by
    intro y hy
    simp only [List.mem_cons, List.not_mem_nil, or_false] at hy
    rcases hy with rfl | rfl | rfl
    · exact ⟨u64_bd _, show (1 : Nat) ≤ 3 by decide, show (3 : Nat) ≤ 8 by decide⟩
    · exact ⟨u64_bd _, show (1 : Nat) ≤ 3 by decide, show (3 : Nat) ≤ 8 by decide⟩
    · exact ⟨u64_bd _, show (1 : Nat) ≤ 3 by decide, show (3 : Nat) ≤ 8 by decide⟩
    ))
  have HROW := hid (show rowOf [(IntKind.u64.wrap g.id, 3), (IntKind.u64.wrap g.par, 3), (IntKind.u64.wrap g.wt, 3)] = grow g by
    rw [← grow_row]
    simp only [rowOf, List.flatMap_cons, List.flatMap_nil, dg_u64 _ (show 3 ≤ 8 by decide)])
  have k1 := (Kp.refl No w).alloc (.cells #[.int .i64 g.id, .int .i64 g.par, .int .i64 g.wt, .int .i64 g.pd, .int .i64 g.qt, .int .i64 g.us] 45)
  have b1 := Blk.new w 45 #[.int .i64 g.id, .int .i64 g.par, .int .i64 g.wt, .int .i64 g.pd, .int .i64 g.qt, .int .i64 g.us]
  have z1 := World.size_alloc w (.cells #[.int .i64 g.id, .int .i64 g.par, .int .i64 g.wt, .int .i64 g.pd, .int .i64 g.qt, .int .i64 g.us] 45)
  obtain ⟨w1, hw1⟩ : ∃ w1, w.alloc (.cells #[.int .i64 g.id, .int .i64 g.par, .int .i64 g.wt, .int .i64 g.pd, .int .i64 g.qt, .int .i64 g.us] 45) = w1 := ⟨_, rfl⟩
  rw [hw1] at k1 b1 z1
  have K1 := hid k1
  have Z1 := hid z1
  have SZ := hid (groupRow_all (a := w1) (w := w1.drew) ⟨(Kp.refl No w1).drew, b1.kp0 (Kp.refl No w1).drew⟩)
  have hcell := groupRow_all (a := w1) (w := w1) ⟨Kp.refl No w1, b1⟩
  obtain ⟨c0, c1, c2, _⟩ := hcell
  clear k1 b1 z1
  show Calls _ _ #[.agg #[.int .i64 g.id, .int .i64 g.par, .int .i64 g.wt, .int .i64 g.pd, .int .i64 g.qt, .int .i64 g.us]] w _
  go_enter Tryz.func44, Tryz.ntmps44
  go_upto_region 1 with fail
  clear hw1
  clear c0 c1 c2
  go_region_held3 (fun w' => w'.cell? ⟨w.heap.size, 0, none⟩ = some (.int .i64 g.id) ∧ w'.cell? ⟨w.heap.size, 1, none⟩ = some (.int .i64 g.par) ∧ w'.cell? ⟨w.heap.size, 2, none⟩ = some (.int .i64 g.wt) ∧ At w1 w.heap.size 45 #[.int .i64 g.id, .int .i64 g.par, .int .i64 g.wt, .int .i64 g.pd, .int .i64 g.qt, .int .i64 g.us] w')
    (first | exact SZ.out | exact groupRow_step (by assumption) (by assumption) | exact groupRow_step ((Kp.refl No _).alloc _) (by assumption) | assumption)
    (first
       | (go_at_call 85
          with_reducible refine (jsmall_any _ _).mono ?_
          rintro e w5 ⟨rfl, k5⟩)
       | (go_at_call 86
          with_reducible refine (jticks_any _ _).mono ?_
          rintro e w5 ⟨rfl, k5⟩)
       | (go_at_call 88
          with_reducible refine (jwhole_any _ _).mono ?_
          rintro e w5 ⟨rfl, k5⟩)
       | (go_at_call 87
          with_reducible refine (jflag_any _ _).mono ?_
          rintro e w5 ⟨rfl, k5⟩)
       | (go_at_call 84
          refine (row_any (l := [(IntKind.u64.wrap g.id, 3), (IntKind.u64.wrap g.par, 3), (IntKind.u64.wrap g.wt, 3)]) (by exact Rw.lit (f := nbc) (d := (0, 1)) _ _ [(IntKind.u64.wrap g.id, 3), (IntKind.u64.wrap g.par, 3), (IntKind.u64.wrap g.wt, 3)] _ (by simp [maxLen]) (by simp [flat, nbc, List.range_succ])) HNB.out (by simp)).mono ?_
          rintro e w6 ⟨u6, rfl, o6, k6⟩
          rw [HROW.out] at o6
          have O6 := hid (o6.lower ((K1.out.trans (groupRow_kp (by assumption)))).size)
          have K6 := hid (And.intro (((K1.out.trans (groupRow_kp (by assumption)))).trans k6) trivial)
          clear o6))
  go_wp2_with fail
  go_ret
  exact ⟨_, rfl, O6.out, K6.out.1⟩
theorem bandRow_all {a w : World} {b : Nat} {g : GS} (h : At a b 43 #[.int .i64 g.pd, .int .i64 g.qt, .int .i64 g.us] w) : w.cell? ⟨b, 0, none⟩ = some (.int .i64 g.pd) ∧ w.cell? ⟨b, 1, none⟩ = some (.int .i64 g.qt) ∧ w.cell? ⟨b, 2, none⟩ = some (.int .i64 g.us) ∧ At a b 43 #[.int .i64 g.pd, .int .i64 g.qt, .int .i64 g.us] w := ⟨h.blk.cell 0, h.blk.cell 1, h.blk.cell 2, h⟩
theorem bandRow_step {a w w' : World} {b : Nat} {g : GS} (k : Kp No w w') (h : w.cell? ⟨b, 0, none⟩ = some (.int .i64 g.pd) ∧ w.cell? ⟨b, 1, none⟩ = some (.int .i64 g.qt) ∧ w.cell? ⟨b, 2, none⟩ = some (.int .i64 g.us) ∧ At a b 43 #[.int .i64 g.pd, .int .i64 g.qt, .int .i64 g.us] w) : w'.cell? ⟨b, 0, none⟩ = some (.int .i64 g.pd) ∧ w'.cell? ⟨b, 1, none⟩ = some (.int .i64 g.qt) ∧ w'.cell? ⟨b, 2, none⟩ = some (.int .i64 g.us) ∧ At a b 43 #[.int .i64 g.pd, .int .i64 g.qt, .int .i64 g.us] w' := bandRow_all (h.2.2.2.kp k)
theorem bandRow_kp {a w : World} {b : Nat} {g : GS} (h : w.cell? ⟨b, 0, none⟩ = some (.int .i64 g.pd) ∧ w.cell? ⟨b, 1, none⟩ = some (.int .i64 g.qt) ∧ w.cell? ⟨b, 2, none⟩ = some (.int .i64 g.us) ∧ At a b 43 #[.int .i64 g.pd, .int .i64 g.qt, .int .i64 g.us] w) : Kp No a w := h.2.2.2.kept
set_option maxRecDepth 100000 in
set_option maxHeartbeats 2000000 in
theorem bandRow_any (g : GS) (w : World) : Calls Tryz.prog 45 #[.agg #[.int .i64 g.pd, .int .i64 g.qt, .int .i64 g.us]] w fun e w' => ∃ u, e = .returned u ∧ Own w' w.heap.size 5 u (brow g) ∧ Kp No w w' := by
  have HNB := hid (show NB [(IntKind.u64.wrap g.pd, 3), (IntKind.u64.wrap g.qt, 3), (IntKind.u64.wrap g.us, 6)] from (by
    intro y hy
    simp only [List.mem_cons, List.not_mem_nil, or_false] at hy
    rcases hy with rfl | rfl | rfl
    · exact ⟨u64_bd _, show (1 : Nat) ≤ 3 by decide, show (3 : Nat) ≤ 8 by decide⟩
    · exact ⟨u64_bd _, show (1 : Nat) ≤ 3 by decide, show (3 : Nat) ≤ 8 by decide⟩
    · exact ⟨u64_bd _, show (1 : Nat) ≤ 6 by decide, show (6 : Nat) ≤ 8 by decide⟩
    ))
  have HROW := hid (show rowOf [(IntKind.u64.wrap g.pd, 3), (IntKind.u64.wrap g.qt, 3), (IntKind.u64.wrap g.us, 6)] = brow g by
    rw [← brow_row]
    simp only [rowOf, List.flatMap_cons, List.flatMap_nil, dg_u64 _ (show 3 ≤ 8 by decide), dg_u64 _ (show 6 ≤ 8 by decide)])
  have k1 := (Kp.refl No w).alloc (.cells #[.int .i64 g.pd, .int .i64 g.qt, .int .i64 g.us] 43)
  have b1 := Blk.new w 43 #[.int .i64 g.pd, .int .i64 g.qt, .int .i64 g.us]
  have z1 := World.size_alloc w (.cells #[.int .i64 g.pd, .int .i64 g.qt, .int .i64 g.us] 43)
  obtain ⟨w1, hw1⟩ : ∃ w1, w.alloc (.cells #[.int .i64 g.pd, .int .i64 g.qt, .int .i64 g.us] 43) = w1 := ⟨_, rfl⟩
  rw [hw1] at k1 b1 z1
  have K1 := hid k1
  have Z1 := hid z1
  have SZ := hid (bandRow_all (a := w1) (w := w1.drew) ⟨(Kp.refl No w1).drew, b1.kp0 (Kp.refl No w1).drew⟩)
  have hcell := bandRow_all (a := w1) (w := w1) ⟨Kp.refl No w1, b1⟩
  obtain ⟨c0, c1, c2, _⟩ := hcell
  clear k1 b1 z1
  go_enter Tryz.func45, Tryz.ntmps45
  go_upto_region 1 with fail
  clear hw1
  clear c0 c1 c2
  go_region_held3 (fun w' => w'.cell? ⟨w.heap.size, 0, none⟩ = some (.int .i64 g.pd) ∧ w'.cell? ⟨w.heap.size, 1, none⟩ = some (.int .i64 g.qt) ∧ w'.cell? ⟨w.heap.size, 2, none⟩ = some (.int .i64 g.us) ∧ At w1 w.heap.size 43 #[.int .i64 g.pd, .int .i64 g.qt, .int .i64 g.us] w')
    (first | exact SZ.out | exact bandRow_step (by assumption) (by assumption) | exact bandRow_step ((Kp.refl No _).alloc _) (by assumption) | assumption)
    (first
       | (go_at_call 85
          with_reducible refine (jsmall_any _ _).mono ?_
          rintro e w5 ⟨rfl, k5⟩)
       | (go_at_call 86
          with_reducible refine (jticks_any _ _).mono ?_
          rintro e w5 ⟨rfl, k5⟩)
       | (go_at_call 88
          with_reducible refine (jwhole_any _ _).mono ?_
          rintro e w5 ⟨rfl, k5⟩)
       | (go_at_call 87
          with_reducible refine (jflag_any _ _).mono ?_
          rintro e w5 ⟨rfl, k5⟩)
       | (go_at_call 84
          refine (row_any (l := [(IntKind.u64.wrap g.pd, 3), (IntKind.u64.wrap g.qt, 3), (IntKind.u64.wrap g.us, 6)]) (by exact Rw.lit (f := nbc) (d := (0, 1)) _ _ [(IntKind.u64.wrap g.pd, 3), (IntKind.u64.wrap g.qt, 3), (IntKind.u64.wrap g.us, 6)] _ (by simp [maxLen]) (by simp [flat, nbc, List.range_succ])) HNB.out (by simp)).mono ?_
          rintro e w6 ⟨u6, rfl, o6, k6⟩
          rw [HROW.out] at o6
          have O6 := hid (o6.lower ((K1.out.trans (bandRow_kp (by assumption)))).size)
          have K6 := hid (And.intro (((K1.out.trans (bandRow_kp (by assumption)))).trans k6) trivial)
          clear o6))
  go_wp2_with fail
  go_ret
  exact ⟨_, rfl, O6.out, K6.out.1⟩
theorem taskRow_all {a w : World} {b : Nat} {t : TS} (h : At a b 53 #[.int .i64 t.id, .int .i64 t.gr, .int .i64 t.wt, .int .u64 t.co, .bool t.sl, .int .i64 t.ra, .int .i64 t.lv, .int .i64 t.lr] w) : w.cell? ⟨b, 0, none⟩ = some (.int .i64 t.id) ∧ w.cell? ⟨b, 1, none⟩ = some (.int .i64 t.gr) ∧ w.cell? ⟨b, 2, none⟩ = some (.int .i64 t.wt) ∧ w.cell? ⟨b, 4, none⟩ = some (.bool t.sl) ∧ w.cell? ⟨b, 5, none⟩ = some (.int .i64 t.ra) ∧ w.cell? ⟨b, 6, none⟩ = some (.int .i64 t.lv) ∧ w.cell? ⟨b, 7, none⟩ = some (.int .i64 t.lr) ∧ At a b 53 #[.int .i64 t.id, .int .i64 t.gr, .int .i64 t.wt, .int .u64 t.co, .bool t.sl, .int .i64 t.ra, .int .i64 t.lv, .int .i64 t.lr] w := ⟨h.blk.cell 0, h.blk.cell 1, h.blk.cell 2, h.blk.cell 4, h.blk.cell 5, h.blk.cell 6, h.blk.cell 7, h⟩
theorem taskRow_step {a w w' : World} {b : Nat} {t : TS} (k : Kp No w w') (h : w.cell? ⟨b, 0, none⟩ = some (.int .i64 t.id) ∧ w.cell? ⟨b, 1, none⟩ = some (.int .i64 t.gr) ∧ w.cell? ⟨b, 2, none⟩ = some (.int .i64 t.wt) ∧ w.cell? ⟨b, 4, none⟩ = some (.bool t.sl) ∧ w.cell? ⟨b, 5, none⟩ = some (.int .i64 t.ra) ∧ w.cell? ⟨b, 6, none⟩ = some (.int .i64 t.lv) ∧ w.cell? ⟨b, 7, none⟩ = some (.int .i64 t.lr) ∧ At a b 53 #[.int .i64 t.id, .int .i64 t.gr, .int .i64 t.wt, .int .u64 t.co, .bool t.sl, .int .i64 t.ra, .int .i64 t.lv, .int .i64 t.lr] w) : w'.cell? ⟨b, 0, none⟩ = some (.int .i64 t.id) ∧ w'.cell? ⟨b, 1, none⟩ = some (.int .i64 t.gr) ∧ w'.cell? ⟨b, 2, none⟩ = some (.int .i64 t.wt) ∧ w'.cell? ⟨b, 4, none⟩ = some (.bool t.sl) ∧ w'.cell? ⟨b, 5, none⟩ = some (.int .i64 t.ra) ∧ w'.cell? ⟨b, 6, none⟩ = some (.int .i64 t.lv) ∧ w'.cell? ⟨b, 7, none⟩ = some (.int .i64 t.lr) ∧ At a b 53 #[.int .i64 t.id, .int .i64 t.gr, .int .i64 t.wt, .int .u64 t.co, .bool t.sl, .int .i64 t.ra, .int .i64 t.lv, .int .i64 t.lr] w' := taskRow_all (h.2.2.2.2.2.2.2.kp k)
theorem taskRow_kp {a w : World} {b : Nat} {t : TS} (h : w.cell? ⟨b, 0, none⟩ = some (.int .i64 t.id) ∧ w.cell? ⟨b, 1, none⟩ = some (.int .i64 t.gr) ∧ w.cell? ⟨b, 2, none⟩ = some (.int .i64 t.wt) ∧ w.cell? ⟨b, 4, none⟩ = some (.bool t.sl) ∧ w.cell? ⟨b, 5, none⟩ = some (.int .i64 t.ra) ∧ w.cell? ⟨b, 6, none⟩ = some (.int .i64 t.lv) ∧ w.cell? ⟨b, 7, none⟩ = some (.int .i64 t.lr) ∧ At a b 53 #[.int .i64 t.id, .int .i64 t.gr, .int .i64 t.wt, .int .u64 t.co, .bool t.sl, .int .i64 t.ra, .int .i64 t.lv, .int .i64 t.lr] w) : Kp No a w := h.2.2.2.2.2.2.2.kept
set_option maxRecDepth 100000 in
set_option maxHeartbeats 2000000 in
theorem taskRow_any (t : TS) (w : World) : Calls Tryz.prog 46 #[.agg (te t).toArray] w fun e w' => ∃ u, e = .returned u ∧ Own w' w.heap.size 5 u (trow t) ∧ Kp No w w' := by
  have HNB := hid (show NB [(IntKind.u64.wrap t.id, 3), (IntKind.u64.wrap t.gr, 3), (IntKind.u64.wrap t.wt, 3), (flg t.sl, 1), (IntKind.u64.wrap t.ra, 6), (IntKind.u64.wrap t.lv, 8), (IntKind.u64.wrap t.lr, 3)] from (by
    intro y hy
    simp only [List.mem_cons, List.not_mem_nil, or_false] at hy
    rcases hy with rfl | rfl | rfl | rfl | rfl | rfl | rfl
    · exact ⟨u64_bd _, show (1 : Nat) ≤ 3 by decide, show (3 : Nat) ≤ 8 by decide⟩
    · exact ⟨u64_bd _, show (1 : Nat) ≤ 3 by decide, show (3 : Nat) ≤ 8 by decide⟩
    · exact ⟨u64_bd _, show (1 : Nat) ≤ 3 by decide, show (3 : Nat) ≤ 8 by decide⟩
    · exact ⟨by have := flg_bd t.sl; omega, show (1 : Nat) ≤ 1 by decide, show (1 : Nat) ≤ 8 by decide⟩
    · exact ⟨u64_bd _, show (1 : Nat) ≤ 6 by decide, show (6 : Nat) ≤ 8 by decide⟩
    · exact ⟨u64_bd _, show (1 : Nat) ≤ 8 by decide, show (8 : Nat) ≤ 8 by decide⟩
    · exact ⟨u64_bd _, show (1 : Nat) ≤ 3 by decide, show (3 : Nat) ≤ 8 by decide⟩
    ))
  have HROW := hid (show rowOf [(IntKind.u64.wrap t.id, 3), (IntKind.u64.wrap t.gr, 3), (IntKind.u64.wrap t.wt, 3), (flg t.sl, 1), (IntKind.u64.wrap t.ra, 6), (IntKind.u64.wrap t.lv, 8), (IntKind.u64.wrap t.lr, 3)] = trow t by
    rw [← trow_row]
    simp only [rowOf, List.flatMap_cons, List.flatMap_nil, dg_u64 _ (show 3 ≤ 8 by decide), dg_u64 _ (show 6 ≤ 8 by decide), dg_u64 _ (show 8 ≤ 8 by decide)])
  have k1 := (Kp.refl No w).alloc (.cells #[.int .i64 t.id, .int .i64 t.gr, .int .i64 t.wt, .int .u64 t.co, .bool t.sl, .int .i64 t.ra, .int .i64 t.lv, .int .i64 t.lr] 53)
  have b1 := Blk.new w 53 #[.int .i64 t.id, .int .i64 t.gr, .int .i64 t.wt, .int .u64 t.co, .bool t.sl, .int .i64 t.ra, .int .i64 t.lv, .int .i64 t.lr]
  have z1 := World.size_alloc w (.cells #[.int .i64 t.id, .int .i64 t.gr, .int .i64 t.wt, .int .u64 t.co, .bool t.sl, .int .i64 t.ra, .int .i64 t.lv, .int .i64 t.lr] 53)
  obtain ⟨w1, hw1⟩ : ∃ w1, w.alloc (.cells #[.int .i64 t.id, .int .i64 t.gr, .int .i64 t.wt, .int .u64 t.co, .bool t.sl, .int .i64 t.ra, .int .i64 t.lv, .int .i64 t.lr] 53) = w1 := ⟨_, rfl⟩
  rw [hw1] at k1 b1 z1
  have K1 := hid k1
  have Z1 := hid z1
  have SZ := hid (taskRow_all (a := w1) (w := w1.drew) ⟨(Kp.refl No w1).drew, b1.kp0 (Kp.refl No w1).drew⟩)
  have hcell := taskRow_all (a := w1) (w := w1) ⟨Kp.refl No w1, b1⟩
  obtain ⟨c0, c1, c2, c4, c5, c6, c7, _⟩ := hcell
  clear k1 b1 z1
  show Calls _ _ #[.agg #[.int .i64 t.id, .int .i64 t.gr, .int .i64 t.wt, .int .u64 t.co, .bool t.sl, .int .i64 t.ra, .int .i64 t.lv, .int .i64 t.lr]] w _
  go_enter Tryz.func46, Tryz.ntmps46
  go_upto_region 1 with fail
  clear hw1
  clear c0 c1 c2 c4 c5 c6 c7
  go_region_held3 (fun w' => w'.cell? ⟨w.heap.size, 0, none⟩ = some (.int .i64 t.id) ∧ w'.cell? ⟨w.heap.size, 1, none⟩ = some (.int .i64 t.gr) ∧ w'.cell? ⟨w.heap.size, 2, none⟩ = some (.int .i64 t.wt) ∧ w'.cell? ⟨w.heap.size, 4, none⟩ = some (.bool t.sl) ∧ w'.cell? ⟨w.heap.size, 5, none⟩ = some (.int .i64 t.ra) ∧ w'.cell? ⟨w.heap.size, 6, none⟩ = some (.int .i64 t.lv) ∧ w'.cell? ⟨w.heap.size, 7, none⟩ = some (.int .i64 t.lr) ∧ At w1 w.heap.size 53 #[.int .i64 t.id, .int .i64 t.gr, .int .i64 t.wt, .int .u64 t.co, .bool t.sl, .int .i64 t.ra, .int .i64 t.lv, .int .i64 t.lr] w')
    (first | exact SZ.out | exact taskRow_step (by assumption) (by assumption) | exact taskRow_step ((Kp.refl No _).alloc _) (by assumption) | assumption)
    (first
       | (go_at_call 85
          with_reducible refine (jsmall_any _ _).mono ?_
          rintro e w5 ⟨rfl, k5⟩)
       | (go_at_call 86
          with_reducible refine (jticks_any _ _).mono ?_
          rintro e w5 ⟨rfl, k5⟩)
       | (go_at_call 88
          with_reducible refine (jwhole_any _ _).mono ?_
          rintro e w5 ⟨rfl, k5⟩)
       | (go_at_call 87
          with_reducible refine (jflag_any _ _).mono ?_
          rintro e w5 ⟨rfl, k5⟩)
       | (go_at_call 84
          refine (row_any (l := [(IntKind.u64.wrap t.id, 3), (IntKind.u64.wrap t.gr, 3), (IntKind.u64.wrap t.wt, 3), (flg t.sl, 1), (IntKind.u64.wrap t.ra, 6), (IntKind.u64.wrap t.lv, 8), (IntKind.u64.wrap t.lr, 3)]) (by exact Rw.lit (f := nbc) (d := (0, 1)) _ _ [(IntKind.u64.wrap t.id, 3), (IntKind.u64.wrap t.gr, 3), (IntKind.u64.wrap t.wt, 3), (flg t.sl, 1), (IntKind.u64.wrap t.ra, 6), (IntKind.u64.wrap t.lv, 8), (IntKind.u64.wrap t.lr, 3)] _ (by simp [maxLen]) (by simp [flat, nbc, List.range_succ])) HNB.out (by simp)).mono ?_
          rintro e w6 ⟨u6, rfl, o6, k6⟩
          rw [HROW.out] at o6
          have O6 := hid (o6.lower ((K1.out.trans (taskRow_kp (by assumption)))).size)
          have K6 := hid (And.intro (((K1.out.trans (taskRow_kp (by assumption)))).trans k6) trivial)
          clear o6))
  go_wp2_with fail
  go_ret
  exact ⟨_, rfl, O6.out, K6.out.1⟩
theorem coresRow_all {a w : World} {b : Nat} {t : TS} (h : At a b 53 #[.int .i64 t.id, .int .i64 t.gr, .int .i64 t.wt, .int .u64 t.co, .bool t.sl, .int .i64 t.ra, .int .i64 t.lv, .int .i64 t.lr] w) : w.cell? ⟨b, 3, none⟩ = some (.int .u64 t.co) ∧ At a b 53 #[.int .i64 t.id, .int .i64 t.gr, .int .i64 t.wt, .int .u64 t.co, .bool t.sl, .int .i64 t.ra, .int .i64 t.lv, .int .i64 t.lr] w := ⟨h.blk.cell 3, h⟩
theorem coresRow_step {a w w' : World} {b : Nat} {t : TS} (k : Kp No w w') (h : w.cell? ⟨b, 3, none⟩ = some (.int .u64 t.co) ∧ At a b 53 #[.int .i64 t.id, .int .i64 t.gr, .int .i64 t.wt, .int .u64 t.co, .bool t.sl, .int .i64 t.ra, .int .i64 t.lv, .int .i64 t.lr] w) : w'.cell? ⟨b, 3, none⟩ = some (.int .u64 t.co) ∧ At a b 53 #[.int .i64 t.id, .int .i64 t.gr, .int .i64 t.wt, .int .u64 t.co, .bool t.sl, .int .i64 t.ra, .int .i64 t.lv, .int .i64 t.lr] w' := coresRow_all (h.2.kp k)
theorem coresRow_kp {a w : World} {b : Nat} {t : TS} (h : w.cell? ⟨b, 3, none⟩ = some (.int .u64 t.co) ∧ At a b 53 #[.int .i64 t.id, .int .i64 t.gr, .int .i64 t.wt, .int .u64 t.co, .bool t.sl, .int .i64 t.ra, .int .i64 t.lv, .int .i64 t.lr] w) : Kp No a w := h.2.kept
set_option maxRecDepth 100000 in
set_option maxHeartbeats 2000000 in
theorem coresRow_any (t : TS) (hco : 0 ≤ t.co ∧ t.co ≤ 18446744073709551615) (w : World) : Calls Tryz.prog 47 #[.agg (te t).toArray] w fun e w' => ∃ u, e = .returned u ∧ Own w' w.heap.size 5 u (crow t) ∧ Kp No w w' := by
  have HNB := hid (show NB [(t.co, 8)] from (by
    intro y hy
    simp only [List.mem_cons, List.not_mem_nil, or_false] at hy
    subst hy
    · exact ⟨hco, show (1 : Nat) ≤ 8 by decide, show (8 : Nat) ≤ 8 by decide⟩
    ))
  have HROW := hid (show rowOf [(t.co, 8)] = crow t by
    rw [← crow_row])
  have k1 := (Kp.refl No w).alloc (.cells #[.int .i64 t.id, .int .i64 t.gr, .int .i64 t.wt, .int .u64 t.co, .bool t.sl, .int .i64 t.ra, .int .i64 t.lv, .int .i64 t.lr] 53)
  have b1 := Blk.new w 53 #[.int .i64 t.id, .int .i64 t.gr, .int .i64 t.wt, .int .u64 t.co, .bool t.sl, .int .i64 t.ra, .int .i64 t.lv, .int .i64 t.lr]
  have z1 := World.size_alloc w (.cells #[.int .i64 t.id, .int .i64 t.gr, .int .i64 t.wt, .int .u64 t.co, .bool t.sl, .int .i64 t.ra, .int .i64 t.lv, .int .i64 t.lr] 53)
  obtain ⟨w1, hw1⟩ : ∃ w1, w.alloc (.cells #[.int .i64 t.id, .int .i64 t.gr, .int .i64 t.wt, .int .u64 t.co, .bool t.sl, .int .i64 t.ra, .int .i64 t.lv, .int .i64 t.lr] 53) = w1 := ⟨_, rfl⟩
  rw [hw1] at k1 b1 z1
  have K1 := hid k1
  have Z1 := hid z1
  have SZ := hid (coresRow_all (a := w1) (w := w1.drew) ⟨(Kp.refl No w1).drew, b1.kp0 (Kp.refl No w1).drew⟩)
  have hcell := coresRow_all (a := w1) (w := w1) ⟨Kp.refl No w1, b1⟩
  obtain ⟨c3, _⟩ := hcell
  clear k1 b1 z1
  show Calls _ _ #[.agg #[.int .i64 t.id, .int .i64 t.gr, .int .i64 t.wt, .int .u64 t.co, .bool t.sl, .int .i64 t.ra, .int .i64 t.lv, .int .i64 t.lr]] w _
  go_enter Tryz.func47, Tryz.ntmps47
  go_upto_region 1 with fail
  clear hw1
  go_wp2_with (first
       | (go_at_call 85
          with_reducible refine (jsmall_any _ _).mono ?_
          rintro e w5 ⟨rfl, k5⟩
          have K5 := hid (K1.out.trans k5)
          clear k5)
       | (go_at_call 86
          with_reducible refine (jticks_any _ _).mono ?_
          rintro e w5 ⟨rfl, k5⟩
          have K5 := hid (K1.out.trans k5)
          clear k5)
       | (go_at_call 88
          with_reducible refine (jwhole_any _ _).mono ?_
          rintro e w5 ⟨rfl, k5⟩
          have K5 := hid (K1.out.trans k5)
          clear k5)
       | (go_at_call 87
          with_reducible refine (jflag_any _ _).mono ?_
          rintro e w5 ⟨rfl, k5⟩
          have K5 := hid (K1.out.trans k5)
          clear k5)
       | (go_at_call 84
          refine (row_any (l := [(t.co, 8)]) (by exact Rw.lit (f := nbc) (d := (0, 1)) _ _ [(t.co, 8)] _ (by simp [maxLen]) (by simp [flat, nbc, List.range_succ])) HNB.out (by simp)).mono ?_
          rintro e w6 ⟨u6, rfl, o6, k6⟩
          rw [HROW.out] at o6
          have O6 := hid (o6.lower (K5.out.alloc _).size)
          have K6 := hid (And.intro ((K5.out.alloc _).trans k6) trivial)
          clear o6))
  go_ret
  exact ⟨_, rfl, O6.out, K6.out.1⟩
end Go.Proofs.YtggmdgdgljlddaaGreatDoor

/-
  Contract of image's sections.
-/
namespace Go.Proofs.YtggmdgdgljlddaaGreatDoor
open Go.RowKit

theorem Own.kpx {w w' : World} {base : Nat} {e : TypeId} {v : Value} {xs : List Int} {S : Nat → Prop} (h : Own w base e v xs) (k : Kp S w w') (hs : ∀ i, v.ownBlock = some i → ¬ S i) : Own w' base e v xs := by
  refine ⟨⟨h.1.1, ?_⟩, h.2⟩
  rcases h.1.2 with hn | ⟨g, cap, cur, rfl, hb, hg, r⟩
  · exact .inl hn
  · exact .inr ⟨g, cap, cur, rfl, hb, (k.block g (Array.getElem?_eq_some_iff.1 hg).1 (hs g rfl)).trans hg, r⟩
/-- Two rows of bytes of the call's own, in blocks of their own. -/
structure Acc2 (w W : World) (u v : Value) (xs ys : List Int) : Prop where
  kp : Kp No w W
  a : Own W w.heap.size 5 u xs
  b : Own W w.heap.size 5 v ys
  ne : ∀ i, u.ownBlock = some i → v.ownBlock ≠ some i
section
variable {w W W' : World} {u v u' v' : Value} {xs ys zs : List Int}
theorem Acc2.nil (w : World) : Acc2 w w (.slice none 0 0) (.slice none 0 0) [] [] := ⟨Kp.refl _ _, Own.nil _ _ _, Own.nil _ _ _, fun i h => by cases h⟩
theorem Acc2.kp0 (h : Acc2 w W u v xs ys) (k : Kp No W W') : Acc2 w W' u v xs ys := ⟨h.kp.trans k, h.a.kp k fun _ _ h => h, h.b.kp k fun _ _ h => h, h.ne⟩
theorem Acc2.app1 (h : Acc2 w W u v xs ys) (o : Own W' w.heap.size 5 u' zs) (k : Kp (fun i => u.ownBlock = some i) W W') (p : u'.ownBlock = u.ownBlock ∨ u'.ownBlock = some W.heap.size) : Acc2 w W' u' v zs ys :=
  ⟨h.kp.step k fun i hi e => by have := h.a.at_ i e; omega, o, h.b.kpx k fun i hi e => h.ne i e hi, fun i hi => by
    rcases p with p | p
    · exact h.ne i (p ▸ hi)
    · rw [p] at hi
      cases hi
      intro e
      have := (h.b.1.lt _ e).2
      omega⟩
theorem Acc2.app2 (h : Acc2 w W u v xs ys) (o : Own W' w.heap.size 5 v' zs) (k : Kp (fun i => v.ownBlock = some i) W W') (p : v'.ownBlock = v.ownBlock ∨ v'.ownBlock = some W.heap.size) : Acc2 w W' u v' xs zs :=
  ⟨h.kp.step k fun i hi e => by have := h.b.at_ i e; omega, h.a.kpx k fun i hi e => h.ne i hi e, o, fun i hi => by
    rcases p with p | p
    · rw [p]
      exact h.ne i hi
    · rw [p]
      intro e
      cases e
      have := (h.a.1.lt _ hi).2
      omega⟩
theorem Acc2.nb (h : Acc2 w W u v xs ys) : u.ownBlock ≠ some W.heap.size := fun e => by have := (h.a.1.lt _ e).2; omega
end
theorem bod1_snoc {gs : List GS} {k : Nat} (h : k < gs.length) : bod1 (gs.take (k + 1)) = bod1 (gs.take k) ++ grow (gs.getD k gs0) := by unfold bod1; rw [take_s gs h gs0, List.flatMap_append]; simp
theorem bod2_snoc {gs : List GS} {k : Nat} (h : k < gs.length) : bod2 (gs.take (k + 1)) = bod2 (gs.take k) ++ brow (gs.getD k gs0) := by unfold bod2; rw [take_s gs h gs0, List.flatMap_append]; simp
theorem bod3_snoc {ts : List TS} {k : Nat} (h : k < ts.length) : bod3 (ts.take (k + 1)) = bod3 (ts.take k) ++ trow (ts.getD k ts0) := by unfold bod3; rw [take_s ts h ts0, List.flatMap_append]; simp
theorem bod4_snoc {ts : List TS} {k : Nat} (h : k < ts.length) : bod4 (ts.take (k + 1)) = bod4 (ts.take k) ++ crow (ts.getD k ts0) := by unfold bod4; rw [take_s ts h ts0, List.flatMap_append]; simp
/-- What sections tells: sections of its own. -/
def ScPost (gs : List GS) (ts : List TS) (w : World) (e : Ending) (w' : World) : Prop := ∃ u ss, e = .returned u ∧ ss.map sn = secs gs ts ∧ Ps w' Anyb u ss ∧ Kp No w w'
set_option maxRecDepth 100000 in
set_option maxHeartbeats 4000000 in
theorem sections_any {w : World} {P : Nat → Prop} {v : Value} {gs : List GS} {ts : List TS} (h : Sce w P v gs ts) (hl : gs.length ≤ 1000000) (hlt : ts.length ≤ 1000000) (hco : ∀ t ∈ ts, 0 ≤ t.co ∧ t.co ≤ 18446744073709551615) :
    Calls Tryz.prog 16 #[v] w (ScPost gs ts w) := by
  obtain ⟨vg, vt, rfl, hg, ht⟩ := h
  have k1 := (Kp.refl No w).alloc (.cells #[vg, vt] 25)
  have b1 := Blk.new w 25 #[vg, vt]
  obtain ⟨w1, hw1⟩ : ∃ w1, w.alloc (.cells #[vg, vt] 25) = w1 := ⟨_, rfl⟩
  rw [hw1] at k1 b1
  have K1 := hid k1
  have HG := hid (hg.kp0 k1)
  have HT := hid (ht.kp0 k1)
  have HCO := hid hco
  obtain ⟨A, c, rfl, _⟩ := hg
  obtain ⟨A2, c2, rfl, _⟩ := ht
  obtain ⟨n, hn⟩ : ∃ n, gs.length = n := ⟨_, rfl⟩
  obtain ⟨m, hm⟩ : ∃ m, ts.length = m := ⟨_, rfl⟩
  rw [hn] at HG b1 hw1 hl ⊢
  rw [hm] at HT b1 hw1 hlt ⊢
  have HN := hid hn
  have HM := hid hm
  have B1 := hid b1
  have s0 := b1.cell 0
  have s1 := b1.cell 1
  simp only [List.getElem?_toArray, List.getElem?_cons_zero, List.getElem?_cons_succ] at s0 s1
  clear k1 b1 hn hm hco
  go_enter Tryz.func16, Tryz.ntmps16
  go_upto_region 1 with fail
  clear hw1
  go_wp2_with fail
  go_loopw [3, 4, 14] (fun u v i wr => ∃ k : Nat, k ≤ n ∧ i = .int .i64 (k : Int) ∧ Hid (Acc2 w1 wr u v (bod1 (gs.take k)) (bod2 (gs.take k)))) (fun _ _ i _ => n - (vI i).toNat)
  case atStart => exact ⟨0, Nat.zero_le _, rfl, hid (Acc2.nil _)⟩
  case round =>
    obtain ⟨k, kk, rfl, HA⟩ := hrel
    by_cases kn : k < n
    · have hkl : k < gs.length := by rw [HN.out]; exact kn
      have gk : (k : Int) < (n : Int) := by omega
      have hwk := wrapI (x := (k : Int) + 1) (by unfold I64; omega)
      have Rk := HG.out.kp0 HA.out.kp
      obtain ⟨b, o, rfl⟩ := Rk.there (by omega)
      have q0 := Rk.cell (j := k) (i := 0) (Kp.refl No _) hkl (by omega) rfl
      have q1 := Rk.cell (j := k) (i := 1) (Kp.refl No _) hkl (by omega) rfl
      have q2 := Rk.cell (j := k) (i := 2) (Kp.refl No _) hkl (by omega) rfl
      have q3 := Rk.cell (j := k) (i := 3) (Kp.refl No _) hkl (by omega) rfl
      have q4 := Rk.cell (j := k) (i := 4) (Kp.refl No _) hkl (by omega) rfl
      have q5 := Rk.cell (j := k) (i := 5) (Kp.refl No _) hkl (by omega) rfl
      have H1 := hid (bod1_snoc hkl)
      have H2 := hid (bod2_snoc hkl)
      have hlen : (gs.take k).length = k := by rw [List.length_take]; omega
      have HL1 := hid (show (bod1 (gs.take k)).length ≤ 1000000000 by rw [bod1_len, hlen]; omega)
      have HL2 := hid (show (bod2 (gs.take k)).length ≤ 1000000000 by rw [bod2_len, hlen]; omega)
      obtain ⟨x, hx⟩ : ∃ x, gs.getD k gs0 = x := ⟨_, rfl⟩
      rw [hx] at q0 q1 q2 q3 q4 q5 H1 H2
      obtain ⟨xid, xpar, xwt, xpd, xqt, xus⟩ := x
      simp only [gc, ge, List.getD_cons_zero, List.getD_cons_succ, Nat.add_zero] at q0 q1 q2 q3 q4 q5
      simp only [← Nat.add_assoc] at q1 q2 q3 q4 q5
      have A1 := hid (HA.out.kp0 ((Kp.refl No _).alloc (.cells #[.int .i64 xid, .int .i64 xpar, .int .i64 xwt, .int .i64 xpd, .int .i64 xqt, .int .i64 xus] 45)))
      have B1 := hid (Blk.new wr 45 #[.int .i64 xid, .int .i64 xpar, .int .i64 xwt, .int .i64 xpd, .int .i64 xqt, .int .i64 xus])
      have NB := hid HA.out.nb
      have HF1 := hid (fun W => show Calls Tryz.prog 44 #[.agg #[.int .i64 xid, .int .i64 xpar, .int .i64 xwt, .int .i64 xpd, .int .i64 xqt, .int .i64 xus]] W (fun e w' => ∃ u, e = .returned u ∧ Own w' W.heap.size 5 u (grow ⟨xid, xpar, xwt, xpd, xqt, xus⟩) ∧ Kp No W w') from groupRow_any ⟨xid, xpar, xwt, xpd, xqt, xus⟩ W)
      have HF2 := hid (fun W => show Calls Tryz.prog 45 #[.agg #[.int .i64 xpd, .int .i64 xqt, .int .i64 xus]] W (fun e w' => ∃ u, e = .returned u ∧ Own w' W.heap.size 5 u (brow ⟨xid, xpar, xwt, xpd, xqt, xus⟩) ∧ Kp No W w') from bandRow_any ⟨xid, xpar, xwt, xpd, xqt, xus⟩ W)
      clear Rk hx hlen HA
      go_wp2_with (first
        | (go_at_call 44
           refine (HF1.out _).mono ?_
           rintro e w5 ⟨v5, rfl, o5, k5⟩
           have O5 := hid (o5.byt (P := Anyb) fun _ _ => trivial)
           have A5 := hid (A1.out.kp0 k5)
           have B5 := hid (B1.out.kp0 k5)
           clear o5 k5)
        | (go_at_call 45
           refine (HF2.out _).mono ?_
           rintro e w7 ⟨v7, rfl, o7, k7⟩
           have O7 := hid (o7.byt (P := Anyb) fun _ _ => trivial)
           have A7 := hid (A6.out.kp0 k7)
           clear o7 k7)
        | (at_builtin
           refine wp_app2 isU8 rfl (.tmp 18) (.tmp 20) rfl (base := w1.heap.size) (xs := bod1 (gs.take k)) (by exact A5.out.a) (by exact O5.out) (by have h1 := HL1.out; have h2 := grow_len ⟨xid, xpar, xwt, xpd, xqt, xus⟩; omega) (by exact A5.out.kp.size) ?_
           intro u6 w6 o6 k6 p6
           rw [← H1.out] at o6
           have b6 := B5.out.kp k6 NB.out
           have A6 := hid (A5.out.app1 o6 k6 p6)
           have d3 : w6.cell? ⟨wr.heap.size, 3, none⟩ = some (.int .i64 xpd) := b6.cell 3
           have d4 : w6.cell? ⟨wr.heap.size, 4, none⟩ = some (.int .i64 xqt) := b6.cell 4
           have d5 : w6.cell? ⟨wr.heap.size, 5, none⟩ = some (.int .i64 xus) := b6.cell 5
           clear o6 k6 p6 b6)
        | (at_builtin
           refine wp_app2 isU8 rfl (.tmp 22) (.tmp 25) rfl (base := w1.heap.size) (xs := bod2 (gs.take k)) (by exact A7.out.b) (by exact O7.out) (by have h1 := HL2.out; have h2 := brow_len ⟨xid, xpar, xwt, xpd, xqt, xus⟩; omega) (by exact A7.out.kp.size) ?_
           intro u8 w8 o8 k8 p8
           rw [← H2.out] at o8
           have A8 := hid (A7.out.app2 o8 k8 p8)
           clear o8 k8 p8))
      go_roundw
      case rel => exact ⟨k + 1, by omega, by go_num, A8⟩
      case measure => simp [vI]; omega
    · have hkk : k = n := by omega
      subst hkk
      have hng : ¬ (k : Int) < (k : Int) := by omega
      have ha := HA.out
      rw [List.take_of_length_le (by rw [HN.out]; exact Nat.le_refl _)] at ha
      have HG1 := hid ha
      have b2 := B1.out.kp0 ha.kp
      have s21 := b2.cell 1
      simp only [List.getElem?_toArray, List.getElem?_cons_zero, List.getElem?_cons_succ] at s21
      have HT2 := hid (HT.out.kp0 ha.kp)
      clear ha HA b2
      obtain ⟨wa, hwa⟩ : ∃ wa, wr = wa := ⟨_, rfl⟩
      rw [hwa] at HG1 HT2 s21 ⊢
      clear hwa
      go_wp2_with fail
      go_loopw [5, 6, 31] (fun u v i wr => ∃ k : Nat, k ≤ m ∧ i = .int .i64 (k : Int) ∧ Hid (Acc2 wa wr u v (bod3 (ts.take k)) (bod4 (ts.take k)))) (fun _ _ i _ => m - (vI i).toNat)
      case atStart => exact ⟨0, Nat.zero_le _, rfl, hid (Acc2.nil _)⟩
      case round =>
        obtain ⟨k2, k2k, rfl, HA⟩ := hrel
        by_cases k2n : k2 < m
        · have hkl : k2 < ts.length := by rw [HM.out]; exact k2n
          have gk2 : (k2 : Int) < (m : Int) := by omega
          have hwk2 := wrapI (x := (k2 : Int) + 1) (by unfold I64; omega)
          have Rk := HT2.out.kp0 HA.out.kp
          obtain ⟨b, o, rfl⟩ := Rk.there (by omega)
          have q0 := Rk.cell (j := k2) (i := 0) (Kp.refl No _) hkl (by omega) rfl
          have q1 := Rk.cell (j := k2) (i := 1) (Kp.refl No _) hkl (by omega) rfl
          have q2 := Rk.cell (j := k2) (i := 2) (Kp.refl No _) hkl (by omega) rfl
          have q3 := Rk.cell (j := k2) (i := 3) (Kp.refl No _) hkl (by omega) rfl
          have q4 := Rk.cell (j := k2) (i := 4) (Kp.refl No _) hkl (by omega) rfl
          have q5 := Rk.cell (j := k2) (i := 5) (Kp.refl No _) hkl (by omega) rfl
          have q6 := Rk.cell (j := k2) (i := 6) (Kp.refl No _) hkl (by omega) rfl
          have q7 := Rk.cell (j := k2) (i := 7) (Kp.refl No _) hkl (by omega) rfl
          have H1 := hid (bod3_snoc hkl)
          have H2 := hid (bod4_snoc hkl)
          have hlen : (ts.take k2).length = k2 := by rw [List.length_take]; omega
          have HL1 := hid (show (bod3 (ts.take k2)).length ≤ 1000000000 by rw [bod3_len, hlen]; omega)
          have HL2 := hid (show (bod4 (ts.take k2)).length ≤ 1000000000 by rw [bod4_len, hlen]; omega)
          have HMEM := hid (show ts.getD k2 ts0 ∈ ts by simp [List.getD, hkl])
          obtain ⟨x, hx⟩ : ∃ x, ts.getD k2 ts0 = x := ⟨_, rfl⟩
          rw [hx] at q0 q1 q2 q3 q4 q5 q6 q7 H1 H2 HMEM
          obtain ⟨xid, xgr, xwt, xco, xsl, xra, xlv, xlr⟩ := x
          simp only [tc, te, List.getD_cons_zero, List.getD_cons_succ, Nat.add_zero] at q0 q1 q2 q3 q4 q5 q6 q7
          simp only [← Nat.add_assoc] at q1 q2 q3 q4 q5 q6 q7
          have A1 := hid (HA.out.kp0 ((Kp.refl No _).alloc (.cells #[.int .i64 xid, .int .i64 xgr, .int .i64 xwt, .int .u64 xco, .bool xsl, .int .i64 xra, .int .i64 xlv, .int .i64 xlr] 53)))
          have B1 := hid (Blk.new wr 53 #[.int .i64 xid, .int .i64 xgr, .int .i64 xwt, .int .u64 xco, .bool xsl, .int .i64 xra, .int .i64 xlv, .int .i64 xlr])
          have NB := hid HA.out.nb
          have HF1 := hid (fun W => show Calls Tryz.prog 46 #[.agg #[.int .i64 xid, .int .i64 xgr, .int .i64 xwt, .int .u64 xco, .bool xsl, .int .i64 xra, .int .i64 xlv, .int .i64 xlr]] W (fun e w' => ∃ u, e = .returned u ∧ Own w' W.heap.size 5 u (trow ⟨xid, xgr, xwt, xco, xsl, xra, xlv, xlr⟩) ∧ Kp No W w') from taskRow_any ⟨xid, xgr, xwt, xco, xsl, xra, xlv, xlr⟩ W)
          have HF2 := hid (fun W => show Calls Tryz.prog 47 #[.agg #[.int .i64 xid, .int .i64 xgr, .int .i64 xwt, .int .u64 xco, .bool xsl, .int .i64 xra, .int .i64 xlv, .int .i64 xlr]] W (fun e w' => ∃ u, e = .returned u ∧ Own w' W.heap.size 5 u (crow ⟨xid, xgr, xwt, xco, xsl, xra, xlv, xlr⟩) ∧ Kp No W w') from coresRow_any ⟨xid, xgr, xwt, xco, xsl, xra, xlv, xlr⟩ (HCO.out _ HMEM.out) W)
          clear Rk hx hlen HA
          go_wp2_with (first
            | (go_at_call 46
               refine (HF1.out _).mono ?_
               rintro e w5 ⟨v5, rfl, o5, k5⟩
               have O5 := hid (o5.byt (P := Anyb) fun _ _ => trivial)
               have A5 := hid (A1.out.kp0 k5)
               have B5 := hid (B1.out.kp0 k5)
               clear o5 k5)
            | (go_at_call 47
               refine (HF2.out _).mono ?_
               rintro e w7 ⟨v7, rfl, o7, k7⟩
               have O7 := hid (o7.byt (P := Anyb) fun _ _ => trivial)
               have A7 := hid (A6.out.kp0 k7)
               clear o7 k7)
            | (at_builtin
               refine wp_app2 isU8 rfl (.tmp 35) (.tmp 37) rfl (base := wa.heap.size) (xs := bod3 (ts.take k2)) (by exact A5.out.a) (by exact O5.out) (by have h1 := HL1.out; have h2 := trow_len ⟨xid, xgr, xwt, xco, xsl, xra, xlv, xlr⟩; omega) (by exact A5.out.kp.size) ?_
               intro u6 w6 o6 k6 p6
               rw [← H1.out] at o6
               have b6 := B5.out.kp k6 NB.out
               have A6 := hid (A5.out.app1 o6 k6 p6)
               have d0 : w6.cell? ⟨wr.heap.size, 0, none⟩ = some (.int .i64 xid) := b6.cell 0
               have d1 : w6.cell? ⟨wr.heap.size, 1, none⟩ = some (.int .i64 xgr) := b6.cell 1
               have d2 : w6.cell? ⟨wr.heap.size, 2, none⟩ = some (.int .i64 xwt) := b6.cell 2
               have d3 : w6.cell? ⟨wr.heap.size, 3, none⟩ = some (.int .u64 xco) := b6.cell 3
               have d4 : w6.cell? ⟨wr.heap.size, 4, none⟩ = some (.bool xsl) := b6.cell 4
               have d5 : w6.cell? ⟨wr.heap.size, 5, none⟩ = some (.int .i64 xra) := b6.cell 5
               have d6 : w6.cell? ⟨wr.heap.size, 6, none⟩ = some (.int .i64 xlv) := b6.cell 6
               have d7 : w6.cell? ⟨wr.heap.size, 7, none⟩ = some (.int .i64 xlr) := b6.cell 7
               clear o6 k6 p6 b6)
            | (at_builtin
               refine wp_app2 isU8 rfl (.tmp 39) (.tmp 41) rfl (base := wa.heap.size) (xs := bod4 (ts.take k2)) (by exact A7.out.b) (by exact O7.out) (by have h1 := HL2.out; have h2 := crow_len ⟨xid, xgr, xwt, xco, xsl, xra, xlv, xlr⟩; omega) (by exact A7.out.kp.size) ?_
               intro u8 w8 o8 k8 p8
               rw [← H2.out] at o8
               have A8 := hid (A7.out.app2 o8 k8 p8)
               clear o8 k8 p8))
          go_roundw
          case rel => exact ⟨k2 + 1, by omega, by go_num, A8⟩
          case measure => simp [vI]; omega
        · have hkk : k2 = m := by omega
          subst hkk
          have hng2 : ¬ (k2 : Int) < (k2 : Int) := by omega
          have ha := HA.out
          rw [List.take_of_length_le (by rw [HM.out]; exact Nat.le_refl _)] at ha
          have e1 := HG1.out.kp0 ha.kp
          obtain ⟨Ga, ga, rfl⟩ := e1.a.form
          obtain ⟨Gb, gb, rfl⟩ := e1.b.form
          obtain ⟨Ta, ta, rfl⟩ := ha.a.form
          obtain ⟨Tb, tb, rfl⟩ := ha.b.form
          have HE1 := hid e1
          have HE2 := hid ha
          clear ha HA e1
          go_wp2_with fail
          go_ret
          have hK := (K1.out.trans HE1.out.kp).alloc (.cells #[.int .i64 1, .slice Ga (bod1 gs).length ga, .int .i64 2, .slice Gb (bod2 gs).length gb, .int .i64 3, .slice Ta (bod3 ts).length ta, .int .i64 4, .slice Tb (bod4 ts).length tb] 36)
          have kA := fun (W : World) => (Kp.refl No W).alloc (.cells #[.int .i64 1, .slice Ga (bod1 gs).length ga, .int .i64 2, .slice Gb (bod2 gs).length gb, .int .i64 3, .slice Ta (bod3 ts).length ta, .int .i64 4, .slice Tb (bod4 ts).length tb] 36)
          refine ⟨_, [⟨1, Ga, ga, bod1 gs⟩, ⟨2, Gb, gb, bod2 gs⟩, ⟨3, Ta, ta, bod3 ts⟩, ⟨4, Tb, tb, bod4 ts⟩], rfl, rfl, ⟨Rw.lit (f := pc) (d := sv0) _ _ [⟨1, Ga, ga, bod1 gs⟩, ⟨2, Gb, gb, bod2 gs⟩, ⟨3, Ta, ta, bod3 ts⟩, ⟨4, Tb, tb, bod4 ts⟩] _ (by simp [maxLen]) (by simp [flat, pc, Sv.bv, List.range_succ]), fun s hs => ?_⟩, hK⟩
          simp only [List.mem_cons, List.not_mem_nil, or_false] at hs
          rcases hs with rfl | rfl | rfl | rfl
          · exact ⟨by show I64 1; unfold I64; omega, (HE1.out.a.byt (P := Anyb) fun _ _ => trivial).kp (kA _) fun _ _ h => h⟩
          · exact ⟨by show I64 2; unfold I64; omega, (HE1.out.b.byt (P := Anyb) fun _ _ => trivial).kp (kA _) fun _ _ h => h⟩
          · exact ⟨by show I64 3; unfold I64; omega, (HE2.out.a.byt (P := Anyb) fun _ _ => trivial).kp (kA _) fun _ _ h => h⟩
          · exact ⟨by show I64 4; unfold I64; omega, (HE2.out.b.byt (P := Anyb) fun _ _ => trivial).kp (kA _) fun _ _ h => h⟩
end Go.Proofs.YtggmdgdgljlddaaGreatDoor
