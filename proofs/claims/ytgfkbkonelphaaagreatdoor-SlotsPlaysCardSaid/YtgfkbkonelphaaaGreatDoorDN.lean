/-
  Contract of disk's New.
-/
import Derived.Test.YtgfkbkonelphaaaGreatDoorDA
namespace Go.Proofs.YtgfkbkonelphaaaGreatDoor
open Go.RowKit

def dsN (n : Nat) : Ds := ⟨List.replicate n zs, fun _ => none, false, 0⟩
theorem cnt_none (n : Nat) : cnt (fun _ => none) n = 0 := by
  induction n with
  | zero => rfl
  | succ n ih => simp [cnt, ih]
theorem dsN_ok {n : Nat} (h : n ≤ 512) : DOk (dsN n) :=
  ⟨by simpa [dsN] using h, fun l hl => by rw [List.eq_of_mem_replicate hl]; exact Sec.zs, fun i l h => (by cases h), Int.le_refl _, (by show (0 : Int) ≤ 1048576; omega)⟩

/-- 'make([]sector, n)'. -/
theorem run_rows {n : Int} (h0 : 0 ≤ n) (h1 : n ≤ 512) (w : World) : (Instr.makeSlice 58 (.int .i64 n) (.int .i64 n)).run Tryz.prog w = .ok (.slice (some ⟨w.heap.size, 0, none⟩) n.toNat n.toNat) (w.alloc (.cells (madeCells (sev zs).cells (n.toNat * 64)) 85)) := by
  have hi : (Tryz.prog.info? 85).map (fun i => (i.zero, i.size, i.bytes)) = some (some (sev zs), 64, 64) := by kernel_rfl
  obtain ⟨i, hi, hz, hs, hb⟩ := info_parts hi
  have hr := run_make (P := Tryz.prog) w 58 85 i (sev zs) (by kernel_rfl) hi hz .i64 .i64 n n h0 (Int.le_refl _) (by rw [hb]; omega) (by omega)
  rw [hs] at hr
  exact hr
theorem wp_rows {ops : Array Oper} {rest : List Oper} {o : Oper} {a : Act} {w : World} {Q : Exit → Act → World → Prop} (hg : o.guard = none) (l c : Operand) (ho : o.op = .makeSlice 58 l c) {n : Int} (hl : a.eval l = .int .i64 n) (hc : a.eval c = .int .i64 n) (h0 : 0 ≤ n) (h1 : n ≤ 512)
    (h : ∀ w', Kt 85 w' w.heap.size (List.replicate n.toNat zs) → Kp No w w' → w'.heap.size = w.heap.size + 1 → wpList Tryz.prog ops Q rest (a.put o.dst (.slice (some ⟨w.heap.size, 0, none⟩) n.toNat n.toNat)) w') : wpList Tryz.prog ops Q (o :: rest) a w := by
  refine wpList_plain hg fun K hK => ?_
  unfold Oper.wp
  simp only [execOp, ho, hl, hc, Sem.run_bind, run_rows h0 h1, Result.andThen_ok]
  exact hK _ _ (h _ (Kt.new w _ n.toNat rfl) ((Kp.refl No w).alloc _) (by simp))

theorem newd_any (n : Int) (w : World) : Calls Tryz.prog 6 #[.int .i64 n] w fun e w' => ∃ g b m, e = .returned (.pointer (some ⟨g, 0, none⟩)) ∧ Dk w' g b m (dsN (dhold n 512).toNat) ∧ Kp No w w' ∧ w.heap.size ≤ g ∧ w.heap.size ≤ b ∧ w.heap.size ≤ m := by
  have hmm := @run_makeMap Tryz.prog
  have h0 : 0 ≤ dhold n 512 := by unfold dhold; omega
  have h1 : dhold n 512 ≤ 512 := by unfold dhold; omega
  go_enter Tryz.func6, Tryz.ntmps6
  go_wp2_with fail
  refine (dhold_any n 512 w).mono ?_
  rintro e w ⟨rfl, rfl⟩
  obtain ⟨q, hq⟩ : ∃ q : Nat, dhold n 512 = (q : Int) := ⟨(dhold n 512).toNat, by omega⟩
  rw [hq] at h0 h1
  have HQ := hid hq
  rw [hq]
  clear hq
  go_wp2_with (refine wp_rows rfl _ _ rfl rfl rfl h0 h1 ?_; intro w1 kt k1 hz)
  go_ret
  have k2 := (Kp.refl No w1).alloc (Obj.map #[] 0)
  have k3 := (Kp.refl No (w1.alloc (Obj.map #[] 0))).alloc (Obj.cells #[Value.slice (some { block := w.heap.size, off := 0 }) q q, Value.map (some (w.heap.size + 1)), Value.bool false, Value.int IntKind.i64 0] 62)
  have b3 := Blk.new (w1.alloc (Obj.map #[] 0)) 62 #[Value.slice (some { block := w.heap.size, off := 0 }) q q, Value.map (some (w.heap.size + 1)), Value.bool false, Value.int IntKind.i64 0]
  have m2 := Mk.new (P := Tryz.prog) (tk := 3) (ev := sev) (enc := senc) w1
  rw [hz] at m2
  refine ⟨w.heap.size + 1 + 1, w.heap.size, w.heap.size + 1, rfl, ⟨?_, ?_, ?_, by omega, by omega, by omega, dsN_ok (by rw [HQ.out]; omega)⟩, (k1.trans k2).trans k3, by omega, by omega, by omega⟩
  · have e : (dsN (dhold n 512).toNat).k.length = q := by simp [dsN, HQ.out]
    rw [e]
    exact b3.next (by simp [hz])
  · rw [show (dsN (dhold n 512).toNat).k = List.replicate ((q : Int).toNat) zs by simp only [dsN, HQ.out]]
    exact (kt.kp0 k2).kp0 k3
  · rw [show cnt (dsN (dhold n 512).toNat).c (dsN (dhold n 512).toNat).k.length = 0 from cnt_none _]
    exact m2.kp0 k3
end Go.Proofs.YtgfkbkonelphaaaGreatDoor
