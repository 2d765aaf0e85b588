/-
  The walk of CrcFour: it answers true at every input, and turns nothing that was there.
-/
import Derived.Test.YtjcjepeailemcaaDoorCrcC
import Derived.Test.YtjcjepeailemcaaDoorArgs
import Derived.Deep.RegionLaw
namespace Go.Proofs.YtjcjepeailemcaaDoor
open Go.RowKit

/-- append at a step of a region that draws its order, over bytes that the call owns. -/
theorem step_app {P : Program} {t e : TypeId} (u : U8 P t e) {ops : Array Oper} {o : Oper} {a : Act} {w : World} {K : Act → World → Prop} {Q : Exit → Act → World → Prop} {E : Prop} (hgd : o.guard = none) (s x : Operand)
    (ho : o.op = .call { callee := .builtin .append, args := #[s, x], argTypes := #[t, t] }) {base : Nat} {xs ys : List Int} {Pb : Nat → Prop}
    (hown : Own w base e (a.eval s) xs) (hx : Byt w Pb (a.eval x) ys) (hle : xs.length + ys.length ≤ 140737488355328) (hbase : base ≤ w.heap.size)
    (h : ∀ v' w', Own w' base e v' (xs ++ ys) → Kp (fun k => base ≤ k) w w' → K (a.put o.dst v') w') : if Region.wanted o (yielded ops a.tmps) = true then Oper.wp P o a w K Q else E := by
  have hw : Region.wanted o (yielded ops a.tmps) = true := by simp [Region.wanted, hgd]
  rw [if_pos hw]
  obtain ⟨v', w', hrun, h2, h3⟩ := run_app (P := P) (ty := o.type) u w hown hx hle hbase
  unfold Oper.wp execOp
  simp only [ho, resolve, invoke, builtin, Sem.run_bind, Sem.run_pure, Result.andThen_ok, List.map_toArray, List.map_cons, List.map_nil, hrun]
  exact h v' w' h2 ((Kp.refl _ _).grown h3 fun k hk => .inl (hown.at_ k hk))

theorem of_is {S : Nat → Prop} {v : Value} {xs : List Int} {w : World} {r : Nat} (hv : Byt w S v xs) (ht : Tab w) (hr : ck xs = r) :
    Calls Tryd.prog 11 #[v] w fun e w' => e = .returned (.int .u32 (r : Int)) ∧ w' = w :=
  (of_any v xs w hv ht).mono fun _ _ ⟨h1, h2⟩ => ⟨by rw [h1, hr], h2.symm⟩

theorem four_iff (ps xs ys qs : List Int) (hx : xs.length = 4) (hy : ys.length = 4) (ba : ∀ x ∈ ps, 0 ≤ x ∧ x ≤ 255) (bx : ∀ x ∈ xs, 0 ≤ x ∧ x ≤ 255) (by' : ∀ x ∈ ys, 0 ≤ x ∧ x ≤ 255) (bb : ∀ x ∈ qs, 0 ≤ x ∧ x ≤ 255) :
    ck (ps ++ xs ++ qs) = ck (ps ++ ys ++ qs) ↔ xs = ys := by
  have lx := Nt_lt xs bx
  have ly := Nt_lt ys by'
  rw [hx] at lx
  rw [hy] at ly
  have hd : Nt xs ^^^ Nt ys < 4294967296 := Nat.xor_lt_two_pow (n := 32) lx ly
  have e : Nt (ps ++ xs ++ qs) = Nt (ps ++ ys ++ qs) ^^^ (2 ^ (8 * ps.length) * (Nt xs ^^^ Nt ys)) := by
    rw [Nt_app, Nt_app, Nt_app (ps ++ ys), Nt_app ps ys, List.length_append, List.length_append, hx, hy, xor_mul]
    generalize Nt ps = p
    generalize 2 ^ (8 * ps.length) * Nt xs = q
    generalize 2 ^ (8 * ps.length) * Nt ys = r
    generalize 2 ^ (8 * (ps.length + 4)) * Nt qs = s
    rw [Nat.xor_comm q r, xor_swap (p ^^^ r) s r q, Nat.xor_assoc p r r, Nat.xor_self, Nat.xor_zero, Nat.xor_comm s q, Nat.xor_assoc]
  rw [ck_burst_iff (ps ++ ys ++ qs) (ps ++ xs ++ qs) (8 * ps.length) (Nt xs ^^^ Nt ys) (by simp [hx, hy]) (fun z hz => by
    rcases List.mem_append.1 hz with h | h
    · rcases List.mem_append.1 h with h | h
      · exact ba z h
      · exact by' z h
    · exact bb z h) (by simp; omega) hd e]
  constructor
  · intro h
    exact Nt_inj xs ys (by omega) bx by' (xor_zero_eq h)
  · rintro rfl
    exact Nat.xor_self _

/-- Two arrays of integers of one kind are told apart as their lists are. (After the library's law on arrays of bytes, at any integers.) -/
theorem run_equalIn_ints {P : Program} (w : World) (d : Nat) (t e : TypeId) (n : Nat) (k k' : IntKind) (ht : P.underlying t = some (.array n e)) (he : P.underlying e = some (.int k')) (hsz : ∀ w, (sizeOf e).run P w = .ok 1 w)
    (xs ys : List Int) (hx : xs.length = n) (hy : ys.length = n) :
    (Op.equalIn (d + 2) t (.agg (xs.map (Value.int k)).toArray) (.agg (ys.map (Value.int k)).toArray)).run P w = .ok ((List.range n).all fun i => xs.getD i 0 == ys.getD i 0) w := by
  rw [List.range_eq_range', Op.equalIn]
  simp only [Sem.run_bind, run_underlying ht, Result.andThen_ok, hsz, Std.Legacy.Range.forIn_eq_forIn_range', Std.Legacy.Range.size, Nat.sub_zero, Nat.add_sub_cancel, Nat.div_one]
  have hl : ∀ i ∈ List.range' 0 n 1, i < n := fun i hi => by simpa using (List.mem_range'_1.1 hi).2
  generalize List.range' 0 n 1 = l at hl ⊢
  induction l with
  | nil => simp
  | cons i l ih =>
    have hi : i < n := hl i (by simp)
    have px : (part e (xs.map (Value.int k)).toArray (i * 1)).run P w = .ok (.int k (xs.getD i 0)) w := by
      simp [part, isAgg, run_underlying he, List.getD, List.getElem?_eq_getElem (show i < xs.length by omega)]
    have py : (part e (ys.map (Value.int k)).toArray (i * 1)).run P w = .ok (.int k (ys.getD i 0)) w := by
      simp [part, isAgg, run_underlying he, List.getD, List.getElem?_eq_getElem (show i < ys.length by omega)]
    have pe := run_equalIn_int (P := P) w d e k k' (xs.getD i 0) (ys.getD i 0) he
    simp only [List.forIn_cons, Sem.run_bind, px, py, pe, Result.andThen_ok, List.all_cons]
    cases hb : (xs.getD i 0 == ys.getD i 0)
    · simp
    · simp only [Bool.not_true, Bool.false_eq_true, if_false, Sem.run_pure, Result.andThen_ok, Bool.true_and]
      exact ih fun j hj => hl j (by simp [hj])
theorem four_eq {x0 x1 x2 x3 y0 y1 y2 y3 : Int} {r : Bool} (hr : ((List.range 4).all fun i => [x0, x1, x2, x3].getD i 0 == [y0, y1, y2, y3].getD i 0) = r) (w : World) :
    (Op.equalIn 10000 35 (.agg #[.int .u8 x0, .int .u8 x1, .int .u8 x2, .int .u8 x3]) (.agg #[.int .u8 y0, .int .u8 y1, .int .u8 y2, .int .u8 y3])).run Tryd.prog w = .ok r w := by
  rw [← hr]
  exact run_equalIn_ints w 9998 35 5 4 .u8 .u8 (by kernel_rfl) (by kernel_rfl) (fun w => by rfl) [x0, x1, x2, x3] [y0, y1, y2, y3] rfl rfl

theorem Kp.two {a w : World} (o o' : Obj) (h : Kp No ((a.alloc o).alloc o') w) : Kp No a w := (((Kp.refl No a).alloc o).alloc o').trans h

theorem crcFour_walk (w : World) (v u : Value) (x0 x1 x2 x3 y0 y1 y2 y3 : Int) {ps qs : List Int} (ht : Tab w) (hv : Byt w Anyb v ps) (hu : Byt w Anyb u qs) (bx : ∀ z ∈ [x0, x1, x2, x3], 0 ≤ z ∧ z ≤ 255) (by' : ∀ z ∈ [y0, y1, y2, y3], 0 ≤ z ∧ z ≤ 255) :
    Calls Tryd.prog 8 #[v, .agg #[.int .u8 x0, .int .u8 x1, .int .u8 x2, .int .u8 x3], .agg #[.int .u8 y0, .int .u8 y1, .int .u8 y2, .int .u8 y3], u] w fun e w' => e = .returned (.bool true) ∧ Kp No w w' := by
  have KA : Hid (Kp No w ((w.alloc (.cells #[.int .u8 x0, .int .u8 x1, .int .u8 x2, .int .u8 x3] 35)).alloc (.cells #[.int .u8 y0, .int .u8 y1, .int .u8 y2, .int .u8 y3] 35))) := hid (((Kp.refl No w).alloc _).alloc _)
  have BX : Hid (Blk ((w.alloc (.cells #[.int .u8 x0, .int .u8 x1, .int .u8 x2, .int .u8 x3] 35)).alloc (.cells #[.int .u8 y0, .int .u8 y1, .int .u8 y2, .int .u8 y3] 35)) w.heap.size 35 #[.int .u8 x0, .int .u8 x1, .int .u8 x2, .int .u8 x3]) := hid ((Blk.new _ _ _).kp ((Kp.refl No _).alloc _) fun h => h)
  have BY : Hid (Blk ((w.alloc (.cells #[.int .u8 x0, .int .u8 x1, .int .u8 x2, .int .u8 x3] 35)).alloc (.cells #[.int .u8 y0, .int .u8 y1, .int .u8 y2, .int .u8 y3] 35)) (w.heap.size + 1) 35 #[.int .u8 y0, .int .u8 y1, .int .u8 y2, .int .u8 y3]) := hid (by
    have h := Blk.new (w.alloc (.cells #[.int .u8 x0, .int .u8 x1, .int .u8 x2, .int .u8 x3] 35)) 35 #[.int .u8 y0, .int .u8 y1, .int .u8 y2, .int .u8 y3]
    rwa [show (w.alloc (.cells #[.int .u8 x0, .int .u8 x1, .int .u8 x2, .int .u8 x3] 35)).heap.size = w.heap.size + 1 from by simp] at h)
  have HV := hid (hv.kp0 KA.out)
  have HU := hid (hu.kp0 KA.out)
  have HT := hid (ht.kp0 KA.out)
  have HBX := hid bx
  have HBY := hid by'
  obtain ⟨A, cp, rfl, hcp, hm, _, _⟩ := hv
  obtain ⟨A', cp', rfl, hcp', hm', _, _⟩ := hu
  unfold maxLen at hm hm'
  clear ht bx by'
  go_enter Tryd.func8, Tryd.ntmps8
  go_wp2_with fail
  refine (awake_any _ HT.out).mono ?_
  rintro e w1 ⟨rfl, k1⟩
  have V1 := hid (HV.out.kp0 k1)
  have U1 := hid (HU.out.kp0 k1)
  have T1 := hid (HT.out.kp0 k1)
  have K1 := hid (KA.out.trans k1)
  have X1 := hid (BX.out.kp k1 fun h => h)
  have Y1 := hid (BY.out.kp k1 fun h => h)
  clear HV HU HT KA BX BY k1
  by_cases hbig : 100 < ps.length
  · go_wp2
    go_ret
    exact ⟨rfl, K1.out⟩
  by_cases hbig2 : 100 < qs.length
  · go_wp2
    go_ret
    exact ⟨rfl, K1.out⟩
  have SX := hid (show Byt w1 Anyb (.slice (some ⟨w.heap.size, 0, none⟩) 4 4) [x0, x1, x2, x3] from ⟨_, 4, rfl, by simp, by simp [maxLen], HBX.out, fun _ => ⟨_, 0, rfl, X1.out.lt, trivial, fun j hj => by
    have hj : j < 4 := hj
    rw [Nat.zero_add, X1.out.cell]
    rcases (show j = 0 ∨ j = 1 ∨ j = 2 ∨ j = 3 from by omega) with rfl | rfl | rfl | rfl <;> rfl⟩⟩)
  have SY := hid (show Byt w1 Anyb (.slice (some ⟨w.heap.size + 1, 0, none⟩) 4 4) [y0, y1, y2, y3] from ⟨_, 4, rfl, by simp, by simp [maxLen], HBY.out, fun _ => ⟨_, 0, rfl, Y1.out.lt, trivial, fun j hj => by
    have hj : j < 4 := hj
    rw [Nat.zero_add, Y1.out.cell]
    rcases (show j = 0 ∨ j = 1 ∨ j = 2 ∨ j = 3 from by omega) with rfl | rfl | rfl | rfl <;> rfl⟩⟩)
  go_wp2
  go_region_law (first
    | (refine step_app isU8 (by rfl) (.tmp 22) (.tmp 23) (by rfl) (base := w1.heap.size) (xs := []) (ys := ps) (by exact Own.mt w1.drew _) (by exact V1.out.kp0 ((Kp.refl No w1).drew.alloc _)) (by simp; omega) (by simp) ?_
       intro v2 w2 o2 k2
       rw [List.nil_append] at o2
       have K2 := hid ((Kp.refl No w1).drew.alloc (.cells #[] 5) |>.step k2 fun i hi h => by omega)
       have O2 := hid o2
       clear o2 k2)
    | (refine step_app isU8 (by rfl) (.tmp 24) (.tmp 25) (by rfl) (base := w1.heap.size) (xs := ps) (ys := [x0, x1, x2, x3]) (by exact O2.out) (by exact SX.out.kp0 K2.out) (by simp; omega) (by exact K2.out.size) ?_
       intro v3 w3 o3 k3
       have K3 := hid (K2.out.step k3 fun i hi h => by omega)
       have O3 := hid o3
       clear o3 k3)
    | (refine step_app isU8 (by rfl) (.tmp 26) (.tmp 27) (by rfl) (base := w1.heap.size) (xs := ps ++ [x0, x1, x2, x3]) (ys := qs) (by exact O3.out) (by exact U1.out.kp0 K3.out) (by simp; omega) (by exact K3.out.size) ?_
       intro v4 w4 o4 k4
       have K4 := hid (K3.out.step k4 fun i hi h => by omega)
       have O4 := hid o4
       clear o4 k4))
  have V4 := hid (V1.out.kp0 K4.out)
  have U4 := hid (U1.out.kp0 K4.out)
  have T4 := hid (T1.out.kp0 K4.out)
  have SY4 := hid (SY.out.kp0 K4.out)
  have X4 := hid (X1.out.kp K4.out fun h => h)
  have Y4 := hid (Y1.out.kp K4.out fun h => h)
  have KE := hid (K1.out.trans K4.out)
  have B4 := hid (O4.out.byt (P := Anyb) fun _ _ => trivial)
  clear V1 U1 T1 K1 X1 Y1 SX SY K2 O2 K3 O3 K4
  obtain ⟨A4, c4, rfl⟩ := O4.out.formN (n := ps.length + 4 + qs.length) (by simp; omega)
  clear O4
  go_wp2
  go_region_law (first
    | (refine step_app isU8 (by rfl) (.tmp 29) (.tmp 30) (by rfl) (base := w4.heap.size) (xs := []) (ys := ps) (by exact Own.mt w4.drew _) (by exact V4.out.kp0 ((Kp.refl No w4).drew.alloc _)) (by simp; omega) (by simp) ?_
       intro v5 w5 o5 k5
       rw [List.nil_append] at o5
       have K5 := hid ((Kp.refl No w4).drew.alloc (.cells #[] 5) |>.step k5 fun i hi h => by omega)
       have O5 := hid o5
       clear o5 k5)
    | (refine step_app isU8 (by rfl) (.tmp 31) (.tmp 32) (by rfl) (base := w4.heap.size) (xs := ps) (ys := [y0, y1, y2, y3]) (by exact O5.out) (by exact SY4.out.kp0 K5.out) (by simp; omega) (by exact K5.out.size) ?_
       intro v6 w6 o6 k6
       have K6 := hid (K5.out.step k6 fun i hi h => by omega)
       have O6 := hid o6
       clear o6 k6)
    | (refine step_app isU8 (by rfl) (.tmp 33) (.tmp 34) (by rfl) (base := w4.heap.size) (xs := ps ++ [y0, y1, y2, y3]) (ys := qs) (by exact O6.out) (by exact U4.out.kp0 K6.out) (by simp; omega) (by exact K6.out.size) ?_
       intro v7 w7 o7 k7
       have K7 := hid (K6.out.step k7 fun i hi h => by omega)
       have O7 := hid o7
       clear o7 k7))
  have T7 := hid (T4.out.kp0 K7.out)
  have X7 := X4.out.kp K7.out fun h => h
  have Y7 := Y4.out.kp K7.out fun h => h
  have KF := hid (KE.out.trans K7.out)
  have B7 := hid (B4.out.kp0 K7.out)
  have C7 := hid (O7.out.byt (P := Anyb) fun _ _ => trivial)
  have HI := hid (four_iff ps [x0, x1, x2, x3] [y0, y1, y2, y3] qs rfl rfl V4.out.bytes HBX.out HBY.out U4.out.bytes)
  obtain ⟨A7, c7, rfl⟩ := O7.out.formN (n := ps.length + 4 + qs.length) (by simp; omega)
  have hx0 := X7.cell 0
  have hx1 := X7.cell 1
  have hx2 := X7.cell 2
  have hx3 := X7.cell 3
  have hy0 := Y7.cell 0
  have hy1 := Y7.cell 1
  have hy2 := Y7.cell 2
  have hy3 := Y7.cell 3
  simp only [List.getElem?_toArray, List.getElem?_cons_zero, List.getElem?_cons_succ] at hx0 hx1 hx2 hx3 hy0 hy1 hy2 hy3
  obtain ⟨p, ep⟩ : ∃ p, ck (ps ++ [x0, x1, x2, x3] ++ qs) = p := ⟨_, rfl⟩
  obtain ⟨q, eq⟩ : ∃ q, ck (ps ++ [y0, y1, y2, y3] ++ qs) = q := ⟨_, rfl⟩
  rw [ep, eq] at HI
  have EP := hid ep
  have EQ := hid eq
  clear X7 Y7 B4 T4 X4 Y4 KE K5 O5 K6 O6 K7 O7 V4 U4 SY4 ep eq
  have hg : Tryd.prog.eqGuardType Tryd.prog.depth 35 = false := by kernel_rfl
  by_cases hxy : [x0, x1, x2, x3] = [y0, y1, y2, y3]
  · have hpq := HI.out.2 hxy
    have h1 : ((p : Int) == (q : Int)) = true := by rw [beq_iff_eq, hpq]
    have hq := four_eq (r := true) (x0 := x0) (x1 := x1) (x2 := x2) (x3 := x3) (y0 := y0) (y1 := y1) (y2 := y2) (y3 := y3) (by rw [hxy]; simp [List.range, List.range.loop])
    clear hpq HI hxy
    go_wp2
    go_quiet (first
      | (go_at_call 11; exact Calls.quiet_of_same (of_is (by exact B7.out.kp0 ((Kp.refl No _).drewN _)) (by exact T7.out.kp0 ((Kp.refl No _).drewN _)) EP.out))
      | (go_at_call 11; exact Calls.quiet_of_same (of_is (by exact C7.out.kp0 ((Kp.refl No _).drewN _)) (by exact T7.out.kp0 ((Kp.refl No _).drewN _)) EQ.out)))
    go_wp2
    go_ret
    exact ⟨rfl, KF.out.drewN _⟩
  · have hpq : ¬ p = q := fun h => hxy (HI.out.1 h)
    have h1 : ((p : Int) == (q : Int)) = false := by rw [beq_eq_false_iff_ne]; omega
    have hq := four_eq (r := false) (x0 := x0) (x1 := x1) (x2 := x2) (x3 := x3) (y0 := y0) (y1 := y1) (y2 := y2) (y3 := y3) (by
      rw [Bool.eq_false_iff]
      intro h
      apply hxy
      simp [List.range, List.range.loop] at h
      simp only [List.cons.injEq, and_true]
      exact ⟨by omega, by omega, by omega, by omega⟩)
    clear hpq HI hxy
    go_wp2
    go_quiet (first
      | (go_at_call 11; exact Calls.quiet_of_same (of_is (by exact B7.out.kp0 ((Kp.refl No _).drewN _)) (by exact T7.out.kp0 ((Kp.refl No _).drewN _)) EP.out))
      | (go_at_call 11; exact Calls.quiet_of_same (of_is (by exact C7.out.kp0 ((Kp.refl No _).drewN _)) (by exact T7.out.kp0 ((Kp.refl No _).drewN _)) EQ.out)))
    go_wp2
    go_ret
    exact ⟨rfl, KF.out.drewN _⟩
end Go.Proofs.YtjcjepeailemcaaDoor
