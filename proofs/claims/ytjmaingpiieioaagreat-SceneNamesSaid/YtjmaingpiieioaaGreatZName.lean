/-
  Contract of Rename.
-/
import Derived.Test.YtjmaingpiieioaaGreatZRen
import Derived.Test.YtjmaingpiieioaaGreatZOnce
import Derived.Shelf.SlicesG.Turned
namespace Go.Proofs.YtjmaingpiieioaaGreat
open Go.RowKit Go.Shelf

theorem results_cell2 {fn : Func} {p q : Tmp} {ty : TypeId} (h : fn.results = #[.cell p ty, .tmp q]) (tmps : Array Value) (P : Program) (w : World) :
    (results fn tmps).run P w = ((asAddr (tmps.getD p undef)).run P w).andThen fun a w₁ => ((loadVar ty a).run P w₁).andThen fun v w₂ => .ok (.tuple #[v, tmps.getD q undef]) w₂ := by
  simp only [results, h]
  simp [Sem.run_bind, Result.andThen]
theorem max_any {w : World} {base : Nat} {u : Value} {xs : List Int} (h : Ow w base 3 1 zI u xs) (h0 : 0 < xs.length) :
    Calls Tryz.prog 37 #[u] w fun e w' => e = .returned (.int .i64 (Lib.maxOf xs)) ∧ w' = w := by
  obtain ⟨b, c, rfl, hb, hbl, hc, hm⟩ := h.form2 h0
  unfold maxLen at hm
  have := AnyG.slices_Max_int Tryz.maxA b 0 xs.length c xs w h0 (Nat.le_refl _) (by omega) (fun j hj => by
    have h1 := h.cellAt (d := 0) (i := 0) hj (by omega)
    rw [Nat.mul_one, Nat.add_zero] at h1
    rw [Nat.zero_add]
    exact h1)
  rw [List.take_length] at this
  exact this
theorem fold_max (l : List Int) : ∀ a : Int, (l.foldl max a = a ∨ l.foldl max a ∈ l) ∧ a ≤ l.foldl max a ∧ ∀ x ∈ l, x ≤ l.foldl max a := by
  induction l with
  | nil => exact fun a => ⟨.inl rfl, Int.le_refl _, fun x hx => by cases hx⟩
  | cons y l ih =>
    intro a
    rw [List.foldl_cons]
    obtain ⟨h1, h2, h3⟩ := ih (max a y)
    refine ⟨?_, by omega, fun x hx => ?_⟩
    · rcases h1 with h1 | h1
      · rw [h1]
        by_cases e : y ≤ a
        · exact .inl (by omega)
        · exact .inr (by rw [show max a y = y by omega]; exact List.mem_cons_self)
      · exact .inr (List.mem_cons_of_mem _ h1)
    · rcases List.mem_cons.1 hx with e | hx
      · rw [e]
        omega
      · exact h3 x hx
theorem maxOf_mem {l : List Int} (h : l ≠ []) : Lib.maxOf l ∈ l := by
  cases l with
  | nil => exact absurd rfl h
  | cons y l =>
    rcases (fold_max (y :: l) y).1 with e | e
    · show (y :: l).foldl max y ∈ y :: l
      rw [e]
      exact List.mem_cons_self
    · exact e
theorem maxOf_le {l : List Int} : ∀ x ∈ l, x ≤ Lib.maxOf l := (fold_max l (l.headD 0)).2.2
/-- Of a scene that can be all numbers are small. -/
theorem ok_sm {gs : List GS} {ts : List TS} (h : checkS gs ts = 0) : (∀ g ∈ gs, Sm g.id ∧ Sm g.par) ∧ (∀ t ∈ ts, Sm t.id ∧ Sm t.gr) ∧ gs.length ≤ 4096 ∧ ts.length ≤ 4096 ∧ 0 < gs.length := by
  cases gs with
  | nil =>
    have h2 : (2 : Int) = 0 := h
    exact absurd h2 (by decide)
  | cons g0 gt =>
    obtain ⟨h1, h2, h3, h4, h5, h6⟩ := check0 h
    have hid : ∀ g ∈ g0 :: gt, Sm g.id := fun g hg => by
      have : wrongG g = false := by
        cases e : wrongG g with
        | false => rfl
        | true => exact absurd (.inl (List.any_eq_true.2 ⟨g, hg, e⟩)) h2
      unfold wrongG numB at this
      simp only [Bool.or_eq_false_iff, Bool.not_eq_false', Bool.and_eq_true, decide_eq_true_eq] at this
      unfold Sm
      omega
    have hin : ∀ x : Int, x ∈ (g0 :: gt).map (·.id) → Sm x := fun x hx => by
      obtain ⟨g, hg, rfl⟩ := List.mem_map.1 hx
      exact hid g hg
    unfold lostB at h4
    simp only [Bool.or_eq_true, not_or, List.any_eq_true, not_exists, not_and] at h4
    obtain ⟨⟨a1, a2⟩, a3⟩ := h4
    refine ⟨fun g hg => ⟨hid g hg, ?_⟩, fun t ht => ⟨?_, ?_⟩, by omega, by omega, by simp⟩
    · have := a2 g hg
      simp only [Bool.and_eq_true, Bool.not_eq_true', decide_eq_false_iff_not, bne_iff_ne, ne_eq, not_and, Classical.not_not] at this
      by_cases hp : g.par = 0
      · rw [hp]
        unfold Sm
        omega
      · exact hin _ (this hp)
    · have : wrongT t = false := by
        cases e : wrongT t with
        | false => rfl
        | true => exact absurd (.inr (List.any_eq_true.2 ⟨t, ht, e⟩)) h2
      unfold wrongT numB at this
      simp only [Bool.or_eq_false_iff, Bool.not_eq_false', Bool.and_eq_true, decide_eq_true_eq] at this
      unfold Sm
      omega
    · have := a3 t ht
      simp only [Bool.not_eq_true', decide_eq_false_iff_not, Classical.not_not] at this
      exact hin _ this
/-- What is told of a scene and a number. -/
noncomputable def renE (gs : List GS) (ts : List TS) (y : Int) : Int := if y < 0 ∨ 1048576 < y then 1 else if checkS gs ts ≠ 0 then checkS gs ts else if 1048576 < Lib.maxOf (idsOf gs ts) + y then 6 else 0
theorem max_sm {gs : List GS} {ts : List TS} (h : checkS gs ts = 0) : Sm (Lib.maxOf (idsOf gs ts)) := by
  obtain ⟨h1, h2, _, _, h5⟩ := ok_sm h
  have hne : idsOf gs ts ≠ [] := by
    unfold idsOf
    intro e
    have := congrArg List.length e
    rw [List.length_append, List.length_map, List.length_nil] at this
    omega
  have := maxOf_mem hne
  unfold idsOf at this ⊢
  rcases List.mem_append.1 this with h | h
  · obtain ⟨g, hg, e⟩ := List.mem_map.1 h
    rw [← e]
    exact (h1 g hg).1
  · obtain ⟨t, ht, e⟩ := List.mem_map.1 h
    rw [← e]
    exact (h2 t ht).1
set_option maxRecDepth 100000 in
set_option maxHeartbeats 4000000 in
theorem rename_any {w : World} {P : Nat → Prop} {v : Value} {gs : List GS} {ts : List TS} (h : Sn w P v gs ts) (hp : ∀ g ∈ gs, I64 g.id ∧ I64 g.par) (hpt : ∀ t ∈ ts, I64 t.gr) (y : Int) {r : Int} (hr : renE gs ts y = r) :
    Calls Tryz.prog 18 #[v, .int .i64 y] w fun e w' => ∃ u, e = .returned (.tuple #[u, .int .i64 r]) ∧ Sn w' Anyb u (if r = 0 then gs.map (shG y) else []) (if r = 0 then ts.map (shT y) else []) ∧ Kp No w w' := by
  obtain ⟨vg, vt, rfl, hg, ht⟩ := id h
  have k1 := (Kp.refl No w).alloc (.cells #[vg, vt] 25)
  have b1 := Blk.new w 25 #[vg, vt]
  have z1 := World.size_alloc w (.cells #[vg, vt] 25)
  obtain ⟨w1, hw1⟩ : ∃ w1, w.alloc (.cells #[vg, vt] 25) = w1 := ⟨_, rfl⟩
  rw [hw1] at k1 b1 z1
  have k2 := (Kp.refl No w1).alloc (.cells #[.slice none 0 0, .slice none 0 0] 25)
  have b2 := Blk.new w1 25 #[.slice none 0 0, .slice none 0 0]
  obtain ⟨w2, hw2⟩ : ∃ w2, w1.alloc (.cells #[.slice none 0 0, .slice none 0 0] 25) = w2 := ⟨_, rfl⟩
  rw [hw2] at k2 b2
  rw [z1] at b2
  have K2 := hid (k1.trans k2)
  have B2 := hid (b1.kp0 k2)
  have R2 := hid b2
  have h2 := (h.kp0 k1).kp0 k2
  have s0 := B2.out.cell 0
  have s1 := B2.out.cell 1
  have r0 := b2.cell 0
  have r1 := b2.cell 1
  have f0 : w2.frozen? ⟨w.heap.size + 1, 0, none⟩ = false := b2.frozen 0
  have f1 : w2.frozen? ⟨w.heap.size + 1, 1, none⟩ = false := b2.frozen 1
  simp only [List.getElem?_toArray, List.getElem?_cons_zero, List.getElem?_cons_succ] at s0 s1 r0 r1
  obtain ⟨A, c, rfl, _⟩ := hg
  obtain ⟨A2, c2, rfl, _⟩ := ht
  clear k1 k2 b1 b2 h
  unfold renE at hr
  by_cases hy : y < 0 ∨ 1048576 < y
  · rw [if_pos hy] at hr
    subst hr
    rw [if_neg (by decide), if_neg (by decide)]
    rcases Classical.em (y < 0) with hlt | hlt
    · clear hy
      go_enter Tryz.func18, Tryz.ntmps18
      go_upto_region 1 with fail
      clear hw1 hw2
      go_wp2_with fail
      have fin : ∀ W, Kp (Only (w.heap.size + 1)) w2 W → Sn W Anyb (.agg #[.slice none 0 0, .slice none 0 0]) [] [] ∧ Kp No w W := fun W k => ⟨⟨_, _, rfl, Rw.nil _ _ _ _ _, Rw.nil _ _ _ _ _⟩, K2.out.step k fun i hi e => by have e : i = w.heap.size + 1 := e; omega⟩
      refine bodyPost_ret (v := .tuple #[.agg #[.slice none 0 0, .slice none 0 0], .int .i64 1]) ?_ rfl ⟨_, rfl, fin _ ?_⟩
      · rw [results_cell2 rfl]
        go_simp
      exact ((Kp.refl (Only (w.heap.size + 1)) w2).setCell (p := ⟨w.heap.size + 1, 0, none⟩) (.inl rfl) _).setCell (p := ⟨w.heap.size + 1, 1, none⟩) (.inl rfl) _
    · have hgt : 1048576 < y := by omega
      clear hy
      go_enter Tryz.func18, Tryz.ntmps18
      go_upto_region 1 with fail
      clear hw1 hw2
      go_wp2_with fail
      have fin : ∀ W, Kp (Only (w.heap.size + 1)) w2 W → Sn W Anyb (.agg #[.slice none 0 0, .slice none 0 0]) [] [] ∧ Kp No w W := fun W k => ⟨⟨_, _, rfl, Rw.nil _ _ _ _ _, Rw.nil _ _ _ _ _⟩, K2.out.step k fun i hi e => by have e : i = w.heap.size + 1 := e; omega⟩
      refine bodyPost_ret (v := .tuple #[.agg #[.slice none 0 0, .slice none 0 0], .int .i64 1]) ?_ rfl ⟨_, rfl, fin _ ?_⟩
      · rw [results_cell2 rfl]
        go_simp
      exact ((Kp.refl (Only (w.heap.size + 1)) w2).setCell (p := ⟨w.heap.size + 1, 0, none⟩) (.inl rfl) _).setCell (p := ⟨w.heap.size + 1, 1, none⟩) (.inl rfl) _
  · rw [if_neg hy] at hr
    have hy1 : ¬ y < 0 := fun e => hy (.inl e)
    have hy2 : ¬ 1048576 < y := fun e => hy (.inr e)
    clear hy
    obtain ⟨ce, hce⟩ : ∃ ce, checkS gs ts = ce := ⟨_, rfl⟩
    rw [hce] at hr
    have HC := check_any h2 hp hpt
    rw [hce] at HC
    have HC := hid HC
    by_cases hc0 : ce = 0
    · subst hc0
      rw [if_neg (by simp)] at hr
      obtain ⟨m1, m2, l1, l2, l3⟩ := ok_sm hce
      obtain ⟨x1, x2⟩ := max_sm hce
      obtain ⟨mx, hmx⟩ : ∃ mx, Lib.maxOf (idsOf gs ts) = mx := ⟨_, rfl⟩
      rw [hmx] at hr x1 x2
      have HMX := hid hmx
      have HI := hid (fun (W : World) (k : Kp No w2 W) => ids_any (h2.kp0 k) (by omega) (by omega))
      have HID := hid (show 0 < (idsOf gs ts).length by unfold idsOf; rw [List.length_append, List.length_map]; omega)
      have HRN := hid (fun (W : World) (k : Kp No w2 W) => renamed_any (h2.kp0 k) (by omega) (by omega) y ⟨by omega, by omega⟩ m1 m2)
      have hwm := wrapI (x := mx + y) (by unfold I64; omega)
      by_cases hbig : 1048576 < mx + y
      · rw [if_pos hbig] at hr
        subst hr
        rw [if_neg (by decide), if_neg (by decide)]
        clear h2 hp hpt hce m1 m2 hmx
        go_enter Tryz.func18, Tryz.ntmps18
        go_upto_region 1 with fail
        clear hw1 hw2
        go_wp2_with (first
          | (go_at_call 12
             with_reducible refine HC.out.mono ?_
             rintro e w3 ⟨rfl, k3⟩
             have K3 := hid (K2.out.trans k3)
             have D3 := hid (R2.out.kp0 k3)
             have C3 := hid (B2.out.kp0 k3)
             have a30 := C3.out.cell 0
             have a31 := C3.out.cell 1
             have r30 := D3.out.cell 0
             have r31 := D3.out.cell 1
             have f30 : w3.frozen? ⟨w.heap.size + 1, 0, none⟩ = false := D3.out.frozen 0
             have f31 : w3.frozen? ⟨w.heap.size + 1, 1, none⟩ = false := D3.out.frozen 1
             simp only [List.getElem?_toArray, List.getElem?_cons_zero, List.getElem?_cons_succ] at a30 a31 r30 r31
             have KW := hid k3
             clear k3)
          | (go_at_call 14
             with_reducible refine (HI.out _ KW.out).mono ?_
             rintro e w4 ⟨u, rfl, o4, k4⟩
             have O4 := hid o4
             have K4 := hid (K3.out.trans k4)
             have KV := hid (KW.out.trans k4)
             have D4 := hid (D3.out.kp0 k4)
             have C4 := hid (C3.out.kp0 k4)
             have a40 := C4.out.cell 0
             have a41 := C4.out.cell 1
             have r40 := D4.out.cell 0
             have r41 := D4.out.cell 1
             have f40 : w4.frozen? ⟨w.heap.size + 1, 0, none⟩ = false := D4.out.frozen 0
             have f41 : w4.frozen? ⟨w.heap.size + 1, 1, none⟩ = false := D4.out.frozen 1
             simp only [List.getElem?_toArray, List.getElem?_cons_zero, List.getElem?_cons_succ] at a40 a41 r40 r41
             clear o4 k4)
          | (go_at_call 37
             with_reducible refine (max_any O4.out HID.out).mono ?_
             rw [HMX.out]
             rintro e w4 ⟨rfl, rfl⟩))
        have fin : ∀ W, Kp (Only (w.heap.size + 1)) w4 W → Sn W Anyb (.agg #[.slice none 0 0, .slice none 0 0]) [] [] ∧ Kp No w W := fun W k => ⟨⟨_, _, rfl, Rw.nil _ _ _ _ _, Rw.nil _ _ _ _ _⟩, K4.out.step k fun i hi e => by have e : i = w.heap.size + 1 := e; omega⟩
        refine bodyPost_ret (v := .tuple #[.agg #[.slice none 0 0, .slice none 0 0], .int .i64 6]) ?_ rfl ⟨_, rfl, fin _ ?_⟩
        · rw [results_cell2 rfl]
          go_simp
        exact ((Kp.refl (Only (w.heap.size + 1)) w4).setCell (p := ⟨w.heap.size + 1, 0, none⟩) (.inl rfl) _).setCell (p := ⟨w.heap.size + 1, 1, none⟩) (.inl rfl) _
      · rw [if_neg hbig] at hr
        subst hr
        rw [if_pos rfl, if_pos rfl]
        clear h2 hp hpt hce m1 m2 hmx
        go_enter Tryz.func18, Tryz.ntmps18
        go_upto_region 1 with fail
        clear hw1 hw2
        go_wp2_with (first
          | (go_at_call 12
             with_reducible refine HC.out.mono ?_
             rintro e w3 ⟨rfl, k3⟩
             have K3 := hid (K2.out.trans k3)
             have D3 := hid (R2.out.kp0 k3)
             have C3 := hid (B2.out.kp0 k3)
             have a30 := C3.out.cell 0
             have a31 := C3.out.cell 1
             have r30 := D3.out.cell 0
             have r31 := D3.out.cell 1
             have f30 : w3.frozen? ⟨w.heap.size + 1, 0, none⟩ = false := D3.out.frozen 0
             have f31 : w3.frozen? ⟨w.heap.size + 1, 1, none⟩ = false := D3.out.frozen 1
             simp only [List.getElem?_toArray, List.getElem?_cons_zero, List.getElem?_cons_succ] at a30 a31 r30 r31
             have KW := hid k3
             clear k3)
          | (go_at_call 14
             with_reducible refine (HI.out _ KW.out).mono ?_
             rintro e w4 ⟨u, rfl, o4, k4⟩
             have O4 := hid o4
             have K4 := hid (K3.out.trans k4)
             have KV := hid (KW.out.trans k4)
             have D4 := hid (D3.out.kp0 k4)
             have C4 := hid (C3.out.kp0 k4)
             have a40 := C4.out.cell 0
             have a41 := C4.out.cell 1
             have r40 := D4.out.cell 0
             have r41 := D4.out.cell 1
             have f40 : w4.frozen? ⟨w.heap.size + 1, 0, none⟩ = false := D4.out.frozen 0
             have f41 : w4.frozen? ⟨w.heap.size + 1, 1, none⟩ = false := D4.out.frozen 1
             simp only [List.getElem?_toArray, List.getElem?_cons_zero, List.getElem?_cons_succ] at a40 a41 r40 r41
             clear o4 k4)
          | (go_at_call 37
             with_reducible refine (max_any O4.out HID.out).mono ?_
             rw [HMX.out]
             rintro e w4 ⟨rfl, rfl⟩)
          | (go_at_call 38
             with_reducible refine (HRN.out _ KV.out).mono ?_
             rintro e w6 ⟨u6, rfl, su, k6⟩
             obtain ⟨ug, ut, rfl, rug, rut⟩ := id su
             obtain ⟨Ag, cg, rfl, _⟩ := rug
             obtain ⟨At, ct, rfl, _⟩ := rut
             obtain ⟨n6, hn6⟩ : ∃ n6, (gs.map (shG y)).length = n6 := ⟨_, rfl⟩
             obtain ⟨m6, hm6⟩ : ∃ m6, (ts.map (shT y)).length = m6 := ⟨_, rfl⟩
             rw [hn6, hm6] at su ⊢
             have SU := hid su
             have K6 := hid (K4.out.trans k6)
             have K46 := hid k6
             have D6 := D4.out.kp0 k6
             have r60 := D6.cell 0
             have r61 := D6.cell 1
             have f60 : w6.frozen? ⟨w.heap.size + 1, 0, none⟩ = false := D6.frozen 0
             have f61 : w6.frozen? ⟨w.heap.size + 1, 1, none⟩ = false := D6.frozen 1
             simp only [List.getElem?_toArray, List.getElem?_cons_zero, List.getElem?_cons_succ] at r60 r61
             clear su k6 D6 hn6 hm6))
        have fin : ∀ W, Kp (Only (w.heap.size + 1)) w6 W → Sn W Anyb (.agg #[.slice Ag n6 cg, .slice At m6 ct]) (gs.map (shG y)) (ts.map (shT y)) ∧ Kp No w W := fun W k => ⟨(SU.out.kp k fun i hi hPi e => by have e : i = w.heap.size + 1 := e; have := D4.out.lt; have hPi : w4.heap.size ≤ i := hPi; omega).any, K6.out.step k fun i hi e => by have e : i = w.heap.size + 1 := e; omega⟩
        refine bodyPost_ret (v := .tuple #[.agg #[.slice Ag n6 cg, .slice At m6 ct], .int .i64 0]) ?_ rfl ⟨_, rfl, fin _ ?_⟩
        · rw [results_cell2 rfl]
          go_simp
        exact ((Kp.refl (Only (w.heap.size + 1)) w6).setCell (p := ⟨w.heap.size + 1, 0, none⟩) (.inl rfl) _).setCell (p := ⟨w.heap.size + 1, 1, none⟩) (.inl rfl) _
    · have hcn : (ce != 0) = true := by simpa using hc0
      rw [if_pos hc0] at hr
      subst hr
      rw [if_neg hc0, if_neg hc0]
      clear h2 hp hpt hce
      go_enter Tryz.func18, Tryz.ntmps18
      go_upto_region 1 with fail
      clear hw1 hw2
      go_wp2_with (first
        | (go_at_call 12
           with_reducible refine HC.out.mono ?_
           rintro e w3 ⟨rfl, k3⟩
           have K3 := hid (K2.out.trans k3)
           have D3 := hid (R2.out.kp0 k3)
           have C3 := hid (B2.out.kp0 k3)
           have a30 := C3.out.cell 0
           have a31 := C3.out.cell 1
           have r30 := D3.out.cell 0
           have r31 := D3.out.cell 1
           have f30 : w3.frozen? ⟨w.heap.size + 1, 0, none⟩ = false := D3.out.frozen 0
           have f31 : w3.frozen? ⟨w.heap.size + 1, 1, none⟩ = false := D3.out.frozen 1
           simp only [List.getElem?_toArray, List.getElem?_cons_zero, List.getElem?_cons_succ] at a30 a31 r30 r31
           have KW := hid k3
           clear k3))
      have fin : ∀ W, Kp (Only (w.heap.size + 1)) w3 W → Sn W Anyb (.agg #[.slice none 0 0, .slice none 0 0]) [] [] ∧ Kp No w W := fun W k => ⟨⟨_, _, rfl, Rw.nil _ _ _ _ _, Rw.nil _ _ _ _ _⟩, K3.out.step k fun i hi e => by have e : i = w.heap.size + 1 := e; omega⟩
      refine bodyPost_ret (v := .tuple #[.agg #[.slice none 0 0, .slice none 0 0], .int .i64 ce]) ?_ rfl ⟨_, rfl, fin _ ?_⟩
      · rw [results_cell2 rfl]
        go_simp
      exact ((Kp.refl (Only (w.heap.size + 1)) w3).setCell (p := ⟨w.heap.size + 1, 0, none⟩) (.inl rfl) _).setCell (p := ⟨w.heap.size + 1, 1, none⟩) (.inl rfl) _
end Go.Proofs.YtjmaingpiieioaaGreat
