/-
  The document's queue: All.
-/
import Derived.Test.YtpbnmfoecmhnnaaQDocA
import Derived.Test.YtpbnmfoecmhnnaaQDocB
import Derived.Test.YtpbnmfoecmhnnaaTail

/-
  The document's queue: All.
-/
namespace Go.Proofs.Ytpbnmfoecmhnnaa
open Go.RowKit

/-- Which members were told: those that stand ahead. -/
structure Sel (xs l : List Mb) (us : List Bool) (k : Nat) : Prop where
  len : us.length = xs.length
  mem : ∀ j, j < xs.length → (us.getD j false = true ↔ xs.getD j mb0 ∈ l.take k)
section
variable {xs l : List Mb} {us : List Bool} {k : Nat}
theorem Sel.start (xs l : List Mb) : Sel xs l (List.replicate xs.length false) 0 :=
  ⟨by simp, fun j hj => by simp [List.getD, hj]⟩
theorem sorted_lt (hs : Sorted (l.map itM)) {i j : Nat} (hij : i < j) (hj : j < l.length) : ltB (itM (l.getD i mb0)) (itM (l.getD j mb0)) = true := by
  unfold Sorted at hs
  have := (List.pairwise_iff_getElem.1 hs) i j (by simp; omega) (by simpa using hj) hij
  simpa [List.getD, hj, show i < l.length by omega] using this
theorem not_ahead (hs : Sorted (l.map itM)) (hk : k < l.length) : l.getD k mb0 ∉ l.take k := fun h => by
  obtain ⟨i, hi, e⟩ := List.mem_take_iff_getElem.1 h
  have h1 := sorted_lt hs (i := i) (j := k) (by omega) hk
  have : l.getD i mb0 = l.getD k mb0 := by rw [← e]; simp [List.getD, show i < l.length by omega]
  rw [this, ltB_irr] at h1
  cases h1
theorem idx_of {x : Mb} : ∀ {xs : List Mb}, x ∈ xs → ∃ j, j < xs.length ∧ xs.getD j mb0 = x
  | y :: t, h => by
    rcases List.mem_cons.1 h with rfl | h
    · exact ⟨0, by simp, rfl⟩
    · obtain ⟨j, h1, h2⟩ := idx_of h
      exact ⟨j + 1, by simp; omega, by simpa using h2⟩
/-- Somebody was not told yet. -/
theorem Sel.left (h : Sel xs l us k) (hp : xs.Perm l) (hs : Sorted (l.map itM)) (hk : k < l.length) : ∃ j, j < xs.length ∧ xs.getD j mb0 = l.getD k mb0 ∧ us.getD j false = false := by
  obtain ⟨j, hj, e⟩ := idx_of (hp.mem_iff.2 (getD_mem hk))
  refine ⟨j, hj, e, ?_⟩
  rw [← Bool.not_eq_true, h.mem j hj, e]
  exact not_ahead hs hk
/-- The least of those that were not told is the next one. -/
theorem Sel.pick (h : Sel xs l us k) (hp : xs.Perm l) (hs : Sorted (l.map itM)) (hk : k < l.length) {p : Nat} (hpn : p < xs.length) (hu : us.getD p false = false)
    (hmin : ∀ j, j < xs.length → us.getD j false = false → ltB (itM (xs.getD j mb0)) (itM (xs.getD p mb0)) = false) : xs.getD p mb0 = l.getD k mb0 := by
  obtain ⟨t, ht, e⟩ := idx_of (hp.mem_iff.1 (getD_mem hpn))
  have hnt : ¬ t < k := fun htk => by
    have h1 : xs.getD p mb0 ∈ l.take k := by rw [← e, List.mem_take_iff_getElem]; exact ⟨t, by omega, by simp [List.getD, ht]⟩
    have := (h.mem p hpn).2 h1
    rw [hu] at this
    cases this
  rcases Nat.lt_or_ge k t with hkt | hkt
  · obtain ⟨j, hj, ej, hju⟩ := h.left hp hs hk
    have h1 := sorted_lt hs hkt ht
    have h2 := hmin j hj hju
    rw [ej, ← e, h1] at h2
    cases h2
  · rw [← e, show t = k by omega]
theorem Sel.step (h : Sel xs l us k) (hi : Ids xs) (hk : k < l.length) {p : Nat} (hpn : p < xs.length) (e : xs.getD p mb0 = l.getD k mb0) : Sel xs l (us.set p true) (k + 1) := by
  refine ⟨by rw [List.length_set]; exact h.len, fun j hj => ?_⟩
  have ht : l.take (k + 1) = l.take k ++ [l.getD k mb0] := take_at l mb0 hk
  rw [ht, List.mem_append, List.mem_singleton]
  have hl := h.len
  by_cases hjp : j = p
  · subst hjp
    have h1 : (us.set j true).getD j false = true := by simp [List.getD, show j < us.length by omega]
    rw [h1]
    exact ⟨fun _ => .inr e, fun _ => rfl⟩
  · have h1 : (us.set p true).getD j false = us.getD j false := by simp only [List.getD]; rw [List.getElem?_set_ne (fun x => hjp x.symm)]
    rw [h1, h.mem j hj]
    refine ⟨.inl, fun h2 => h2.resolve_right fun h3 => ?_⟩
    unfold Ids at hi
    have hd := List.pairwise_iff_getElem.1 hi
    have e1 : (xs.getD j mb0).id = (xs.getD p mb0).id := by rw [h3, e]
    have gj : xs.getD j mb0 = xs[j] := by simp [List.getD, hj]
    have gp : xs.getD p mb0 = xs[p] := by simp [List.getD, hpn]
    rw [gj, gp] at e1
    rcases Nat.lt_or_ge j p with h4 | h4
    · exact hd j p hj hpn h4 e1
    · exact hd p j hpn hj (by omega) e1.symm
end

theorem infoBo : (Try.prog.info? 4).map (fun i => (i.zero, i.size, i.bytes)) = some (some (.bool false), 1, 1) := by kernel_rfl
theorem mk_bools (n : Nat) (hn : n ≤ 1000000) (w : World) : (Instr.makeSlice 127 (.int .i64 (n : Int)) (.int .i64 (n : Int))).run Try.prog w = .ok (.slice (some ⟨w.heap.size, 0, none⟩) n n) (w.alloc (.cells ((List.replicate n false).map Value.bool).toArray 4)) := by
  obtain ⟨i, hi, hz, hs, hb⟩ := info_parts infoBo
  have hr := run_make (P := Try.prog) w 127 4 i _ (by kernel_rfl) hi hz .i64 .i64 (n : Int) (n : Int) (by omega) (by omega) (by rw [hb]; omega) (by omega)
  rw [hs] at hr
  have e : madeCells (Value.bool false).cells ((n : Int).toNat * 1) = ((List.replicate n false).map Value.bool).toArray := by
    simp only [Int.toNat_natCast, Nat.mul_one]
    refine Array.ext (by simp [madeCells]) fun j h1 h2 => ?_
    simp [madeCells, Value.cells, Nat.mod_one]
  rw [e] at hr
  simpa using hr
theorem us_cell {us : List Bool} {w : World} {U : Nat} (h : Blk w U 4 (us.map Value.bool).toArray) {j : Nat} (hj : j < us.length) : w.cell? ⟨U, j, none⟩ = some (.bool (us.getD j false)) := by
  rw [h.cell]
  simp [List.getD, hj]
theorem us_put {us : List Bool} {w : World} {U : Nat} (h : Blk w U 4 (us.map Value.bool).toArray) (j : Nat) : Blk (w.setCell ⟨U, j, none⟩ (.bool true)) U 4 ((us.set j true).map Value.bool).toArray := by
  have h1 := h.put j (.bool true)
  have e : (us.map Value.bool).toArray.setIfInBounds j (.bool true) = ((us.set j true).map Value.bool).toArray := by simp
  rwa [e] at h1

section
variable {w w' : World} {r : Nat} {S : Nat → Prop} {b : Int} {xs l : List Mb}
/-- Between two rounds of All. -/
structure AllR (w : World) (b : Int) (xs l : List Mb) (us : List Bool) (k : Nat) (o : Value) (wr : World) : Prop where
  kept : Kp No w wr
  row : Blk wr w.heap.size 4 (us.map Value.bool).toArray
  own : Ow wr (w.heap.size + 1) 67 4 mc o ((l.take k).map (tl b))
  sel : Sel xs l us k
theorem AllR.kp0 {us : List Bool} {k : Nat} {o : Value} (h : AllR w b xs l us k o w') {w2 : World} (k2 : Kp No w' w2) : AllR w b xs l us k o w2 := ⟨h.kept.trans k2, h.row.kp0 k2, h.own.kp0 k2, h.sel⟩
theorem AllR.drewN {us : List Bool} {k : Nat} {o : Value} (h : AllR w b xs l us k o w') (n : Nat) : AllR w b xs l us k o (w'.drewN n) := h.kp0 ((Kp.refl No w').drewN n)

set_option maxRecDepth 100000 in
set_option maxHeartbeats 8000000 in
theorem refall_any (h : Rq w r S b xs) (hp : xs.Perm l) (hs : Sorted (l.map itM)) (hi : Ids xs) (hok : ∀ m ∈ xs, I64 (m.v - b)) :
    Calls Try.prog 46 #[.pointer (some ⟨r, 0, none⟩)] w fun e w' => ∃ v, e = .returned v ∧ Kp No w w' ∧ Ow w' w.heap.size 67 4 mc v (l.map (tl b)) := by
  have hl := h.len
  have HLL := hid hp.length_eq
  obtain ⟨⟨v0, hb0, hr0⟩, _, hnr⟩ := id h
  obtain ⟨A0, cc, rfl, hcc, hmx, hr2⟩ := (id hr0)
  simp only [maxLen] at hmx
  have c0 := hb0.cell 0
  simp only [List.getElem?_toArray, List.getElem?_cons_zero] at c0
  have hrl := hb0.lt
  have hmk := mk_bools xs.length (by omega)
  have HB := hid hb0
  have HR := hid hr0
  have HP := hid hp
  have HS := hid hs
  have HI := hid hi
  have HOK := hid hok
  clear h hb0 hr0 hr2 hp hs hi hok
  go_enter Try.func46, Try.ntmps46
  go_wp2_with fail
  have hrep : ((List.replicate xs.length false).map Value.bool).toArray = Array.replicate xs.length (Value.bool false) := by simp
  have I0 := hid (show AllR w b xs l (List.replicate xs.length false) 0 (.slice none 0 0) (w.alloc (.cells (Array.replicate xs.length (Value.bool false)) 4)) from
    ⟨(Kp.refl No w).alloc _, by rw [hrep]; exact Blk.new w 4 _, by simpa using Ow.nil _ (w.heap.size + 1) 67 4 mc, Sel.start xs l⟩)
  clear hrep
  clear hmk c0
  go_loopw [3, 5, 6] (fun o _ _ wr => ∃ (k : Nat) (A : Option Addr) (c : Nat) (us : List Bool), k ≤ xs.length ∧ o = .slice A k c ∧ Hid (AllR w b xs l us k o wr)) (fun o _ _ _ => xs.length - lenOf o)
  case atStart => exact ⟨0, none, 0, _, by omega, rfl, I0⟩
  case round =>
    obtain ⟨k, A, c, us, hk, rfl, HH⟩ := hrel
    clear I0
    have c0 := (HB.out.kp0 HH.out.kept).cell 0
    simp only [List.getElem?_toArray, List.getElem?_cons_zero] at c0
    by_cases hlt : k < xs.length
    · have hki : (k : Int) < (xs.length : Int) := by omega
      obtain ⟨lb, lo, rfl⟩ := HR.out.there (by omega)
      go_wp2_with fail
      go_loopw [5, 6] (fun bst i wi => ∃ q : Nat, q ≤ xs.length ∧ i = .int .i64 (q : Int) ∧ Hid (AllR w b xs l us k (.slice A k c) wi) ∧ ((bst = .int .i64 (-1) ∧ Hid (∀ j, j < q → us.getD j false = true)) ∨ ∃ p : Nat, p < q ∧ bst = .int .i64 (p : Int) ∧ Hid (us.getD p false = false ∧ ∀ j, j < q → us.getD j false = false → ltB (itM (xs.getD j mb0)) (itM (xs.getD p mb0)) = false))) (fun _ i _ => xs.length - (intOf i).toNat)
      case atStart => exact ⟨0, by omega, rfl, HH, .inl ⟨rfl, hid fun j hj => by omega⟩⟩
      case round =>
        clear HH
        obtain ⟨q, hq, rfl, HH, hd⟩ := hrel
        clear c0
        have c0 := (HB.out.kp0 HH.out.kept).cell 0
        simp only [List.getElem?_toArray, List.getElem?_cons_zero] at c0
        have hul := HH.out.sel.len
        by_cases hqn : q < xs.length
        · have hqi : (q : Int) < (xs.length : Int) := by omega
          have hq0 : ¬ (q : Int) < 0 := by omega
          have uq := us_cell HH.out.row (j := q) (by omega)
          have a0 := HR.out.cell HH.out.kept hqn (i := 0) (by omega) rfl
          have a2 := HR.out.cell HH.out.kept hqn (i := 2) (by omega) rfl
          simp only [mc, Nat.add_zero] at a0 a2
          rw [← Nat.add_assoc] at a2
          obtain ⟨x, hx⟩ : ∃ x, xs.getD q mb0 = x := ⟨_, rfl⟩
          rw [hx] at a0 a2
          have HX := hid hx
          have g5 : IntKind.i64.wrap ((q : Int) + 1) = (q : Int) + 1 := wrapI (by unfold I64; omega)
          obtain ⟨z, hz⟩ : ∃ z, us.getD q false = z := ⟨_, rfl⟩
          rw [hz] at uq
          have HZ := hid hz
          have HQL := hid (show q < us.length by omega)
          have RDX := hid (show ∀ w', AllR w b xs l us k (.slice A k c) w' → w'.cell? ⟨r, 0, none⟩ = some (.slice (some ⟨lb, lo, none⟩) xs.length cc) ∧ w'.cell? ⟨w.heap.size, q, none⟩ = some (.bool z) ∧ w'.cell? ⟨lb, lo + q * 4, none⟩ = some (.int .i64 x.id) ∧ w'.cell? ⟨lb, lo + q * 4 + 2, none⟩ = some (.int .i64 x.v) from fun w' hw => by
            have g0 := (HB.out.kp0 hw.kept).cell 0
            have g1 := us_cell hw.row HQL.out
            have g2 := HR.out.cell hw.kept hqn (i := 0) (by omega) rfl
            have g3 := HR.out.cell hw.kept hqn (i := 2) (by omega) rfl
            rw [HX.out] at g2 g3
            rw [HZ.out] at g1
            simp only [mc, Nat.add_zero] at g2 g3
            rw [← Nat.add_assoc] at g3
            exact ⟨by simpa using g0, g1, g2, g3⟩)
          clear hx hz hul
          cases z
          · rcases hd with ⟨rfl, HA⟩ | ⟨p, hpq, rfl, HB2⟩
            · go_wp2_with fail
              refine region_all (fun w' => AllR w b xs l us k (.slice A k c) w') (by kernel_rfl) (by kernel_rfl) (HH.out.kp0 (Kp.refl No _).drew) ?_
              repeat ((first | ((with_reducible refine cl_val (v := ?_) ?_ ?_ ?_); rotate_left; (focus (go_simp; done)); (focus (intro w' hw; obtain ⟨c0, uq, a0, a2⟩ := RDX.out w' hw; go_simp; (try with_reducible rfl); done))) | ((with_reducible refine cl_skip ?_ ?_); (focus (first | (go_simp; done) | exact unwanted rfl rfl)))); simp only [Act.put, List.setIfInBounds_toArray, List.set_cons_zero, List.set_cons_succ])
              refine cl_nil fun w' hw => ?_
              have H2 := hid hw
              clear hw
              go_wp2_with fail
              go_roundw
              case rel => exact ⟨q + 1, by omega, by go_num, H2, .inr ⟨q, by omega, rfl, hid ⟨HZ.out, fun j hj hju => by
                rcases (show j < q ∨ j = q by omega) with h | rfl
                · rw [HA.out j h] at hju; cases hju
                · exact ltB_irr _⟩⟩⟩
              case measure => simp [intOf]; omega
            · have hpn : p < xs.length := by omega
              have hpi : (p : Int) < (xs.length : Int) := by omega
              have hp0 : ¬ (p : Int) < 0 := by omega
              have e0 := HR.out.cell HH.out.kept hpn (i := 0) (by omega) rfl
              have e2 := HR.out.cell HH.out.kept hpn (i := 2) (by omega) rfl
              simp only [mc, Nat.add_zero] at e0 e2
              rw [← Nat.add_assoc] at e2
              obtain ⟨y, hy⟩ : ∃ y, xs.getD p mb0 = y := ⟨_, rfl⟩
              rw [hy] at e0 e2
              have HY := hid hy
              have RDY := hid (show ∀ w', AllR w b xs l us k (.slice A k c) w' → w'.cell? ⟨r, 0, none⟩ = some (.slice (some ⟨lb, lo, none⟩) xs.length cc) ∧ w'.cell? ⟨w.heap.size, q, none⟩ = some (.bool false) ∧ w'.cell? ⟨lb, lo + q * 4, none⟩ = some (.int .i64 x.id) ∧ w'.cell? ⟨lb, lo + q * 4 + 2, none⟩ = some (.int .i64 x.v) ∧ w'.cell? ⟨lb, lo + p * 4, none⟩ = some (.int .i64 y.id) ∧ w'.cell? ⟨lb, lo + p * 4 + 2, none⟩ = some (.int .i64 y.v) from fun w' hw => by
                have g2 := HR.out.cell hw.kept hpn (i := 0) (by omega) rfl
                have g3 := HR.out.cell hw.kept hpn (i := 2) (by omega) rfl
                rw [HY.out] at g2 g3
                simp only [mc, Nat.add_zero] at g2 g3
                rw [← Nat.add_assoc] at g3
                obtain ⟨q0, q1, q2, q3⟩ := RDX.out w' hw
                exact ⟨q0, q1, q2, q3, g2, g3⟩)
              clear hy
              have stay : ltB (itM x) (itM y) = false → ∀ j, j < q + 1 → us.getD j false = false → ltB (itM (xs.getD j mb0)) (itM (xs.getD p mb0)) = false := fun hn j hj hju => by
                rcases (show j < q ∨ j = q by omega) with h | rfl
                · exact HB2.out.2 j h hju
                · rw [HX.out, HY.out]; exact hn
              have move : ltB (itM x) (itM y) = true → ∀ j, j < q + 1 → us.getD j false = false → ltB (itM (xs.getD j mb0)) (itM (xs.getD q mb0)) = false := fun hn j hj hju => by
                rcases (show j < q ∨ j = q by omega) with h | rfl
                · have h1 := HB2.out.2 j h hju
                  rw [HY.out] at h1
                  rw [HX.out, ← Bool.not_eq_true]
                  intro h2
                  rw [ltB_trans h2 hn] at h1
                  cases h1
                · exact ltB_irr _
              have ST := hid stay
              have MV := hid move
              clear stay move
              rcases Int.lt_trichotomy x.v y.v with hv | hv | hv
              · have LT := hid (show ltB (itM x) (itM y) = true from ltB_iff.2 (.inl hv))
                go_wp2_with fail
                refine region_all (fun w' => AllR w b xs l us k (.slice A k c) w') (by kernel_rfl) (by kernel_rfl) (HH.out.kp0 (Kp.refl No _).drew) ?_
                repeat ((first | ((with_reducible refine cl_val (v := ?_) ?_ ?_ ?_); rotate_left; (focus (go_simp; done)); (focus (intro w' hw; obtain ⟨c0, uq, a0, a2, e0, e2⟩ := RDY.out w' hw; go_simp; (try with_reducible rfl); done))) | ((with_reducible refine cl_skip ?_ ?_); (focus (first | (go_simp; done) | exact unwanted rfl rfl)))); simp only [Act.put, List.setIfInBounds_toArray, List.set_cons_zero, List.set_cons_succ])
                refine cl_nil fun w' hw => ?_
                have H2 := hid hw
                clear hw
                go_wp2_with fail
                go_roundw
                case rel => exact ⟨q + 1, by omega, by go_num, H2, .inr ⟨q, by omega, rfl, hid ⟨HZ.out, MV.out LT.out⟩⟩⟩
                case measure => simp [intOf]; omega
              · by_cases hid2 : x.id < y.id
                · have LT := hid (show ltB (itM x) (itM y) = true from ltB_iff.2 (.inr ⟨hv, hid2⟩))
                  have b1 := decide_eq_false (show ¬ x.v < y.v by omega)
                  have b2 : (x.v == y.v) = true := by simp [hv]
                  clear hv
                  go_wp2_with fail
                  refine region_all (fun w' => AllR w b xs l us k (.slice A k c) w') (by kernel_rfl) (by kernel_rfl) (HH.out.kp0 (Kp.refl No _).drew) ?_
                  repeat ((first | ((with_reducible refine cl_val (v := ?_) ?_ ?_ ?_); rotate_left; (focus (go_simp; done)); (focus (intro w' hw; obtain ⟨c0, uq, a0, a2, e0, e2⟩ := RDY.out w' hw; go_simp; (try with_reducible rfl); done))) | ((with_reducible refine cl_skip ?_ ?_); (focus (first | (go_simp; done) | exact unwanted rfl rfl)))); simp only [Act.put, List.setIfInBounds_toArray, List.set_cons_zero, List.set_cons_succ])
                  refine cl_nil fun w' hw => ?_
                  have H2 := hid hw
                  clear hw
                  go_wp2_with fail
                  go_roundw
                  case rel => exact ⟨q + 1, by omega, by go_num, H2, .inr ⟨q, by omega, rfl, hid ⟨HZ.out, MV.out LT.out⟩⟩⟩
                  case measure => simp [intOf]; omega
                · have NL := hid (show ltB (itM x) (itM y) = false by rw [← Bool.not_eq_true, ltB_iff]; simp only [itM]; omega)
                  have b1 := decide_eq_false (show ¬ x.v < y.v by omega)
                  have b2 : (x.v == y.v) = true := by simp [hv]
                  have b3 := decide_eq_false hid2
                  clear hv hid2
                  go_wp2_with fail
                  refine region_all (fun w' => AllR w b xs l us k (.slice A k c) w') (by kernel_rfl) (by kernel_rfl) (HH.out.kp0 (Kp.refl No _).drew) ?_
                  repeat ((first | ((with_reducible refine cl_val (v := ?_) ?_ ?_ ?_); rotate_left; (focus (go_simp; done)); (focus (intro w' hw; obtain ⟨c0, uq, a0, a2, e0, e2⟩ := RDY.out w' hw; go_simp; (try with_reducible rfl); done))) | ((with_reducible refine cl_skip ?_ ?_); (focus (first | (go_simp; done) | exact unwanted rfl rfl)))); simp only [Act.put, List.setIfInBounds_toArray, List.set_cons_zero, List.set_cons_succ])
                  refine cl_nil fun w' hw => ?_
                  have H2 := hid hw
                  clear hw
                  go_wp2_with fail
                  go_roundw
                  case rel => exact ⟨q + 1, by omega, by go_num, H2, .inr ⟨p, by omega, rfl, hid ⟨HB2.out.1, ST.out NL.out⟩⟩⟩
                  case measure => simp [intOf]; omega
              · have NL := hid (show ltB (itM x) (itM y) = false by rw [← Bool.not_eq_true, ltB_iff]; simp only [itM]; omega)
                have b1 := decide_eq_false (show ¬ x.v < y.v by omega)
                have b2 : (x.v == y.v) = false := by simp; omega
                go_wp2_with fail
                refine region_all (fun w' => AllR w b xs l us k (.slice A k c) w') (by kernel_rfl) (by kernel_rfl) (HH.out.kp0 (Kp.refl No _).drew) ?_
                repeat ((first | ((with_reducible refine cl_val (v := ?_) ?_ ?_ ?_); rotate_left; (focus (go_simp; done)); (focus (intro w' hw; obtain ⟨c0, uq, a0, a2, e0, e2⟩ := RDY.out w' hw; go_simp; (try with_reducible rfl); done))) | ((with_reducible refine cl_skip ?_ ?_); (focus (first | (go_simp; done) | exact unwanted rfl rfl)))); simp only [Act.put, List.setIfInBounds_toArray, List.set_cons_zero, List.set_cons_succ])
                refine cl_nil fun w' hw => ?_
                have H2 := hid hw
                clear hw
                go_wp2_with fail
                go_roundw
                case rel => exact ⟨q + 1, by omega, by go_num, H2, .inr ⟨p, by omega, rfl, hid ⟨HB2.out.1, ST.out NL.out⟩⟩⟩
                case measure => simp [intOf]; omega
          · go_wp2_with fail
            refine region_all (fun w' => AllR w b xs l us k (.slice A k c) w') (by kernel_rfl) (by kernel_rfl) (HH.out.kp0 (Kp.refl No _).drew) ?_
            repeat ((first | ((with_reducible refine cl_val (v := ?_) ?_ ?_ ?_); rotate_left; (focus (go_simp; done)); (focus (intro w' hw; obtain ⟨c0, uq, a0, a2⟩ := RDX.out w' hw; go_simp; (try with_reducible rfl); done))) | ((with_reducible refine cl_skip ?_ ?_); (focus (first | (go_simp; done) | exact unwanted rfl rfl)))); simp only [Act.put, List.setIfInBounds_toArray, List.set_cons_zero, List.set_cons_succ])
            refine cl_nil fun w' hw => ?_
            have H2 := hid hw
            clear hw
            go_wp2_with fail
            go_roundw
            case rel => exact ⟨q + 1, by omega, by go_num, H2, hd.imp (fun ⟨e, HA⟩ => ⟨e, hid fun j hj => by
                rcases (show j < q ∨ j = q by omega) with h | rfl
                · exact HA.out j h
                · exact HZ.out⟩) (fun ⟨p, h1, h2, HB2⟩ => ⟨p, by omega, h2, hid ⟨HB2.out.1, fun j hj hju => by
                rcases (show j < q ∨ j = q by omega) with h | rfl
                · exact HB2.out.2 j h hju
                · rw [HZ.out] at hju; cases hju⟩⟩)⟩
            case measure => simp [intOf]; omega
        · have hqe : q = xs.length := by omega
          subst hqe
          have hkl : k < l.length := by have := HLL.out; omega
          rcases hd with ⟨rfl, HA⟩ | ⟨p, hpq, rfl, HB2⟩
          · exfalso
            obtain ⟨j, hj, _, hju⟩ := HH.out.sel.left HP.out HS.out hkl
            rw [HA.out j hj] at hju
            cases hju
          · have hpick := HH.out.sel.pick HP.out HS.out hkl hpq HB2.out.1 HB2.out.2
            have SEL := hid (HH.out.sel.step HI.out hkl hpq hpick)
            have HT := hid (show l.take (k + 1) = l.take k ++ [xs.getD p mb0] by rw [hpick]; exact take_at l mb0 hkl)
            have hin : xs.getD p mb0 ∈ xs := getD_mem hpq
            have hpi : (p : Int) < (xs.length : Int) := by omega
            have hp0 : ¬ (p : Int) < 0 := by omega
            have fU := HH.out.row.frozen p
            have lU := HH.out.row.lt
            have cU := us_cell HH.out.row (j := p) (by omega)
            have HKL := hid hkl
            have HPQ := hid hpq
            have HLE := hid (show ((l.take k).map (tl b)).length = k by simp; omega)
            have ks := Kp.set1 w.heap.size p wr (.bool true)
            have R2 := hid (us_put HH.out.row p)
            have O2 := hid (HH.out.own.kp ks fun i hi e => by have : i = w.heap.size := e; omega)
            have K2 := hid (HH.out.kept.step ks fun i hi e => by have : i = w.heap.size := e; omega)
            clear hpick hul hkl
            go_upto_region 11 with fail
            clear c0 cU fU lU
            generalize wr.setCell ⟨w.heap.size, p, none⟩ (.bool true) = w3 at ks R2 O2 K2 ⊢
            have c0 := (HB.out.kp0 K2.out).cell 0
            simp only [List.getElem?_toArray, List.getElem?_cons_zero] at c0
            have a0 := HR.out.cell K2.out hpq (i := 0) (by omega) rfl
            have a1 := HR.out.cell K2.out hpq (i := 1) (by omega) rfl
            have a2 := HR.out.cell K2.out hpq (i := 2) (by omega) rfl
            have a3 := HR.out.cell K2.out hpq (i := 3) (by omega) rfl
            simp only [mc, Nat.add_zero] at a0 a1 a2 a3
            rw [← Nat.add_assoc] at a1 a2 a3
            obtain ⟨x, hx⟩ : ∃ x, xs.getD p mb0 = x := ⟨_, rfl⟩
            rw [hx] at a0 a1 a2 a3 hin HT
            have HW := hid (HOK.out x hin)
            have B3 := hid (HB.out.kp0 K2.out)
            clear hx hin ks
            go_wp2_with fail
            refine (reftold_any B3.out x HW.out).mono ?_
            rintro e w4 ⟨rfl, k4⟩
            have R4 := hid (R2.out.kp0 k4)
            have O4 := hid (O2.out.kp0 k4)
            have K4 := hid (K2.out.trans k4)
            have hU4 := R4.out.lt
            clear k4 c0 a0 a1 a2 a3
            go_wp2_with (at_builtin
                         refine wp_one usMb mc_one rfl (.tmp 104) (.tmp 114) rfl (tl b x) (.slice A k c) rfl (by exact O4.out.kp0 ((Kp.refl No _).alloc _)) rfl (fun i hi => by
                           have hb := Blk.new w4 67 #[.int .i64 x.id, .int .i64 x.w, .int .i64 (x.v - b), .int .i64 x.r]
                           match i, hi with
                           | 0, _ => exact hb.cell 0
                           | 1, _ => exact hb.cell 1
                           | 2, _ => exact hb.cell 2
                           | 3, _ => exact hb.cell 3) (by rw [HLE.out]; omega) (by rw [HLE.out]; simp [maxLen]; omega) (by simp; omega) ?_
                         intro v6 w6 o6 q6 p6
                         have kv : Kp (OV (.slice A k c)) (w4.alloc (.cells #[.int .i64 x.id, .int .i64 x.w, .int .i64 (x.v - b), .int .i64 x.r] 67)) w6 := (Kp.refl _ _).grown q6 fun k hk => .inl hk
                         have ka : Kp No w4 (w4.alloc (.cells #[.int .i64 x.id, .int .i64 x.w, .int .i64 (x.v - b), .int .i64 x.r] 67)) := (Kp.refl No _).alloc _
                         have at6 : ∀ i, OV (.slice A k c) i → w.heap.size + 1 ≤ i := fun i hi => O4.out.at_ i hi
                         have K6 := hid ((K4.out.trans ka).step kv fun i hi e => absurd (at6 i e) (by omega))
                         have R6 := hid ((R4.out.kp0 ka).kp kv fun e => absurd (at6 _ e) (by omega))
                         have O6 := hid o6
                         obtain ⟨A6, c6, rfl⟩ := o6.formN (m := k + 1) (by rw [List.length_append, HLE.out]; rfl)
                         clear kv ka o6 q6 p6 at6)
            go_roundw
            case rel => exact ⟨k + 1, A6, c6, us.set p true, by omega, rfl, hid ⟨K6.out, R6.out, by rw [HT.out, List.map_append]; exact O6.out, SEL.out⟩⟩
            case measure => simp [lenOf]; omega
    · have hke : k = xs.length := by omega
      subst hke
      have e : l.take xs.length = l := by rw [HLL.out, List.take_length]
      have HO := hid (HH.out.own)
      rw [e] at HO
      clear e
      go_wp2_with fail
      go_ret
      exact ⟨_, rfl, HH.out.kept, HO.out.lower (by omega)⟩
end
end Go.Proofs.Ytpbnmfoecmhnnaa
