/-
  Small things of bytes, as the sector of a head wants them: Clone, Equal, parts of bytes.
-/
import Derived.Test.YtgfkbkonelphaaaGreatDoorLeE
import Derived.Test.YtgfkbkonelphaaaGreatDoorApp
import Derived.Test.YtgfkbkonelphaaaGreatDoorPCrcC
import Derived.Test.YtgfkbkonelphaaaGreatDoorPWin
import Derived.Test.YtgfkbkonelphaaaGreatDoorArgs
import Derived.Laws.Cover3
import Derived.Laws.BytesArg
import Derived.Deep.DeepCutAuto
import Derived.Deep.CutRange
namespace Go.Proofs.YtgfkbkonelphaaaGreatDoor
open Go.RowKit

theorem dg_num (xs : List Int) (h : Bs xs) : dg (num xs) xs.length = xs := by
  induction xs with
  | nil => rfl
  | cons x r ih =>
    have hx := h x (by simp)
    have hr := ih fun y hy => h y (List.mem_cons_of_mem _ hy)
    rw [List.length_cons, dg, num, show (x + 256 * num r) % 256 = x by omega, show (x + 256 * num r) / 256 = num r by omega, hr]
theorem num4 {ys : List Int} (hy : Bs ys) (h4 : ys.length = 4) : 0 ≤ num ys ∧ num ys < 4294967296 := by
  have := num_bd ys hy
  rw [h4, show pw 4 = 4294967296 from rfl] at this
  exact this
theorem str_iff {xs ys : List Int} (h : Bs xs) (h' : Bs ys) : (strOfNums xs).toList = (strOfNums ys).toList ↔ xs = ys := by
  constructor
  · intro e1
    rw [ByteArray.toList_eq, strOfNums_data, ByteArray.toList_eq, strOfNums_data] at e1
    have back : ∀ zs : List Int, Bs zs → (zs.map fun n => UInt8.ofNat n.toNat).map (fun x : UInt8 => (x.toNat : Int)) = zs := fun zs hz => by
      rw [List.map_map]
      conv => rhs; rw [← List.map_id zs]
      refine List.map_congr_left fun y hy => ?_
      have := hz y hy
      simp only [Function.comp_apply, id_eq, UInt8.toNat_ofNat']
      omega
    rw [← back xs h, e1, back ys h']
  · rintro rfl
    rfl
theorem u32w (x : Int) : IntKind.u32.wrap x = x % 4294967296 := by simp [IntKind.wrap, IntKind.bits, IntKind.signed]

section
variable {w w' : World} {P S T : Nat → Prop} {v u : Value} {xs ys : List Int}
theorem nx_ok {m : Nat} (h : m ≤ xs.length) : nxP xs 0 m = xs.take m ∧ nxR xs 0 m = xs.drop m ∧ nxE xs 0 m = 0 := by
  unfold nxP nxR nxE
  rw [if_pos ⟨rfl, by omega, by omega⟩, if_pos ⟨rfl, by omega, by omega⟩, if_pos rfl, if_neg (by omega), if_neg (by omega)]
  exact ⟨by simp, by simp, rfl⟩
theorem take_one {xs : List Int} (h : 1 ≤ xs.length) : num (xs.take 1) = xs.getD 0 0 := by
  match xs, h with
  | x :: r, _ => simp [num]
theorem Byt.part {b o n c : Nat} {xs : List Int} (h : Byt w P (.slice (some ⟨b, o, none⟩) n c) xs) {i m : Nat} (hj : i + m ≤ xs.length) : Byt w P (.slice (some ⟨b, o + i, none⟩) m (c - i)) ((xs.drop i).take m) := by
  have h1 := h.drop i (by omega)
  have ha : (⟨b, o, none⟩ : Addr).add i = ⟨b, o + i, none⟩ := by unfold Addr.add; split <;> simp_all
  simp only [Option.map_some, ha] at h1
  exact h1.take m (by rw [List.length_drop]; omega)
theorem Tab.lt (h : Tab w) : 0 < w.heap.size := World.block_lt_of_cell? w _ (h 0 (by omega))
theorem equal_any (h : Byt w S v xs) (h' : Byt w T u ys) (hx : 0 < xs.length) (hy : 0 < ys.length) :
    Calls Tryz.prog 51 #[v, u] w fun e w' => e = .returned (.bool (decide (xs = ys))) ∧ w' = w := by
  have hs := str_iff h.bytes h'.bytes
  obtain ⟨A, c, rfl, hc, hm, _, hr⟩ := h
  obtain ⟨A', c', rfl, hc', hm', _, hr'⟩ := h'
  obtain ⟨b, o, rfl, _, _, hcell⟩ := hr hx
  obtain ⟨b', o', rfl, _, _, hcell'⟩ := hr' hy
  have hcv : (convert 36 9 (.slice (some ⟨b, o, none⟩) xs.length c)).run Tryz.prog w = .ok (.string (strOfNums xs)) w :=
    run_convert_bytes_arg w 36 5 (by kernel_rfl) (by kernel_rfl) b o _ c xs rfl hcell 9 (by kernel_rfl)
  have hcv' : (convert 36 9 (.slice (some ⟨b', o', none⟩) ys.length c')).run Tryz.prog w = .ok (.string (strOfNums ys)) w :=
    run_convert_bytes_arg w 36 5 (by kernel_rfl) (by kernel_rfl) b' o' _ c' ys rfl hcell' 9 (by kernel_rfl)
  generalize strOfNums xs = s1 at hcv hs
  generalize strOfNums ys = s2 at hcv' hs
  have HS := hid (show decide (xs = ys) = (s1.toList == s2.toList) from by
    rw [show (s1.toList == s2.toList) = decide (s1.toList = s2.toList) by rw [Bool.eq_iff_iff]; simp]
    exact decide_eq_decide.2 hs.symm)
  rw [HS.out]
  generalize xs.length = n at hcv ⊢
  generalize ys.length = n' at hcv' ⊢
  clear hs hcell hcell' hr hr' hc hc' hm hm' hx hy
  go_enter Tryz.func51, Tryz.ntmps51
  go_wp2
  go_ret
  exact ⟨rfl, rfl⟩
theorem clone_any (h : Byt w P v xs) (hl : xs.length ≤ 140737488355328) : Calls Tryz.prog 35 #[v] w fun e w' => ∃ u, e = .returned u ∧ Own w' w.heap.size 5 u xs ∧ Kp No w w' := by
  have HO := hid h
  have HL := hid hl
  obtain ⟨A, c, rfl, hc, hm, _, hr⟩ := h
  have hnil : ∀ (a : Option Addr) (l c : Nat) (w : World), (binOp .eql 36 (.slice a l c) (.slice none 0 0)).run Tryz.prog w = .ok (.bool a.isNone) w := fun a l c w => by
    unfold binOp
    simp only [Sem.run_bind, run_equal_slice_nil w 36 5 a l c Tryz.underlying36, Result.andThen_ok, Sem.run_pure]
  clear hl
  rcases A with _ | a
  · have h0 : xs = [] := by
      rcases xs with _ | ⟨x, xs⟩
      · rfl
      · obtain ⟨b, o, he, _⟩ := hr (by simp)
        cases he
    subst h0
    clear hr
    go_enter Tryz.func35, Tryz.ntmps35
    go_wp2
    go_ret
    exact ⟨_, rfl, Own.nil _ _ _, Kp.refl _ _⟩
  · clear hr
    go_enter Tryz.func35, Tryz.ntmps35
    go_wp2_with (first
      | (at_builtin
         refine wp_app isU8 rfl (.tmp 5) (.tmp 6) rfl (base := w.heap.size) (xs := []) (ys := xs) (by exact Own.mt _ _) (by exact HO.out.kp0 ((Kp.refl _ _).alloc _)) (by have := HL.out; simp; omega) (by simp) ?_
         intro v2 w2 o2 k2
         rw [List.nil_append] at o2
         have O2 := hid o2
         have K2 := hid (((Kp.refl No w).alloc (.cells #[] 5)).step k2 fun i hi h => by omega)
         clear o2 k2))
    go_ret
    exact ⟨_, rfl, O2.out, K2.out⟩
end
end Go.Proofs.YtgfkbkonelphaaaGreatDoor
