/-
  Contract: summed; sums over members.
-/
import Derived.Test.YtklkjgdhfanlcaaMomD
import Derived.Test.YtklkjgdhfanlcaaRw
import Derived.Test.YtklkjgdhfanlcaaTail
namespace Go.Proofs.Ytklkjgdhfanlcaa
open Go.RowKit

/-- A member, as it came in: how far, its weight, whether it is taken away. -/
structure Mem where
  x : Int
  y : Int
  o : Bool
/-- Its cells. -/
def mc (m : Mem) : Nat → Value
  | 0 => .int .i32 m.x
  | 1 => .int .u32 m.y
  | _ => .bool m.o
def m0 : Mem := ⟨0, 0, false⟩
/-- Weights, and weights times how far each is. -/
def Ws : List Mem → Int
  | [] => 0
  | m :: l => owt m.y + Ws l
def Ps : List Mem → Int
  | [] => 0
  | m :: l => owt m.y * oby m.x + Ps l
theorem Ws_app (l k : List Mem) : Ws (l ++ k) = Ws l + Ws k := by
  induction l with
  | nil => simp [Ws]
  | cons m l ih => simp only [List.cons_append, Ws, ih]; omega
theorem Ps_app (l k : List Mem) : Ps (l ++ k) = Ps l + Ps k := by
  induction l with
  | nil => simp [Ps]
  | cons m l ih => simp only [List.cons_append, Ps, ih]; omega
/-- All weights are numbers without a sign. -/
def Pos (l : List Mem) : Prop := ∀ m ∈ l, 0 ≤ m.y
theorem one_bd {m : Mem} (h : 0 ≤ m.y) : -1099511627776 ≤ owt m.y * oby m.x ∧ owt m.y * oby m.x ≤ 1099511627776 := by
  obtain ⟨a0, a1⟩ := owt_bd h
  obtain ⟨b0, b1⟩ := oby_bd m.x
  have h1 := Int.mul_le_mul_of_nonneg_left (show oby m.x ≤ 1048576 by omega) a0
  have h2 := Int.mul_le_mul_of_nonneg_left (show -1048576 ≤ oby m.x by omega) a0
  omega
theorem sums_bd {l : List Mem} (h : Pos l) : 0 ≤ Ws l ∧ Ws l ≤ 1048576 * l.length ∧ -(1099511627776 * l.length) ≤ Ps l ∧ Ps l ≤ 1099511627776 * l.length := by
  induction l with
  | nil => simp [Ws, Ps]
  | cons m l ih =>
    have h1 := owt_bd (h m (by simp))
    have h2 := one_bd (h m (by simp))
    have h3 := ih fun x hx => h x (by simp [hx])
    simp only [Ws, Ps, List.length_cons]
    omega
theorem Pos.take {l : List Mem} (h : Pos l) (k : Nat) : Pos (l.take k) := fun m hm => h m (List.mem_of_mem_take hm)
theorem take_one {α : Type} {l : List α} {k : Nat} {d : α} (h : k < l.length) : l.take (k + 1) = l.take k ++ [l.getD k d] := by
  rw [List.take_succ_eq_append_getElem h]
  simp [List.getD, h]
theorem sums_take {l : List Mem} {k : Nat} (h : k < l.length) : Ws (l.take (k + 1)) = Ws (l.take k) + owt (l.getD k m0).y ∧ Ps (l.take (k + 1)) = Ps (l.take k) + owt (l.getD k m0).y * oby (l.getD k m0).x := by
  rw [take_one (d := m0) h, Ws_app, Ps_app]
  simp [Ws, Ps]

theorem mem_cells {w w' : World} {P : Nat → Prop} {b o n c j : Nat} {xs : List Mem} {x y : Int} {q : Bool} (hu : Rw 3 mc m0 w P (.slice (some ⟨b, o, none⟩) n c) xs) (hj : j < xs.length) (he : xs.getD j m0 = ⟨x, y, q⟩) (k : Kp No w w') :
    w'.cell? ⟨b, o + j * 3, none⟩ = some (.int .i32 x) ∧ w'.cell? ⟨b, o + j * 3 + 1, none⟩ = some (.int .u32 y) ∧ w'.cell? ⟨b, o + j * 3 + 2, none⟩ = some (.bool q) := by
  have h0 := hu.cell (i := 0) k hj (by omega) rfl
  have h1 := hu.cell (i := 1) k hj (by omega) rfl
  have h2 := hu.cell (i := 2) k hj (by omega) rfl
  rw [he] at h0 h1 h2
  exact ⟨h0, h1, h2⟩

theorem summed_is {b a p : Int} {u : Value} {xs : List Mem} {w : World} (hu : Rw 3 mc m0 w Anyb u xs) (hx : Pos xs) (hl : xs.length ≤ 60) (b0 : -2305843009213693952 ≤ b) (b1 : b ≤ 2305843009213693952) (ha : Ws xs = a) (hp : Ps xs = p) :
    Calls Try.prog 23 #[.int .i64 b, u] w fun e w' => e = .returned (.agg #[.int .i64 b, .complex .f64 (fl a) (fl p)]) ∧ Kp No w w' := by
  have HU := hid hu
  have HX := hid hx
  have HA := hid ha
  have HP := hid hp
  obtain ⟨A, c, rfl, hc, hmx, _⟩ := hu
  unfold maxLen at hmx
  clear hx ha hp
  go_enter Try.func23, Try.ntmps23
  go_wp2_with fail
  refine (new_any b _).mono ?_
  rintro e w1 ⟨rfl, k1⟩
  have A1 : At2 w 27 w.heap.size w1.heap.size (.int .i64 0) (.complex .f64 0 0) (.int .i64 b) (.complex .f64 (fl (Ws (xs.take 0))) (fl (Ps (xs.take 0)))) (w1.alloc (.cells #[.int .i64 b, .complex .f64 (fl 0) (fl 0)] 27)) :=
    ⟨(((Kp.refl No w).alloc _).trans k1).alloc _, ((Blk.new w _ _).kp0 k1).kp0 ((Kp.refl No _).alloc _), Blk.new _ _ _⟩
  have HG := hid (show w.heap.size < w1.heap.size from (by have := k1.size; simp at this; omega))
  have H1 := hid A1
  clear k1 A1
  go_wp2_with fail
  go_loopw [6] (fun i wr => ∃ k : Nat, k ≤ xs.length ∧ i = .int .i64 k ∧ Hid (At2 w 27 w.heap.size w1.heap.size (.int .i64 0) (.complex .f64 0 0) (.int .i64 b) (.complex .f64 (fl (Ws (xs.take k))) (fl (Ps (xs.take k)))) wr)) (fun i _ => xs.length - (intOf i).toNat)
  case atStart => exact ⟨0, Nat.zero_le _, rfl, H1⟩
  case round =>
    obtain ⟨k, hk, rfl, HH⟩ := hrel
    clear H1
    by_cases hlt : k < xs.length
    · have hlt' : (k : Int) < (xs.length : Int) := by omega
      obtain ⟨b1, o1, rfl⟩ := HU.out.there (by omega)
      have s1 := sums_take hlt
      have s2 := sums_bd (HX.out.take k)
      have s3 := sums_bd (HX.out.take (k + 1))
      have hy := HX.out (xs.getD k m0) (by simp [List.getD, hlt])
      obtain ⟨⟨x, y, q⟩, he⟩ : ∃ m, xs.getD k m0 = m := ⟨_, rfl⟩
      rw [he] at s1 hy
      dsimp only at s1 hy
      simp only [List.length_take] at s2 s3
      have o1' := one_bd (m := ⟨x, y, q⟩) hy
      dsimp only at o1'
      have o2' := owt_bd hy
      have o3' := oby_bd x
      have HC := hid (fun (w' : World) (h : Kp No w w') => mem_cells HU.out hlt he h)
      have HS := hid s1
      have HY := hid hy
      obtain ⟨a1, ha1⟩ : ∃ n, Ws (xs.take k) = n := ⟨_, rfl⟩
      obtain ⟨p1, hp1⟩ : ∃ n, Ps (xs.take k) = n := ⟨_, rfl⟩
      obtain ⟨a2, ha2⟩ : ∃ n, Ws (xs.take (k + 1)) = n := ⟨_, rfl⟩
      obtain ⟨p2, hp2⟩ : ∃ n, Ps (xs.take (k + 1)) = n := ⟨_, rfl⟩
      rw [ha1, hp1] at HH s1 s2
      rw [ha2, hp2] at s1 s3
      have wr1 : IntKind.i64.wrap (b + oby x) = b + oby x := wrapI ⟨by omega, by omega⟩
      have HADD := hid (fun w' => add_is (w := w') (b := b) (a := a1) (p := p1) (v := b + oby x) (q := owt y) (d := oby x) (z := owt y * oby x) (a' := a2) (p' := p2) (by omega) rfl ⟨by omega, by omega⟩ s1.1.symm s1.2.symm ⟨by omega, by omega⟩ ⟨by omega, by omega⟩ ⟨by omega, by omega⟩ ⟨by omega, by omega⟩ ⟨by omega, by omega⟩ ⟨by omega, by omega⟩)
      have H2 := hid (And.intro ha2 hp2)
      have F := hid (fun (w' : World) (h : At2 w 27 w.heap.size w1.heap.size (.int .i64 0) (.complex .f64 0 0) (.int .i64 b) (.complex .f64 (fl a1) (fl p1)) w') => And.intro h.all (HC.out w' h.kept))
      clear s1 s2 s3 hy o1' o2' o3' ha1 hp1 ha2 hp2 HC he
      go_wp2_with fail
      refine region_class (fun w' => At2 w 27 w.heap.size w1.heap.size (.int .i64 0) (.complex .f64 0 0) (.int .i64 b) (.complex .f64 (fl a1) (fl p1)) w') 14 rfl (by kernel_rfl) (by kernel_rfl) (by kernel_rfl) (HH.out.kp (Kp.refl No _).drew) ?_
      simp only [List.take_succ_cons, List.take_zero]
      repeat ((first | ((with_reducible refine cl_val (v := ?_) ?_ ?_ ?_); rotate_left; (focus (go_simp; done)); (focus (intro w' hw; obtain ⟨⟨c0, c1, c2, c3, _⟩, c4, c5, c6⟩ := F.out w' hw; go_simp; (try with_reducible rfl); done))) | ((with_reducible refine cl_skip ?_ ?_); (focus (first | (go_simp; done) | exact unwanted rfl rfl)))); simp only [Act.put, List.setIfInBounds_toArray, List.set_cons_zero, List.set_cons_succ])
      refine cl_call (v := .int .i64 (oby x)) rfl (fun w' hw => by go_simp) (fun w' hw => (by_any x y q w').mono fun e w'' ⟨he, hk⟩ => ⟨he, hw.kp hk⟩) ?_
      simp only [Act.put, List.setIfInBounds_toArray, List.set_cons_zero, List.set_cons_succ]
      repeat ((first | ((with_reducible refine cl_val (v := ?_) ?_ ?_ ?_); rotate_left; (focus (go_simp; done)); (focus (intro w' hw; obtain ⟨⟨c0, c1, c2, c3, _⟩, c4, c5, c6⟩ := F.out w' hw; go_simp; (try with_reducible rfl); done))) | ((with_reducible refine cl_skip ?_ ?_); (focus (first | (go_simp; done) | exact unwanted rfl rfl)))); simp only [Act.put, List.setIfInBounds_toArray, List.set_cons_zero, List.set_cons_succ])
      refine cl_call (v := .int .i64 (owt y)) rfl (fun w' hw => by go_simp) (fun w' hw => (wgt_any x y q w' HY.out).mono fun e w'' ⟨he, hk⟩ => ⟨he, hw.kp hk⟩) ?_
      simp only [Act.put, List.setIfInBounds_toArray, List.set_cons_zero, List.set_cons_succ]
      repeat ((first | ((with_reducible refine cl_val (v := ?_) ?_ ?_ ?_); rotate_left; (focus (go_simp; done)); (focus (intro w' hw; obtain ⟨⟨c0, c1, c2, c3, _⟩, c4, c5, c6⟩ := F.out w' hw; go_simp; (try with_reducible rfl); done))) | ((with_reducible refine cl_skip ?_ ?_); (focus (first | (go_simp; done) | exact unwanted rfl rfl)))); simp only [Act.put, List.setIfInBounds_toArray, List.set_cons_zero, List.set_cons_succ])
      refine cl_call (v := .agg #[.int .i64 b, .complex .f64 (fl a2) (fl p2)]) rfl (fun w' hw => by go_simp) (fun w' hw => (HADD.out w').mono fun e w'' ⟨he, hk⟩ => ⟨he, hw.kp hk⟩) ?_
      simp only [Act.put, List.setIfInBounds_toArray, List.set_cons_zero, List.set_cons_succ]
      repeat ((first | ((with_reducible refine cl_val (v := ?_) ?_ ?_ ?_); rotate_left; (focus (go_simp; done)); (focus (intro w' hw; obtain ⟨⟨c0, c1, c2, c3, _⟩, c4, c5, c6⟩ := F.out w' hw; go_simp; (try with_reducible rfl); done))) | ((with_reducible refine cl_skip ?_ ?_); (focus (first | (go_simp; done) | exact unwanted rfl rfl)))); simp only [Act.put, List.setIfInBounds_toArray, List.set_cons_zero, List.set_cons_succ])
      refine cl_nil fun w' hw => ?_
      have H5 := hid hw
      obtain ⟨_, _, c0, c1, f0, f1, _⟩ := hw.allf
      have lt5 := hw.two.lt
      clear hw
      go_wp2_with fail
      go_roundw
      case rel => exact ⟨k + 1, by omega, by go_num, hid (by rw [H2.out.1, H2.out.2]; exact H5.out.put2 (by have := HG.out; omega) (by have := HG.out; omega) _ _)⟩
      case measure => simp [intOf]; omega
    · have hlt' : ¬ (k : Int) < (xs.length : Int) := by omega
      have hd := decide_eq_false hlt'
      have ek : xs.take k = xs := List.take_of_length_le (by omega)
      rw [ek, HA.out, HP.out] at HH
      obtain ⟨c0, c1, c2, c3, _⟩ := HH.out.all
      have f0 := HH.out.one.frozen 0
      have f1 := HH.out.one.frozen 1
      have lt5 := HH.out.one.lt
      clear ek
      go_wp2_with fail
      refine bodyPost_ret (v := .agg #[.int .i64 b, .complex .f64 (fl a) (fl p)]) ?_ rfl ⟨rfl, kp_put HH.out.kept (Nat.le_refl _)⟩
      rw [results_cell rfl]
      go_simp
end Go.Proofs.Ytklkjgdhfanlcaa
