/-
  Contract of slices.insertionSortCmpFunc at []int, whatever the comparison is.
-/
import Derived.Test.YtoeeighfjoplhaaLoA
import Derived.Test.YtoeeighfjoplhaaLoU
import Derived.Test.YtoeeighfjoplhaaLast
import Derived.Deep.DeepCutAuto
import Derived.Shelf.RegionOpenPlain
namespace Go.Proofs.Ytoeeighfjoplhaa
open Go.RowKit

/-- How long a block of ints is. -/
def Sz (W : World) (bk m : Nat) : Prop := ∃ cs, Blk W bk 3 cs ∧ cs.size = m
/-- A row of ints in a block, n of them, written on by the call alone. -/
structure RowF (w0 W : World) (bk n : Nat) (F : Nat → Int) : Prop where
  kp : Kp (Only bk) w0 W
  sz : ∃ m, Sz w0 bk m ∧ Sz W bk m
  bx : ∃ cs, Blk W bk 3 cs ∧ ∀ j, j < n → cs[j]? = some (.int .i64 (F j))
  lt : bk < w0.heap.size
section
variable {w0 W W' : World} {bk n : Nat} {F : Nat → Int}
theorem Sz.kp {S : Nat → Prop} {m : Nat} (h : Sz W bk m) (k : Kp S W W') (hs : ¬ S bk) : Sz W' bk m := by
  obtain ⟨cs, hb, hc⟩ := h
  exact ⟨cs, hb.kp k hs, hc⟩
theorem Sz.put {m : Nat} (h : Sz W bk m) (j : Nat) (v : Value) : Sz (W.setCell ⟨bk, j, none⟩ v) bk m := by
  obtain ⟨cs, hb, hc⟩ := h
  exact ⟨_, hb.put j v, by rw [Array.size_setIfInBounds]; exact hc⟩
theorem RowF.kp0 (h : RowF w0 W bk n F) (k : Kp No W W') : RowF w0 W' bk n F := by
  obtain ⟨cs, hb, hc⟩ := h.bx
  obtain ⟨m, z0, z1⟩ := h.sz
  exact ⟨h.kp.step k fun _ _ e => e.elim, ⟨m, z0, z1.kp k id⟩, ⟨cs, hb.kp0 k, hc⟩, h.lt⟩
theorem RowF.cell (h : RowF w0 W bk n F) {j : Nat} (hj : j < n) : W.cell? ⟨bk, j, none⟩ = some (.int .i64 (F j)) := by
  obtain ⟨cs, hb, hc⟩ := h.bx
  rw [hb.cell]
  exact hc j hj
theorem RowF.frozen (h : RowF w0 W bk n F) (j : Nat) : W.frozen? ⟨bk, j, none⟩ = false := by
  obtain ⟨cs, hb, hc⟩ := h.bx
  exact hb.frozen j
theorem RowF.swap (h : RowF w0 W bk n F) {x y : Nat} (hx : x < n) (hy : y < n) (hxy : x ≠ y) : RowF w0 ((W.setCell ⟨bk, x, none⟩ (.int .i64 (F y))).setCell ⟨bk, y, none⟩ (.int .i64 (F x))) bk n (swp2 x y F) := by
  obtain ⟨cs, hb, hc⟩ := h.bx
  obtain ⟨sm, sz0, sz1⟩ := h.sz
  have hxs : x < cs.size := by
    have := hc x hx
    exact (Array.getElem?_eq_some_iff.1 this).1
  have hys : y < cs.size := by
    have := hc y hy
    exact (Array.getElem?_eq_some_iff.1 this).1
  refine ⟨h.kp.step ((Kp.set1 bk x W _).setCell (p := ⟨bk, y, none⟩) (.inl rfl) _) fun i hi e => e, ⟨sm, sz0, (sz1.put x _).put y _⟩, ⟨_, (hb.put x _).put y _, fun j hj => ?_⟩, h.lt⟩
  unfold swp2
  by_cases h2 : j = y
  · subst h2
    rw [if_neg (fun e => hxy e.symm), if_pos rfl, Array.getElem?_setIfInBounds_self]
    simp [hys]
  · rw [Array.getElem?_setIfInBounds_ne (fun e => h2 e.symm)]
    by_cases h1 : j = x
    · subst h1
      rw [if_pos rfl, Array.getElem?_setIfInBounds_self]
      simp [hxs]
    · rw [if_neg h1, if_neg h2, Array.getElem?_setIfInBounds_ne (fun e => h1 e.symm)]
      exact hc j hj
end
/-- What a function value says of two ints: in whatever world that differs in the row alone. -/
structure Cmp (w0 : World) (bk : Nat) (g : FuncId) (bd cb : Array Value) (V : Int → Prop) (c : Int → Int → Int) : Prop where
  enters : ∀ args w, (callFunc g args).run Try.prog w = .ok (.enter g args) w
  says : ∀ W, Kp (Only bk) w0 W → ∀ x y, V x → V y → Calls Try.prog g (bd ++ #[.int .i64 x, .int .i64 y] ++ cb) W fun e w' => e = .returned (.int .i64 (c x y)) ∧ Kp No W w'
set_option maxRecDepth 100000 in
set_option maxHeartbeats 4000000 in
theorem insertion_any {w0 w : World} {bk n cap a b : Nat} {g : FuncId} {bd cb : Array Value} {V : Int → Prop} {c : Int → Int → Int} {R : Int → Int → Prop} {F : Nat → Int} (hR : Ord R) (hC : Cmp w0 bk g bd cb V c) (h : RowF w0 w bk n F) (hV : ∀ k, k < n → V (F k)) (hS : Says c R a b F)
    (hab : a ≤ b) (hbn : b ≤ n) (hn : n ≤ 1000000) :
    Calls Try.prog 59 #[.slice (some ⟨bk, 0, none⟩) n cap, .int .i64 (a : Int), .int .i64 (b : Int), .func (.func g) bd cb] w fun e w' => e = .returned (.tuple #[]) ∧ ∃ F', RowF w0 w' bk n F' ∧ Pm a b F F' ∧ Srt R a b F' := by
  have HR := hid hR
  have HC := hid hC
  have H0 := hid h
  have HV := hid hV
  have HS := hid hS
  have hwa := wrapI (x := (a : Int) + 1) (by unfold I64; omega)
  have mixed : Try.prog.follows .mixedOrders = true := by kernel_rfl
  clear hR hC h hV hS
  go_enter Try.func59, Try.ntmps59
  go_wp2_with fail
  go_loopw [8] (fun u wr => ∃ (i : Nat) (G : Nat → Int), u = .int .i64 (i : Int) ∧ a < i ∧ (i ≤ b ∨ (i = a + 1 ∧ G = F)) ∧ Hid (RowF w0 wr bk n G) ∧ Hid (Pm a i F G) ∧ Hid (Srt R a i G)) (fun u _ => b - (vNum u).toNat)
  case atStart => exact ⟨a + 1, F, by go_num, by omega, .inr ⟨rfl, rfl⟩, H0, hid .rfl', hid fun i j h1 h2 h3 => by omega⟩
  case round =>
    obtain ⟨i, G, rfl, hai, hib, HG, HPM, HSR⟩ := hrel
    have hwi := wrapI (x := (i : Int) + 1) (by unfold I64; omega)
    by_cases hlt : i < b
    · have glt : (i : Int) < (b : Int) := by omega
      go_wp2_with fail
      go_loopw [9] (fun u wr2 => ∃ (j : Nat) (G2 : Nat → Int), u = .int .i64 (j : Int) ∧ j ≤ i ∧ Hid (RowF w0 wr2 bk n G2) ∧ Hid (InsSt c R a i j F G2)) (fun u _ => (vNum u).toNat)
      case atStart => exact ⟨i, G, rfl, Nat.le_refl _, HG, hid (InsSt.start HPM.out HSR.out (by omega))⟩
      case round =>
        obtain ⟨j, G2, rfl, hji, HG2, HI⟩ := hrel
        clear HG
        have haj := HI.out.ins.ja
        by_cases hja : a < j
        · have gja : (a : Int) < (j : Int) := by omega
          obtain ⟨jp, hjp⟩ : ∃ q, q + 1 = j := ⟨j - 1, by omega⟩
          have hj1 : (j : Int) - 1 = (jp : Int) := by omega
          have hwj := wrapI (x := (jp : Int)) (by unfold I64; omega)
          have hjn : (j : Int) < (n : Int) := by omega
          have hjpn : (jp : Int) < (n : Int) := by omega
          have HSY := hid (HI.out.says HS.out hlt hja)
          have HVX := hid (show V (G2 j) ∧ V (G2 jp) from by
            have hp := HI.out.pm.all (P := V) (fun k h1 h2 => HV.out k (by omega))
            exact ⟨hp j (by omega) (by omega), hp jp (by omega) (by omega)⟩)
          have HIS := hid (fun hr => HI.out.step hja hr)
          have HID := hid (fun hr => HI.out.ins.done HR.out hr)
          have e1 : j - 1 = jp := by omega
          rw [e1] at HSY HIS HID
          obtain ⟨x, hx⟩ : ∃ x, G2 j = x := ⟨_, rfl⟩
          obtain ⟨y, hy⟩ : ∃ y, G2 jp = y := ⟨_, rfl⟩
          have HX := hid hx
          have HY := hid hy
          rw [hx, hy] at HSY HVX HIS HID
          clear hx hy e1
          have HRD := hid (fun (W : World) (k : RowF w0 W bk n G2) => show W.cell? ⟨bk, j, none⟩ = some (.int .i64 x) ∧ W.cell? ⟨bk, jp, none⟩ = some (.int .i64 y) from
            ⟨by rw [k.cell (by omega), HX.out], by rw [k.cell (by omega), HY.out]⟩)
          go_upto_region 4 with fail
          refine wp_region_any (by kernel_rfl) ?_
          show wpAny _ _ _ _ _ _ _ (World.drew wr)
          have Fd1 := hid (HG2.out.kp0 (Kp.refl No wr).drew)
          generalize World.drew wr = Wd1 at Fd1 ⊢
          have HS5 : (fun w' : World => w'.cell? ⟨bk, j, none⟩ = some (.int .i64 x) ∧ w'.cell? ⟨bk, jp, none⟩ = some (.int .i64 y)) Wd1 := HRD.out _ Fd1.out
          (try simp only at HS5)
          refine wpAny_of_held (S := (fun w' : World => w'.cell? ⟨bk, j, none⟩ = some (.int .i64 x) ∧ w'.cell? ⟨bk, jp, none⟩ = some (.int .i64 y))) _ _ _ _ ?_
          simp only [List.size_toArray, List.length_cons, List.length_nil, Nat.reduceAdd, Array.replicate_succ, Array.replicate_zero, List.push_toArray, List.nil_append, List.cons_append]
          refine wpAnyH_take (i := 0) (v := ?_) rfl (by kernel_rfl) (by kernel_rfl) (by kernel_rfl) (fun _ _ _ h => h) (Or.inl ⟨by rfl, ?_⟩) HS5 ?_
          rotate_left
          · (intro w6 hS6; obtain ⟨z0, z1⟩ := hS6; (try go_simp); (try with_reducible rfl))
          simp only [List.getElem_toArray, List.getElem_cons_zero, Act.put, List.setIfInBounds_toArray, List.set_cons_zero, List.set_cons_succ]
          refine wpAnyH_take (i := 1) (v := ?_) rfl (by kernel_rfl) (by kernel_rfl) (by kernel_rfl) (fun _ _ _ h => h) (Or.inl ⟨by rfl, ?_⟩) HS5 ?_
          rotate_left
          · (intro w6 hS6; obtain ⟨z0, z1⟩ := hS6; (try go_simp); (try with_reducible rfl))
          simp only [List.getElem_toArray, List.getElem_cons_zero, List.getElem_cons_succ, Act.put, List.setIfInBounds_toArray, List.set_cons_zero, List.set_cons_succ]
          refine wpAnyH_take (i := 2) (v := ?_) rfl (by kernel_rfl) (by kernel_rfl) (by kernel_rfl) (fun _ _ _ h => h) (Or.inl ⟨by rfl, ?_⟩) HS5 ?_
          rotate_left
          · (intro w6 hS6; obtain ⟨z0, z1⟩ := hS6; (try go_simp); (try with_reducible rfl))
          simp only [List.getElem_toArray, List.getElem_cons_zero, List.getElem_cons_succ, Act.put, List.setIfInBounds_toArray, List.set_cons_zero, List.set_cons_succ]
          refine wpAnyH_take (i := 3) (v := ?_) rfl (by kernel_rfl) (by kernel_rfl) (by kernel_rfl) (fun _ _ _ h => h) (Or.inl ⟨by rfl, ?_⟩) HS5 ?_
          rotate_left
          · (intro w6 hS6; obtain ⟨z0, z1⟩ := hS6; (try go_simp); (try with_reducible rfl))
          simp only [List.getElem_toArray, List.getElem_cons_zero, List.getElem_cons_succ, Act.put, List.setIfInBounds_toArray, List.set_cons_zero, List.set_cons_succ]
          refine wpAnyH_take (i := 4) (v := ?_) rfl (by kernel_rfl) (by kernel_rfl) (by kernel_rfl) (fun _ _ _ h => h) (Or.inl ⟨by rfl, ?_⟩) HS5 ?_
          rotate_left
          · (intro w6 hS6; obtain ⟨z0, z1⟩ := hS6; (try go_simp); (try with_reducible rfl))
          simp only [List.getElem_toArray, List.getElem_cons_zero, List.getElem_cons_succ, Act.put, List.setIfInBounds_toArray, List.set_cons_zero, List.set_cons_succ]
          refine wpAnyH_take (i := 5) (v := ?_) rfl (by kernel_rfl) (by kernel_rfl) (by kernel_rfl) (fun _ _ _ h => h) (Or.inl ⟨by rfl, ?_⟩) HS5 ?_
          rotate_left
          · (intro w6 hS6; obtain ⟨z0, z1⟩ := hS6; (try go_simp); (try with_reducible rfl))
          simp only [List.getElem_toArray, List.getElem_cons_zero, List.getElem_cons_succ, Act.put, List.setIfInBounds_toArray, List.set_cons_zero, List.set_cons_succ]
          refine wpAnyH_take (i := 6) (v := ?_) rfl (by kernel_rfl) (by kernel_rfl) (by kernel_rfl) (fun _ _ _ h => h) (Or.inl ⟨by rfl, ?_⟩) HS5 ?_
          rotate_left
          · (intro w6 hS6; obtain ⟨z0, z1⟩ := hS6; (try go_simp); (try with_reducible rfl))
          simp only [List.getElem_toArray, List.getElem_cons_zero, List.getElem_cons_succ, Act.put, List.setIfInBounds_toArray, List.set_cons_zero, List.set_cons_succ]
          refine wpAnyH_take (i := 7) (v := ?_) rfl (by kernel_rfl) (by kernel_rfl) (by kernel_rfl) (fun _ _ _ h => h) (Or.inl ⟨by rfl, ?_⟩) HS5 ?_
          rotate_left
          · (intro w6 hS6; obtain ⟨z0, z1⟩ := hS6; (try go_simp); (try with_reducible rfl))
          simp only [List.getElem_toArray, List.getElem_cons_zero, List.getElem_cons_succ, Act.put, List.setIfInBounds_toArray, List.set_cons_zero, List.set_cons_succ]
          refine wpAnyH_take (i := 8) (v := ?_) rfl (by kernel_rfl) (by kernel_rfl) (by kernel_rfl) (fun _ _ _ h => h) (Or.inl ⟨by rfl, ?_⟩) HS5 ?_
          rotate_left
          · (intro w6 hS6; obtain ⟨z0, z1⟩ := hS6; (try go_simp); (try with_reducible rfl))
          simp only [List.getElem_toArray, List.getElem_cons_zero, List.getElem_cons_succ, Act.put, List.setIfInBounds_toArray, List.set_cons_zero, List.set_cons_succ]
          refine wpAnyH_take (i := 9) (v := ?_) rfl (by kernel_rfl) (by kernel_rfl) (by kernel_rfl) (fun _ _ _ h => h) (Or.inl ⟨by rfl, ?_⟩) HS5 ?_
          rotate_left
          · (intro w6 hS6; obtain ⟨z0, z1⟩ := hS6; (try go_simp); (try with_reducible rfl))
          simp only [List.getElem_toArray, List.getElem_cons_zero, List.getElem_cons_succ, Act.put, List.setIfInBounds_toArray, List.set_cons_zero, List.set_cons_succ]
          refine wpAnyH_take (i := 10) (v := ?_) rfl (by kernel_rfl) (by kernel_rfl) (by kernel_rfl) (fun _ _ _ h => h) (Or.inl ⟨by rfl, ?_⟩) HS5 ?_
          rotate_left
          · (intro w6 hS6; obtain ⟨z0, z1⟩ := hS6; (try go_simp); (try with_reducible rfl))
          simp only [List.getElem_toArray, List.getElem_cons_zero, List.getElem_cons_succ, Act.put, List.setIfInBounds_toArray, List.set_cons_zero, List.set_cons_succ]
          refine wpAnyH_take (i := 11) (v := ?_) rfl (by kernel_rfl) (by kernel_rfl) (by kernel_rfl) (fun _ _ _ h => h) (Or.inl ⟨by rfl, ?_⟩) HS5 ?_
          rotate_left
          · (intro w6 hS6; obtain ⟨z0, z1⟩ := hS6; (try go_simp); (try with_reducible rfl))
          simp only [List.getElem_toArray, List.getElem_cons_zero, List.getElem_cons_succ, Act.put, List.setIfInBounds_toArray, List.set_cons_zero, List.set_cons_succ]
          refine wpAnyH_take (i := 12) (v := ?_) rfl (by kernel_rfl) (by kernel_rfl) (by kernel_rfl) (fun _ _ _ h => h) (Or.inl ⟨by rfl, ?_⟩) HS5 ?_
          rotate_left
          · (intro w6 hS6; obtain ⟨z0, z1⟩ := hS6; (try go_simp); (try with_reducible rfl))
          simp only [List.getElem_toArray, List.getElem_cons_zero, List.getElem_cons_succ, Act.put, List.setIfInBounds_toArray, List.set_cons_zero, List.set_cons_succ]
          refine wpAnyH_take (i := 13) (v := ?_) rfl (by kernel_rfl) (by kernel_rfl) (by kernel_rfl) (fun _ _ _ h => h) (Or.inl ⟨by rfl, ?_⟩) HS5 ?_
          rotate_left
          · (intro w6 hS6; obtain ⟨z0, z1⟩ := hS6; (try go_simp); (try with_reducible rfl))
          simp only [List.getElem_toArray, List.getElem_cons_zero, List.getElem_cons_succ, Act.put, List.setIfInBounds_toArray, List.set_cons_zero, List.set_cons_succ]
          clear HS5
          refine wpAnyH_ready (rs := [14]) (by kernel_rfl) (by simp) (AllReadyH.cons rfl (fun K hK => ?_) AllReadyH.nil)
          refine step_callv (by rfl) (by first | (go_simp; exact HC.out.enters _ _) | exact HC.out.enters _ _) (HC.out.says _ Fd1.out.kp x y HVX.out.1 HVX.out.2) ?_
          intro wn2 hk
          have Fn2 := hid (Fd1.out.kp0 hk)
          clear hk Fd1
          refine hK.out _ _ (HRD.out _ Fn2.out) (fun hS => ?_)
          clear hK
          simp only [List.setIfInBounds_toArray, List.set_cons_zero, List.set_cons_succ, Act.put]
          refine wpAnyH_take (i := 15) (v := ?_) rfl (by kernel_rfl) (by kernel_rfl) (by kernel_rfl) (fun _ _ _ h => h) (Or.inl ⟨by rfl, ?_⟩) hS ?_
          rotate_left
          · (intro w6 hS6; obtain ⟨z0, z1⟩ := hS6; (try go_simp); (try with_reducible rfl))
          simp only [List.getElem_toArray, List.getElem_cons_zero, List.getElem_cons_succ, Act.put, List.setIfInBounds_toArray, List.set_cons_zero, List.set_cons_succ]
          refine wpAnyH_take (i := 16) (v := ?_) rfl (by kernel_rfl) (by kernel_rfl) (by kernel_rfl) (fun _ _ _ h => h) (Or.inl ⟨by rfl, ?_⟩) hS ?_
          rotate_left
          · (intro w6 hS6; obtain ⟨z0, z1⟩ := hS6; (try go_simp); (try with_reducible rfl))
          simp only [List.getElem_toArray, List.getElem_cons_zero, List.getElem_cons_succ, Act.put, List.setIfInBounds_toArray, List.set_cons_zero, List.set_cons_succ]
          clear hS
          refine wpAnyH_done (by kernel_rfl) ?_ _
          obtain ⟨cj, cjp⟩ := HRD.out _ Fn2.out
          have fj := Fn2.out.frozen j
          have fjp := Fn2.out.frozen jp
          rcases HSY.out with ⟨hc, hr⟩ | ⟨hc, hr⟩
          · have hd : decide (c x y < 0) = true := decide_eq_true hc
            simp only [hd]
            have c2 : (wn2.setCell ⟨bk, j, none⟩ (.int .i64 y)).cell? ⟨bk, jp, none⟩ = some (.int .i64 y) := by
              rw [World.cell?_setCell_other _ _ _ _ (by intro e; simp only [Addr.mk.injEq] at e; omega)]
              exact cjp
            have HSW := hid (Fn2.out.swap (x := j) (y := jp) (by omega) (by omega) (by omega))
            rw [HX.out, HY.out] at HSW
            have HNX := hid (HIS.out hr)
            clear hd hc hr
            go_wp2_with fail
            go_big_region_o
            go_wp2_with fail
            go_roundw
            case rel => exact ⟨jp, _, by go_num, by omega, hid (HSW.out.kp0 (Kp.refl No _).drew), HNX⟩
            case measure => simp [vNum]; omega
          · have hd : decide (c x y < 0) = false := decide_eq_false hc
            simp only [hd]
            have HDN := hid (HID.out (.inr hr))
            clear hd hc hr
            go_wp2_with fail
            go_roundw
            case rel => exact ⟨i + 1, G2, by go_num, by omega, .inl (by omega), Fn2, hid HI.out.pm, HDN⟩
            case measure => simp [vNum]; omega
        · have hja2 : j = a := by omega
          subst hja2
          have gja : ¬ (j : Int) < (j : Int) := by omega
          have HDN := hid (HI.out.ins.done HR.out (.inl rfl))
          go_wp2_with fail
          go_big_region_o
          go_wp2_with fail
          go_roundw
          case rel => exact ⟨i + 1, G2, by go_num, by omega, .inl (by omega), hid (HG2.out.kp0 (Kp.refl No _).drew), hid HI.out.pm, HDN⟩
          case measure => simp [vNum]; omega
    · have gnl : ¬ (i : Int) < (b : Int) := by omega
      go_wp2_with fail
      go_end0
      rcases hib with hib | ⟨hib, rfl⟩
      · obtain rfl : i = b := by omega
        exact ⟨rfl, G, HG.out, HPM.out, HSR.out⟩
      · exact ⟨rfl, G, HG.out, .rfl', fun p q h1 h2 h3 => by omega⟩
end Go.Proofs.Ytoeeighfjoplhaa
