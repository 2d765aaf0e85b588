/-
  Contracts of the document's Under, Tall: functions that call themselves.
-/
import Derived.Test.YtggmdgdgljlddaaNRefC
namespace Go.Proofs.Ytggmdgdgljlddaa
open Go.RowKit

section
variable {T : Tre} {D : Int → Nat} {x : Int}
theorem und_fst (T : Tre) : ∀ n x d e, (und T n x d).map (·.1) = (und T n x e).map (·.1) := by
  intro n
  induction n with
  | zero => intro x d e; rfl
  | succ n ih =>
    intro x d e
    unfold und
    rw [List.map_cons, List.map_cons, List.map_flatMap, List.map_flatMap]
    exact congrArg (List.cons x) (fm_congr _ fun y _ => ih y _ _)
theorem under_cons (W : WT T D) {q : Int × List Int} (h : T x = some q) : under T x = x :: (kidsT T x).flatMap (under T) := by
  unfold under places
  simp only [h, Option.isSome_some, if_true]
  rw [Und_eq W h, List.map_cons, List.map_flatMap, kids_some h]
  refine congrArg (List.cons x) (fm_congr _ fun y hy => ?_)
  obtain ⟨ks, hk, _⟩ := W.kid_up h hy
  simp only [hk, Option.isSome_some, if_true]
  exact und_fst T 17 y 1 0
theorem fm_take_len {f : Int → List Int} : ∀ (l : List Int) (k : Nat), ((l.take k).flatMap f).length ≤ (l.flatMap f).length
  | [], k => by simp
  | y :: l, 0 => by simp
  | y :: l, k + 1 => by
    rw [List.take_succ_cons, List.flatMap_cons, List.flatMap_cons, List.length_append, List.length_append]
    have := fm_take_len (f := f) l k
    omega
end
section
variable {P : Program} {α : Type} {n bytes : Nat} {z : Value} {f : α → Nat → Value} {t e : TypeId} {base : Nat} {xs ys : List α} {d : α} {w : World}
/-- append of a row that is not nil onto what is owned; whose block it is. -/
theorem wp_appB (u : Us P t e n bytes z) (hf : ∀ x i, (f x i).oneCell' = true) {ops : Array Oper} {rest : List Oper} {o : Oper} {a : Act} {Q : Exit → Act → World → Prop} (hw : Region.wanted o (yielded ops a.tmps) = true) (s x : Operand)
    (ho : o.op = .call { callee := .builtin .append, args := #[s, x], argTypes := #[t, t] }) {Pb : Nat → Prop} (hown : Ow w base e n f (a.eval s) xs) (hx : Rw n f d w Pb (a.eval x) ys) (h0 : 0 < ys.length)
    (hle : (xs.length + ys.length) * bytes ≤ 140737488355328) (h63 : xs.length + ys.length ≤ maxLen) (hbase : base ≤ w.heap.size)
    (h : ∀ v' w', Ow w' base e n f v' (xs ++ ys) → w.grownBy w' (a.eval s).ownBlock → (v'.ownBlock = (a.eval s).ownBlock ∨ v'.ownBlock = some w.heap.size) → wpList P ops Q rest (a.put o.dst v') w') : wpList P ops Q (o :: rest) a w := by
  refine BigFrame.wpList_want hw fun K hK => ?_
  obtain ⟨i, hi, hz, hs, hb⟩ := info_parts u.info
  obtain ⟨A, c, hev, hc, hm, hr⟩ := hx
  obtain ⟨b, o', rfl, _, _, hcell0⟩ := hr h0
  have hcell : ∀ j q, (flat n f ys)[j]? = some q → w.cell? ((⟨b, o', none⟩ : Addr).add j) = some q := by
    intro j q hq
    obtain ⟨k, i, hk, hi, rfl, rfl⟩ := flat_get (d := d) ys hq
    have ha : (⟨b, o', none⟩ : Addr).add (k * n + i) = ⟨b, o' + (k * n + i), none⟩ := by unfold Addr.add; split <;> simp_all
    rw [ha, hcell0 k i hk hi]
  obtain ⟨v', w', hrun, h2, h3, _, h5⟩ := run_append_own_at (P := P) w base t o.type e i z n bytes u.un hi hz hs hb u.zero u.pos (a.eval s) xs.length _ hown ⟨b, o', none⟩ ys.length c (flat n f ys) (flat_len ys) hcell
    (flat_one hf ys) h63 hle hbase
  unfold Oper.wp execOp
  simp only [ho, hev, resolve, invoke, builtin, Sem.run_bind, Sem.run_pure, Result.andThen_ok, List.map_toArray, List.map_cons, List.map_nil, hrun]
  refine hK _ _ (h v' w' ?_ h3 h5)
  unfold Ow
  rw [List.length_append, flat_app]
  exact h2
end
section
variable {T : Tre} {D : Int → Nat} {w w' : World} {S P : Nat → Prop} {r : Nat} {v : Value} {L : List (Int × Int)} {x : Int}
set_option maxHeartbeats 2000000 in
set_option maxRecDepth 100000 in
theorem runder_rec (hl : LT L T) (W : WT T D) : ∀ (n : Nat) (x : Int) (w : World), I64 x → 17 ≤ D x + n ∨ T x = none → RT w P r v L → Calls Try.prog 12 #[.pointer (some ⟨r, 0, none⟩), .int .i64 x] w fun e w' => ∃ u, e = .returned u ∧ Ow w' w.heap.size 3 1 zf u (under T x) ∧ Kp No w w' := by
  intro n
  induction n with
  | zero =>
    intro x w hx hd h
    cases hT : T x with
    | some q =>
      have := W.d16 hT
      rcases hd with hd | hd
      · omega
      · rw [hT] at hd
        cases hd
    | none =>
      have HW := hid W
      have HL := hid hl
      have HR := hid h
      rw [under_none hT]
      clear W hl h
      go_enter Try.func12, Try.ntmps12
      go_wp2_with (first
        | (go_at_call 14
           refine (rhas_any HR.out HL.out HW.out x).mono ?_
           rintro e w2 ⟨rfl, rfl⟩
           rw [hT]
           simp only [Option.isSome_none]))
      go_ret
      exact ⟨_, rfl, Ow.nil _ _ _ _ _, Kp.refl _ _⟩
  | succ n ih =>
    intro x w hx hd h
    have HW := hid W
    have HL := hid hl
    have HR := hid h
    have HIH := hid ih
    cases hT : T x with
    | none =>
      rw [under_none hT]
      clear W hl h ih
      go_enter Try.func12, Try.ntmps12
      go_wp2_with (first
        | (go_at_call 14
           refine (rhas_any HR.out HL.out HW.out x).mono ?_
           rintro e w2 ⟨rfl, rfl⟩
           rw [hT]
           simp only [Option.isSome_none]))
      go_ret
      exact ⟨_, rfl, Ow.nil _ _ _ _ _, Kp.refl _ _⟩
    | some q =>
      have hul := under_len W x
      have hd2 : 17 ≤ D x + (n + 1) := hd.resolve_right fun e => by rw [hT] at e; cases e
      have HK := hid (fun y (hy : y ∈ kidsT T x) => show I64 y ∧ (17 ≤ D y + n ∨ T y = none) by
        have h1 := kid_pos W hy
        rw [kids_some hT] at hy
        obtain ⟨ks, hk, _, hdy⟩ := W.kid_up hT hy
        exact ⟨by unfold I64; omega, .inl (by omega)⟩)
      have HU := hid (under_cons W hT)
      rw [HU.out] at hul ⊢
      rw [List.length_cons] at hul
      have hkl := kids_len W x
      obtain ⟨ks, hks⟩ : ∃ ks, kidsT T x = ks := ⟨_, rfl⟩
      rw [hks] at hul hkl HK ⊢
      have HKS := hid hks
      obtain ⟨nk, hnk⟩ : ∃ nk, ks.length = nk := ⟨_, rfl⟩
      have HNK := hid hnk
      rw [hnk] at hkl
      have KA := hid ((Kp.refl No w).alloc (.cells #[.int .i64 x] 3))
      have OX := hid (show Ow (w.alloc (.cells #[.int .i64 x] 3)) w.heap.size 3 1 zf (.slice (some ⟨w.heap.size, 0, none⟩) 1 1) [x] from
        ⟨rfl, .inr ⟨w.heap.size, 1, #[.int .i64 x], rfl, Nat.le_refl _, heap_alloc_new w _, Nat.le_refl _, by simp [maxLen], rfl, rfl⟩⟩)
      clear W hl h ih HU hks hnk hd hd2
      go_enter Try.func12, Try.ntmps12
      go_wp2_with (first
        | (go_at_call 14
           refine (rhas_any HR.out HL.out HW.out x).mono ?_
           rintro e w2 ⟨rfl, rfl⟩
           rw [hT]
           simp only [Option.isSome_some])
        | (go_at_call 20
           refine (rkids_any (HR.out.kp0 KA.out) HL.out HW.out x).mono ?_
           rintro e w3 ⟨v3, rfl, o3, k3⟩
           rw [HKS.out] at o3
           obtain ⟨A3, c3, rfl⟩ := o3.formN HNK.out
           have O3 := hid o3
           have K3 := hid (KA.out.trans k3)
           have OX3 := hid (OX.out.kp0 k3)
           clear o3 k3))
      have hx3 := hid (show ∀ b, (Value.slice A3 nk c3).ownBlock = some b → (Value.slice (some ⟨w2.heap.size, 0, none⟩) 1 1).ownBlock ≠ some b from fun b hb e => by
        have := (O3.out.blk hb).1
        rw [World.size_alloc] at this
        have e : w2.heap.size = b := Option.some.inj e
        omega)
      have O3L := hid (O3.out.lower (base' := w2.heap.size) (by rw [World.size_alloc]; omega))
      go_loopw [5, 7] (fun u i wr => ∃ k : Nat, k ≤ nk ∧ i = .int .i64 (k : Int) ∧ Hid (Ow wr w2.heap.size 3 1 zf u (x :: (ks.take k).flatMap (under T))) ∧ Hid (Ow wr w2.heap.size 3 1 zf (.slice A3 nk c3) ks) ∧ Hid (∀ b, (Value.slice A3 nk c3).ownBlock = some b → u.ownBlock ≠ some b) ∧ Hid (Kp No w2 wr)) (fun _ i _ => nk - (intOf i).toNat)
      case atStart => exact ⟨0, Nat.zero_le _, rfl, OX3, O3L, hx3, K3⟩
      case round =>
        obtain ⟨k, hk, rfl, HO, HKR, HNE, KW⟩ := hrel
        by_cases hkn : k < nk
        · have hkl2 : k < ks.length := by rw [HNK.out]; exact hkn
          have g1 : (k : Int) < (nk : Int) := by omega
          have hwk := wrapI (x := (k : Int) + 1) (by unfold I64; omega)
          obtain ⟨b, c', he, hb1, hb2, hc1, _⟩ := HKR.out.form2 (by omega)
          injection he with e1 e2 e3
          subst e1 e3
          clear e2
          have cy := HKR.out.cellAt (d := (0 : Int)) (j := k) (i := 0) hkl2 (by omega)
          simp only [zf, Nat.mul_one, Nat.add_zero] at cy
          have HS := hid (take_s ks hkl2 0)
          have HYM := hid (show ks.getD k 0 ∈ ks by simp [List.getD, hkl2])
          obtain ⟨y, hy⟩ : ∃ y, ks.getD k 0 = y := ⟨_, rfl⟩
          rw [hy] at cy HS HYM
          obtain ⟨hyi, hyd⟩ := HK.out y HYM.out
          have hall := fm_take_len (f := under T) ks (k + 1)
          rw [HS.out, List.flatMap_append, List.length_append] at hall
          simp only [List.flatMap_cons, List.flatMap_nil, List.append_nil] at hall
          obtain ⟨la, hla⟩ : ∃ la, ((ks.take k).flatMap (under T)).length = la := ⟨_, rfl⟩
          obtain ⟨lu, hlu⟩ : ∃ lu, (under T y).length = lu := ⟨_, rfl⟩
          rw [hla, hlu] at hall
          have HLA := hid hla
          have HLU := hid hlu
          have HT2 := hid (show (x :: (ks.take (k + 1)).flatMap (under T)) = (x :: (ks.take k).flatMap (under T)) ++ under T y by
            rw [HS.out, List.flatMap_append]
            simp)
          have HPOS := hid (show 0 < (under T y).length by
            have hm := HYM.out
            rw [← HKS.out] at hm
            rw [kids_some hT] at hm
            obtain ⟨k2, hk2, _⟩ := HW.out.kid_up hT hm
            obtain ⟨r2, e⟩ := under_head HW.out hk2
            rw [e]
            simp)
          clear hy hla hlu
          go_wp2_with (first
            | (go_at_call 12
               refine (HIH.out y wr hyi hyd (HR.out.kp0 KW.out)).mono ?_
               rintro e w4 ⟨v4, rfl, o4, k4⟩
               have O4 := hid (Ow.rw (d := (0 : Int)) o4)
               have A4 := hid (HO.out.kp0 k4)
               have KR4 := hid (HKR.out.kp0 k4)
               have K4 := hid (KW.out.trans k4)
               clear o4 k4)
            | (at_builtin
               refine wp_appB usI zf_one rfl (.tmp 23) (.tmp 29) rfl (base := w2.heap.size) (xs := x :: (ks.take k).flatMap (under T)) (ys := under T y) (by exact A4.out) (by exact O4.out) HPOS.out (by rw [List.length_cons, HLA.out, HLU.out]; omega) (by rw [List.length_cons, HLA.out, HLU.out]; simp only [maxLen]; omega) (by exact K4.out.size) ?_
               intro v5 w5 o5 k5 p5
               have kA := (Kp.refl (fun i => u5.ownBlock = some i) _).grown k5 fun k hk => .inl hk
               have O5 := hid o5
               have KR5 := hid (KR4.out.kpx kA fun i hi e => HNE.out i hi e)
               have K5 := hid (K4.out.step kA fun i hi e => by have := (A4.out.blk e).1; omega)
               have NE5 := hid (show ∀ i, (Value.slice (some ⟨b, 0, none⟩) nk c3).ownBlock = some i → v5.ownBlock ≠ some i from fun i hi e => by
                 rcases p5 with p | p
                 · exact HNE.out i hi (p.symm.trans e)
                 · rw [p] at e
                   have e := Option.some.inj e
                   have := (KR4.out.blk hi).2.1
                   omega)
               clear o5 k5 p5 kA))
          go_roundw
          case rel => exact ⟨k + 1, by omega, by go_num, hid (by rw [HT2.out]; exact O5.out), KR5, NE5, K5⟩
          case measure => simp [intOf]; omega
        · have hkk : k = nk := by omega
          subst hkk
          have hng : ¬ (k : Int) < (k : Int) := by omega
          go_wp2_with fail
          go_ret
          have h1 := HO.out
          rw [List.take_of_length_le (by rw [HNK.out]; omega)] at h1
          exact ⟨_, rfl, h1, KW.out⟩
end
end Go.Proofs.Ytggmdgdgljlddaa
