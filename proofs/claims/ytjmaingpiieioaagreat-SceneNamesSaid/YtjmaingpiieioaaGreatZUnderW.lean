/-
  Contract of under: what is below the first group is handed on, one after the other, to whatever closure.
-/
import Derived.Test.YtjmaingpiieioaaGreatZUnder
import Derived.Deep.DeepCutAuto
import Derived.Deep.CutRange
namespace Go.Proofs.YtjmaingpiieioaaGreat
open Go.RowKit Go.Shelf

theorem kidsPost_kp {gs : List GS} {w w1 : World} {e : Ending} {w' : World} (k : Kp No w w1) (h : KidsPost gs w1 e w') : ∃ m f cnt ys, e = .returned (.map (some m)) ∧ ys.Perm gs ∧ ys.Pairwise (fun a b => b.id ≤ a.id) ∧ Km w' w.heap.size m f (below ys) cnt ∧ Kp No w w' := by
  obtain ⟨m, f, cnt, ys, h1, h2, h3, h4, _, h6⟩ := h
  exact ⟨m, f, cnt, ys, h1, h2, h3, h4.lower k.size, k.trans h6⟩
set_option maxHeartbeats 4000000 in
set_option maxRecDepth 100000 in
theorem under_any {w : World} {P : Nat → Prop} {v : Value} {gs : List GS} {gf : Nat} {lb : Array Value} {J : (Nat → Prop) → List Pl → World → Prop} (h : Rw 6 gc gs0 w P v gs) (hl : gs.length ≤ 1000000) (hp : ∀ g ∈ gs, I64 g.id ∧ I64 g.par) (hnd : (gs.map (·.id)).Nodup)
    (hJ : AbO J) (h0 : J No [] w) (hs : See gf lb J (visits gs)) (eg : ∀ args w, (callFunc gf args).run Tryz.prog w = .ok (.enter gf args) w) :
    Calls Tryz.prog 34 #[v, .func (.func gf) #[] lb] w fun e w' => (∃ r, e = .returned r) ∧ ∃ O, J O (visits gs) w' ∧ ∀ i, O i → w.heap.size ≤ i ∧ i < w'.heap.size := by
  have HJ0 := hid h0
  have HS := hid hs
  have HJ := hid hJ
  cases gs with
  | nil =>
    obtain ⟨A, c, rfl, _⟩ := h
    clear h0 hs hJ
    go_enter Tryz.func34, Tryz.ntmps34
    go_wp2
    refine bodyPost_ret (results_none rfl _ _ _) rfl ?_
    exact ⟨⟨_, rfl⟩, No, HJ0.out, fun i e => e.elim⟩
  | cons g0 tl =>
    have HR := hid h
    obtain ⟨A, c, rfl, hc, hm, hx⟩ := h
    obtain ⟨b, o, rfl, hb, _, hcell⟩ := hx (by simp)
    have HP := hid hp
    have HND := hid hnd
    obtain ⟨n, hn⟩ : ∃ n, tl.length = n := ⟨_, rfl⟩
    have HN := hid hn
    have hl2 : n ≤ 1000000 := by rw [← hn]; simp at hl; omega
    rw [List.length_cons, hn] at hc HR ⊢
    unfold maxLen at hm
    have c0 := hcell 0 0 (by simp) (by omega)
    have c1 := hcell 0 1 (by simp) (by omega)
    have c2 := hcell 0 2 (by simp) (by omega)
    have c3 := hcell 0 3 (by simp) (by omega)
    have c4 := hcell 0 4 (by simp) (by omega)
    have c5 := hcell 0 5 (by simp) (by omega)
    simp only [gc, ge, List.getD_cons_zero, List.getD_cons_succ, Nat.add_zero, Nat.zero_mul, Nat.zero_add] at c0 c1 c2 c3 c4 c5
    have HC := hid (And.intro c0 (And.intro c1 (And.intro c2 (And.intro c3 (And.intro c4 c5)))))
    have hne : ((n + 1 : Nat) : Int) ≠ 0 := by omega
    have hb0 : (((n + 1 : Nat) : Int) == 0) = false := by rw [beq_eq_false_iff_ne]; exact hne
    have hd1 : decide ((1 : Int) ≤ ((n + 1 : Nat) : Int)) = true := by rw [decide_eq_true_eq]; omega
    clear h0 hs hJ hp hnd hx hcell hn hl c0 c1 c2 c3 c4 c5
    go_enter Tryz.func34, Tryz.ntmps34
    go_upto_region 1 with fail
    go_cut [4] (fun s wx => ∃ m f cnt ys, s = .map (some m) ∧ Hid (ys.Perm tl ∧ ys.Pairwise (fun a b => b.id ≤ a.id) ∧ Km wx w.heap.size m f (below ys) cnt) ∧ Hid (w.heap.size ≤ m) ∧ Hid (Kp No w wx))
    case first =>
      have HPt := hid (fun g (hg : g ∈ tl) => (HP.out g (List.mem_cons_of_mem _ hg)).2)
      by_cases hc1 : c = 1
      · subst hc1
        have ht : tl = [] := List.eq_nil_of_length_eq_zero (by rw [HN.out]; omega)
        subst ht
        have hn0 : n = 0 := HN.out.symm
        subst hn0
        have HK := hid (fun A => kids_any (w := w) (P := Anyb) (v := .slice A 0 0) (gs := []) ⟨A, 0, rfl, Nat.le_refl _, by simp [maxLen], by simp⟩ (by simp) (by simp))
        go_wp2_with (first
          | (go_at_call 61
             refine (HK.out _).mono ?_
             rintro e w2 ⟨m, f, cnt, ys, rfl, p2, s2, km2, m2, k2⟩
             have R2 := hid (And.intro p2 (And.intro s2 km2))
             have K2 := hid k2
             have M2 := hid m2
             clear p2 s2 km2 k2 m2))
        go_meet
        exact ⟨m, f, cnt, ys, rfl, R2, M2, K2⟩
      · have ht := HR.out
        rw [← HN.out] at ht
        have ht := ht.tail
        rw [HN.out] at ht
        have HK := hid (kids_any ht (by rw [HN.out]; omega) HPt.out)
        have hcn : ¬ c = 1 := hc1
        clear ht
        go_wp2_with (first
          | (go_at_call 61
             refine HK.out.mono ?_
             rintro e w2 ⟨m, f, cnt, ys, rfl, p2, s2, km2, m2, k2⟩
             have R2 := hid (And.intro p2 (And.intro s2 km2))
             have K2 := hid k2
             have M2 := hid m2
             clear p2 s2 km2 k2 m2))
        go_meet
        exact ⟨m, f, cnt, ys, rfl, R2, M2, K2⟩
    case rest =>
      obtain ⟨m, f, cnt, ys, rfl, HM2, HLM, HK2⟩ := hcut
      obtain ⟨w2, hw2⟩ : ∃ w2, wc = w2 := ⟨_, rfl⟩
      rw [hw2] at HM2 HK2 ⊢
      clear hw2
      have kc : ∀ i u, w.cell? ⟨b, i, none⟩ = some u → w2.cell? ⟨b, i, none⟩ = some u := fun i u hu => (HK2.out.cell (p := ⟨b, i, none⟩) hb id).trans hu
      obtain ⟨c0, c1, c2, c3, c4, c5⟩ := HC.out
      have c0 := kc _ _ c0
      have c1 := kc _ _ c1
      have c2 := kc _ _ c2
      have c3 := kc _ _ c3
      have c4 := kc _ _ c4
      have c5 := kc _ _ c5
      have hg0 : (0 : Int) < ((n + 1 : Nat) : Int) := by omega
      clear kc
      obtain ⟨H0, hH0⟩ : ∃ H0, w2.heap.size = H0 := ⟨_, rfl⟩
      have HZ := hid (And.intro hH0 HK2.out.size)
      have U3 := hid (show UI w H0 m J [] (fun z => if z ∈ ([] : List Pl).map (·.1.id) then [] else (kidsA tl z).reverse) [(g0, 0)] (.slice (some ⟨w2.heap.size, 0, none⟩) 1 1) (fun i => Kin m f i ∨ i = w2.heap.size) (w2.alloc (.cells #[.int .i64 g0.id, .int .i64 g0.par, .int .i64 g0.wt, .int .i64 g0.pd, .int .i64 g0.qt, .int .i64 g0.us, .int .i64 0] 61)) by
        have k3 := (Kp.refl No w2).alloc (.cells #[.int .i64 g0.id, .int .i64 g0.par, .int .i64 g0.wt, .int .i64 g0.pd, .int .i64 g0.qt, .int .i64 g0.us, .int .i64 0] 61)
        obtain ⟨p2, s2, km2⟩ := HM2.out
        have hF : below ys = (fun z => if z ∈ ([] : List Pl).map (·.1.id) then [] else (kidsA tl z).reverse) := by
          funext z
          simp only [List.map_nil, List.not_mem_nil, if_false]
          have hnd := HND.out
          rw [List.map_cons, List.nodup_cons] at hnd
          exact kids_rev hnd.2 p2 s2
        rw [← hF]
        have hz := HK2.out.size
        refine ⟨HJ.out _ _ _ _ _ HJ0.out (HK2.out.trans k3) (fun i hi => .inr ?_), Ow.single w2 H0 (g0, 0) (by omega), ⟨f, cnt, km2.kp0 k3, fun i hi => ⟨.inl hi, by rw [← hH0]; exact km2.lt hi⟩⟩, fun i hi => .inr (Option.some.inj hi).symm, fun i hi => ?_⟩
        · rw [World.size_alloc]
          rcases hi with hi | rfl
          · have := km2.lt hi
            rcases hi with rfl | ⟨z, a, e, hk⟩
            · exact ⟨HLM.out, by omega⟩
            · have := (km2.row z a e).blk (k := i) (by rw [rsl_own]; exact hk)
              omega
          · omega
        · rw [World.size_alloc]
          rcases hi with hi | rfl
          · have := km2.lt hi
            rcases hi with rfl | ⟨z, a, e, hk⟩
            · exact ⟨HLM.out, by omega⟩
            · have := (km2.row z a e).blk (k := i) (by rw [rsl_own]; exact hk)
              omega
          · omega)
      have KA := hid (HK2.out.alloc (.cells #[.int .i64 g0.id, .int .i64 g0.par, .int .i64 g0.wt, .int .i64 g0.pd, .int .i64 g0.qt, .int .i64 g0.us, .int .i64 0] 61))
      clear HM2 HK2
      go_wp2_with fail
      obtain ⟨w3, hw3⟩ : ∃ w3, w2.alloc (.cells #[.int .i64 g0.id, .int .i64 g0.par, .int .i64 g0.wt, .int .i64 g0.pd, .int .i64 g0.qt, .int .i64 g0.us, .int .i64 0] 61) = w3 := ⟨_, rfl⟩
      rw [hw3] at U3 KA ⊢
      rw [hH0] at U3
      try rw [hH0]
      clear hw3 c0 c1 c2 c3 c4 c5
      go_loopg [5] (visits (g0 :: tl)).length (fun k s wr => ∃ seen st out O, k = out.length ∧ Hid (UI w H0 m J seen (fun z => if z ∈ seen.map (·.1.id) then [] else (kidsA tl z).reverse) st.reverse s O wr ∧ Vis (kidsA tl) st out ∧ visits (g0 :: tl) = seen ++ out) ∧ Hid (w.heap.size ≤ wr.heap.size))
      case atStart => exact ⟨[], [(g0, 0)], visits (g0 :: tl), _, rfl, hid ⟨U3.out, (visits_is HND.out).1, rfl⟩, hid KA.out.size⟩
      case round =>
        obtain ⟨seen, st, out, O, rfl, HU, HZ2⟩ := hrel
        obtain ⟨u1, vis1, all1⟩ := HU.out
        cases st with
        | nil =>
          obtain ⟨A4, c4, rfl⟩ := u1.st.formN (m := 0) rfl
          have ho := vis1.nil_iff
          subst ho
          rw [List.append_nil] at all1
          have HA1 := hid all1
          have U1 := hid u1
          clear vis1 all1 u1 HU
          go_wp2
          go_end0
          exact ⟨⟨_, rfl⟩, O, by rw [HA1.out]; exact U1.out.j, U1.out.ol⟩
        | cons p st =>
          obtain ⟨g, d⟩ := p
          obtain ⟨out, rfl, vis2⟩ := vis1.cons_inv
          obtain ⟨hgm, hgs, hgd, hgl⟩ := visits_next HND.out all1
          obtain ⟨hgi, hgp⟩ := HP.out g hgm
          have hvl := vis2.len
          rw [List.length_append] at hvl
          rw [HN.out] at hgl
          have hst := u1.st
          rw [List.reverse_cons] at hst
          obtain ⟨b5, c5, rfl, ho, hc5, hbl, hbs, hcm, hcell⟩ := hst.pop
          obtain ⟨M, hM⟩ : ∃ M, st.reverse.length = M := ⟨_, rfl⟩
          rw [hM] at ho hc5 hcell ⊢
          have hMl : M + (kidsA tl g.id).length ≤ out.length := by rw [← hM, List.length_reverse]; unfold lay at hvl; rw [List.length_map] at hvl; omega
          have HM := hid hM
          have d0 := hcell 0 (by omega)
          have d1 := hcell 1 (by omega)
          have d2 := hcell 2 (by omega)
          have d3 := hcell 3 (by omega)
          have d4 := hcell 4 (by omega)
          have d5 := hcell 5 (by omega)
          have d6 := hcell 6 (by omega)
          simp only [pl, pe, List.getD_cons_zero, List.getD_cons_succ, Nat.add_zero] at d0 d1 d2 d3 d4 d5 d6
          have hwn : IntKind.i64.wrap (((M + 1 : Nat) : Int) - 1) = (M : Int) := by rw [wrapI (by unfold I64; omega)]; omega
          have hpos : (0 : Int) < ((M + 1 : Nat) : Int) := by omega
          have hMc : (M : Int) ≤ (c5 : Int) := by omega
          have hng : decide ((M : Int) < 0) = false := by simp
          have U1 := hid (u1.cut (sv' := .slice (some ⟨b5, 0, none⟩) M c5) ho rfl)
          have HB5 := hid (And.intro hbl hbs)
          have VI := hid (And.intro vis2 all1)
          have HG := hid hgs
          have hdl : d ≤ 1000001 := by omega
          clear hst ho hcell vis1 vis2 all1 u1 HU hgm hgs hM hgp
          go_upto_region 7 with fail
          have k01 := (Kp.refl No wr).alloc (.cells #[.int .i64 g.id, .int .i64 g.par, .int .i64 g.wt, .int .i64 g.pd, .int .i64 g.qt, .int .i64 g.us, .int .i64 (d : Int)] 61)
          have hz1 := World.size_alloc wr (.cells #[.int .i64 g.id, .int .i64 g.par, .int .i64 g.wt, .int .i64 g.pd, .int .i64 g.qt, .int .i64 g.us, .int .i64 (d : Int)] 61)
          have U2 := hid (U1.out.own HJ.out k01 (b := wr.heap.size) (Nat.le_refl _) (by omega) HZ2.out)
          have X2 := hid (Blk.new wr 61 #[.int .i64 g.id, .int .i64 g.par, .int .i64 g.wt, .int .i64 g.pd, .int .i64 g.qt, .int .i64 g.us, .int .i64 (d : Int)])
          obtain ⟨w1, hw1⟩ : ∃ w1, wr.alloc (.cells #[.int .i64 g.id, .int .i64 g.par, .int .i64 g.wt, .int .i64 g.pd, .int .i64 g.qt, .int .i64 g.us, .int .i64 (d : Int)] 61) = w1 := ⟨_, rfl⟩
          rw [hw1] at U2 X2 hz1 k01 ⊢
          have HZ3 := hid (Nat.le_trans HZ2.out k01.size)
          obtain ⟨xb, hxb⟩ : ∃ xb, wr.heap.size = xb := ⟨_, rfl⟩
          rw [hxb] at U2 X2 hz1 ⊢
          have HXB := hid hxb
          clear hw1 hxb k01 d0 d1 d2 d3 d4 d5 d6
          obtain ⟨O1, hO1⟩ : ∃ O1, (fun i => O i ∨ i = xb) = O1 := ⟨_, rfl⟩
          have HO1 := hid (show O1 xb by rw [← hO1]; exact .inr rfl)
          rw [hO1] at U2
          clear hO1 U1
          have hcall := HS.out O1 seen (g, d) out w1 VI.out.2 U2.out.j
          simp only [pe] at hcall
          have HCALL := hid hcall
          have x0 := X2.out.cell 0
          have x1 := X2.out.cell 1
          have x2 := X2.out.cell 2
          have x3 := X2.out.cell 3
          have x4 := X2.out.cell 4
          have x5 := X2.out.cell 5
          have x6 := X2.out.cell 6
          simp only [List.getElem?_toArray, List.getElem?_cons_zero, List.getElem?_cons_succ] at x0 x1 x2 x3 x4 x5 x6
          clear hcall
          go_wp2_with (first
            | (go_at_fn gf
               refine HCALL.out.mono ?_
               rintro e w4 ⟨⟨r, rfl⟩, j4, k4⟩
               have U4 := hid (U2.out.saw j4 k4)
               have X4 := hid (X2.out.kp k4 fun e => e HO1.out)
               have HZ4 := hid (Nat.le_trans HZ3.out k4.size)
               obtain ⟨f4, cnt4, km4, kin4⟩ := U4.out.km
               obtain ⟨a4, ho4, ha4, hlk4⟩ := km4.look hgi
               have hF : (if g.id ∈ seen.map (·.1.id) then [] else (kidsA tl g.id).reverse) = (kidsA tl g.id).reverse := if_neg HG.out
               try simp only at ho4
               rw [hF] at ho4
               obtain ⟨nk, hnk⟩ : ∃ nk, ((kidsA tl g.id).reverse).length = nk := ⟨_, rfl⟩
               obtain ⟨A4, c4, hA4⟩ := ho4.formN hnk
               have HNK := hid hnk
               have HB4 := hid (show ∀ i, (Value.slice A4 nk c4).ownBlock = some i → i < H0 from fun i hi => by
                 rw [← hA4, rsl_own] at hi
                 rcases ha4 with ha4 | ⟨_, rfl⟩
                 · exact (kin4 i (.inr ⟨_, _, ha4, hi⟩)).2
                 · cases hi)
               rw [hA4] at ho4 hlk4
               have HO4 := hid ho4
               have l4 := hlk4 w4 (Kp.refl _ _)
               have x0 := X4.out.cell 0
               simp only [List.getElem?_toArray, List.getElem?_cons_zero] at x0
               have hx4 := X4.out.lt
               have U4H := hid (show H0 ≤ w4.heap.size by have := (U4.out.st.blk (k := b5) rfl); omega)
               clear j4 k4 km4 kin4 ho4 ha4 hlk4 hF hA4 hnk))
          have HNKL := hid (show nk = (kidsA tl g.id).length by rw [← HNK.out, List.length_reverse])
          have HXH := hid (show H0 ≤ xb by have := HXB.out; have := HB5.out; omega)
          go_loopw [5, 43] (fun s i wq => ∃ j : Nat, j ≤ nk ∧ i = .int .i64 (j : Int) ∧ Hid (∃ O', UI w H0 m J (seen ++ [(g, d)]) (fun z => if z ∈ seen.map (·.1.id) then [] else (kidsA tl z).reverse) (st.reverse ++ lay (d + 1) ((kidsA tl g.id).reverse.take j)) s O' wq) ∧ Hid (Blk wq xb 61 #[.int .i64 g.id, .int .i64 g.par, .int .i64 g.wt, .int .i64 g.pd, .int .i64 g.qt, .int .i64 g.us, .int .i64 (d : Int)] ∧ s.ownBlock ≠ some xb) ∧ Hid (Kp (fun i => H0 ≤ i) w4 wq)) (fun _ i _ => nk - (vI i).toNat)
          case atStart => exact ⟨0, Nat.zero_le _, rfl, hid ⟨O1, by simpa [lay] using U4.out⟩, hid ⟨X4.out, fun e => by have h1 := HB5.out.2; have h2 := HXB.out; have e : b5 = xb := Option.some.inj e; omega⟩, hid (Kp.refl _ _)⟩
          case round =>
            obtain ⟨j, hj, rfl, HU5, HX5, HK5⟩ := hrel
            obtain ⟨O5, u5⟩ := HU5.out
            have hzw := HK5.out.size
            by_cases hjn : j < nk
            · have hjl : j < ((kidsA tl g.id).reverse).length := by rw [HNK.out]; exact hjn
              have o5 := HO4.out.kpx HK5.out fun i hi e => by have := HB4.out i hi; omega
              obtain ⟨b6, c6, hA6, _, hbl6, _, _⟩ := o5.form2 (by omega)
              injection hA6 with hA6 hA7 hA8
              subst hA6
              clear hA7 hA8
              have e0 := o5.cellAt (d := gs0) (i := 0) hjl (by omega)
              have e1 := o5.cellAt (d := gs0) (i := 1) hjl (by omega)
              have e2 := o5.cellAt (d := gs0) (i := 2) hjl (by omega)
              have e3 := o5.cellAt (d := gs0) (i := 3) hjl (by omega)
              have e4 := o5.cellAt (d := gs0) (i := 4) hjl (by omega)
              have e5 := o5.cellAt (d := gs0) (i := 5) hjl (by omega)
              have HS5 := hid (take_s _ hjl gs0)
              obtain ⟨y, hy⟩ : ∃ y, ((kidsA tl g.id).reverse).getD j gs0 = y := ⟨_, rfl⟩
              rw [hy] at e0 e1 e2 e3 e4 e5 HS5
              clear hy
              simp only [gc, ge, List.getD_cons_zero, List.getD_cons_succ, Nat.add_zero] at e0 e1 e2 e3 e4 e5
              have hgj : (j : Int) < (nk : Int) := by omega
              have hwj := wrapI (x := (j : Int) + 1) (by have := HNKL.out; unfold I64; omega)
              have hwd : IntKind.i64.wrap ((d : Int) + 1) = (d : Int) + 1 := wrapI (by unfold I64; omega)
              have U5 := hid u5
              have O5 := hid o5
              obtain ⟨N, hN⟩ : ∃ N, (st.reverse ++ lay (d + 1) ((kidsA tl g.id).reverse.take j)).length = N := ⟨_, rfl⟩
              have hNl : N + 1 ≤ 1000001 := by
                rw [← hN, List.length_append, HM.out]
                unfold lay
                rw [List.length_map, List.length_take]
                have := HNKL.out
                omega
              have HNN := hid hN
              have X5 := hid HX5.out.1
              have NX5 := hid HX5.out.2
              clear u5 o5 hN HU5 HX5
              go_upto_region 11 with fail
              have k51 := (Kp.refl No wr).alloc (.cells #[.int .i64 y.id, .int .i64 y.par, .int .i64 y.wt, .int .i64 y.pd, .int .i64 y.qt, .int .i64 y.us] 51)
              have hz5 := World.size_alloc wr (.cells #[.int .i64 y.id, .int .i64 y.par, .int .i64 y.wt, .int .i64 y.pd, .int .i64 y.qt, .int .i64 y.us] 51)
              have Y6 := hid (Blk.new wr 51 #[.int .i64 y.id, .int .i64 y.par, .int .i64 y.wt, .int .i64 y.pd, .int .i64 y.qt, .int .i64 y.us])
              obtain ⟨w5, hw5⟩ : ∃ w5, wr.alloc (.cells #[.int .i64 y.id, .int .i64 y.par, .int .i64 y.wt, .int .i64 y.pd, .int .i64 y.qt, .int .i64 y.us] 51) = w5 := ⟨_, rfl⟩
              rw [hw5] at k51 hz5 Y6 ⊢
              obtain ⟨yb, hyb⟩ : ∃ yb, wr.heap.size = yb := ⟨_, rfl⟩
              rw [hyb] at hz5 Y6 ⊢
              have U6 := hid (U5.out.step HJ.out k51)
              have X6 := hid (X5.out.kp0 k51)
              have K51 := hid k51
              clear hw5 k51 e0 e1 e2 e3 e4 e5
              have y0 := Y6.out.cell 0
              have y1 := Y6.out.cell 1
              have y2 := Y6.out.cell 2
              have y3 := Y6.out.cell 3
              have y4 := Y6.out.cell 4
              have y5 := Y6.out.cell 5
              simp only [List.getElem?_toArray, List.getElem?_cons_zero, List.getElem?_cons_succ] at y0 y1 y2 y3 y4 y5
              have x6 := X6.out.cell 6
              simp only [List.getElem?_toArray, List.getElem?_cons_zero, List.getElem?_cons_succ] at x6
              have k61 := (Kp.refl No w5).alloc (.cells #[.int .i64 y.id, .int .i64 y.par, .int .i64 y.wt, .int .i64 y.pd, .int .i64 y.qt, .int .i64 y.us, .int .i64 ((d : Int) + 1)] 61)
              have z7 := Blk.new w5 61 #[.int .i64 y.id, .int .i64 y.par, .int .i64 y.wt, .int .i64 y.pd, .int .i64 y.qt, .int .i64 y.us, .int .i64 ((d : Int) + 1)]
              rw [hz5] at z7
              have U7 := hid (U6.out.step HJ.out k61)
              have X7 := hid (X6.out.kp0 k61)
              have K61 := hid (K51.out.trans k61)
              have Z7 := hid z7
              have HYB := hid hyb
              clear z7 k61 hyb
              go_wp2_with (first
                | (at_builtin
                   refine wp_app1 usPl pl_one rfl (.tmp 47) (.tmp 53) rfl (base := H0) (y := (y, d + 1)) (by exact U7.out.st) rfl (by
                     intro i hi
                     match i, hi with
                     | 0, _ => exact Z7.out.cell 0
                     | 1, _ => exact Z7.out.cell 1
                     | 2, _ => exact Z7.out.cell 2
                     | 3, _ => exact Z7.out.cell 3
                     | 4, _ => exact Z7.out.cell 4
                     | 5, _ => exact Z7.out.cell 5
                     | 6, _ => exact Z7.out.cell 6) (by rw [HNN.out]; omega) (by rw [HNN.out]; simp only [maxLen]; omega) (by have h1 := K61.out.size; have h2 := U4H.out; have h3 := hzw; exact Nat.le_trans h2 (Nat.le_trans h3 h1)) ?_
                   intro v8 w8 o8 k8 p8
                   have P8 := hid (U7.out.push HJ.out o8 k8 p8 (by have h1 := K61.out.size; exact Nat.le_trans HZ4.out (Nat.le_trans hzw h1)))
                   have X8 := hid (And.intro (X7.out.kp P8.out.2 fun e => NX5.out e) (show v8.ownBlock ≠ some xb from fun e => by
                     rcases p8 with p | p
                     · exact NX5.out (p.symm.trans e)
                     · rw [p] at e
                       injection e with e
                       have h1 := K61.out.size
                       omega))
                   have K8 := hid ((HK5.out.step K61.out fun i _ e => e.elim).step P8.out.2 fun i hi e => (U7.out.st.blk e).1)
                   clear o8 k8 p8))
              go_roundw
              case rel => exact ⟨j + 1, by omega, by go_num, hid ⟨_, by
                have := P8.out.1
                rw [List.append_assoc] at this
                rw [HS5.out]
                unfold lay at this ⊢
                rw [List.map_append]
                exact this⟩, X8, K8⟩
              case measure => simp [vI]; omega
            · have hjj : j = nk := by omega
              subst hjj
              have hst2 : st.reverse ++ lay (d + 1) ((kidsA tl g.id).reverse.take j) = (lay (d + 1) (kidsA tl g.id) ++ st).reverse := by
                rw [List.take_of_length_le (by rw [HNK.out]; omega), List.reverse_append]
                unfold lay
                rw [List.map_reverse]
              rw [hst2] at u5
              obtain ⟨w9, hdel, u9, k9⟩ := u5.del HJ.out hgi 0
              have U9 := hid u9
              have HZ9 := hid (Nat.le_trans HZ4.out (Nat.le_trans hzw k9.size))
              have x9 := HX5.out.1.cell 0
              simp only [List.getElem?_toArray, List.getElem?_cons_zero] at x9
              clear u5 u9 k9 hst2 HU5
              go_wp2_with fail
              go_roundg out.length
              case measure => simp
              case rel =>
                refine ⟨seen ++ [(g, d)], lay (d + 1) (kidsA tl g.id) ++ st, out, O5, rfl, hid ⟨?_, VI.out.1, by rw [VI.out.2, List.append_assoc]; rfl⟩, HZ9⟩
                have hF : (fun z => if z = g.id then [] else if z ∈ seen.map (·.1.id) then [] else (kidsA tl z).reverse) = (fun z => if z ∈ (seen ++ [(g, d)]).map (·.1.id) then [] else (kidsA tl z).reverse) := by
                  funext z
                  rw [List.map_append, List.map_cons, List.map_nil]
                  by_cases h1 : z = g.id
                  · simp [h1]
                  · by_cases h2 : z ∈ seen.map (·.1.id)
                    · rw [if_neg h1, if_pos h2, if_pos (List.mem_append.2 (.inl h2))]
                    · rw [if_neg h1, if_neg h2, if_neg]
                      intro h3
                      rcases List.mem_append.1 h3 with h3 | h3
                      · exact h2 h3
                      · exact h1 (List.mem_singleton.1 h3)
                rw [← hF]
                exact U9.out
end Go.Proofs.YtjmaingpiieioaaGreat
