/-
  ZUnderW ZOrder ZTall ZIds: texts laid into one.
-/
import Derived.Test.YtggmdgdgljlddaaGreatZUnder
import Derived.Deep.DeepCutAuto
import Derived.Deep.CutRange

/-
  Contract of under: what is below the first group is handed on, one after the other, to whatever closure.
-/
namespace Go.Proofs.YtggmdgdgljlddaaGreat
open Go.RowKit Go.Shelf

theorem kidsPost_kp {gs : List GS} {w w1 : World} {e : Ending} {w' : World} (k : Kp No w w1) (h : KidsPost gs w1 e w') : ∃ m f cnt ys, e = .returned (.map (some m)) ∧ ys.Perm gs ∧ ys.Pairwise (fun a b => b.id ≤ a.id) ∧ Km w' w.heap.size m f (below ys) cnt ∧ Kp No w w' := by
  obtain ⟨m, f, cnt, ys, h1, h2, h3, h4, _, h6⟩ := h
  exact ⟨m, f, cnt, ys, h1, h2, h3, h4.lower k.size, k.trans h6⟩
set_option maxHeartbeats 4000000 in
set_option maxRecDepth 100000 in
theorem under_any {w : World} {P : Nat → Prop} {v : Value} {gs : List GS} {gf : Nat} {lb : Array Value} {J : (Nat → Prop) → List Pl → World → Prop} (h : Rw 6 gc gs0 w P v gs) (hl : gs.length ≤ 1000000) (hp : ∀ g ∈ gs, I64 g.id ∧ I64 g.par) (hnd : (gs.map (·.id)).Nodup)
    (hJ : AbO J) (h0 : J No [] w) (hs : See gf lb J (visits gs)) (eg : ∀ args w, (callFunc gf args).run Tryz.prog w = .ok (.enter gf args) w) :
    Calls Tryz.prog 17 #[v, .func (.func gf) #[] lb] w fun e w' => (∃ r, e = .returned r) ∧ ∃ O, J O (visits gs) w' ∧ ∀ i, O i → w.heap.size ≤ i ∧ i < w'.heap.size := by
  have HJ0 := hid h0
  have HS := hid hs
  have HJ := hid hJ
  cases gs with
  | nil =>
    obtain ⟨A, c, rfl, _⟩ := h
    clear h0 hs hJ
    go_enter Tryz.func17, Tryz.ntmps17
    go_wp2
    refine bodyPost_ret (results_none rfl _ _ _) rfl ?_
    exact ⟨⟨_, rfl⟩, No, HJ0.out, fun i e => e.elim⟩
  | cons g0 tl =>
    have HR := hid h
    obtain ⟨A, c, rfl, hc, hm, hx⟩ := h
    obtain ⟨b, o, rfl, hb, _, hcell⟩ := hx (by simp)
    have HP := hid hp
    have HND := hid hnd
    obtain ⟨n, hn⟩ : ∃ n, tl.length = n := ⟨_, rfl⟩
    have HN := hid hn
    have hl2 : n ≤ 1000000 := by rw [← hn]; simp at hl; omega
    rw [List.length_cons, hn] at hc HR ⊢
    unfold maxLen at hm
    have c0 := hcell 0 0 (by simp) (by omega)
    have c1 := hcell 0 1 (by simp) (by omega)
    have c2 := hcell 0 2 (by simp) (by omega)
    have c3 := hcell 0 3 (by simp) (by omega)
    have c4 := hcell 0 4 (by simp) (by omega)
    have c5 := hcell 0 5 (by simp) (by omega)
    simp only [gc, ge, List.getD_cons_zero, List.getD_cons_succ, Nat.add_zero, Nat.zero_mul, Nat.zero_add] at c0 c1 c2 c3 c4 c5
    have HC := hid (And.intro c0 (And.intro c1 (And.intro c2 (And.intro c3 (And.intro c4 c5)))))
    have hne : ((n + 1 : Nat) : Int) ≠ 0 := by omega
    have hb0 : (((n + 1 : Nat) : Int) == 0) = false := by rw [beq_eq_false_iff_ne]; exact hne
    have hd1 : decide ((1 : Int) ≤ ((n + 1 : Nat) : Int)) = true := by rw [decide_eq_true_eq]; omega
    clear h0 hs hJ hp hnd hx hcell hn hl c0 c1 c2 c3 c4 c5
    go_enter Tryz.func17, Tryz.ntmps17
    go_upto_region 1 with fail
    go_cut [4] (fun s wx => ∃ m f cnt ys, s = .map (some m) ∧ Hid (ys.Perm tl ∧ ys.Pairwise (fun a b => b.id ≤ a.id) ∧ Km wx w.heap.size m f (below ys) cnt) ∧ Hid (w.heap.size ≤ m) ∧ Hid (Kp No w wx))
    case first =>
      have HPt := hid (fun g (hg : g ∈ tl) => (HP.out g (List.mem_cons_of_mem _ hg)).2)
      by_cases hc1 : c = 1
      · subst hc1
        have ht : tl = [] := List.eq_nil_of_length_eq_zero (by rw [HN.out]; omega)
        subst ht
        have hn0 : n = 0 := HN.out.symm
        subst hn0
        have HK := hid (fun A => kids_any (w := w) (P := Anyb) (v := .slice A 0 0) (gs := []) ⟨A, 0, rfl, Nat.le_refl _, by simp [maxLen], by simp⟩ (by simp) (by simp))
        go_wp2_with (first
          | (go_at_call 37
             refine (HK.out _).mono ?_
             rintro e w2 ⟨m, f, cnt, ys, rfl, p2, s2, km2, m2, k2⟩
             have R2 := hid (And.intro p2 (And.intro s2 km2))
             have K2 := hid k2
             have M2 := hid m2
             clear p2 s2 km2 k2 m2))
        go_meet
        exact ⟨m, f, cnt, ys, rfl, R2, M2, K2⟩
      · have ht := HR.out
        rw [← HN.out] at ht
        have ht := ht.tail
        rw [HN.out] at ht
        have HK := hid (kids_any ht (by rw [HN.out]; omega) HPt.out)
        have hcn : ¬ c = 1 := hc1
        clear ht
        go_wp2_with (first
          | (go_at_call 37
             refine HK.out.mono ?_
             rintro e w2 ⟨m, f, cnt, ys, rfl, p2, s2, km2, m2, k2⟩
             have R2 := hid (And.intro p2 (And.intro s2 km2))
             have K2 := hid k2
             have M2 := hid m2
             clear p2 s2 km2 k2 m2))
        go_meet
        exact ⟨m, f, cnt, ys, rfl, R2, M2, K2⟩
    case rest =>
      obtain ⟨m, f, cnt, ys, rfl, HM2, HLM, HK2⟩ := hcut
      obtain ⟨w2, hw2⟩ : ∃ w2, wc = w2 := ⟨_, rfl⟩
      rw [hw2] at HM2 HK2 ⊢
      clear hw2
      have kc : ∀ i u, w.cell? ⟨b, i, none⟩ = some u → w2.cell? ⟨b, i, none⟩ = some u := fun i u hu => (HK2.out.cell (p := ⟨b, i, none⟩) hb id).trans hu
      obtain ⟨c0, c1, c2, c3, c4, c5⟩ := HC.out
      have c0 := kc _ _ c0
      have c1 := kc _ _ c1
      have c2 := kc _ _ c2
      have c3 := kc _ _ c3
      have c4 := kc _ _ c4
      have c5 := kc _ _ c5
      have hg0 : (0 : Int) < ((n + 1 : Nat) : Int) := by omega
      clear kc
      obtain ⟨H0, hH0⟩ : ∃ H0, w2.heap.size = H0 := ⟨_, rfl⟩
      have HZ := hid (And.intro hH0 HK2.out.size)
      have U3 := hid (show UI w H0 m J [] (fun z => if z ∈ ([] : List Pl).map (·.1.id) then [] else (kidsA tl z).reverse) [(g0, 0)] (.slice (some ⟨w2.heap.size, 0, none⟩) 1 1) (fun i => Kin m f i ∨ i = w2.heap.size) (w2.alloc (.cells #[.int .i64 g0.id, .int .i64 g0.par, .int .i64 g0.wt, .int .i64 g0.pd, .int .i64 g0.qt, .int .i64 g0.us, .int .i64 0] 52)) by
        have k3 := (Kp.refl No w2).alloc (.cells #[.int .i64 g0.id, .int .i64 g0.par, .int .i64 g0.wt, .int .i64 g0.pd, .int .i64 g0.qt, .int .i64 g0.us, .int .i64 0] 52)
        obtain ⟨p2, s2, km2⟩ := HM2.out
        have hF : below ys = (fun z => if z ∈ ([] : List Pl).map (·.1.id) then [] else (kidsA tl z).reverse) := by
          funext z
          simp only [List.map_nil, List.not_mem_nil, if_false]
          have hnd := HND.out
          rw [List.map_cons, List.nodup_cons] at hnd
          exact kids_rev hnd.2 p2 s2
        rw [← hF]
        have hz := HK2.out.size
        refine ⟨HJ.out _ _ _ _ _ HJ0.out (HK2.out.trans k3) (fun i hi => .inr ?_), Ow.single w2 H0 (g0, 0) (by omega), ⟨f, cnt, km2.kp0 k3, fun i hi => ⟨.inl hi, by rw [← hH0]; exact km2.lt hi⟩⟩, fun i hi => .inr (Option.some.inj hi).symm, fun i hi => ?_⟩
        · rw [World.size_alloc]
          rcases hi with hi | rfl
          · have := km2.lt hi
            rcases hi with rfl | ⟨z, a, e, hk⟩
            · exact ⟨HLM.out, by omega⟩
            · have := (km2.row z a e).blk (k := i) (by rw [rsl_own]; exact hk)
              omega
          · omega
        · rw [World.size_alloc]
          rcases hi with hi | rfl
          · have := km2.lt hi
            rcases hi with rfl | ⟨z, a, e, hk⟩
            · exact ⟨HLM.out, by omega⟩
            · have := (km2.row z a e).blk (k := i) (by rw [rsl_own]; exact hk)
              omega
          · omega)
      have KA := hid (HK2.out.alloc (.cells #[.int .i64 g0.id, .int .i64 g0.par, .int .i64 g0.wt, .int .i64 g0.pd, .int .i64 g0.qt, .int .i64 g0.us, .int .i64 0] 52))
      clear HM2 HK2
      go_wp2_with fail
      obtain ⟨w3, hw3⟩ : ∃ w3, w2.alloc (.cells #[.int .i64 g0.id, .int .i64 g0.par, .int .i64 g0.wt, .int .i64 g0.pd, .int .i64 g0.qt, .int .i64 g0.us, .int .i64 0] 52) = w3 := ⟨_, rfl⟩
      rw [hw3] at U3 KA ⊢
      rw [hH0] at U3
      try rw [hH0]
      clear hw3 c0 c1 c2 c3 c4 c5
      go_loopg [5] (visits (g0 :: tl)).length (fun k s wr => ∃ seen st out O, k = out.length ∧ Hid (UI w H0 m J seen (fun z => if z ∈ seen.map (·.1.id) then [] else (kidsA tl z).reverse) st.reverse s O wr ∧ Vis (kidsA tl) st out ∧ visits (g0 :: tl) = seen ++ out) ∧ Hid (w.heap.size ≤ wr.heap.size))
      case atStart => exact ⟨[], [(g0, 0)], visits (g0 :: tl), _, rfl, hid ⟨U3.out, (visits_is HND.out).1, rfl⟩, hid KA.out.size⟩
      case round =>
        obtain ⟨seen, st, out, O, rfl, HU, HZ2⟩ := hrel
        obtain ⟨u1, vis1, all1⟩ := HU.out
        cases st with
        | nil =>
          obtain ⟨A4, c4, rfl⟩ := u1.st.formN (m := 0) rfl
          have ho := vis1.nil_iff
          subst ho
          rw [List.append_nil] at all1
          have HA1 := hid all1
          have U1 := hid u1
          clear vis1 all1 u1 HU
          go_wp2
          go_end0
          exact ⟨⟨_, rfl⟩, O, by rw [HA1.out]; exact U1.out.j, U1.out.ol⟩
        | cons p st =>
          obtain ⟨g, d⟩ := p
          obtain ⟨out, rfl, vis2⟩ := vis1.cons_inv
          obtain ⟨hgm, hgs, hgd, hgl⟩ := visits_next HND.out all1
          obtain ⟨hgi, hgp⟩ := HP.out g hgm
          have hvl := vis2.len
          rw [List.length_append] at hvl
          rw [HN.out] at hgl
          have hst := u1.st
          rw [List.reverse_cons] at hst
          obtain ⟨b5, c5, rfl, ho, hc5, hbl, hbs, hcm, hcell⟩ := hst.pop
          obtain ⟨M, hM⟩ : ∃ M, st.reverse.length = M := ⟨_, rfl⟩
          rw [hM] at ho hc5 hcell ⊢
          have hMl : M + (kidsA tl g.id).length ≤ out.length := by rw [← hM, List.length_reverse]; unfold lay at hvl; rw [List.length_map] at hvl; omega
          have HM := hid hM
          have d0 := hcell 0 (by omega)
          have d1 := hcell 1 (by omega)
          have d2 := hcell 2 (by omega)
          have d3 := hcell 3 (by omega)
          have d4 := hcell 4 (by omega)
          have d5 := hcell 5 (by omega)
          have d6 := hcell 6 (by omega)
          simp only [pl, pe, List.getD_cons_zero, List.getD_cons_succ, Nat.add_zero] at d0 d1 d2 d3 d4 d5 d6
          have hwn : IntKind.i64.wrap (((M + 1 : Nat) : Int) - 1) = (M : Int) := by rw [wrapI (by unfold I64; omega)]; omega
          have hpos : (0 : Int) < ((M + 1 : Nat) : Int) := by omega
          have hMc : (M : Int) ≤ (c5 : Int) := by omega
          have hng : decide ((M : Int) < 0) = false := by simp
          have U1 := hid (u1.cut (sv' := .slice (some ⟨b5, 0, none⟩) M c5) ho rfl)
          have HB5 := hid (And.intro hbl hbs)
          have VI := hid (And.intro vis2 all1)
          have HG := hid hgs
          have hdl : d ≤ 1000001 := by omega
          clear hst ho hcell vis1 vis2 all1 u1 HU hgm hgs hM hgp
          go_upto_region 7 with fail
          have k01 := (Kp.refl No wr).alloc (.cells #[.int .i64 g.id, .int .i64 g.par, .int .i64 g.wt, .int .i64 g.pd, .int .i64 g.qt, .int .i64 g.us, .int .i64 (d : Int)] 52)
          have hz1 := World.size_alloc wr (.cells #[.int .i64 g.id, .int .i64 g.par, .int .i64 g.wt, .int .i64 g.pd, .int .i64 g.qt, .int .i64 g.us, .int .i64 (d : Int)] 52)
          have U2 := hid (U1.out.own HJ.out k01 (b := wr.heap.size) (Nat.le_refl _) (by omega) HZ2.out)
          have X2 := hid (Blk.new wr 52 #[.int .i64 g.id, .int .i64 g.par, .int .i64 g.wt, .int .i64 g.pd, .int .i64 g.qt, .int .i64 g.us, .int .i64 (d : Int)])
          obtain ⟨w1, hw1⟩ : ∃ w1, wr.alloc (.cells #[.int .i64 g.id, .int .i64 g.par, .int .i64 g.wt, .int .i64 g.pd, .int .i64 g.qt, .int .i64 g.us, .int .i64 (d : Int)] 52) = w1 := ⟨_, rfl⟩
          rw [hw1] at U2 X2 hz1 k01 ⊢
          have HZ3 := hid (Nat.le_trans HZ2.out k01.size)
          obtain ⟨xb, hxb⟩ : ∃ xb, wr.heap.size = xb := ⟨_, rfl⟩
          rw [hxb] at U2 X2 hz1 ⊢
          have HXB := hid hxb
          clear hw1 hxb k01 d0 d1 d2 d3 d4 d5 d6
          obtain ⟨O1, hO1⟩ : ∃ O1, (fun i => O i ∨ i = xb) = O1 := ⟨_, rfl⟩
          have HO1 := hid (show O1 xb by rw [← hO1]; exact .inr rfl)
          rw [hO1] at U2
          clear hO1 U1
          have hcall := HS.out O1 seen (g, d) out w1 VI.out.2 U2.out.j
          simp only [pe] at hcall
          have HCALL := hid hcall
          have x0 := X2.out.cell 0
          have x1 := X2.out.cell 1
          have x2 := X2.out.cell 2
          have x3 := X2.out.cell 3
          have x4 := X2.out.cell 4
          have x5 := X2.out.cell 5
          have x6 := X2.out.cell 6
          simp only [List.getElem?_toArray, List.getElem?_cons_zero, List.getElem?_cons_succ] at x0 x1 x2 x3 x4 x5 x6
          clear hcall
          go_wp2_with (first
            | (go_at_fn gf
               refine HCALL.out.mono ?_
               rintro e w4 ⟨⟨r, rfl⟩, j4, k4⟩
               have U4 := hid (U2.out.saw j4 k4)
               have X4 := hid (X2.out.kp k4 fun e => e HO1.out)
               have HZ4 := hid (Nat.le_trans HZ3.out k4.size)
               obtain ⟨f4, cnt4, km4, kin4⟩ := U4.out.km
               obtain ⟨a4, ho4, ha4, hlk4⟩ := km4.look hgi
               have hF : (if g.id ∈ seen.map (·.1.id) then [] else (kidsA tl g.id).reverse) = (kidsA tl g.id).reverse := if_neg HG.out
               try simp only at ho4
               rw [hF] at ho4
               obtain ⟨nk, hnk⟩ : ∃ nk, ((kidsA tl g.id).reverse).length = nk := ⟨_, rfl⟩
               obtain ⟨A4, c4, hA4⟩ := ho4.formN hnk
               have HNK := hid hnk
               have HB4 := hid (show ∀ i, (Value.slice A4 nk c4).ownBlock = some i → i < H0 from fun i hi => by
                 rw [← hA4, rsl_own] at hi
                 rcases ha4 with ha4 | ⟨_, rfl⟩
                 · exact (kin4 i (.inr ⟨_, _, ha4, hi⟩)).2
                 · cases hi)
               rw [hA4] at ho4 hlk4
               have HO4 := hid ho4
               have l4 := hlk4 w4 (Kp.refl _ _)
               have x0 := X4.out.cell 0
               simp only [List.getElem?_toArray, List.getElem?_cons_zero] at x0
               have hx4 := X4.out.lt
               have U4H := hid (show H0 ≤ w4.heap.size by have := (U4.out.st.blk (k := b5) rfl); omega)
               clear j4 k4 km4 kin4 ho4 ha4 hlk4 hF hA4 hnk))
          have HNKL := hid (show nk = (kidsA tl g.id).length by rw [← HNK.out, List.length_reverse])
          have HXH := hid (show H0 ≤ xb by have := HXB.out; have := HB5.out; omega)
          go_loopw [5, 43] (fun s i wq => ∃ j : Nat, j ≤ nk ∧ i = .int .i64 (j : Int) ∧ Hid (∃ O', UI w H0 m J (seen ++ [(g, d)]) (fun z => if z ∈ seen.map (·.1.id) then [] else (kidsA tl z).reverse) (st.reverse ++ lay (d + 1) ((kidsA tl g.id).reverse.take j)) s O' wq) ∧ Hid (Blk wq xb 52 #[.int .i64 g.id, .int .i64 g.par, .int .i64 g.wt, .int .i64 g.pd, .int .i64 g.qt, .int .i64 g.us, .int .i64 (d : Int)] ∧ s.ownBlock ≠ some xb) ∧ Hid (Kp (fun i => H0 ≤ i) w4 wq)) (fun _ i _ => nk - (vI i).toNat)
          case atStart => exact ⟨0, Nat.zero_le _, rfl, hid ⟨O1, by simpa [lay] using U4.out⟩, hid ⟨X4.out, fun e => by have h1 := HB5.out.2; have h2 := HXB.out; have e : b5 = xb := Option.some.inj e; omega⟩, hid (Kp.refl _ _)⟩
          case round =>
            obtain ⟨j, hj, rfl, HU5, HX5, HK5⟩ := hrel
            obtain ⟨O5, u5⟩ := HU5.out
            have hzw := HK5.out.size
            by_cases hjn : j < nk
            · have hjl : j < ((kidsA tl g.id).reverse).length := by rw [HNK.out]; exact hjn
              have o5 := HO4.out.kpx HK5.out fun i hi e => by have := HB4.out i hi; omega
              obtain ⟨b6, c6, hA6, _, hbl6, _, _⟩ := o5.form2 (by omega)
              injection hA6 with hA6 hA7 hA8
              subst hA6
              clear hA7 hA8
              have e0 := o5.cellAt (d := gs0) (i := 0) hjl (by omega)
              have e1 := o5.cellAt (d := gs0) (i := 1) hjl (by omega)
              have e2 := o5.cellAt (d := gs0) (i := 2) hjl (by omega)
              have e3 := o5.cellAt (d := gs0) (i := 3) hjl (by omega)
              have e4 := o5.cellAt (d := gs0) (i := 4) hjl (by omega)
              have e5 := o5.cellAt (d := gs0) (i := 5) hjl (by omega)
              have HS5 := hid (take_s _ hjl gs0)
              obtain ⟨y, hy⟩ : ∃ y, ((kidsA tl g.id).reverse).getD j gs0 = y := ⟨_, rfl⟩
              rw [hy] at e0 e1 e2 e3 e4 e5 HS5
              clear hy
              simp only [gc, ge, List.getD_cons_zero, List.getD_cons_succ, Nat.add_zero] at e0 e1 e2 e3 e4 e5
              have hgj : (j : Int) < (nk : Int) := by omega
              have hwj := wrapI (x := (j : Int) + 1) (by have := HNKL.out; unfold I64; omega)
              have hwd : IntKind.i64.wrap ((d : Int) + 1) = (d : Int) + 1 := wrapI (by unfold I64; omega)
              have U5 := hid u5
              have O5 := hid o5
              obtain ⟨N, hN⟩ : ∃ N, (st.reverse ++ lay (d + 1) ((kidsA tl g.id).reverse.take j)).length = N := ⟨_, rfl⟩
              have hNl : N + 1 ≤ 1000001 := by
                rw [← hN, List.length_append, HM.out]
                unfold lay
                rw [List.length_map, List.length_take]
                have := HNKL.out
                omega
              have HNN := hid hN
              have X5 := hid HX5.out.1
              have NX5 := hid HX5.out.2
              clear u5 o5 hN HU5 HX5
              go_upto_region 11 with fail
              have k51 := (Kp.refl No wr).alloc (.cells #[.int .i64 y.id, .int .i64 y.par, .int .i64 y.wt, .int .i64 y.pd, .int .i64 y.qt, .int .i64 y.us] 37)
              have hz5 := World.size_alloc wr (.cells #[.int .i64 y.id, .int .i64 y.par, .int .i64 y.wt, .int .i64 y.pd, .int .i64 y.qt, .int .i64 y.us] 37)
              have Y6 := hid (Blk.new wr 37 #[.int .i64 y.id, .int .i64 y.par, .int .i64 y.wt, .int .i64 y.pd, .int .i64 y.qt, .int .i64 y.us])
              obtain ⟨w5, hw5⟩ : ∃ w5, wr.alloc (.cells #[.int .i64 y.id, .int .i64 y.par, .int .i64 y.wt, .int .i64 y.pd, .int .i64 y.qt, .int .i64 y.us] 37) = w5 := ⟨_, rfl⟩
              rw [hw5] at k51 hz5 Y6 ⊢
              obtain ⟨yb, hyb⟩ : ∃ yb, wr.heap.size = yb := ⟨_, rfl⟩
              rw [hyb] at hz5 Y6 ⊢
              have U6 := hid (U5.out.step HJ.out k51)
              have X6 := hid (X5.out.kp0 k51)
              have K51 := hid k51
              clear hw5 k51 e0 e1 e2 e3 e4 e5
              have y0 := Y6.out.cell 0
              have y1 := Y6.out.cell 1
              have y2 := Y6.out.cell 2
              have y3 := Y6.out.cell 3
              have y4 := Y6.out.cell 4
              have y5 := Y6.out.cell 5
              simp only [List.getElem?_toArray, List.getElem?_cons_zero, List.getElem?_cons_succ] at y0 y1 y2 y3 y4 y5
              have x6 := X6.out.cell 6
              simp only [List.getElem?_toArray, List.getElem?_cons_zero, List.getElem?_cons_succ] at x6
              have k61 := (Kp.refl No w5).alloc (.cells #[.int .i64 y.id, .int .i64 y.par, .int .i64 y.wt, .int .i64 y.pd, .int .i64 y.qt, .int .i64 y.us, .int .i64 ((d : Int) + 1)] 52)
              have z7 := Blk.new w5 52 #[.int .i64 y.id, .int .i64 y.par, .int .i64 y.wt, .int .i64 y.pd, .int .i64 y.qt, .int .i64 y.us, .int .i64 ((d : Int) + 1)]
              rw [hz5] at z7
              have U7 := hid (U6.out.step HJ.out k61)
              have X7 := hid (X6.out.kp0 k61)
              have K61 := hid (K51.out.trans k61)
              have Z7 := hid z7
              have HYB := hid hyb
              clear z7 k61 hyb
              go_wp2_with (first
                | (at_builtin
                   refine wp_app1 usPl pl_one rfl (.tmp 47) (.tmp 53) rfl (base := H0) (y := (y, d + 1)) (by exact U7.out.st) rfl (by
                     intro i hi
                     match i, hi with
                     | 0, _ => exact Z7.out.cell 0
                     | 1, _ => exact Z7.out.cell 1
                     | 2, _ => exact Z7.out.cell 2
                     | 3, _ => exact Z7.out.cell 3
                     | 4, _ => exact Z7.out.cell 4
                     | 5, _ => exact Z7.out.cell 5
                     | 6, _ => exact Z7.out.cell 6) (by rw [HNN.out]; omega) (by rw [HNN.out]; simp only [maxLen]; omega) (by have h1 := K61.out.size; have h2 := U4H.out; have h3 := hzw; exact Nat.le_trans h2 (Nat.le_trans h3 h1)) ?_
                   intro v8 w8 o8 k8 p8
                   have P8 := hid (U7.out.push HJ.out o8 k8 p8 (by have h1 := K61.out.size; exact Nat.le_trans HZ4.out (Nat.le_trans hzw h1)))
                   have X8 := hid (And.intro (X7.out.kp P8.out.2 fun e => NX5.out e) (show v8.ownBlock ≠ some xb from fun e => by
                     rcases p8 with p | p
                     · exact NX5.out (p.symm.trans e)
                     · rw [p] at e
                       injection e with e
                       have h1 := K61.out.size
                       omega))
                   have K8 := hid ((HK5.out.step K61.out fun i _ e => e.elim).step P8.out.2 fun i hi e => (U7.out.st.blk e).1)
                   clear o8 k8 p8))
              go_roundw
              case rel => exact ⟨j + 1, by omega, by go_num, hid ⟨_, by
                have := P8.out.1
                rw [List.append_assoc] at this
                rw [HS5.out]
                unfold lay at this ⊢
                rw [List.map_append]
                exact this⟩, X8, K8⟩
              case measure => simp [vI]; omega
            · have hjj : j = nk := by omega
              subst hjj
              have hst2 : st.reverse ++ lay (d + 1) ((kidsA tl g.id).reverse.take j) = (lay (d + 1) (kidsA tl g.id) ++ st).reverse := by
                rw [List.take_of_length_le (by rw [HNK.out]; omega), List.reverse_append]
                unfold lay
                rw [List.map_reverse]
              rw [hst2] at u5
              obtain ⟨w9, hdel, u9, k9⟩ := u5.del HJ.out hgi 0
              have U9 := hid u9
              have HZ9 := hid (Nat.le_trans HZ4.out (Nat.le_trans hzw k9.size))
              have x9 := HX5.out.1.cell 0
              simp only [List.getElem?_toArray, List.getElem?_cons_zero] at x9
              clear u5 u9 k9 hst2 HU5
              go_wp2_with fail
              go_roundg out.length
              case measure => simp
              case rel =>
                refine ⟨seen ++ [(g, d)], lay (d + 1) (kidsA tl g.id) ++ st, out, O5, rfl, hid ⟨?_, VI.out.1, by rw [VI.out.2, List.append_assoc]; rfl⟩, HZ9⟩
                have hF : (fun z => if z = g.id then [] else if z ∈ seen.map (·.1.id) then [] else (kidsA tl z).reverse) = (fun z => if z ∈ (seen ++ [(g, d)]).map (·.1.id) then [] else (kidsA tl z).reverse) := by
                  funext z
                  rw [List.map_append, List.map_cons, List.map_nil]
                  by_cases h1 : z = g.id
                  · simp [h1]
                  · by_cases h2 : z ∈ seen.map (·.1.id)
                    · rw [if_neg h1, if_pos h2, if_pos (List.mem_append.2 (.inl h2))]
                    · rw [if_neg h1, if_neg h2, if_neg]
                      intro h3
                      rcases List.mem_append.1 h3 with h3 | h3
                      · exact h2 h3
                      · exact h1 (List.mem_singleton.1 h3)
                rw [← hF]
                exact U9.out
end Go.Proofs.YtggmdgdgljlddaaGreat

/-
  Contracts of Order and Tall.
-/
namespace Go.Proofs.YtggmdgdgljlddaaGreat
open Go.RowKit Go.Shelf

/-- A scene that came in: its groups and tasks. -/
def Sce (w : World) (P : Nat → Prop) (v : Value) (gs : List GS) (ts : List TS) : Prop := ∃ vg vt, v = .agg #[vg, vt] ∧ Rw 6 gc gs0 w P vg gs ∧ Rw 8 tc ts0 w P vt ts
theorem Sce.kp {w w' : World} {P S : Nat → Prop} {v : Value} {gs : List GS} {ts : List TS} (h : Sce w P v gs ts) (k : Kp S w w') (hn : ∀ i, i < w.heap.size → P i → ¬ S i) : Sce w' P v gs ts := by
  obtain ⟨vg, vt, rfl, h1, h2⟩ := h
  exact ⟨vg, vt, rfl, h1.kp k hn, h2.kp k hn⟩
theorem Sce.kp0 {w w' : World} {P : Nat → Prop} {v : Value} {gs : List GS} {ts : List TS} (h : Sce w P v gs ts) (k : Kp No w w') : Sce w' P v gs ts := h.kp k fun _ _ _ h => h
/-- What Order has gathered so far, in its own variable. -/
structure OI (w : World) (ob : Nat) (O : Nat → Prop) (seen : List Pl) (sv : Value) (W : World) : Prop where
  kp : Kp No w W
  bx : Blk W ob 25 #[sv, .slice none 0 0]
  ow : Ow W w.heap.size 37 6 gc sv (seen.map (·.1))
  ne : sv.ownBlock ≠ some ob
  no : ¬ O ob
  on : ∀ i, sv.ownBlock = some i → ¬ O i
  ol : ∀ k, O k → w.heap.size ≤ k ∧ k < W.heap.size
  lo : w.heap.size ≤ ob
theorem OI.ab {w : World} {ob : Nat} : AbO (fun O (seen : List Pl) W => ∃ sv, OI w ob O seen sv W) := by
  rintro O O' s W W' ⟨sv, h⟩ hk ho
  have hs := hk.size
  refine ⟨sv, h.kp.step hk (fun i hi e => by have := (h.ol i e).1; omega), h.bx.kp hk h.no, h.ow.kpx hk h.on, h.ne, fun e => ?_, fun i hi e => ?_, fun k e => ?_, h.lo⟩
  · rcases ho _ e with e | e
    · exact h.no e
    · have := h.bx.lt
      omega
  · rcases ho _ e with e | e
    · exact h.on i hi e
    · have := (h.ow.blk hi).2.1
      omega
  · rcases ho _ e with e | e
    · have := h.ol k e
      omega
    · have := h.kp.size
      omega
set_option maxRecDepth 100000 in
set_option maxHeartbeats 1000000 in
theorem order1_see (w : World) (ob : Nat) (all : List Pl) (hall : all.length ≤ 1000001) : See 18 #[.pointer (some ⟨ob, 0, none⟩)] (fun O seen W => ∃ sv, OI w ob O seen sv W) all := by
  rintro O pre ⟨g, d⟩ rest W hx ⟨sv, h⟩
  have hpl : pre.length + 1 ≤ 1000001 := by
    have := congrArg List.length hx
    simp at this
    omega
  have H := hid h
  have hob := h.bx.lt
  have k01 := (Kp.refl No W).alloc (.cells #[.int .i64 g.id, .int .i64 g.par, .int .i64 g.wt, .int .i64 g.pd, .int .i64 g.qt, .int .i64 g.us, .int .i64 (d : Int)] 52)
  have hz1 := World.size_alloc W (.cells #[.int .i64 g.id, .int .i64 g.par, .int .i64 g.wt, .int .i64 g.pd, .int .i64 g.qt, .int .i64 g.us, .int .i64 (d : Int)] 52)
  have x1 := Blk.new W 52 #[.int .i64 g.id, .int .i64 g.par, .int .i64 g.wt, .int .i64 g.pd, .int .i64 g.qt, .int .i64 g.us, .int .i64 (d : Int)]
  obtain ⟨M, hM⟩ : ∃ M, (pre.map (·.1)).length = M := ⟨_, rfl⟩
  have HM := hid hM
  have hMl : M + 1 ≤ 1000001 := by rw [← hM, List.length_map]; exact hpl
  clear h hx hM hpl
  show Calls _ _ #[.agg #[.int .i64 g.id, .int .i64 g.par, .int .i64 g.wt, .int .i64 g.pd, .int .i64 g.qt, .int .i64 g.us, .int .i64 (d : Int)], .pointer (some ⟨ob, 0, none⟩)] W _
  go_enter Tryz.func18, Tryz.ntmps18
  go_upto_region 1 with fail
  obtain ⟨W1, hW1⟩ : ∃ W1, W.alloc (.cells #[.int .i64 g.id, .int .i64 g.par, .int .i64 g.wt, .int .i64 g.pd, .int .i64 g.qt, .int .i64 g.us, .int .i64 (d : Int)] 52) = W1 := ⟨_, rfl⟩
  rw [hW1] at k01 hz1 x1 ⊢
  obtain ⟨xb, hxb⟩ : ∃ xb, W.heap.size = xb := ⟨_, rfl⟩
  rw [hxb] at hz1 x1 ⊢
  have HXB := hid hxb
  have b1 := H.out.bx.kp0 k01
  have hb0 := b1.cell 0
  have x10 := x1.cell 0
  have x11 := x1.cell 1
  have x12 := x1.cell 2
  have x13 := x1.cell 3
  have x14 := x1.cell 4
  have x15 := x1.cell 5
  simp only [List.getElem?_toArray, List.getElem?_cons_zero, List.getElem?_cons_succ] at hb0 x10 x11 x12 x13 x14 x15
  have k12 := k01.alloc (.cells #[.int .i64 g.id, .int .i64 g.par, .int .i64 g.wt, .int .i64 g.pd, .int .i64 g.qt, .int .i64 g.us] 37)
  have z2 := Blk.new W1 37 #[.int .i64 g.id, .int .i64 g.par, .int .i64 g.wt, .int .i64 g.pd, .int .i64 g.qt, .int .i64 g.us]
  have hz2 := World.size_alloc W1 (.cells #[.int .i64 g.id, .int .i64 g.par, .int .i64 g.wt, .int .i64 g.pd, .int .i64 g.qt, .int .i64 g.us] 37)
  rw [hz1] at z2 hz2
  have Z2 := hid z2
  have K2 := hid k12
  clear hW1 hxb k01 x1 b1 z2 k12
  go_wp2_with (first
    | (at_builtin
       refine wp_app1 usG gc_one rfl (.tmp 4) (.tmp 7) rfl (base := w.heap.size) (y := g) (by exact H.out.ow.kp0 K2.out) rfl (by
         intro i hi
         match i, hi with
         | 0, _ => exact Z2.out.cell 0
         | 1, _ => exact Z2.out.cell 1
         | 2, _ => exact Z2.out.cell 2
         | 3, _ => exact Z2.out.cell 3
         | 4, _ => exact Z2.out.cell 4
         | 5, _ => exact Z2.out.cell 5) (by rw [HM.out]; omega) (by rw [HM.out]; simp only [maxLen]; omega) (by have h1 := H.out.kp.size; have h2 := K2.out.size; omega) ?_
       intro v8 w8 o8 k8 p8
       have kB := (Kp.refl (fun i => sv.ownBlock = some i) _).grown k8 fun k hk => .inl hk
       have b8 := (H.out.bx.kp0 K2.out).kp kB fun e => H.out.ne e
       have f8 : w8.frozen? ⟨ob, 0, none⟩ = false := b8.frozen 0
       have c8 := b8.cell 0
       simp only [List.getElem?_toArray, List.getElem?_cons_zero] at c8
       have B8 := hid b8
       have O8 := hid o8
       have KB := hid kB
       have P8 := hid p8
       obtain ⟨A8, q8, rfl⟩ := o8.formN (m := M + 1) (by rw [List.length_append, HM.out]; rfl)
       clear o8 k8 p8 b8 kB))
  go_end0
  have kS := Kp.set1 ob 0 w8 (.slice A8 (M + 1) q8)
  have hz8 := KB.out.size
  have hk2 := K2.out.size
  have hne : (Value.slice A8 (M + 1) q8).ownBlock ≠ some ob := fun e => by
    rcases P8.out with p | p
    · exact H.out.ne (p ▸ e)
    · rw [p] at e
      injection e with e
      omega
  have kT : Kp (fun i => i = ob ∨ sv.ownBlock = some i) W (w8.setCell ⟨ob, 0, none⟩ (.slice A8 (M + 1) q8)) := ((K2.out.all).trans (KB.out.mono fun i _ e => .inr e)).trans (kS.mono fun i _ e => .inl e)
  refine ⟨⟨_, rfl⟩, ⟨_, H.out.kp.step kT (fun i hi e => ?_), B8.out.put 0 _, ?_, hne, H.out.no, fun i hi e => ?_, fun k hk => ?_, H.out.lo⟩, kT.mono fun i _ e => ?_⟩
  · rcases e with e | e
    · have := H.out.lo
      omega
    · have := (H.out.ow.blk e).1
      omega
  · rw [List.map_append]
    exact O8.out.kpx kS fun i hi e => hne (by rw [hi]; exact congrArg some e)
  · rcases P8.out with p | p
    · exact H.out.on i (p ▸ hi) e
    · rw [p] at hi
      injection hi with hi
      have := (H.out.ol i e).2
      have := HXB.out
      omega
  · have := H.out.ol k hk
    have := kT.size
    omega
  · rcases e with e | e
    · exact fun h => H.out.no (e ▸ h)
    · exact fun h => H.out.on i e h
set_option maxRecDepth 100000 in
set_option maxHeartbeats 2000000 in
theorem order_any {w : World} {P : Nat → Prop} {v : Value} {gs : List GS} {ts : List TS} (h : Sce w P v gs ts) (hl : gs.length ≤ 1000000) (hlt : ts.length ≤ 1000000) (hp : ∀ g ∈ gs, I64 g.id ∧ I64 g.par) (hnd : (gs.map (·.id)).Nodup) (hndt : (ts.map (·.id)).Nodup) :
    Calls Tryz.prog 8 #[v] w fun e w' => ∃ ug ut, e = .returned (.agg #[ug, ut]) ∧ Ow w' w.heap.size 37 6 gc ug (orderG gs) ∧ Ow w' w.heap.size 41 8 tc ut (srtT ts) ∧ Kp No w w' := by
  obtain ⟨vg, vt, rfl, hg, ht⟩ := h
  have hall : (visits gs).length ≤ 1000001 := by
    cases gs with
    | nil => simp [visits]
    | cons g0 tl =>
      have := (visits_is hnd).2.2.2
      simp at hl
      omega
  have hvt : vt.oneCell' = true := by
    obtain ⟨A, c, rfl, _⟩ := ht
    rfl
  have k1 := (Kp.refl No w).alloc (.cells #[vg, vt] 25)
  have b1 := Blk.new w 25 #[vg, vt]
  have z1 := World.size_alloc w (.cells #[vg, vt] 25)
  obtain ⟨w1, hw1⟩ : ∃ w1, w.alloc (.cells #[vg, vt] 25) = w1 := ⟨_, rfl⟩
  have k2 := (Kp.refl No w1).alloc (.cells #[.slice none 0 0, .slice none 0 0] 25)
  have b2 := Blk.new w1 25 #[.slice none 0 0, .slice none 0 0]
  have z2 := World.size_alloc w1 (.cells #[.slice none 0 0, .slice none 0 0] 25)
  rw [hw1] at k1 b1 z1
  rw [z1] at b2 z2
  obtain ⟨w2, hw2⟩ : ∃ w2, w1.alloc (.cells #[.slice none 0 0, .slice none 0 0] 25) = w2 := ⟨_, rfl⟩
  rw [hw2] at k2 b2 z2
  have k3 := (Kp.refl No w2).alloc (.cells #[.slice none 0 0, .slice none 0 0] 25)
  have b3 := Blk.new w2 25 #[.slice none 0 0, .slice none 0 0]
  have z3 := World.size_alloc w2 (.cells #[.slice none 0 0, .slice none 0 0] 25)
  rw [z2] at b3 z3
  obtain ⟨w3, hw3⟩ : ∃ w3, w2.alloc (.cells #[.slice none 0 0, .slice none 0 0] 25) = w3 := ⟨_, rfl⟩
  rw [hw3] at k3 b3 z3
  have K3 := hid ((k1.trans k2).trans k3)
  have B1 := hid ((b1.kp0 k2).kp0 k3)
  have B2 := hid (b2.kp0 k3)
  have HG := hid (((hg.kp0 k1).kp0 k2).kp0 k3)
  have HT0 := hid ((ht.kp0 k1).kp0 k2)
  have I3 := hid (show OI w2 (w.heap.size + 1 + 1) No [] (.slice none 0 0) w3 from ⟨k3, b3, Ow.nil _ _ _ _ _, (fun e => by cases e), (fun e => e), (fun i e => by cases e), (fun k e => e.elim), by omega⟩)
  have K2 := hid (k1.trans k2)
  have C1 := hid (b1.kp0 k2)
  have C2 := hid b2
  have Z2 := hid z2
  have HU := hid (under_any (gf := 18) (lb := #[.pointer (some ⟨w.heap.size + 1 + 1, 0, none⟩)]) HG.out hl hp hnd OI.ab ⟨_, I3.out⟩ (order1_see w2 (w.heap.size + 1 + 1) _ hall) (enters_of Tryz.func18 (by kernel_rfl) rfl))
  have HNT := hid hndt
  have HLT := hid hlt
  have EGT := hid (show ∀ args w, (callFunc 40 args).run Tryz.prog w = .ok (.enter 40 args) w from enters_of Tryz.func40 (by kernel_rfl) rfl)
  have s0 := B1.out.cell 0
  simp only [List.getElem?_toArray, List.getElem?_cons_zero] at s0
  clear k1 k2 k3 b1 b2 b3 hg ht hall hp hnd hndt hl hlt
  go_enter Tryz.func8, Tryz.ntmps8
  go_upto_region 2 with fail
  clear hw1 hw2 hw3
  go_wp2_with (first
    | (go_at_call 17
       refine HU.out.mono ?_
       rintro e w4 ⟨⟨r, rfl⟩, O, ⟨sv, i4⟩, o4⟩
       obtain ⟨ng, hng⟩ : ∃ ng, ((visits gs).map (·.1)).length = ng := ⟨_, rfl⟩
       obtain ⟨As, cs, rfl⟩ := i4.ow.formN hng
       have I4 := hid i4
       have D1 := hid (C1.out.kp0 i4.kp)
       have D2 := hid (C2.out.kp0 i4.kp)
       have K4 := hid (K2.out.trans i4.kp)
       have z4 := i4.bx.lt
       have s1 := D1.out.cell 1
       simp only [List.getElem?_toArray, List.getElem?_cons_zero, List.getElem?_cons_succ] at s1
       have ht4 := HT0.out.kp0 i4.kp
       obtain ⟨b, hb, sq⟩ := ht4.seqT (by have := HLT.out; omega)
       have SQ := hid sq
       have HBB := hid hb
       have k45 := (Kp.refl No w4).alloc (.cells #[vt] 23)
       have z45 := World.size_alloc w4 (.cells #[vt] 23)
       have K45 := hid k45
       clear i4 ht4 hb sq k45 hng)
    | (go_at_call 20
       refine (valuesT_any vt hvt w4).mono ?_
       rintro e w5 ⟨rfl, rfl⟩)
    | (go_at_call 19
       refine (sortedfT_any SQ.out EGT.out (fun k hk => by have := HBB.out; rw [z45]; rcases hk with rfl | rfl <;> omega) (by have := HLT.out; omega)).mono ?_
       rintro e w6 ⟨ut, zs, rfl, o6, p6, q6, k6⟩
       obtain ⟨nz, hnz⟩ : ∃ nz, zs.length = nz := ⟨_, rfl⟩
       obtain ⟨Au, cu, rfl⟩ := o6.formN hnz
       have k46 := K45.out.trans k6
       have I6 := hid (show OI w2 (w.heap.size + 1 + 1) No (visits gs) (.slice As ng cs) w6 from ⟨I4.out.kp.trans k46, I4.out.bx.kp0 k46, I4.out.ow.kp0 k46, I4.out.ne, (fun e => e), (fun i e h => h), (fun k e => e.elim), I4.out.lo⟩)
       have O6 := hid o6
       have E6 := hid (rising HNT.out p6 q6)
       have c6 := I6.out.bx.cell 0
       have f60 := I6.out.bx.frozen 0
       have f61 := I6.out.bx.frozen 1
       have c61 := I6.out.bx.cell 1
       have KS := Kp.set1 (w.heap.size + 1 + 1) 1 w6 (.slice Au nz cu)
       have B7 := I6.out.bx.put 1 (.slice Au nz cu)
       have NU := hid (show ∀ i, (Value.slice Au nz cu).ownBlock = some i → w4.heap.size + 1 ≤ i from fun i hi => by rw [← z45]; exact (o6.blk hi).1)
       have D7 := (D2.out.kp0 k46).kp KS (by show ¬ (w.heap.size + 1 = w.heap.size + 1 + 1); omega)
       have r70 := D7.cell 0
       have r71 := D7.cell 1
       have g70 := D7.frozen 0
       have g71 := D7.frozen 1
       have b70 := B7.cell 0
       have b71 := B7.cell 1
       simp only [List.getElem?_toArray, List.getElem?_cons_zero, List.getElem?_cons_succ, List.setIfInBounds_toArray, List.set_cons_zero, List.set_cons_succ] at c6 c61 r70 r71 b70 b71
       have K46 := hid k46
       clear o6 p6 q6 k6 k46 KS B7 D7 hnz))
  have kS := Kp.set1 (w.heap.size + 1 + 1) 1 w6 (.slice Au nz cu)
  have hns : ∀ i, (Value.slice As ng cs).ownBlock = some i → w.heap.size + 1 + 1 < i := fun i hi => by
    have h1 := (I6.out.ow.blk hi).1
    have h2 := Z2.out
    have h3 := I6.out.ne
    rw [hi] at h3
    have : i ≠ w.heap.size + 1 + 1 := fun e => h3 (congrArg some e)
    omega
  have hnu : ∀ i, (Value.slice Au nz cu).ownBlock = some i → w.heap.size + 1 + 1 < i := fun i hi => by
    have h1 := NU.out i hi
    omega
  have fin : ∀ W, Kp (fun i => i = w.heap.size + 1 + 1 ∨ i = w.heap.size + 1) w6 W → Ow W w.heap.size 37 6 gc (.slice As ng cs) (orderG gs) ∧ Ow W w.heap.size 41 8 tc (.slice Au nz cu) (srtT ts) ∧ Kp No w W := fun W k => by
    have h2 := Z2.out
    refine ⟨(I6.out.ow.lower (by omega)).kpx k fun i hi e => by have := hns i hi; omega, ?_, ((K2.out.trans I6.out.kp).step k fun i hi e => by omega)⟩
    rw [← E6.out]
    exact (O6.out.lower (by rw [z45]; omega)).kpx k fun i hi e => by have := hnu i hi; omega
  refine bodyPost_ret (v := .agg #[.slice As ng cs, .slice Au nz cu]) ?_ rfl ⟨_, _, rfl, fin _ ?_⟩
  · rw [results_cell rfl]
    go_simp
  exact ((kS.mono fun i _ e => .inl e).setCell (p := ⟨w.heap.size + 1, 0, none⟩) (.inl (.inr rfl)) _).setCell (p := ⟨w.heap.size + 1, 1, none⟩) (.inl (.inr rfl)) _
end Go.Proofs.YtggmdgdgljlddaaGreat

/-
  Contract of Tall.
-/
namespace Go.Proofs.YtggmdgdgljlddaaGreat
open Go.RowKit Go.Shelf

def tl (seen : List Pl) : Nat := seen.foldl (fun m p => max m p.2) 0
theorem tl_snoc (seen : List Pl) (x : Pl) : tl (seen ++ [x]) = max (tl seen) x.2 := by simp [tl]
/-- What Tall has so far, in its own variable. -/
structure TI (w : World) (tb : Nat) (O : Nat → Prop) (seen : List Pl) (W : World) : Prop where
  kp : Kp No w W
  bx : Blk W tb 3 #[.int .i64 (tl seen : Int)]
  no : ¬ O tb
  ol : ∀ k, O k → w.heap.size ≤ k ∧ k < W.heap.size
  lo : w.heap.size ≤ tb
theorem TI.ab {w : World} {tb : Nat} : AbO (TI w tb) := by
  rintro O O' s W W' h hk ho
  have hs := hk.size
  refine ⟨h.kp.step hk (fun i hi e => by have := (h.ol i e).1; omega), h.bx.kp hk h.no, fun e => ?_, fun k e => ?_, h.lo⟩
  · rcases ho _ e with e | e
    · exact h.no e
    · have := h.bx.lt
      omega
  · rcases ho _ e with e | e
    · have := h.ol k e
      omega
    · have := h.kp.size
      omega
set_option maxRecDepth 100000 in
set_option maxHeartbeats 1000000 in
theorem tall1_see (w : World) (tb : Nat) (all : List Pl) : See 23 #[.pointer (some ⟨tb, 0, none⟩)] (TI w tb) all := by
  rintro O pre ⟨g, d⟩ rest W hx h
  have H := hid h
  have hob := h.bx.lt
  have k01 := (Kp.refl No W).alloc (.cells #[.int .i64 g.id, .int .i64 g.par, .int .i64 g.wt, .int .i64 g.pd, .int .i64 g.qt, .int .i64 g.us, .int .i64 (d : Int)] 52)
  have hz1 := World.size_alloc W (.cells #[.int .i64 g.id, .int .i64 g.par, .int .i64 g.wt, .int .i64 g.pd, .int .i64 g.qt, .int .i64 g.us, .int .i64 (d : Int)] 52)
  have x1 := Blk.new W 52 #[.int .i64 g.id, .int .i64 g.par, .int .i64 g.wt, .int .i64 g.pd, .int .i64 g.qt, .int .i64 g.us, .int .i64 (d : Int)]
  have hT := tl_snoc pre (g, d)
  obtain ⟨t, ht⟩ : ∃ t, tl pre = t := ⟨_, rfl⟩
  simp only [ht] at hT
  have HT := hid hT
  have BX := h.bx
  rw [ht] at BX
  have BXH := hid BX
  clear h hx ht hT BX
  show Calls _ _ #[.agg #[.int .i64 g.id, .int .i64 g.par, .int .i64 g.wt, .int .i64 g.pd, .int .i64 g.qt, .int .i64 g.us, .int .i64 (d : Int)], .pointer (some ⟨tb, 0, none⟩)] W _
  go_enter Tryz.func23, Tryz.ntmps23
  go_upto_region 1 with fail
  obtain ⟨W1, hW1⟩ : ∃ W1, W.alloc (.cells #[.int .i64 g.id, .int .i64 g.par, .int .i64 g.wt, .int .i64 g.pd, .int .i64 g.qt, .int .i64 g.us, .int .i64 (d : Int)] 52) = W1 := ⟨_, rfl⟩
  rw [hW1] at k01 hz1 x1 ⊢
  obtain ⟨xb, hxb⟩ : ∃ xb, W.heap.size = xb := ⟨_, rfl⟩
  rw [hxb] at hz1 x1 ⊢
  have b1 := BXH.out.kp0 k01
  have hb0 := b1.cell 0
  have fb0 : W1.frozen? ⟨tb, 0, none⟩ = false := b1.frozen 0
  have x16 := x1.cell 6
  simp only [List.getElem?_toArray, List.getElem?_cons_zero, List.getElem?_cons_succ] at hb0 x16
  have B1 := hid b1
  have K01 := hid k01
  clear hW1 hxb k01 x1 b1
  go_wp2
  go_end0
  have e : ((max t d : Nat) : Int) = max (t : Int) (d : Int) := by omega
  have kS := Kp.set1 tb 0 W1 (.int .i64 (max (t : Int) (d : Int)))
  have kT : Kp (Only tb) W (W1.setCell ⟨tb, 0, none⟩ (.int .i64 (max (t : Int) (d : Int)))) := K01.out.all.trans kS
  refine ⟨⟨_, rfl⟩, ⟨H.out.kp.step kT (fun i hi e => ?_), ?_, H.out.no, fun k hk => ?_, H.out.lo⟩, kT.mono fun i _ e => ?_⟩
  · have := H.out.lo
    have e : i = tb := e
    omega
  · rw [HT.out]
    show Blk _ tb 3 #[.int .i64 ((max t d : Nat) : Int)]
    rw [e]
    exact B1.out.put 0 _
  · have := H.out.ol k hk
    have := kT.size
    omega
  · rw [show i = tb from e]
    exact H.out.no
set_option maxRecDepth 100000 in
set_option maxHeartbeats 2000000 in
theorem tall_any {w : World} {P : Nat → Prop} {v : Value} {gs : List GS} {ts : List TS} (h : Sce w P v gs ts) (hl : gs.length ≤ 1000000) (hp : ∀ g ∈ gs, I64 g.id ∧ I64 g.par) (hnd : (gs.map (·.id)).Nodup) :
    Calls Tryz.prog 9 #[v] w fun e w' => e = .returned (.int .i64 (tallG gs : Int)) ∧ Kp No w w' := by
  obtain ⟨vg, vt, rfl, hg, ht⟩ := h
  have k1 := (Kp.refl No w).alloc (.cells #[vg, vt] 25)
  have b1 := Blk.new w 25 #[vg, vt]
  have z1 := World.size_alloc w (.cells #[vg, vt] 25)
  obtain ⟨w1, hw1⟩ : ∃ w1, w.alloc (.cells #[vg, vt] 25) = w1 := ⟨_, rfl⟩
  rw [hw1] at k1 b1 z1
  have k2 := (Kp.refl No w1).alloc (.cells #[.int .i64 0] 3)
  have b2 := Blk.new w1 3 #[.int .i64 0]
  have z2 := World.size_alloc w1 (.cells #[.int .i64 0] 3)
  rw [z1] at b2 z2
  obtain ⟨w2, hw2⟩ : ∃ w2, w1.alloc (.cells #[.int .i64 0] 3) = w2 := ⟨_, rfl⟩
  rw [hw2] at k2 b2 z2
  have t20 := b2.cell 0
  have f20 : w2.frozen? ⟨w.heap.size + 1, 0, none⟩ = false := b2.frozen 0
  simp only [List.getElem?_toArray, List.getElem?_cons_zero] at t20
  have b3 := b2.put 0 (.int .i64 0)
  have k3 := k2.step (Kp.set1 (w.heap.size + 1) 0 w2 (.int .i64 0)) (fun i hi e => by have e : i = w.heap.size + 1 := e; omega)
  obtain ⟨w3, hw3⟩ : ∃ w3, w2.setCell ⟨w.heap.size + 1, 0, none⟩ (.int .i64 0) = w3 := ⟨_, rfl⟩
  rw [hw3] at k3 b3
  have K2 := hid (k1.trans k3)
  have B1 := hid (b1.kp0 k3)
  have HG := hid ((hg.kp0 k1).kp0 k3)
  have I2 := hid (show TI w1 (w.heap.size + 1) No [] w3 from ⟨k3, b3, (fun e => e), (fun k e => e.elim), by omega⟩)
  have HU := hid (under_any (gf := 23) (lb := #[.pointer (some ⟨w.heap.size + 1, 0, none⟩)]) HG.out hl hp hnd TI.ab I2.out (tall1_see w1 (w.heap.size + 1) _) (enters_of Tryz.func23 (by kernel_rfl) rfl))
  have K1 := hid k1
  have s0 := B1.out.cell 0
  simp only [List.getElem?_toArray, List.getElem?_cons_zero] at s0
  have hgt : tallG gs = tl (visits gs) := rfl
  rw [hgt]
  clear k1 k2 k3 b1 b2 b3 hg ht hp hnd hl
  go_enter Tryz.func9, Tryz.ntmps9
  go_upto_region 2 with fail
  clear hw1 hw2 hw3 t20 f20
  go_wp2_with (first
    | (go_at_call 17
       refine HU.out.mono ?_
       rintro e w4 ⟨⟨r, rfl⟩, O, i4, o4⟩
       have c4 := i4.bx.cell 0
       simp only [List.getElem?_toArray, List.getElem?_cons_zero] at c4
       have K4 := hid (K1.out.trans i4.kp)
       clear i4 o4))
  go_ret
  exact ⟨rfl, K4.out⟩
end Go.Proofs.YtggmdgdgljlddaaGreat

/-
  Contract of Ids.
-/
namespace Go.Proofs.YtggmdgdgljlddaaGreat
open Go.RowKit Go.Shelf

def idsOf (gs : List GS) (ts : List TS) : List Int := gs.map (·.id) ++ ts.map (·.id)
set_option maxRecDepth 100000 in
set_option maxHeartbeats 1000000 in
theorem ids_any {w : World} {P : Nat → Prop} {v : Value} {gs : List GS} {ts : List TS} (h : Sce w P v gs ts) (hl : gs.length ≤ 1000000) (hlt : ts.length ≤ 1000000) :
    Calls Tryz.prog 7 #[v] w fun e w' => ∃ u, e = .returned u ∧ Ow w' w.heap.size 3 1 zI u (idsOf gs ts) ∧ Kp No w w' := by
  obtain ⟨vg, vt, rfl, hg, ht⟩ := h
  have k1 := (Kp.refl No w).alloc (.cells #[vg, vt] 25)
  have b1 := Blk.new w 25 #[vg, vt]
  have z1 := World.size_alloc w (.cells #[vg, vt] 25)
  obtain ⟨w1, hw1⟩ : ∃ w1, w.alloc (.cells #[vg, vt] 25) = w1 := ⟨_, rfl⟩
  rw [hw1] at k1 b1 z1
  have K1 := hid k1
  have B1 := hid b1
  obtain ⟨A, c, rfl, hx1, hx2, _⟩ := id hg
  obtain ⟨A2, c2, rfl, hx3, hx4, _⟩ := id ht
  have HG := hid (hg.kp0 k1)
  have HT := hid (ht.kp0 k1)
  obtain ⟨n, hn⟩ : ∃ n, gs.length = n := ⟨_, rfl⟩
  obtain ⟨m, hm⟩ : ∃ m, ts.length = m := ⟨_, rfl⟩
  rw [hn] at HG hl b1 B1 hw1 ⊢
  rw [hm] at HT hlt B1 hw1 b1 ⊢
  have HN := hid hn
  have HM := hid hm
  have s0 := b1.cell 0
  have s1 := b1.cell 1
  simp only [List.getElem?_toArray, List.getElem?_cons_zero, List.getElem?_cons_succ] at s0 s1
  clear k1 b1 hg ht hn hm hx1 hx2 hx3 hx4
  go_enter Tryz.func7, Tryz.ntmps7
  go_upto_region 2 with fail
  clear hw1
  go_wp2_with fail
  go_loopw [3, 11] (fun u i wr => ∃ k : Nat, k ≤ n ∧ i = .int .i64 (k : Int) ∧ Hid (Ow wr w1.heap.size 3 1 zI u ((gs.take k).map (·.id))) ∧ Hid (Kp No w1 wr)) (fun _ i _ => n - (vI i).toNat)
  case atStart => exact ⟨0, Nat.zero_le _, rfl, hid (Ow.nil _ _ _ _ _), hid (Kp.refl _ _)⟩
  case round =>
    obtain ⟨k, hk, rfl, HO, KW⟩ := hrel
    have Bw := B1.out.kp0 KW.out
    have s0 := Bw.cell 0
    have s1 := Bw.cell 1
    simp only [List.getElem?_toArray, List.getElem?_cons_zero, List.getElem?_cons_succ] at s0 s1
    clear Bw
    by_cases hkn : k < n
    · have hkl : k < gs.length := by rw [HN.out]; exact hkn
      have Ov := HG.out.kp0 KW.out
      obtain ⟨b, off, rfl⟩ := Ov.there (by omega)
      have q0 := Ov.cell (j := k) (i := 0) (Kp.refl No _) hkl (by omega) rfl
      have q1 := Ov.cell (j := k) (i := 1) (Kp.refl No _) hkl (by omega) rfl
      have q2 := Ov.cell (j := k) (i := 2) (Kp.refl No _) hkl (by omega) rfl
      have q3 := Ov.cell (j := k) (i := 3) (Kp.refl No _) hkl (by omega) rfl
      have q4 := Ov.cell (j := k) (i := 4) (Kp.refl No _) hkl (by omega) rfl
      have q5 := Ov.cell (j := k) (i := 5) (Kp.refl No _) hkl (by omega) rfl
      have HS := hid (take_s gs hkl gs0)
      obtain ⟨x, hx⟩ : ∃ x, gs.getD k gs0 = x := ⟨_, rfl⟩
      rw [hx] at q0 q1 q2 q3 q4 q5 HS
      simp only [gc, ge, List.getD_cons_zero, List.getD_cons_succ, Nat.add_zero] at q0 q1 q2 q3 q4 q5
      simp only [← Nat.add_assoc] at q1 q2 q3 q4 q5
      have hlen : ((gs.take k).map (·.id)).length = k := by rw [List.length_map, List.length_take]; omega
      have HL := hid hlen
      have hg1 : (k : Int) < (n : Int) := by omega
      have hwk := wrapI (x := (k : Int) + 1) (by unfold I64; omega)
      have KA := hid ((KW.out.alloc (.cells #[.int .i64 x.id, .int .i64 x.par, .int .i64 x.wt, .int .i64 x.pd, .int .i64 x.qt, .int .i64 x.us] 37)).alloc (.cells #[.int .i64 x.id] 3))
      have OA := hid (HO.out.kp0 (((Kp.refl No wr).alloc (.cells #[.int .i64 x.id, .int .i64 x.par, .int .i64 x.wt, .int .i64 x.pd, .int .i64 x.qt, .int .i64 x.us] 37)).alloc (.cells #[.int .i64 x.id] 3)))
      have z0 := (Blk.new (wr.alloc (.cells #[.int .i64 x.id, .int .i64 x.par, .int .i64 x.wt, .int .i64 x.pd, .int .i64 x.qt, .int .i64 x.us] 37)) 3 #[.int .i64 x.id]).cell 0
      rw [World.size_alloc] at z0
      have HZ := hid z0
      clear Ov hx hlen z0
      go_wp2_with (first
        | (at_builtin
           refine wp_app1 usI zI_one rfl (.tmp 15) (.tmp 18) rfl (base := w1.heap.size) (xs := (gs.take k).map (·.id)) (y := x.id) (by exact OA.out) rfl (by
             intro i hi
             match i, hi with
             | 0, _ => exact HZ.out) (by rw [HL.out]; omega) (by rw [HL.out]; simp only [maxLen]; omega) (by exact KA.out.size) ?_
           intro v5 w5 o5 k5 p5
           have O5 := hid o5
           have K5 := hid (KA.out.grown k5 fun i hi => .inr (OA.out.blk hi).1)
           clear o5 k5 p5))
      go_roundw
      case rel => exact ⟨k + 1, by omega, by go_num, hid (by rw [HS.out, List.map_append]; exact O5.out), K5⟩
      case measure => simp [vI]; omega
    · have hkk : k = n := by omega
      subst hkk
      have hng : ¬ (k : Int) < (k : Int) := by omega
      have O1 := HO.out
      rw [List.take_of_length_le (by rw [HN.out]; omega)] at O1
      have OG := hid O1
      clear O1 HO HG
      go_wp2_with fail
      go_loopw [3, 24] (fun u i wr => ∃ k : Nat, k ≤ m ∧ i = .int .i64 (k : Int) ∧ Hid (Ow wr w1.heap.size 3 1 zI u (gs.map (·.id) ++ (ts.take k).map (·.id))) ∧ Hid (Kp No w1 wr)) (fun _ i _ => m - (vI i).toNat)
      case atStart => exact ⟨0, Nat.zero_le _, rfl, hid (by simpa using OG.out), KW⟩
      case round =>
        obtain ⟨k2, hk2, rfl, HO2, KW2⟩ := hrel
        by_cases hkn2 : k2 < m
        · have hkl : k2 < ts.length := by rw [HM.out]; exact hkn2
          have Ov := HT.out.kp0 KW2.out
          obtain ⟨b, off, rfl⟩ := Ov.there (by omega)
          have q0 := Ov.cell (j := k2) (i := 0) (Kp.refl No _) hkl (by omega) rfl
          have q1 := Ov.cell (j := k2) (i := 1) (Kp.refl No _) hkl (by omega) rfl
          have q2 := Ov.cell (j := k2) (i := 2) (Kp.refl No _) hkl (by omega) rfl
          have q3 := Ov.cell (j := k2) (i := 3) (Kp.refl No _) hkl (by omega) rfl
          have q4 := Ov.cell (j := k2) (i := 4) (Kp.refl No _) hkl (by omega) rfl
          have q5 := Ov.cell (j := k2) (i := 5) (Kp.refl No _) hkl (by omega) rfl
          have q6 := Ov.cell (j := k2) (i := 6) (Kp.refl No _) hkl (by omega) rfl
          have q7 := Ov.cell (j := k2) (i := 7) (Kp.refl No _) hkl (by omega) rfl
          have HS := hid (take_s ts hkl ts0)
          obtain ⟨x, hx⟩ : ∃ x, ts.getD k2 ts0 = x := ⟨_, rfl⟩
          rw [hx] at q0 q1 q2 q3 q4 q5 q6 q7 HS
          simp only [tc, te, List.getD_cons_zero, List.getD_cons_succ, Nat.add_zero] at q0 q1 q2 q3 q4 q5 q6 q7
          simp only [← Nat.add_assoc] at q1 q2 q3 q4 q5 q6 q7
          have hlen : (gs.map (·.id) ++ (ts.take k2).map (·.id)).length = k + k2 := by rw [List.length_append, List.length_map, List.length_map, List.length_take, HN.out]; omega
          have HL := hid hlen
          have hg2 : (k2 : Int) < (m : Int) := by omega
          have hwk := wrapI (x := (k2 : Int) + 1) (by unfold I64; omega)
          have KA := hid ((KW2.out.alloc (.cells #[.int .i64 x.id, .int .i64 x.gr, .int .i64 x.wt, .int .u64 x.co, .bool x.sl, .int .i64 x.ra, .int .i64 x.lv, .int .i64 x.lr] 41)).alloc (.cells #[.int .i64 x.id] 3))
          have OA := hid (HO2.out.kp0 (((Kp.refl No wr).alloc (.cells #[.int .i64 x.id, .int .i64 x.gr, .int .i64 x.wt, .int .u64 x.co, .bool x.sl, .int .i64 x.ra, .int .i64 x.lv, .int .i64 x.lr] 41)).alloc (.cells #[.int .i64 x.id] 3)))
          have z0 := (Blk.new (wr.alloc (.cells #[.int .i64 x.id, .int .i64 x.gr, .int .i64 x.wt, .int .u64 x.co, .bool x.sl, .int .i64 x.ra, .int .i64 x.lv, .int .i64 x.lr] 41)) 3 #[.int .i64 x.id]).cell 0
          rw [World.size_alloc] at z0
          have HZ := hid z0
          clear Ov hx hlen z0
          go_wp2_with (first
            | (at_builtin
               refine wp_app1 usI zI_one rfl (.tmp 28) (.tmp 31) rfl (base := w1.heap.size) (xs := gs.map (·.id) ++ (ts.take k2).map (·.id)) (y := x.id) (by exact OA.out) rfl (by
                 intro i hi
                 match i, hi with
                 | 0, _ => exact HZ.out) (by rw [HL.out]; omega) (by rw [HL.out]; simp only [maxLen]; omega) (by exact KA.out.size) ?_
               intro v5 w5 o5 k5 p5
               have O5 := hid o5
               have K5 := hid (KA.out.grown k5 fun i hi => .inr (OA.out.blk hi).1)
               clear o5 k5 p5))
          go_roundw
          case rel => exact ⟨k2 + 1, by omega, by go_num, hid (by rw [HS.out, List.map_append, ← List.append_assoc]; exact O5.out), K5⟩
          case measure => simp [vI]; omega
        · have hkk : k2 = m := by omega
          subst hkk
          have hng2 : ¬ (k2 : Int) < (k2 : Int) := by omega
          go_wp2
          go_ret
          have h1 := HO2.out
          rw [List.take_of_length_le (by rw [HM.out]; omega)] at h1
          exact ⟨_, rfl, h1.lower K1.out.size, K1.out.trans KW2.out⟩
end Go.Proofs.YtggmdgdgljlddaaGreat
