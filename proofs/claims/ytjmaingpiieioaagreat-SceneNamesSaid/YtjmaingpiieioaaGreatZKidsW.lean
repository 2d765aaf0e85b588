/-
  Contract of kids: the walk.
-/
import Derived.Test.YtjmaingpiieioaaGreatZKids
import Derived.Deep.RegionLaw
namespace Go.Proofs.YtjmaingpiieioaaGreat
open Go.RowKit Go.Shelf

def KidsPost (gs : List GS) (w : World) (e : Ending) (w' : World) : Prop :=
  ∃ m f cnt ys, e = .returned (.map (some m)) ∧ ys.Perm gs ∧ ys.Pairwise (fun a b => b.id ≤ a.id) ∧ Km w' w.heap.size m f (below ys) cnt ∧ w.heap.size ≤ m ∧ Kp No w w'
set_option maxHeartbeats 2000000 in
set_option maxRecDepth 100000 in
theorem kids_any {w : World} {P : Nat → Prop} {v : Value} {gs : List GS} (h : Rw 6 gc gs0 w P v gs) (hl : gs.length ≤ 1000000) (hp : ∀ g ∈ gs, I64 g.par) :
    Calls Tryz.prog 61 #[v] w (KidsPost gs w) := by
  have hv1 : v.oneCell' = true := by
    obtain ⟨A, c, rfl, _⟩ := h
    rfl
  have k1 := (Kp.refl No w).alloc (.map #[] 0)
  have M1 := hid (Mk.new (P := Tryz.prog) (tk := 3) (ev := rsl) (enc := renc) w)
  obtain ⟨b, hb, sq⟩ := (h.kp0 k1).seqG (by omega)
  have hz1 : (w.alloc (.map #[] 0)).heap.size = w.heap.size + 1 := World.size_alloc _ _
  rw [hz1] at sq hb
  have SQ := hid sq
  have HP := hid hp
  have eg : ∀ args w, (callFunc 88 args).run Tryz.prog w = .ok (.enter 88 args) w := enters_of Tryz.func88 (by kernel_rfl) rfl
  have EG := hid eg
  have k2 := k1.alloc (.cells #[v] 22)
  have hz2 : ((w.alloc (.map #[] 0)).alloc (.cells #[v] 22)).heap.size = w.heap.size + 1 + 1 := by rw [World.size_alloc, hz1]
  have M2 := hid (M1.out.kp0 ((Kp.refl No _).alloc (.cells #[v] 22)))
  have K2 := hid k2
  have HL := hid hl
  have HRd := hid (fun k (hk : k = w.heap.size + 1 ∨ k = b) => show k < ((w.alloc (.map #[] 0)).alloc (.cells #[v] 22)).heap.size by rw [hz2]; rcases hk with rfl | rfl <;> omega)
  have hmm := @run_makeMap Tryz.prog
  clear h sq eg hp k1 k2 hl hb M1
  go_enter Tryz.func61, Tryz.ntmps61
  go_wp2_with (first
    | (go_at_call 75
       refine (valuesG_any v hv1 _).mono ?_
       rintro e w2 ⟨rfl, rfl⟩)
    | (go_at_call 74
       refine (sortedfG_any SQ.out EG.out HRd.out (by have := HL.out; omega)).mono ?_
       rintro e w3 ⟨u, ys, rfl, o3, p3, s3, k3⟩
       obtain ⟨n, hn⟩ : ∃ n, ys.length = n := ⟨_, rfl⟩
       have HN := hid hn
       obtain ⟨A3, c3, rfl⟩ := o3.formN hn
       have hnl : n ≤ 1000000 := by rw [← hn, p3.length_eq]; exact HL.out
       have O3 := hid (o3.lower (base' := w.heap.size) (by rw [hz2]; omega))
       have P3 := hid p3
       have S3 := hid s3
       have K3 := hid (K2.out.trans k3)
       have M3 := hid (M2.out.kp0 k3)
       have HI := hid (fun g (hg : g ∈ ys) => HP.out g (p3.mem_iff.1 hg))
       have hz3 := k3.size
       have OM := hid (show (Value.slice A3 n c3).ownBlock ≠ some w.heap.size from fun e => by have := (o3.blk e).1; omega)
       clear o3 p3 s3 k3 hn))
  have hm3 : w.heap.size < w3.heap.size := by omega
  have HM3 := hid hm3
  clear SQ EG M2 K2 HRd hz1 hz2 hz3 hv1 HP
  go_loopw [13] (fun i wr => ∃ k : Nat, k ≤ n ∧ i = .int .i64 (k : Int) ∧ Hid (∃ f cnt, Km wr w3.heap.size w.heap.size f (below (ys.take k)) cnt ∧ cnt ≤ k) ∧ Hid (Kp (Only w.heap.size) w3 wr)) (fun i _ => n - (vI i).toNat)
  case atStart =>
    exact ⟨0, Nat.zero_le _, rfl, hid ⟨_, 0, ⟨M3.out, (fun x a e => by cases e), (fun x e => by simp [below]), (fun x a k e => by cases e), (fun x y a a' k e => by cases e)⟩, Nat.le_refl _⟩, hid (Kp.refl _ _)⟩
  case round =>
    obtain ⟨k, hk, rfl, HK, KW⟩ := hrel
    by_cases hkn : k < n
    · have hkl : k < ys.length := by rw [HN.out]; exact hkn
      obtain ⟨bq, cq, hA, hbq, hql, _, _⟩ := O3.out.form2 (by omega)
      injection hA with hA hA2 hA3
      subst hA hA3
      clear hA2
      have OK := hid (O3.out.kpx KW.out fun i hi e => by
        cases hi
        have e : bq = w.heap.size := e
        exact OM.out (by rw [← e]; rfl))
      have HS := hid (take_s ys hkl gs0)
      have q0 := OK.out.cellAt (d := gs0) (i := 0) hkl (by omega)
      have q1 := OK.out.cellAt (d := gs0) (i := 1) hkl (by omega)
      have q2 := OK.out.cellAt (d := gs0) (i := 2) hkl (by omega)
      have q3 := OK.out.cellAt (d := gs0) (i := 3) hkl (by omega)
      have q4 := OK.out.cellAt (d := gs0) (i := 4) hkl (by omega)
      have q5 := OK.out.cellAt (d := gs0) (i := 5) hkl (by omega)
      have hgy : ys.getD k gs0 ∈ ys := by simp [List.getD, hkl]
      have hpi := HI.out _ hgy
      obtain ⟨x, hx⟩ : ∃ x, ys.getD k gs0 = x := ⟨_, rfl⟩
      rw [hx] at q0 q1 q2 q3 q4 q5 HS hpi
      clear hx hgy
      simp only [gc, ge, List.getD_cons_zero, List.getD_cons_succ, Nat.add_zero] at q0 q1 q2 q3 q4 q5
      have hg1 : (k : Int) < (n : Int) := by omega
      have hsum := wrapI (x := (k : Int) + 1) (by unfold I64; omega)
      obtain ⟨f, cnt, hkm, hcnt⟩ := HK.out
      have HKM := hid hkm
      obtain ⟨a, ho, ha, hlk⟩ := hkm.look hpi
      have HA := hid ha
      have HLK := hid hlk
      have HO := hid ho
      obtain ⟨M, hM⟩ : ∃ M, (below (ys.take k) x.par).length = M := ⟨_, rfl⟩
      have HM := hid hM
      have hML : M ≤ 1000000 := by
        rw [← hM]
        unfold below
        have := List.length_filter_le (fun g : GS => decide (g.par = x.par)) (ys.take k)
        rw [List.length_take] at this
        omega
      have hmlt := hkm.mp.lt
      have HMLT := hid hmlt
      have BA := hid (fun i (hi : a.b = some i) => (show i ≠ w.heap.size ∧ w3.heap.size ≤ i ∧ i < wr.heap.size from by
        have h1 := ho.blk (k := i) (by rw [rsl_own]; exact hi)
        rcases ha with ha | ⟨_, rfl⟩
        · exact ⟨hkm.own _ a i ha hi, h1.1, h1.2.1⟩
        · cases hi))
      obtain ⟨ab, an, ac⟩ := a
      have HE8 := hid (fun y => show below (ys.take (k + 1)) y = if y = x.par then below (ys.take k) x.par ++ [x] else below (ys.take k) y by rw [HS.out, below_snoc])
      clear hkm ho ha hlk hM
      go_upto_region 6 with fail
      have X1 := hid (Blk.new wr 51 #[.int .i64 x.id, .int .i64 x.par, .int .i64 x.wt, .int .i64 x.pd, .int .i64 x.qt, .int .i64 x.us])
      have k01 := (Kp.refl No wr).alloc (.cells #[.int .i64 x.id, .int .i64 x.par, .int .i64 x.wt, .int .i64 x.pd, .int .i64 x.qt, .int .i64 x.us] 51)
      have K01 := hid k01
      have hsz1 := World.size_alloc wr (.cells #[.int .i64 x.id, .int .i64 x.par, .int .i64 x.wt, .int .i64 x.pd, .int .i64 x.qt, .int .i64 x.us] 51)
      obtain ⟨w1, hw1⟩ : ∃ w1, wr.alloc (.cells #[.int .i64 x.id, .int .i64 x.par, .int .i64 x.wt, .int .i64 x.pd, .int .i64 x.qt, .int .i64 x.us] 51) = w1 := ⟨_, rfl⟩
      rw [hw1] at X1 K01 hsz1 ⊢
      obtain ⟨xb, hxb⟩ : ∃ xb, wr.heap.size = xb := ⟨_, rfl⟩
      rw [hxb] at X1 hsz1 ⊢
      have HXB := hid hxb
      clear hw1 hxb k01 q0 q1 q2 q3 q4 q5 hmlt
      have k12 := (Kp.refl No w1).alloc (.cells #[.int .i64 x.id, .int .i64 x.par, .int .i64 x.wt, .int .i64 x.pd, .int .i64 x.qt, .int .i64 x.us] 51)
      have X2 := hid (X1.out.kp0 k12)
      have z2 := (Blk.new w1 51 #[.int .i64 x.id, .int .i64 x.par, .int .i64 x.wt, .int .i64 x.pd, .int .i64 x.qt, .int .i64 x.us]).kp0 (Kp.refl No _).drew
      rw [hsz1] at z2
      have Z2 := hid z2
      clear z2
      have KZ := hid ((K01.out.trans k12).drew)
      have KmZ := hid (HKM.out.kp0 KZ.out)
      have OZ := hid (HO.out.kp0 KZ.out)
      have hsz2 := World.size_alloc w1 (.cells #[.int .i64 x.id, .int .i64 x.par, .int .i64 x.wt, .int .i64 x.pd, .int .i64 x.qt, .int .i64 x.us] 51)
      have x0 := X1.out.cell 0
      have y0 := X2.out.cell 0
      have x1 := X1.out.cell 1
      have y1 := X2.out.cell 1
      have x2 := X1.out.cell 2
      have y2 := X2.out.cell 2
      have x3 := X1.out.cell 3
      have y3 := X2.out.cell 3
      have x4 := X1.out.cell 4
      have y4 := X2.out.cell 4
      have x5 := X1.out.cell 5
      have y5 := X2.out.cell 5
      simp only [List.getElem?_toArray, List.getElem?_cons_zero, List.getElem?_cons_succ] at x0 y0 x1 y1 x2 y2 x3 y3 x4 y4 x5 y5
      have l1 := HLK.out w1.drew K01.out.drew
      have l2 := HLK.out (w1.alloc (.cells #[.int .i64 x.id, .int .i64 x.par, .int .i64 x.wt, .int .i64 x.pd, .int .i64 x.qt, .int .i64 x.us] 51)).drew KZ.out
      simp only [rsl] at l1 l2 OZ
      clear k12
      go_region_law (first
        | (refine step_app1 usG gc_one (by rfl) (.tmp 23) (.tmp 25) (by rfl) (base := w3.heap.size) (xs := below (ys.take k) x.par) (y := x) (by rfl) (by exact OZ.out) (by rfl) (by
             intro i hi
             match i, hi with
             | 0, _ => exact Z2.out.cell 0
             | 1, _ => exact Z2.out.cell 1
             | 2, _ => exact Z2.out.cell 2
             | 3, _ => exact Z2.out.cell 3
             | 4, _ => exact Z2.out.cell 4
             | 5, _ => exact Z2.out.cell 5) (by rw [HM.out]; omega) (by rw [HM.out]; simp only [maxLen]; omega) (by exact Nat.le_trans KW.out.size KZ.out.size) ?_
           intro v7 w7 o7 k7 p7
           obtain ⟨b7, c7, hv7, hb7, hl7, _, _⟩ := o7.form2 (by simp)
           rw [List.length_append, HM.out, List.length_singleton] at hv7
           have kA := (Kp.refl (fun i => ab = some i) _).grown k7 fun k hk => .inl (by rw [← hk]; exact (rsl_own ⟨ab, an, ac⟩).symm)
           have x7 := ((X2.out.kp0 (Kp.refl No _).drew).kp kA fun e => by have := (BA.out _ e).2.2; have := HXB.out; omega).cell 1
           simp only [List.getElem?_toArray, List.getElem?_cons_zero, List.getElem?_cons_succ] at x7
           have hP7 : v7.ownBlock = ab ∨ ∀ k, v7.ownBlock = some k → wr.heap.size ≤ k := p7.imp (fun h => h.trans (rsl_own ⟨ab, an, ac⟩)) fun h k hk => by
             rw [h] at hk
             injection hk with hk
             have := KZ.out.size
             omega
           obtain ⟨w8, hr8, m8, k8⟩ := (KmZ.out.mp.kp kA fun e => (BA.out _ e).1 rfl).put rK ⟨some b7, M + 1, c7⟩ hpi (by simp only [maxLen]; omega)
           simp only [rsl, ra, Option.map_some] at hr8
           have kW := (KZ.out.all).trans kA
           have km8 := HKM.out.put (g := x) HE8.out HA.out hv7 o7 kW hP7 m8 k8 HMLT.out
           have P8 := hid (show ∃ f' cnt', Km w8 w3.heap.size w.heap.size f' (below (ys.take (k + 1))) cnt' ∧ cnt' ≤ k + 1 from ⟨_, _, km8, by split <;> omega⟩)
           have K8 := hid (((KW.out.step KZ.out fun i _ e => e.elim).step kA fun i hi e => by have := (BA.out i e).2.1; omega).step k8 fun i _ e => e)
           subst hv7
           clear o7 k7 p7 kA hP7 m8 k8 kW km8))
      all_goals
        go_wp2_with fail
        go_roundw
        case rel => exact ⟨k + 1, by omega, by go_num, P8, K8⟩
        case measure => simp [vI]; omega
    · have hkk : k = n := by omega
      subst hkk
      have hng : ¬ (k : Int) < (k : Int) := by omega
      obtain ⟨f, cnt, hkm, _⟩ := HK.out
      rw [List.take_of_length_le (by rw [HN.out]; omega)] at hkm
      have HKM := hid (hkm.lower (base' := w.heap.size) (by omega))
      clear hkm HK
      go_wp2
      go_ret
      exact ⟨_, f, cnt, ys, rfl, P3.out, S3.out, HKM.out, Nat.le_refl _, K3.out.step KW.out fun i hi e => by have e : i = w.heap.size := e; omega⟩
end Go.Proofs.YtjmaingpiieioaaGreat
