/-
  ZKids ZKidsW ZVis ZUnder: texts laid into one.
-/
import Derived.Test.YtggmdgdgljlddaaGreatZSort
import Derived.Test.YtggmdgdgljlddaaGreatKMap
import Derived.Test.YtggmdgdgljlddaaGreatStill
import Derived.Deep.RegionLaw
import Derived.Test.YtggmdgdgljlddaaGreatZMod
import Derived.Deep.LoopGhost

/-
  Contract of kids: the groups below each one, falling by number, in a map.
-/
namespace Go.Proofs.YtggmdgdgljlddaaGreat
open Go.RowKit Go.Shelf

/-- A row's place. -/
structure Rdz where
  b : Option Nat
  n : Nat
  c : Nat
def rd0 : Rdz := ⟨none, 0, 0⟩
def ra (b : Option Nat) : Option Addr := b.map fun k => ⟨k, 0, none⟩
def rsl (x : Rdz) : Value := .slice (ra x.b) x.n x.c
def rnum : Option Nat → Int
  | none => -1
  | some k => (k : Int)
def renc (x : Rdz) : DataW Unit := .agg [.lit (.int .i64 (rnum x.b)), .lit (.int .i64 (x.n : Int)), .lit (.int .i64 (x.c : Int))]
theorem rnum_inj {a b : Option Nat} (h : rnum a = rnum b) : a = b := by
  cases a <;> cases b <;> simp [rnum] at h ⊢ <;> omega
theorem rK : KM Tryz.prog 76 3 22 rsl renc rd0 where
  und := by kernel_rfl
  key := by kernel_rfl
  zero := fun w => by kernel_rfl
  inj := fun a b h => by
    unfold renc at h
    simp only [DataW.agg.injEq, List.cons.injEq, DataW.lit.injEq, Lit.int.injEq, and_true, true_and] at h
    obtain ⟨h2, h3, h4⟩ := h
    cases a
    cases b
    have h2 := rnum_inj h2
    simp only at h2 h3 h4
    simp only [Rdz.mk.injEq]
    exact ⟨h2, by omega, by omega⟩
  evj := fun a b h => by
    unfold rsl ra at h
    simp only [Value.slice.injEq] at h
    obtain ⟨h2, h3, h4⟩ := h
    rcases a with ⟨b1, n, c⟩
    rcases b with ⟨b2, n', c'⟩
    cases b1 <;> cases b2 <;> simp_all

/-- The map at m holds a row for each number; their blocks are of base on, and unlike. -/
structure Km (w : World) (base m : Nat) (f : Int → Option Rdz) (F : Int → List GS) (cnt : Nat) : Prop where
  mp : Mk Tryz.prog 3 rsl renc w m f cnt
  row : ∀ x a, f x = some a → Ow w base 37 6 gc (rsl a) (F x)
  non : ∀ x, f x = none → F x = []
  own : ∀ x a k, f x = some a → a.b = some k → k ≠ m
  dis : ∀ x y a a' k, f x = some a → f y = some a' → x ≠ y → a.b = some k → a'.b ≠ some k
theorem rsl_own (a : Rdz) : (rsl a).ownBlock = a.b := by
  obtain ⟨b, n, c⟩ := a
  cases b <;> rfl
section
variable {w w' : World} {S P Q : Nat → Prop} {base m cnt : Nat} {f : Int → Option Rdz} {F : Int → List GS} {x : Int}
/-- What the map, and its rows, lie in. -/
def Kin (m : Nat) (f : Int → Option Rdz) (i : Nat) : Prop := i = m ∨ ∃ x a, f x = some a ∧ a.b = some i
theorem Km.kp (h : Km w base m f F cnt) (k : Kp S w w') (hs : ∀ i, Kin m f i → ¬ S i) : Km w' base m f F cnt :=
  ⟨h.mp.kp k (hs m (.inl rfl)), fun x a e => (h.row x a e).kpx k fun i hi => hs i (.inr ⟨x, a, e, by rw [← rsl_own]; exact hi⟩), h.non, h.own, h.dis⟩
theorem Km.kp0 (h : Km w base m f F cnt) (k : Kp No w w') : Km w' base m f F cnt := h.kp k fun _ _ h => h
theorem Km.lt (h : Km w base m f F cnt) {i : Nat} (hi : Kin m f i) : i < w.heap.size := by
  rcases hi with rfl | ⟨x, a, e, hk⟩
  · exact h.mp.lt
  · exact ((h.row x a e).blk (by rw [rsl_own]; exact hk)).2.1
/-- What is looked up, in this world and in each later one. -/
theorem Km.look (h : Km w base m f F cnt) (hx : I64 x) : ∃ a : Rdz, Ow w base 37 6 gc (rsl a) (F x) ∧ (f x = some a ∨ f x = none ∧ a = rd0) ∧ ∀ W, Kp No w W → (Instr.lookup 76 (.map (some m)) (.int .i64 x) false).run Tryz.prog W = .ok (rsl a) W := by
  cases e : f x with
  | some a => exact ⟨a, h.row x a e, .inl rfl, fun W k => Mk.look_some rK (h.mp.kp0 k) hx e false⟩
  | none =>
    refine ⟨rd0, ?_, .inr ⟨rfl, rfl⟩, fun W k => Mk.look_none rK (h.mp.kp0 k) hx e false⟩
    rw [h.non x e]
    exact Ow.nil _ _ _ _ _
theorem Km.lower {base' : Nat} (h : Km w base m f F cnt) (hb : base' ≤ base) : Km w base' m f F cnt := ⟨h.mp, fun x a e => (h.row x a e).lower hb, h.non, h.own, h.dis⟩
/-- A row that has grown by one, laid in anew. -/
theorem Km.put (h : Km w base m f F cnt) {a : Rdz} {g : GS} {F' : Int → List GS} (hF : ∀ y, F' y = if y = x then F x ++ [g] else F y) (ha : f x = some a ∨ f x = none ∧ a = rd0) {v' : Value} {W W2 : World} {b c n : Nat} (hv : v' = .slice (some ⟨b, 0, none⟩) n c) (o : Ow W base 37 6 gc v' (F x ++ [g])) (kW : Kp (fun i => a.b = some i) w W)
    (p : v'.ownBlock = a.b ∨ ∀ k, v'.ownBlock = some k → w.heap.size ≤ k) {cnt' : Nat} (mp2 : Mk Tryz.prog 3 rsl renc W2 m (fun k => if k = x then some ⟨some b, n, c⟩ else f k) cnt') (k2 : Kp (Only m) W W2) (hml : m < w.heap.size) :
    Km W2 base m (fun k => if k = x then some ⟨some b, n, c⟩ else f k) F' cnt' := by
  subst hv
  have hr : (rsl ⟨some b, n, c⟩ : Value) = .slice (some ⟨b, 0, none⟩) n c := rfl
  have hold : ∀ y a', f y = some a' → y ≠ x → ∀ k, a'.b = some k → a.b ≠ some k := fun y a' hy hyx k hk => by
    rcases ha with ha | ⟨_, rfl⟩
    · exact fun e => h.dis y x a' a k hy ha hyx hk e
    · exact fun e => by cases e
  have hbm : b ≠ m := by
    rcases p with p | p
    · rcases ha with ha | ⟨_, rfl⟩
      · exact h.own x a b ha p.symm
      · cases p
    · have := p b rfl
      omega
  have hbo : ∀ y a', f y = some a' → y ≠ x → a'.b ≠ some b := fun y a' hy hyx e => by
    rcases p with p | p
    · exact hold y a' hy hyx b e p.symm
    · have h1 := p b rfl
      have h2 := ((h.row y a' hy).blk (by rw [rsl_own]; exact e)).2.1
      omega
  refine ⟨mp2, fun y a' hy => ?_, fun y hy => ?_, fun y a' k hy hk => ?_, fun y z a1 a2 k hy hz hyz hk => ?_⟩
  · rw [hF y]
    by_cases e : y = x
    · subst e
      simp only [if_true] at hy ⊢
      cases hy
      rw [hr]
      exact o.kpx k2 fun i hi e => by
        cases hi
        exact hbm e
    · simp only [e, if_false] at hy ⊢
      exact ((h.row y a' hy).kpx kW fun i hi e2 => hold y a' hy e i (by rw [← rsl_own]; exact hi) e2).kpx k2 fun i hi e2 => h.own y a' i hy (by rw [← rsl_own]; exact hi) e2
  · rw [hF y]
    by_cases e : y = x
    · simp [e] at hy
    · simp only [e, if_false] at hy ⊢
      exact h.non y hy
  · by_cases e : y = x
    · simp only [e, if_true] at hy
      cases hy
      cases hk
      exact hbm
    · simp only [e, if_false] at hy
      exact h.own y a' k hy hk
  · by_cases e : y = x
    · simp only [e, if_true] at hy
      cases hy
      cases hk
      have hzx : z ≠ x := fun e2 => hyz (e.trans e2.symm)
      simp only [hzx, if_false] at hz
      exact hbo z a2 hz hzx
    · simp only [e, if_false] at hy
      by_cases e2 : z = x
      · simp only [e2, if_true] at hz
        cases hz
        intro e3
        cases e3
        exact hbo y a1 hy e hk
      · simp only [e2, if_false] at hz
        exact h.dis y z a1 a2 k hy hz hyz hk
end
/-- The groups below x among those that were seen. -/
def below (l : List GS) (x : Int) : List GS := l.filter fun g => decide (g.par = x)
theorem below_snoc (l : List GS) (g : GS) (y : Int) : below (l ++ [g]) y = if y = g.par then below l g.par ++ [g] else below l y := by
  unfold below
  rw [List.filter_append]
  by_cases e : y = g.par
  · rw [if_pos e, e]
    simp
  · rw [if_neg e]
    simp [Ne.symm e]
end Go.Proofs.YtggmdgdgljlddaaGreat

/-
  Contract of kids: the walk.
-/
namespace Go.Proofs.YtggmdgdgljlddaaGreat
open Go.RowKit Go.Shelf

def KidsPost (gs : List GS) (w : World) (e : Ending) (w' : World) : Prop :=
  ∃ m f cnt ys, e = .returned (.map (some m)) ∧ ys.Perm gs ∧ ys.Pairwise (fun a b => b.id ≤ a.id) ∧ Km w' w.heap.size m f (below ys) cnt ∧ w.heap.size ≤ m ∧ Kp No w w'
set_option maxHeartbeats 2000000 in
set_option maxRecDepth 100000 in
theorem kids_any {w : World} {P : Nat → Prop} {v : Value} {gs : List GS} (h : Rw 6 gc gs0 w P v gs) (hl : gs.length ≤ 1000000) (hp : ∀ g ∈ gs, I64 g.par) :
    Calls Tryz.prog 37 #[v] w (KidsPost gs w) := by
  have hv1 : v.oneCell' = true := by
    obtain ⟨A, c, rfl, _⟩ := h
    rfl
  have k1 := (Kp.refl No w).alloc (.map #[] 0)
  have M1 := hid (Mk.new (P := Tryz.prog) (tk := 3) (ev := rsl) (enc := renc) w)
  obtain ⟨b, hb, sq⟩ := (h.kp0 k1).seqG (by omega)
  have hz1 : (w.alloc (.map #[] 0)).heap.size = w.heap.size + 1 := World.size_alloc _ _
  rw [hz1] at sq hb
  have SQ := hid sq
  have HP := hid hp
  have eg : ∀ args w, (callFunc 61 args).run Tryz.prog w = .ok (.enter 61 args) w := enters_of Tryz.func61 (by kernel_rfl) rfl
  have EG := hid eg
  have k2 := k1.alloc (.cells #[v] 22)
  have hz2 : ((w.alloc (.map #[] 0)).alloc (.cells #[v] 22)).heap.size = w.heap.size + 1 + 1 := by rw [World.size_alloc, hz1]
  have M2 := hid (M1.out.kp0 ((Kp.refl No _).alloc (.cells #[v] 22)))
  have K2 := hid k2
  have HL := hid hl
  have HRd := hid (fun k (hk : k = w.heap.size + 1 ∨ k = b) => show k < ((w.alloc (.map #[] 0)).alloc (.cells #[v] 22)).heap.size by rw [hz2]; rcases hk with rfl | rfl <;> omega)
  have hmm := @run_makeMap Tryz.prog
  clear h sq eg hp k1 k2 hl hb M1
  go_enter Tryz.func37, Tryz.ntmps37
  go_wp2_with (first
    | (go_at_call 48
       refine (valuesG_any v hv1 _).mono ?_
       rintro e w2 ⟨rfl, rfl⟩)
    | (go_at_call 47
       refine (sortedfG_any SQ.out EG.out HRd.out (by have := HL.out; omega)).mono ?_
       rintro e w3 ⟨u, ys, rfl, o3, p3, s3, k3⟩
       obtain ⟨n, hn⟩ : ∃ n, ys.length = n := ⟨_, rfl⟩
       have HN := hid hn
       obtain ⟨A3, c3, rfl⟩ := o3.formN hn
       have hnl : n ≤ 1000000 := by rw [← hn, p3.length_eq]; exact HL.out
       have O3 := hid (o3.lower (base' := w.heap.size) (by rw [hz2]; omega))
       have P3 := hid p3
       have S3 := hid s3
       have K3 := hid (K2.out.trans k3)
       have M3 := hid (M2.out.kp0 k3)
       have HI := hid (fun g (hg : g ∈ ys) => HP.out g (p3.mem_iff.1 hg))
       have hz3 := k3.size
       have OM := hid (show (Value.slice A3 n c3).ownBlock ≠ some w.heap.size from fun e => by have := (o3.blk e).1; omega)
       clear o3 p3 s3 k3 hn))
  have hm3 : w.heap.size < w3.heap.size := by omega
  have HM3 := hid hm3
  clear SQ EG M2 K2 HRd hz1 hz2 hz3 hv1 HP
  go_loopw [13] (fun i wr => ∃ k : Nat, k ≤ n ∧ i = .int .i64 (k : Int) ∧ Hid (∃ f cnt, Km wr w3.heap.size w.heap.size f (below (ys.take k)) cnt ∧ cnt ≤ k) ∧ Hid (Kp (Only w.heap.size) w3 wr)) (fun i _ => n - (vI i).toNat)
  case atStart =>
    exact ⟨0, Nat.zero_le _, rfl, hid ⟨_, 0, ⟨M3.out, (fun x a e => by cases e), (fun x e => by simp [below]), (fun x a k e => by cases e), (fun x y a a' k e => by cases e)⟩, Nat.le_refl _⟩, hid (Kp.refl _ _)⟩
  case round =>
    obtain ⟨k, hk, rfl, HK, KW⟩ := hrel
    by_cases hkn : k < n
    · have hkl : k < ys.length := by rw [HN.out]; exact hkn
      obtain ⟨bq, cq, hA, hbq, hql, _, _⟩ := O3.out.form2 (by omega)
      injection hA with hA hA2 hA3
      subst hA hA3
      clear hA2
      have OK := hid (O3.out.kpx KW.out fun i hi e => by
        cases hi
        have e : bq = w.heap.size := e
        exact OM.out (by rw [← e]; rfl))
      have HS := hid (take_s ys hkl gs0)
      have q0 := OK.out.cellAt (d := gs0) (i := 0) hkl (by omega)
      have q1 := OK.out.cellAt (d := gs0) (i := 1) hkl (by omega)
      have q2 := OK.out.cellAt (d := gs0) (i := 2) hkl (by omega)
      have q3 := OK.out.cellAt (d := gs0) (i := 3) hkl (by omega)
      have q4 := OK.out.cellAt (d := gs0) (i := 4) hkl (by omega)
      have q5 := OK.out.cellAt (d := gs0) (i := 5) hkl (by omega)
      have hgy : ys.getD k gs0 ∈ ys := by simp [List.getD, hkl]
      have hpi := HI.out _ hgy
      obtain ⟨x, hx⟩ : ∃ x, ys.getD k gs0 = x := ⟨_, rfl⟩
      rw [hx] at q0 q1 q2 q3 q4 q5 HS hpi
      clear hx hgy
      simp only [gc, ge, List.getD_cons_zero, List.getD_cons_succ, Nat.add_zero] at q0 q1 q2 q3 q4 q5
      have hg1 : (k : Int) < (n : Int) := by omega
      have hsum := wrapI (x := (k : Int) + 1) (by unfold I64; omega)
      obtain ⟨f, cnt, hkm, hcnt⟩ := HK.out
      have HKM := hid hkm
      obtain ⟨a, ho, ha, hlk⟩ := hkm.look hpi
      have HA := hid ha
      have HLK := hid hlk
      have HO := hid ho
      obtain ⟨M, hM⟩ : ∃ M, (below (ys.take k) x.par).length = M := ⟨_, rfl⟩
      have HM := hid hM
      have hML : M ≤ 1000000 := by
        rw [← hM]
        unfold below
        have := List.length_filter_le (fun g : GS => decide (g.par = x.par)) (ys.take k)
        rw [List.length_take] at this
        omega
      have hmlt := hkm.mp.lt
      have HMLT := hid hmlt
      have BA := hid (fun i (hi : a.b = some i) => (show i ≠ w.heap.size ∧ w3.heap.size ≤ i ∧ i < wr.heap.size from by
        have h1 := ho.blk (k := i) (by rw [rsl_own]; exact hi)
        rcases ha with ha | ⟨_, rfl⟩
        · exact ⟨hkm.own _ a i ha hi, h1.1, h1.2.1⟩
        · cases hi))
      obtain ⟨ab, an, ac⟩ := a
      have HE8 := hid (fun y => show below (ys.take (k + 1)) y = if y = x.par then below (ys.take k) x.par ++ [x] else below (ys.take k) y by rw [HS.out, below_snoc])
      clear hkm ho ha hlk hM
      go_upto_region 6 with fail
      have X1 := hid (Blk.new wr 37 #[.int .i64 x.id, .int .i64 x.par, .int .i64 x.wt, .int .i64 x.pd, .int .i64 x.qt, .int .i64 x.us])
      have k01 := (Kp.refl No wr).alloc (.cells #[.int .i64 x.id, .int .i64 x.par, .int .i64 x.wt, .int .i64 x.pd, .int .i64 x.qt, .int .i64 x.us] 37)
      have K01 := hid k01
      have hsz1 := World.size_alloc wr (.cells #[.int .i64 x.id, .int .i64 x.par, .int .i64 x.wt, .int .i64 x.pd, .int .i64 x.qt, .int .i64 x.us] 37)
      obtain ⟨w1, hw1⟩ : ∃ w1, wr.alloc (.cells #[.int .i64 x.id, .int .i64 x.par, .int .i64 x.wt, .int .i64 x.pd, .int .i64 x.qt, .int .i64 x.us] 37) = w1 := ⟨_, rfl⟩
      rw [hw1] at X1 K01 hsz1 ⊢
      obtain ⟨xb, hxb⟩ : ∃ xb, wr.heap.size = xb := ⟨_, rfl⟩
      rw [hxb] at X1 hsz1 ⊢
      have HXB := hid hxb
      clear hw1 hxb k01 q0 q1 q2 q3 q4 q5 hmlt
      have k12 := (Kp.refl No w1).alloc (.cells #[.int .i64 x.id, .int .i64 x.par, .int .i64 x.wt, .int .i64 x.pd, .int .i64 x.qt, .int .i64 x.us] 37)
      have X2 := hid (X1.out.kp0 k12)
      have z2 := (Blk.new w1 37 #[.int .i64 x.id, .int .i64 x.par, .int .i64 x.wt, .int .i64 x.pd, .int .i64 x.qt, .int .i64 x.us]).kp0 (Kp.refl No _).drew
      rw [hsz1] at z2
      have Z2 := hid z2
      clear z2
      have KZ := hid ((K01.out.trans k12).drew)
      have KmZ := hid (HKM.out.kp0 KZ.out)
      have OZ := hid (HO.out.kp0 KZ.out)
      have hsz2 := World.size_alloc w1 (.cells #[.int .i64 x.id, .int .i64 x.par, .int .i64 x.wt, .int .i64 x.pd, .int .i64 x.qt, .int .i64 x.us] 37)
      have x0 := X1.out.cell 0
      have y0 := X2.out.cell 0
      have x1 := X1.out.cell 1
      have y1 := X2.out.cell 1
      have x2 := X1.out.cell 2
      have y2 := X2.out.cell 2
      have x3 := X1.out.cell 3
      have y3 := X2.out.cell 3
      have x4 := X1.out.cell 4
      have y4 := X2.out.cell 4
      have x5 := X1.out.cell 5
      have y5 := X2.out.cell 5
      simp only [List.getElem?_toArray, List.getElem?_cons_zero, List.getElem?_cons_succ] at x0 y0 x1 y1 x2 y2 x3 y3 x4 y4 x5 y5
      have l1 := HLK.out w1.drew K01.out.drew
      have l2 := HLK.out (w1.alloc (.cells #[.int .i64 x.id, .int .i64 x.par, .int .i64 x.wt, .int .i64 x.pd, .int .i64 x.qt, .int .i64 x.us] 37)).drew KZ.out
      simp only [rsl] at l1 l2 OZ
      clear k12
      go_region_law (first
        | (refine step_app1 usG gc_one (by rfl) (.tmp 23) (.tmp 25) (by rfl) (base := w3.heap.size) (xs := below (ys.take k) x.par) (y := x) (by rfl) (by exact OZ.out) (by rfl) (by
             intro i hi
             match i, hi with
             | 0, _ => exact Z2.out.cell 0
             | 1, _ => exact Z2.out.cell 1
             | 2, _ => exact Z2.out.cell 2
             | 3, _ => exact Z2.out.cell 3
             | 4, _ => exact Z2.out.cell 4
             | 5, _ => exact Z2.out.cell 5) (by rw [HM.out]; omega) (by rw [HM.out]; simp only [maxLen]; omega) (by exact Nat.le_trans KW.out.size KZ.out.size) ?_
           intro v7 w7 o7 k7 p7
           obtain ⟨b7, c7, hv7, hb7, hl7, _, _⟩ := o7.form2 (by simp)
           rw [List.length_append, HM.out, List.length_singleton] at hv7
           have kA := (Kp.refl (fun i => ab = some i) _).grown k7 fun k hk => .inl (by rw [← hk]; exact (rsl_own ⟨ab, an, ac⟩).symm)
           have x7 := ((X2.out.kp0 (Kp.refl No _).drew).kp kA fun e => by have := (BA.out _ e).2.2; have := HXB.out; omega).cell 1
           simp only [List.getElem?_toArray, List.getElem?_cons_zero, List.getElem?_cons_succ] at x7
           have hP7 : v7.ownBlock = ab ∨ ∀ k, v7.ownBlock = some k → wr.heap.size ≤ k := p7.imp (fun h => h.trans (rsl_own ⟨ab, an, ac⟩)) fun h k hk => by
             rw [h] at hk
             injection hk with hk
             have := KZ.out.size
             omega
           obtain ⟨w8, hr8, m8, k8⟩ := (KmZ.out.mp.kp kA fun e => (BA.out _ e).1 rfl).put rK ⟨some b7, M + 1, c7⟩ hpi (by simp only [maxLen]; omega)
           simp only [rsl, ra, Option.map_some] at hr8
           have kW := (KZ.out.all).trans kA
           have km8 := HKM.out.put (g := x) HE8.out HA.out hv7 o7 kW hP7 m8 k8 HMLT.out
           have P8 := hid (show ∃ f' cnt', Km w8 w3.heap.size w.heap.size f' (below (ys.take (k + 1))) cnt' ∧ cnt' ≤ k + 1 from ⟨_, _, km8, by split <;> omega⟩)
           have K8 := hid (((KW.out.step KZ.out fun i _ e => e.elim).step kA fun i hi e => by have := (BA.out i e).2.1; omega).step k8 fun i _ e => e)
           subst hv7
           clear o7 k7 p7 kA hP7 m8 k8 kW km8))
      all_goals
        go_wp2_with fail
        go_roundw
        case rel => exact ⟨k + 1, by omega, by go_num, P8, K8⟩
        case measure => simp [vI]; omega
    · have hkk : k = n := by omega
      subst hkk
      have hng : ¬ (k : Int) < (k : Int) := by omega
      obtain ⟨f, cnt, hkm, _⟩ := HK.out
      rw [List.take_of_length_le (by rw [HN.out]; omega)] at hkm
      have HKM := hid (hkm.lower (base' := w.heap.size) (by omega))
      clear hkm HK
      go_wp2
      go_ret
      exact ⟨_, f, cnt, ys, rfl, P3.out, S3.out, HKM.out, Nat.le_refl _, K3.out.step KW.out fun i hi e => by have e : i = w.heap.size := e; omega⟩
end Go.Proofs.YtggmdgdgljlddaaGreat

/-
  Plain facts on the order of a scene's groups: sorted rows, and what a falling row of groups gives. Nothing of Go is named here.
-/
namespace Go.Proofs.YtggmdgdgljlddaaGreat

section
variable {gs ys tl : List GS} {x : Int}
theorem srtG_pair (l : List GS) : (srtG l).Pairwise (fun a b => a.id ≤ b.id) := by
  have := List.pairwise_mergeSort (le := fun a b : GS => decide (a.id ≤ b.id)) (by simp; omega) (by simp; omega) l
  exact this.imp fun h => by simpa using h
theorem srtT_pair (l : List TS) : (srtT l).Pairwise (fun a b => a.id ≤ b.id) := by
  have := List.pairwise_mergeSort (le := fun a b : TS => decide (a.id ≤ b.id)) (by simp; omega) (by simp; omega) l
  exact this.imp fun h => by simpa using h
/-- Of lists without a number twice there is one in order. -/
theorem uniq {α : Type} (key : α → Int) : ∀ (l1 l2 : List α), l1.Perm l2 → l1.Pairwise (fun a b => key a ≤ key b) → l2.Pairwise (fun a b => key a ≤ key b) → (∀ a ∈ l1, ∀ b ∈ l1, key a = key b → a = b) → l1 = l2
  | [], l2, h, _, _, _ => h.nil_eq
  | a :: l1, [], h, _, _, _ => absurd h.length_eq (by simp)
  | a :: l1, b :: l2, h, h1, h2, hi => by
    rw [List.pairwise_cons] at h1 h2
    have ha : a ∈ b :: l2 := h.mem_iff.1 List.mem_cons_self
    have hb : b ∈ a :: l1 := h.mem_iff.2 List.mem_cons_self
    have e : a = b := by
      refine hi a List.mem_cons_self b hb (Int.le_antisymm ?_ ?_)
      · rcases List.mem_cons.1 hb with e | e
        · rw [e]
          exact Int.le_refl _
        · exact h1.1 b e
      · rcases List.mem_cons.1 ha with e | e
        · rw [e]
          exact Int.le_refl _
        · exact h2.1 a e
    subst e
    rw [uniq key l1 l2 h.cons_inv h1.2 h2.2 fun x hx y hy => hi x (List.mem_cons_of_mem _ hx) y (List.mem_cons_of_mem _ hy)]
theorem idT_inj {l : List TS} (h : (l.map (·.id)).Nodup) {a b : TS} (ha : a ∈ l) (hb : b ∈ l) (e : a.id = b.id) : a = b := by
  induction l with
  | nil => cases ha
  | cons y l ih =>
    rw [List.map_cons, List.nodup_cons] at h
    rcases List.mem_cons.1 ha with e1 | h1
    · rcases List.mem_cons.1 hb with e2 | h2
      · rw [e1, e2]
      · exact absurd (List.mem_map.2 ⟨b, h2, by rw [← e, e1]⟩) h.1
    · rcases List.mem_cons.1 hb with e2 | h2
      · exact absurd (List.mem_map.2 ⟨a, h1, by rw [e, e2]⟩) h.1
      · exact ih h.2 h1 h2
/-- A falling row of the same groups is the rising one turned round. -/
theorem falling (hnd : (gs.map (·.id)).Nodup) (hp : ys.Perm gs) (hs : ys.Pairwise (fun a b => b.id ≤ a.id)) : ys = (srtG gs).reverse := by
  have h1 : ys.reverse.Pairwise (fun a b => a.id ≤ b.id) := List.pairwise_reverse.2 hs
  have h2 := uniq GS.id ys.reverse (srtG gs) ((List.reverse_perm ys).trans (hp.trans (srtG_perm gs).symm)) h1 (srtG_pair gs) fun _ ha _ hb e => id_inj hnd (hp.mem_iff.1 (List.mem_reverse.1 ha)) (hp.mem_iff.1 (List.mem_reverse.1 hb)) e
  rw [← h2, List.reverse_reverse]
theorem rising {ts zs : List TS} (hnd : (ts.map (·.id)).Nodup) (hp : zs.Perm ts) (hs : zs.Pairwise (fun a b => a.id ≤ b.id)) : zs = srtT ts :=
  uniq TS.id zs (srtT ts) (hp.trans (srtT_perm ts).symm) hs (srtT_pair ts) fun _ ha _ hb e => idT_inj hnd (hp.mem_iff.1 ha) (hp.mem_iff.1 hb) e
theorem srtG_of (hnd : (gs.map (·.id)).Nodup) (hp : ys.Perm gs) : srtG ys = srtG gs :=
  uniq GS.id _ _ ((srtG_perm ys).trans (hp.trans (srtG_perm gs).symm)) (srtG_pair ys) (srtG_pair gs) fun _ ha _ hb e => id_inj hnd (hp.mem_iff.1 ((srtG_perm ys).mem_iff.1 ha)) (hp.mem_iff.1 ((srtG_perm ys).mem_iff.1 hb)) e
theorem srtT_of {ts zs : List TS} (hnd : (ts.map (·.id)).Nodup) (hp : zs.Perm ts) : srtT zs = srtT ts :=
  uniq TS.id _ _ ((srtT_perm zs).trans (hp.trans (srtT_perm ts).symm)) (srtT_pair zs) (srtT_pair ts) fun _ ha _ hb e => idT_inj hnd (hp.mem_iff.1 ((srtT_perm zs).mem_iff.1 ha)) (hp.mem_iff.1 ((srtT_perm zs).mem_iff.1 hb)) e
theorem kids_rev (hnd : (tl.map (·.id)).Nodup) (hp : ys.Perm tl) (hs : ys.Pairwise (fun a b => b.id ≤ a.id)) : (ys.filter fun g => decide (g.par = x)) = (kidsA tl x).reverse := by
  rw [falling hnd hp hs, kidsA, List.filter_reverse]
/-- No place is further down than it is behind the first one. -/
theorem vis_down {K : Int → List GS} {g0 : GS} {o : List Pl} (h : Vis K [(g0, 0)] o) : ∀ (n i : Nat) (p : Pl), i < n → o[i]? = some p → p.2 ≤ i := by
  intro n
  induction n with
  | zero => intro i p hi; omega
  | succ n ih =>
    intro i p hi hp
    rcases h.up i p hp with h1 | ⟨j, q, h1, h2, _, h4⟩
    · rw [List.mem_singleton] at h1
      rw [h1]
      exact Nat.zero_le _
    · have := ih j q (by omega) h2
      omega
/-- What is known of the place that comes next. -/
theorem visits_next {g0 g : GS} {d : Nat} {seen out : List Pl} (hnd : ((g0 :: tl).map (·.id)).Nodup) (h : visits (g0 :: tl) = seen ++ (g, d) :: out) :
    g ∈ g0 :: tl ∧ g.id ∉ seen.map (·.1.id) ∧ d ≤ seen.length ∧ seen.length + 1 + out.length ≤ tl.length + 1 := by
  obtain ⟨h1, h2, h3, h4⟩ := visits_is hnd
  refine ⟨h3 g ?_, fun hm => ?_, ?_, ?_⟩
  · unfold orderG
    rw [h]
    simp
  · unfold orderG at h2
    rw [h, List.map_append, List.map_append, List.nodup_append] at h2
    refine h2.2.2 g.id ?_ g.id (by simp) rfl
    obtain ⟨p, hp, e⟩ := List.mem_map.1 hm
    exact List.mem_map.2 ⟨p.1, List.mem_map.2 ⟨p, hp, rfl⟩, e⟩
  · have := vis_down h1 (seen.length + 1) seen.length (g, d) (by omega) (by rw [h]; simp)
    exact this
  · rw [h] at h4
    simp at h4
    omega
end
end Go.Proofs.YtggmdgdgljlddaaGreat

/-
  What under holds between its steps: the stack, the map, what was handed on to the closure.
-/
namespace Go.Proofs.YtggmdgdgljlddaaGreat
open Go.RowKit Go.Shelf

/-- A place. -/
def pe (x : Pl) : List Value := [.int .i64 x.1.id, .int .i64 x.1.par, .int .i64 x.1.wt, .int .i64 x.1.pd, .int .i64 x.1.qt, .int .i64 x.1.us, .int .i64 (x.2 : Int)]
def pl (x : Pl) (i : Nat) : Value := (pe x).getD i (.int .i64 0)
theorem pl_one (x : Pl) (i : Nat) : (pl x i).oneCell' = true := by
  match i with
  | 0 => rfl
  | 1 => rfl
  | 2 => rfl
  | 3 => rfl
  | 4 => rfl
  | 5 => rfl
  | 6 => rfl
  | _ + 7 => rfl
theorem usPl : Us Tryz.prog 78 52 7 56 (.agg #[.int .i64 0, .int .i64 0, .int .i64 0, .int .i64 0, .int .i64 0, .int .i64 0, .int .i64 0]) := ⟨by kernel_rfl, by kernel_rfl, by decide, by decide⟩
/-- What is asked of the closure: J holds of what was handed on so far, O are the blocks that it leaves alone. -/
def See (g : Nat) (lb : Array Value) (J : (Nat → Prop) → List Pl → World → Prop) (all : List Pl) : Prop :=
  ∀ (O : Nat → Prop) (pre : List Pl) (x : Pl) (rest : List Pl) (W : World), all = pre ++ x :: rest → J O pre W →
    Calls Tryz.prog g (#[.agg (pe x).toArray] ++ lb) W fun e W' => (∃ v, e = .returned v) ∧ J O (pre ++ [x]) W' ∧ Kp (Nt O) W W'
structure UI (w : World) (H0 m : Nat) (J : (Nat → Prop) → List Pl → World → Prop) (seen : List Pl) (F : Int → List GS) (stk : List Pl) (sv : Value) (O : Nat → Prop) (W : World) : Prop where
  j : J O seen W
  st : Ow W H0 52 7 pl sv stk
  km : ∃ f cnt, Km W w.heap.size m f F cnt ∧ ∀ i, Kin m f i → O i ∧ i < H0
  so : ∀ i, sv.ownBlock = some i → O i
  ol : ∀ i, O i → w.heap.size ≤ i ∧ i < W.heap.size
section
variable {w W W' : World} {H0 m : Nat} {J : (Nat → Prop) → List Pl → World → Prop} {seen : List Pl} {F F' : Int → List GS} {stk : List Pl} {sv : Value} {O : Nat → Prop} {x : Pl}
theorem UI.step (hJ : AbO J) (h : UI w H0 m J seen F stk sv O W) (k : Kp No W W') : UI w H0 m J seen F stk sv O W' := by
  obtain ⟨f, cnt, h1, h2⟩ := h.km
  exact ⟨hJ _ _ _ _ _ h.j k.all (fun k h => .inl h), h.st.kp0 k, ⟨f, cnt, h1.kp0 k, h2⟩, h.so, fun i hi => ⟨(h.ol i hi).1, Nat.lt_of_lt_of_le (h.ol i hi).2 k.size⟩⟩
/-- .. with one block more. -/
theorem UI.own (hJ : AbO J) (h : UI w H0 m J seen F stk sv O W) (k : Kp No W W') {b : Nat} (hb : W.heap.size ≤ b) (hb2 : b < W'.heap.size) (hw : w.heap.size ≤ W.heap.size) : UI w H0 m J seen F stk sv (fun i => O i ∨ i = b) W' := by
  obtain ⟨f, cnt, h1, h2⟩ := h.km
  refine ⟨hJ _ _ _ _ _ h.j k.all (fun k h => ?_), h.st.kp0 k, ⟨f, cnt, h1.kp0 k, fun i hi => ⟨.inl (h2 i hi).1, (h2 i hi).2⟩⟩, fun i hi => .inl (h.so i hi), fun i hi => ?_⟩
  · rcases h with h | rfl
    · exact .inl h
    · exact .inr ⟨hb, hb2⟩
  · rcases hi with hi | rfl
    · exact ⟨(h.ol i hi).1, Nat.lt_of_lt_of_le (h.ol i hi).2 k.size⟩
    · exact ⟨Nat.le_trans hw hb, hb2⟩
/-- .. behind what the closure did. -/
theorem UI.saw {seen' : List Pl} (h : UI w H0 m J seen F stk sv O W) (j : J O seen' W') (k : Kp (Nt O) W W') : UI w H0 m J seen' F stk sv O W' := by
  obtain ⟨f, cnt, h1, h2⟩ := h.km
  exact ⟨j, h.st.kpx k fun i hi e => e (h.so i hi), ⟨f, cnt, h1.kp k fun i hi e => e (h2 i hi).1, h2⟩, h.so, fun i hi => ⟨(h.ol i hi).1, Nat.lt_of_lt_of_le (h.ol i hi).2 k.size⟩⟩
/-- .. with one place more on the stack. -/
theorem UI.push (hJ : AbO J) (h : UI w H0 m J seen F stk sv O W) {sv' : Value} (o : Ow W' H0 52 7 pl sv' (stk ++ [x])) (k : W.grownBy W' sv.ownBlock) (p : sv'.ownBlock = sv.ownBlock ∨ sv'.ownBlock = some W.heap.size) (hw : w.heap.size ≤ W.heap.size) :
    UI w H0 m J seen F (stk ++ [x]) sv' (fun i => O i ∨ (W.heap.size ≤ i ∧ i < W'.heap.size)) W' ∧ Kp (fun i => sv.ownBlock = some i) W W' := by
  have kA := (Kp.refl (fun i => sv.ownBlock = some i) W).grown k fun k hk => .inl hk
  obtain ⟨f, cnt, h1, h2⟩ := h.km
  refine ⟨⟨hJ _ _ _ _ _ h.j (kA.mono fun i _ e => h.so i e) (fun k h => h), o, ⟨f, cnt, h1.kp kA fun i hi e => ?_, fun i hi => ⟨.inl (h2 i hi).1, (h2 i hi).2⟩⟩, fun i hi => ?_, fun i hi => ?_⟩, kA⟩
  · have := (h2 i hi).2
    have := (h.st.blk e).1
    omega
  · rcases p with p | p
    · exact .inl (h.so i (p ▸ hi))
    · rw [p] at hi
      injection hi with hi
      exact .inr ⟨by omega, by subst hi; exact (o.blk p).2.1⟩
  · have hz := kA.size
    rcases hi with hi | hi
    · exact ⟨(h.ol i hi).1, Nat.lt_of_lt_of_le (h.ol i hi).2 hz⟩
    · exact ⟨Nat.le_trans hw hi.1, hi.2⟩
/-- .. the stack cut, in the same block. -/
theorem UI.cut {stk' : List Pl} {sv' : Value} (h : UI w H0 m J seen F stk sv O W) (o : Ow W H0 52 7 pl sv' stk') (p : sv'.ownBlock = sv.ownBlock) : UI w H0 m J seen F stk' sv' O W :=
  ⟨h.j, o, h.km, fun i hi => h.so i (p ▸ hi), h.ol⟩
/-- .. a number taken out of the map. -/
theorem UI.del (hJ : AbO J) (h : UI w H0 m J seen F stk sv O W) {y : Int} (hy : I64 y) (ty : TypeId) : ∃ W', (Builtin.delete_ #[76, 3] ty #[.map (some m), .int .i64 y]).run Tryz.prog W = .ok (.tuple #[]) W' ∧ UI w H0 m J seen (fun z => if z = y then [] else F z) stk sv O W' ∧ Kp (Only m) W W' := by
  obtain ⟨f, cnt, h1, h2⟩ := h.km
  obtain ⟨W', hr, m1, k⟩ := h1.mp.del rK hy ty
  refine ⟨W', hr, ⟨hJ _ _ _ _ _ h.j (k.mono fun i _ e => by rw [show i = m from e]; exact (h2 m (.inl rfl)).1) (fun k h => .inl h), h.st.kpx k fun i hi e => ?_, ⟨_, _, ⟨m1, fun z a e => ?_, fun z e => ?_, fun z a k e => ?_, fun z z2 a a2 k e e2 => ?_⟩, fun i hi => h2 i ?_⟩, h.so, fun i hi => ⟨(h.ol i hi).1, Nat.lt_of_lt_of_le (h.ol i hi).2 k.size⟩⟩, k⟩
  · have h3 := (h2 m (.inl rfl)).2
    have h4 := (h.st.blk hi).1
    have e : i = m := e
    omega
  · by_cases hz : z = y
    · simp [hz] at e
    · simp only [hz, if_false] at e ⊢
      exact (h1.row z a e).kpx k fun i hi e2 => h1.own z a i e (by rw [← rsl_own]; exact hi) e2
  · by_cases hz : z = y
    · simp [hz]
    · simp only [hz, if_false] at e ⊢
      exact h1.non z e
  · by_cases hz : z = y
    · simp [hz] at e
    · simp only [hz, if_false] at e
      exact h1.own z a k e
  · by_cases hz : z = y
    · simp [hz] at e
    · simp only [hz, if_false] at e
      by_cases hz2 : z2 = y
      · simp [hz2] at e2
      · simp only [hz2, if_false] at e2
        exact h1.dis z z2 a a2 k e e2
  · rcases hi with rfl | ⟨z, a, e, hk⟩
    · exact .inl rfl
    · by_cases hz : z = y
      · simp [hz] at e
      · simp only [hz, if_false] at e
        exact .inr ⟨z, a, e, hk⟩
theorem Ow.single (w : World) (base : Nat) (x : Pl) (h : base ≤ w.heap.size) : Ow (w.alloc (.cells (pe x).toArray 52)) base 52 7 pl (.slice (some ⟨w.heap.size, 0, none⟩) 1 1) [x] :=
  ⟨by simp [flat], .inr ⟨w.heap.size, 1, (pe x).toArray, rfl, h, heap_alloc_new w _, Nat.le_refl _, by simp [maxLen], rfl, rfl⟩⟩
theorem Rw.tail {P : Nat → Prop} {g0 : GS} {tl : List GS} {b o c : Nat} (h : Rw 6 gc gs0 w P (.slice (some ⟨b, o, none⟩) (tl.length + 1) c) (g0 :: tl)) : Rw 6 gc gs0 w P (.slice (some ⟨b, o + 6, none⟩) tl.length (c - 1)) tl := by
  obtain ⟨A, c', he, hc, hm, hx⟩ := h
  injection he with e1 _ e3
  subst e3
  simp only [List.length_cons] at hc
  refine ⟨_, c - 1, rfl, by omega, by omega, fun h0 => ?_⟩
  obtain ⟨b', o', e4, h1, h2, h3⟩ := hx (by simp)
  rw [← e1] at e4
  injection e4 with e4
  injection e4 with e5 e6 _
  subst e5 e6
  refine ⟨b, o + 6, rfl, h1, h2, fun j i hj hi => ?_⟩
  have := h3 (j + 1) i (by simp; omega) hi
  rw [show o + 6 + (j * 6 + i) = o + ((j + 1) * 6 + i) by omega, this]
  rfl
end
end Go.Proofs.YtggmdgdgljlddaaGreat
