/-
  What a shelf is, by its items; contracts: Put where the item is not there.
-/
import Derived.Test.YtpbnmfoecmhnnaaSE
import Derived.Deep.RegionLaw
namespace Go.Proofs.Ytpbnmfoecmhnnaa
open Go.RowKit

section
variable {w w' : World} {g b c n top : Nat} {nd nd' : Nat → Nd} {S : Nat → Prop}

theorem usNode : Us Try.prog 95 103 6 48 (.agg #[.int .i64 0, .int .i64 0, .int .i64 0, .int .i64 0, .int .i64 0, .int .i64 0]) := ⟨by kernel_rfl, infoNode, by kernel_rfl, by omega⟩
theorem nc_one (x : Nd) (i : Nat) : (nc x i).oneCell' = true := by
  unfold nc
  split <;> rfl

/-- append of one element onto what is owned, as one step of a region that draws. -/
theorem step_one {P : Program} {t e : TypeId} {α : Type} {n bytes : Nat} {z : Value} {f : α → Nat → Value} (u : Us P t e n bytes z) (hf : ∀ x i, (f x i).oneCell' = true) {ops : Array Oper} {o : Oper} {a : Act} {w : World} {K : Act → World → Prop} {Q : Exit → Act → World → Prop} {E : Prop} (hgd : o.guard = none) (s x : Operand)
    (ho : o.op = .call { callee := .builtin .append, args := #[s, x], argTypes := #[t, t] }) {base : Nat} {xs : List α} (y : α) {q : Nat} (v : Value) (hv : a.eval s = v) (hown : Ow w base e n f v xs) (hx : a.eval x = .slice (some ⟨q, 0, none⟩) 1 1) (hy : ∀ i, i < n → w.cell? ⟨q, i, none⟩ = some (f y i))
    (hle : (xs.length + 1) * bytes ≤ 140737488355328) (h63 : xs.length + 1 ≤ maxLen) (hbase : base ≤ w.heap.size)
    (h : ∀ v' w', Ow w' base e n f v' (xs ++ [y]) → w.grownBy w' v.ownBlock → (v'.ownBlock = v.ownBlock ∨ v'.ownBlock = some w.heap.size) → K (a.put o.dst v') w') : if Region.wanted o (yielded ops a.tmps) = true then Oper.wp P o a w K Q else E := by
  have hw : Region.wanted o (yielded ops a.tmps) = true := by simp [Region.wanted, hgd]
  rw [if_pos hw]
  obtain ⟨i, hi, hz, hs, hb⟩ := info_parts u.info
  obtain ⟨v', w', hrun, h2, h3, _, h5⟩ := run_append_own_at (P := P) w base t o.type e i z n bytes u.un hi hz hs hb u.zero u.pos v xs.length _ hown ⟨q, 0, none⟩ 1 1 (flat n f [y]) (flat_len [y]) (fun j p hp => by
      obtain ⟨k, i, hk, hi, rfl, rfl⟩ := flat_get (d := y) [y] hp
      have hk0 : k = 0 := by simpa using hk
      subst hk0
      have ha : (⟨q, 0, none⟩ : Addr).add (0 * n + i) = ⟨q, i, none⟩ := by unfold Addr.add; split <;> simp_all
      rw [ha, hy i hi]
      simp) (flat_one hf [y]) h63 hle hbase
  unfold Oper.wp execOp
  simp only [ho, resolve, invoke, builtin, Sem.run_bind, Sem.run_pure, Result.andThen_ok, List.map_toArray, List.map_cons, List.map_nil, hv, hx, hrun]
  refine h v' w' ?_ h3 h5
  unfold Ow
  rw [List.length_append, flat_app]
  exact h2

/-- All is as it should be with the nodes. -/
structure Inv (nd : Nat → Nd) (n : Nat) (T : BT) : Prop where
  tr : Tr nd T
  bal : Bal T
  nodup : T.pls.Nodup
  len : T.pls.length = n
  ins : In n T.pls
  srt : Srt nd T.pls
def items (nd : Nat → Nd) (T : BT) : List It := T.pls.map fun p => (nd p).it

/-- At g lies a shelf with these items, in blocks of S. -/
def Shf (w : World) (g : Nat) (S : Nat → Prop) (l : List It) : Prop :=
  S g ∧ ((l = [] ∧ Blk w g 97 #[.slice none 0 0, .int .i64 0]) ∨ ∃ b c n nd T, S b ∧ Sh w g b c n nd T.root ∧ Inv nd n T ∧ l = items nd T)
theorem Shf.kp {T : Nat → Prop} {l : List It} (h : Shf w g S l) (k : Kp T w w') (hd : ∀ i, S i → ¬ T i) : Shf w' g S l := by
  obtain ⟨h1, h2⟩ := h
  refine ⟨h1, ?_⟩
  rcases h2 with ⟨e, h2⟩ | ⟨b, c, n, nd, T, hb, h2, h3, h4⟩
  · exact .inl ⟨e, h2.kp k (hd g h1)⟩
  · exact .inr ⟨b, c, n, nd, T, hb, h2.kp k (hd g h1) (hd b hb), h3, h4⟩
theorem Shf.kp0 {l : List It} (h : Shf w g S l) (k : Kp No w w') : Shf w' g S l := h.kp k fun _ _ h => h
theorem Shf.mono {T : Nat → Prop} {l : List It} (h : Shf w g S l) (hd : ∀ i, i < w.heap.size → S i → T i) : Shf w g T l := by
  obtain ⟨h1, h2⟩ := h
  rcases h2 with ⟨e, h2⟩ | ⟨b, c, n, nd, T, hb, h2, h3, h4⟩
  · exact ⟨hd g h2.lt h1, .inl ⟨e, h2⟩⟩
  · exact ⟨hd g h2.hd.lt h1, .inr ⟨b, c, n, nd, T, hd b h2.row.lt hb, h2, h3, h4⟩⟩
theorem Shf.lt {l : List It} (h : Shf w g S l) : g < w.heap.size := by
  rcases h.2 with ⟨e, h2⟩ | ⟨b, c, n, nd, T, hb, h2, h3, h4⟩
  · exact h2.lt
  · exact h2.hd.lt
def Sorted (l : List It) : Prop := l.Pairwise fun a b => ltB a b = true
theorem Shf.sorted {l : List It} (h : Shf w g S l) : Sorted l := by
  rcases h.2 with ⟨rfl, h2⟩ | ⟨b, c, n, nd, T, hb, h2, h3, rfl⟩
  · exact List.Pairwise.nil
  · exact h3.srt

def ndx (x : It) : Nd := ⟨x, 0, 0, 1, 1⟩
/-- A shelf with x behind all others in the array. -/
theorem rows_new (nd : Nat → Nd) (n : Nat) (x : Nd) : rows (upd nd (n + 1) x) (n + 1) = rows nd n ++ [x] := by
  rw [rows_succ, upd_same]
  congr 1
  exact rows_ext fun p _ hp => upd_ne nd x (by omega)

theorem put_pure {T : BT} {x : It} {fs : List Fr} (hI : Inv nd n T) (hw : Way nd x T fs .nil) (hn : n ≤ 1000000) :
    fs.length ≤ 1000000000 ∧ Tr (upd nd (n + 1) (ndx x)) (.node (n + 1) .nil .nil) ∧ TrF (upd nd (n + 1) (ndx x)) fs ∧ (plug fs (.node (n + 1) .nil .nil)).pls.Nodup ∧ In (n + 1) (plug fs (.node (n + 1) .nil .nil)).pls ∧ Bal (.node (n + 1) .nil .nil) ∧ BalF fs 0 := by
  obtain ⟨i1, i2, i3, i4, i5, i6⟩ := hI
  have hp := hw.plug
  subst hp
  have hpl := plug_pls fs .nil
  simp only [BT.pls, List.nil_append] at hpl
  have hlen := plug_ht fs .nil
  have hht := (plug fs .nil).ht_le
  rw [BT.sz, i4] at hht
  have out : n + 1 ∉ (plug fs .nil).pls := fun h => by have := i5 _ h; omega
  refine ⟨by omega, ?_, ?_, ?_, ?_, ?_, i2.plug.2⟩
  · simp [Tr, upd_same, ndx, BT.root, BT.sz, BT.pls, BT.ht]
  · refine (Tr.plug hw.sds i1).2.ext fun q hq => ?_
    rw [upd_ne nd _ (by
      rintro rfl
      refine out ?_
      rw [hpl]
      simpa [List.mem_append] using mem_fpl.1 hq)]
    exact Shp.refl _
  · rw [plug_pls]
    rw [hpl] at i3 out
    simp only [BT.pls, List.nil_append]
    rw [List.nodup_append] at i3 ⊢
    simp only [List.mem_append, not_or] at out
    refine ⟨i3.1, ?_, ?_⟩
    · rw [List.singleton_append, List.nodup_cons]
      exact ⟨out.2, i3.2.1⟩
    · intro a ha b hb
      rcases List.mem_append.1 hb with hb | hb
      · have : b = n + 1 := by simpa using hb
        subst this
        rintro rfl
        exact out.1 ha
      · exact i3.2.2 a ha b hb
  · rw [plug_pls]
    intro q hq
    simp only [BT.pls, List.nil_append, List.mem_append, List.mem_singleton] at hq
    rcases hq with hq | rfl | hq
    · have := i5 q (by rw [hpl]; simp [hq]); omega
    · omega
    · have := i5 q (by rw [hpl]; simp [hq]); omega
  · simp [Bal, BT.ht]

theorem put_end {T T7 : BT} {x : It} {fs : List Fr} {nd7 : Nat → Nd} (hI : Inv nd n T) (hw : Way nd x T fs .nil) (hn : n ≤ 1000000) (t7 : Tr nd7 T7) (p7 : T7.pls = (plug fs (.node (n + 1) .nil .nil)).pls) (b7 : Bal T7) (it7 : ∀ q, (nd7 q).it = (upd nd (n + 1) (ndx x) q).it) :
    Inv nd7 (n + 1) T7 ∧ items nd T = (lc fs).map (fun p => (nd p).it) ++ (rc fs).map (fun p => (nd p).it) ∧ (∀ y ∈ (lc fs).map (fun p => (nd p).it), ltB y x = true) ∧ (∀ y ∈ (rc fs).map (fun p => (nd p).it), ltB x y = true) ∧
      items nd7 T7 = (lc fs).map (fun p => (nd p).it) ++ x :: (rc fs).map (fun p => (nd p).it) := by
  obtain ⟨_, _, _, h4, h5, _, _⟩ := put_pure hI hw hn
  obtain ⟨i1, i2, i3, i4, i5, i6⟩ := hI
  have hp := hw.plug
  subst hp
  have hpl := plug_pls fs .nil
  simp only [BT.pls, List.nil_append] at hpl
  have hpl7 := plug_pls fs (.node (n + 1) .nil .nil)
  simp only [BT.pls, List.nil_append] at hpl7
  rw [hpl7] at p7
  have same : ∀ {l : List Nat}, (∀ q ∈ l, q ∈ (plug fs .nil).pls) → l.map (fun p => (nd7 p).it) = l.map (fun p => (nd p).it) := fun h => List.map_congr_left fun q hq => by
    rw [it7, upd_ne nd _ (by rintro rfl; have := i5 _ (h _ hq); omega)]
  have sl := same (l := lc fs) fun q hq => by rw [hpl]; simp [hq]
  have sr := same (l := rc fs) fun q hq => by rw [hpl]; simp [hq]
  have it : items nd7 T7 = (lc fs).map (fun p => (nd p).it) ++ x :: (rc fs).map (fun p => (nd p).it) := by
    unfold items
    rw [p7, List.map_append, List.map_append, sl, sr]
    simp [it7, upd_same, ndx]
  have lo : ∀ y ∈ (lc fs).map (fun p => (nd p).it), ltB y x = true := fun y hy => by
    obtain ⟨q, hq, rfl⟩ := List.mem_map.1 hy
    exact hw.low q hq
  have hi : ∀ y ∈ (rc fs).map (fun p => (nd p).it), ltB x y = true := fun y hy => by
    obtain ⟨q, hq, rfl⟩ := List.mem_map.1 hy
    exact hw.high q hq
  refine ⟨⟨t7, b7, by rw [p7, ← hpl7]; exact h4, ?_, by rw [p7, ← hpl7]; exact h5, ?_⟩, by unfold items; rw [hpl, List.map_append], lo, hi, it⟩
  · rw [p7]
    rw [hpl] at i4
    simp only [List.length_append, List.length_cons, List.length_nil] at i4 ⊢
    omega
  · show (items nd7 T7).Pairwise _
    rw [it]
    have hs : Sorted ((lc fs).map (fun p => (nd p).it) ++ (rc fs).map (fun p => (nd p).it)) := by rw [← List.map_append, ← hpl]; exact i6
    unfold Sorted at hs
    rw [List.pairwise_append] at hs ⊢
    refine ⟨hs.1, List.pairwise_cons.2 ⟨hi, hs.2.1⟩, fun a ha b hb => ?_⟩
    rcases List.mem_cons.1 hb with rfl | hb
    · exact lo a ha
    · exact hs.2.2 a ha b hb

set_option maxRecDepth 100000 in
set_option maxHeartbeats 1000000 in
theorem put_new {A : Option Addr} {T : BT} (hd : Blk w g 97 #[.slice A n c, .int .i64 (top : Int)]) (row : Ow w 0 103 6 nc (.slice A n c) (rows nd n)) (hne : ∀ k, (Value.slice A n c).ownBlock = some k → k ≠ g) (hI : Inv nd n T) (hnl : n < 1000000) (x : It) (hx : x ∉ items nd T)
    (hway : ∀ w1, Kp No w w1 → Calls Try.prog 54 #[.pointer (some ⟨g, 0, none⟩), .agg #[.int .i64 x.key, .int .i64 x.id]] w1 (WayE w1 nd x T)) :
    Calls Try.prog 22 #[.pointer (some ⟨g, 0, none⟩), .agg #[.int .i64 x.key, .int .i64 x.id]] w fun e w' => e = .returned (.bool true) ∧ Kp (fun k => k = g ∨ (Value.slice A n c).ownBlock = some k) w w' ∧
      ∃ b' c' nd' T' L R, ((Value.slice A n c).ownBlock = some b' ∨ w.heap.size ≤ b') ∧ Sh w' g b' c' (n + 1) nd' T'.root ∧ Inv nd' (n + 1) T' ∧ items nd T = L ++ R ∧ (∀ y ∈ L, ltB y x = true) ∧ (∀ y ∈ R, ltB x y = true) ∧ items nd' T' = L ++ x :: R := by
  go_enter Try.func22, Try.ntmps22
  go_wp2_with fail
  have bx := Blk.new w 24 #[.int .i64 x.key, .int .i64 x.id]
  have k1 := (Kp.refl No w).alloc (.cells #[.int .i64 x.key, .int .i64 x.id] 24)
  generalize w.alloc (.cells #[.int .i64 x.key, .int .i64 x.id] 24) = w1 at bx k1 ⊢
  refine (hway w1 k1).mono ?_
  rintro e w2 ⟨v, fs, t, rfl, k2, hv, hw, ht⟩
  obtain rfl : t = .nil := by
    rcases ht with rfl | ⟨p, l, r, rfl, hp⟩
    · rfl
    · refine absurd ?_ hx
      rw [← hp]
      refine List.mem_map.2 ⟨p, ?_, rfl⟩
      rw [hw.plug, plug_pls]
      simp [BT.pls]
  rw [show ((BT.nil.root : Nat) : Int) = 0 from rfl]
  have k3 := k1.trans k2
  have hd2 := hd.kp0 k3
  have row2 := row.kp0 k3
  have bx2 := bx.kp0 k2
  have cx0 := bx2.cell 0
  have cx1 := bx2.cell 1
  have c0 := hd2.cell 0
  have f0 := hd2.frozen 0
  have hgl := hd2.lt
  have hgw' := hd.lt
  have HRW := hid row
  simp at cx0 cx1 c0
  have HR := hid row2
  have HV := hid hv
  have HB := hid bx2
  have HD := hid hd2
  clear row row2 hv bx bx2 hd hd2
  go_wp2_with fail
  go_region_law (first
    | (refine step_one usNode nc_one (by rfl) (.tmp 19) (.tmp 22) (by rfl) (ndx x) _ (by rfl) (by exact HR.out.kp0 ((Kp.refl No w2).drew.alloc _)) (by rfl) (fun i hi => by
         have hb := Blk.kp0 (Blk.new w2 103 #[.int .i64 x.key, .int .i64 x.id, .int .i64 0, .int .i64 0, .int .i64 1, .int .i64 1]) (Kp.refl No _).drew
         match i, hi with
         | 0, _ => exact hb.cell 0
         | 1, _ => exact hb.cell 1
         | 2, _ => exact hb.cell 2
         | 3, _ => exact hb.cell 3
         | 4, _ => exact hb.cell 4
         | 5, _ => exact hb.cell 5) (by rw [rows_len]; omega) (by rw [rows_len]; simp [maxLen]; omega) (Nat.zero_le _) ?_
       intro v5 w5 o5 k5 p5
       rw [← rows_new nd n (ndx x)] at o5
       obtain ⟨b5, c5, rfl, n5⟩ := o5.nds (by omega)
       have K5 : Kp (fun k => (Value.slice A n c).ownBlock = some k) w2 w5 := ((Kp.refl _ w2).drew.alloc _).grown k5 fun k hk => .inl hk
       have d5 := HD.out.kp K5 fun e => hne g e rfl
       have q0 := d5.cell 0
       have g0 := d5.frozen 0
       simp at q0))
  all_goals
    have hgw : g < w.heap.size := by
      rcases Nat.lt_or_ge g w.heap.size with h | h
      · exact h
      · exact absurd hgw' (by omega)
    have own : ∀ k, (Value.slice A n c).ownBlock = some k → k < w.heap.size := fun k hk => (World.ownsRow.lt HRW.out k hk).2
    have hs1 := k1.size
    have hs2 := k2.size
    have b5g : b5 ≠ g := by
      rcases p5 with p5 | p5
      · exact hne b5 (p5.symm.trans rfl)
      · have : b5 = w2.heap.size + 1 := by simpa [Value.ownBlock] using p5
        omega
    have s6 : Sh (w5.setCell ⟨g, 0, none⟩ (.slice (some ⟨b5, 0, none⟩) (n + 1) c5)) g b5 c5 (n + 1) (upd nd (n + 1) (ndx x)) top :=
      ⟨d5.put 0 _, n5.kp (Kp.set1 g 0 _ _) b5g, b5g, by omega⟩
    have k6 : Kp (fun k => k = g ∨ (Value.slice A n c).ownBlock = some k) w2 (w5.setCell ⟨g, 0, none⟩ (.slice (some ⟨b5, 0, none⟩) (n + 1) c5)) := (K5.mono fun _ _ h => .inr h).setCell (p := ⟨g, 0, none⟩) (.inl (.inl rfl)) _
    change Exit.then _ _ _ _ (w5.setCell ⟨g, 0, none⟩ (.slice (some ⟨b5, 0, none⟩) (n + 1) c5))
    generalize w5.setCell ⟨g, 0, none⟩ (.slice (some ⟨b5, 0, none⟩) (n + 1) c5) = w6 at s6 k6 ⊢
    have hv6 : Ow w6 w1.heap.size 135 2 sc v fs.reverse := HV.out.kp k6 fun i hi h => by
      rcases h with h | h
      · omega
      · have := own i h; omega
    have hne6 : ∀ k, v.ownBlock = some k → k ≠ g ∧ k ≠ b5 := fun k hk => by
      obtain ⟨l1, l2⟩ := World.ownsRow.lt HV.out k hk
      refine ⟨by omega, ?_⟩
      rcases p5 with p5 | p5
      · have := own b5 (p5.symm.trans rfl)
        omega
      · have : b5 = w2.heap.size + 1 := by simpa [Value.ownBlock] using p5
        omega
    have hP := put_pure hI hw (by omega)
    have P5 : Hid ((Value.slice A n c).ownBlock = some b5 ∨ w.heap.size ≤ b5) := by
      rcases p5 with p5 | p5
      · exact .inl (p5.symm.trans rfl)
      · exact .inr (by have : b5 = w2.heap.size + 1 := by simpa [Value.ownBlock] using p5
                       omega)
    clear q0 g0 d5 n5 K5 p5 cx0 cx1 c0 f0 k5 o5
    have c6 := s6.head.1
    go_wp2_with fail
    refine (hang_any s6 (fs := fs) (t := .node (n + 1) .nil .nil) (ho := 0) (hv6.lower (Nat.zero_le _)) hne6 hP.1 hP.2.1 hP.2.2.1 hP.2.2.2.1 hP.2.2.2.2.1 hP.2.2.2.2.2.1 hP.2.2.2.2.2.2 (by unfold Near; simp [BT.ht])).mono ?_
    rintro e w7 ⟨rfl, k7, nd7, T7, s7, t7, p7, b7, sm7, it7⟩
    go_wp2_with fail
    go_ret
    obtain ⟨e1, e2, e3, e4, e5⟩ := put_end hI hw (by omega) t7 p7 b7 it7
    refine ⟨rfl, ?_, b5, c5, nd7, T7, _, _, P5.out, s7, e1, e2, e3, e4, e5⟩
    refine ((Kp.all k3).step k6 fun i hi h => h).step k7 fun i hi h => ?_
    rcases h with h | h
    · exact .inl h
    · rcases P5.out with q | q
      · exact .inr (by rw [h]; exact q)
      · have : i = b5 := h
        omega
end
end Go.Proofs.Ytpbnmfoecmhnnaa
