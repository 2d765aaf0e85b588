/-
  Contract: hang.
-/
import Derived.Test.YtpbnmfoecmhnnaaSC
namespace Go.Proofs.Ytpbnmfoecmhnnaa
open Go.RowKit Go.Shelf

attribute [local go_sem] Oper.semAt_some

section
variable {P : Program}
/-- A region that draws, whose head reads or calls quietly: the head in the order of the text, then the rest. -/
theorem any_tail {Q : Exit → Act → World → Prop} {a : Act} {w : World} {l : List Oper} (n : Nat) (hB : Region.lexTailB .any l.toArray n = true)
    (h : wpStill P l.toArray w (fun a' => wpList P l.toArray Q (l.drop n) a' w) (l.take n) a) : wpAny P .any l.toArray Q l.toArray.size (Array.replicate l.toArray.size false) a w := by
  simp only [Region.lexTailB, Bool.and_eq_true, decide_eq_true_eq] at hB
  obtain ⟨⟨⟨⟨hsel, hn⟩, hs⟩, hc⟩, hlex⟩ := hB
  have hn' : n < l.length := by simpa using hn
  have htl : (l.take n).length = n := by simp; omega
  have hdl : (l.drop n).length = l.toArray.size - n := by simp
  have inv0 : HeadInv .any l.toArray n (Array.replicate l.toArray.size false) :=
    ⟨by simp, fun j oj _ hl => (by rw [getD_replicate_false] at hl; cases hl), fun t _ ht => getD_in (by simpa using ht) (getD_replicate_false _ _)⟩
  have H := wpAnyL_lex (md := .any) (g := l.toArray.size - n) hsel hs hc hn (l.take n) 0 _ a (fun j hj => by
    have hj' : j < n := by rw [htl] at hj; exact hj
    simp [hj']) (by simpa using htl) inv0 (by rw [htl]; exact hlex) h
  have := wpAny_of_head (Q' := Q) (g := l.toArray.size - n) (fun listed a' hL => by
    have := wpAny_of_seq (md := .any) (Q' := Q) (l.drop n) n listed a' w (fun j => by simp [List.getElem?_drop]) (by rw [hdl]; exact hL.1) hL.2
    rwa [hdl] at this) _ _ _ H
  rw [htl, show n + (l.toArray.size - n) = l.toArray.size by omega] at this
  exact this
/-- .. in a round of a loop over an iterator. -/
theorem region_in_tail {Q : Exit → Act → World → Prop} {a : Act} {w : World} {l : List Oper} {l0 m id : Nat} (n : Nat) (hm : P.follows .mixedOrders = true) (hd : noDefer l.toArray = true) (hL : ¬ LetsOut Q) (hB : Region.lexTailB .any l.toArray n = true)
    (h : wpStill P l.toArray w.drew (fun a' => wpList P l.toArray Q (l.drop n) a' w.drew) (l.take n) a) : (Code.region id l.toArray true).wpIn (Fence.wide.inRound l0) m P Q a w :=
  region_in hm hd hL (any_tail n hB h)
end

section
variable {w w' : World} {g b c n top : Nat} {nd nd' : Nat → Nd} {S : Nat → Prop}

/-- What so many steps up leave. -/
structure Hang (fs : List Fr) (t : BT) (nd : Nat → Nd) (m : Nat) (t' : BT) (nd' : Nat → Nd) (ho : Nat) : Prop where
  tr : Tr nd' t'
  trf : TrF nd' (fs.drop m)
  pls : (plug (fs.drop m) t').pls = (plug fs t).pls
  bal : Bal t'
  balf : BalF (fs.drop m) ho
  near : Near ho t'.ht
  same : ∀ q, q ∉ (plug fs t).pls → nd' q = nd q
  item : ∀ q, (nd' q).it = (nd q).it

/-- The shelf's two blocks. -/
def GB (g b : Nat) : Nat → Prop := fun k => k = g ∨ k = b

def HI (w : World) (g b c n top Bs Ba : Nat) (nd : Nat → Nd) (fs : List Fr) (t : BT) (O : Nat → Prop) (pre : List (Nat × Fr)) (W : World) : Prop :=
  ∃ t' nd' ho, Kp (GB g b) w W ∧ Sh W g b c n nd' top ∧ Blk W Bs 26 #[.pointer (some ⟨g, 0, none⟩)] ∧ Blk W Ba 3 #[.int .i64 (t'.root : Int)] ∧ (¬ O Bs ∧ ¬ O Ba ∧ ¬ O g ∧ ¬ O b ∧ ∀ k, O k → w.heap.size ≤ k) ∧ Hang fs t nd pre.length t' nd' ho

theorem HI.ab (w : World) (g b c n top Bs Ba : Nat) (nd : Nat → Nd) (fs : List Fr) (t : BT) : AbO (HI w g b c n top Bs Ba nd fs t) := by
  rintro O O' pre W W' ⟨t', nd', ho, kk, s, bs, ba, ⟨o1, o2, o3, o4, o5⟩, hh⟩ hk hO
  have no : ∀ {k : Nat}, k < W.heap.size → ¬ O k → ¬ O' k := fun hl h h' => by
    rcases hO _ h' with h1 | h1
    · exact h h1
    · omega
  refine ⟨t', nd', ho, kk.step hk fun i hi h => absurd (o5 i h) (by omega), s.kp hk o3 o4, bs.kp hk o1, ba.kp hk o2, ⟨no bs.lt o1, no ba.lt o2, no s.hd.lt o3, no s.row.lt o4, fun k h => ?_⟩, hh⟩
  rcases hO k h with h | h
  · exact o5 k h
  · exact Nat.le_trans kk.size h.1

theorem bk_at {L : List Fr} {pre rest : List (Nat × Fr)} {x : Nat × Fr} (h : bk L L.length = pre ++ x :: rest) : pre.length < L.length ∧ x = (L.length - 1 - pre.length, L.getD (L.length - 1 - pre.length) fr0) := by
  have hl : pre.length < L.length := by
    have := congrArg List.length h
    simp [bk] at this
    omega
  have h1 : (bk L L.length)[pre.length]? = some x := by rw [h]; simp
  simp [bk, hl] at h1
  exact ⟨hl, by rw [← h1]; simp [List.getD]⟩
theorem rev_at (fs : List Fr) {m : Nat} (h : m < fs.length) : fs.reverse.getD (fs.reverse.length - 1 - m) fr0 = fs.getD m fr0 := by
  simp only [List.getD, List.length_reverse]
  rw [List.getElem?_reverse (by omega)]
  congr 2
  omega
theorem drop_at (fs : List Fr) {m : Nat} (h : m < fs.length) : fs.drop m = fs.getD m fr0 :: fs.drop (m + 1) := by
  rw [List.drop_eq_getElem_cons h]
  simp [List.getD, h]

theorem steps_open {v : Value} {L : List Fr} (h : Ow w 0 135 2 sc v L) (hg : g < w.heap.size) (hb : b < w.heap.size) (hne : ∀ k, v.ownBlock = some k → k ≠ g ∧ k ≠ b) :
    ∃ bs A c, v = .slice A L.length c ∧ (0 < L.length → A = some ⟨bs, 0, none⟩) ∧ (bs < w.heap.size ∨ bs = w.heap.size + 2) ∧ bs ≠ g ∧ bs ≠ b ∧ ∀ j i, j < L.length → i < 2 → bs < w.heap.size ∧ w.cell? ⟨bs, j * 2 + i, none⟩ = some (sc (L.getD j fr0) i) := by
  rcases h.2 with ⟨rfl, h0⟩ | ⟨bs, cap, cur, rfl, _, hc, _⟩
  · exact ⟨w.heap.size + 2, none, 0, by rw [h0], fun h => by omega, .inr rfl, by omega, by omega, fun j i hj => by omega⟩
  · obtain ⟨n1, n2⟩ := hne bs rfl
    have hl := (Array.getElem?_eq_some_iff.1 hc).1
    refine ⟨bs, _, cap, rfl, fun _ => rfl, .inl hl, n1, n2, fun j i hj hi => ⟨hl, ?_⟩⟩
    have := Rw.cell (h.rw (d := fr0)) (Kp.refl No w) hj hi rfl
    rw [Nat.zero_add] at this
    exact this

theorem Hang.next {fs : List Fr} {t t' t2 l r : BT} {nd1 nd2 : Nat → Nd} {m ho : Nat} {f : Fr} (h : Hang fs t nd m t' nd' ho) (hn : (plug fs t).pls.Nodup) (hd : fs.drop m = f :: fs.drop (m + 1))
    (hs : f.s = 0 ∧ l = t' ∧ r = f.o ∨ f.s = 1 ∧ l = f.o ∧ r = t') (e1 : ∀ q, q ≠ f.p → nd1 q = nd' q) (e2 : (nd1 f.p).it = (nd' f.p).it) (L : Lvl nd1 nd2 f.p l r t2) : Hang fs t nd (m + 1) t2 nd2 (max ho f.o.ht + 1) := by
  obtain ⟨h1, h2, h3, h4, h5, h6, h7, h8⟩ := h
  rw [hd] at h2 h3 h5
  obtain ⟨f1, f2, f3⟩ := h2
  obtain ⟨b1, b2, b3, b4⟩ := h5
  obtain ⟨u1, u2⟩ := Lev.up hs L.lev h4 b1 b2 b3 h6
  have e : (BT.node f.p l r).pls = (plug1 f t').pls := by
    unfold plug1
    rcases hs with ⟨x, rfl, rfl⟩ | ⟨x, rfl, rfl⟩
    · rw [if_pos x]
    · rw [if_neg (by omega)]
  have hp : (plug fs t).pls = lc (fs.drop (m + 1)) ++ ((BT.node f.p l r).pls ++ rc (fs.drop (m + 1))) := by
    rw [← h3, plug, plug_pls, e]
  have out : ∀ q, q ∉ (BT.node f.p l r).pls → nd2 q = nd' q := fun q hq => by rw [L.same q hq, e1 q (by rintro rfl; exact hq BT.in_p)]
  refine ⟨L.tr, f3.ext fun q hq => ?_, by rw [plug_pls, L.pls, hp], u1, b4, u2, fun q hq => ?_, fun q => ?_⟩
  · rw [out q (fun hx => ?_)]
    · exact Shp.refl _
    · rw [hp] at hn
      rw [List.nodup_append, List.nodup_append] at hn
      rcases mem_fpl.1 hq with hq | hq
      · exact hn.2.2 q hq q (List.mem_append.2 (.inl hx)) rfl
      · exact hn.2.1.2.2 q hx q hq rfl
  · rw [out q (fun hx => hq (by rw [hp]; simp [hx]))]
    exact h7 q hq
  · rw [L.item q, ← h8 q]
    by_cases x : q = f.p
    · subst x; exact e2
    · rw [e1 q x]

set_option maxRecDepth 100000 in
set_option maxHeartbeats 2000000 in
theorem hang_any (h : Sh w g b c n nd top) {v : Value} {fs : List Fr} {t : BT} {ho : Nat} (hv : Ow w 0 135 2 sc v fs.reverse) (hne : ∀ k, v.ownBlock = some k → k ≠ g ∧ k ≠ b) (hl : fs.length ≤ 1000000000)
    (hT : Tr nd t) (hF : TrF nd fs) (hn : (plug fs t).pls.Nodup) (hi : In n (plug fs t).pls) (hb : Bal t) (hbf : BalF fs ho) (hnr : Near ho t.ht) :
    Calls Try.prog 57 #[.pointer (some ⟨g, 0, none⟩), v, .int .i64 (t.root : Int)] w fun e w' => e = .returned (.tuple #[]) ∧ Kp (GB g b) w w' ∧
      ∃ nd' t', Sh w' g b c n nd' t'.root ∧ Tr nd' t' ∧ t'.pls = (plug fs t).pls ∧ Bal t' ∧ (∀ q, q ∉ (plug fs t).pls → nd' q = nd q) ∧ (∀ q, (nd' q).it = (nd q).it) := by
  obtain ⟨bs, A, c2, rfl, hA, hbs, bg, bb, hcell⟩ := steps_open hv h.hd.lt h.row.lt hne
  have hgl := h.hd.lt
  have hbl := h.row.lt
  refine (callsIn_wide (n := 5)).1 ?_
  refine callsIn_of_wp_marks Try.func57 rfl trivial ?_ rfl
  simp only [Try.ntmps57, List.size_toArray, List.length_cons, List.length_nil, Nat.reduceAdd, Nat.reduceSub, Array.replicate_succ, Array.replicate_zero, List.push_toArray, List.append_toArray, List.nil_append, List.cons_append]
  gi_wp2_with (refine ⟨trivial, ?_⟩; gi_at_call 81; refine (callsIn_wide.2 (backward_any _ rfl _)).mono ?_; rintro e w' ⟨rfl, rfl⟩)
  have b0 : Blk _ w.heap.size 26 #[.pointer (some ⟨g, 0, none⟩)] := ((Blk.new w 26 #[.pointer (some ⟨g, 0, none⟩)]).kp0 ((Kp.refl No _).alloc (.cells #[.int .i64 (t.root : Int)] 3))).kp0 ((Kp.refl No _).alloc (.cells #[.slice A fs.length c2] 98))
  have b1 : Blk _ (w.heap.size + 1) 3 #[.int .i64 (t.root : Int)] := ((Blk.new (w.alloc (.cells #[.pointer (some ⟨g, 0, none⟩)] 26)) 3 #[.int .i64 (t.root : Int)]).next (by simp)).kp0 ((Kp.refl No _).alloc (.cells #[.slice A fs.length c2] 98))
  have b2 : Blk _ (w.heap.size + 1 + 1) 98 #[.slice A fs.length c2] := (Blk.new ((w.alloc (.cells #[.pointer (some ⟨g, 0, none⟩)] 26)).alloc (.cells #[.int .i64 (t.root : Int)] 3)) 98 #[.slice A fs.length c2]).next (by simp)
  have k0 : Kp No w _ := (((Kp.refl No w).alloc (.cells #[.pointer (some ⟨g, 0, none⟩)] 26)).alloc (.cells #[.int .i64 (t.root : Int)] 3)).alloc (.cells #[.slice A fs.length c2] 98)
  have hz : _ = w.heap.size + 3 := show (((w.alloc (.cells #[.pointer (some ⟨g, 0, none⟩)] 26)).alloc (.cells #[.int .i64 (t.root : Int)] 3)).alloc (.cells #[.slice A fs.length c2] 98)).heap.size = w.heap.size + 3 by simp
  generalize (((w.alloc (.cells #[.pointer (some ⟨g, 0, none⟩)] 26)).alloc (.cells #[.int .i64 (t.root : Int)] 3)).alloc (.cells #[.slice A fs.length c2] 98)) = W0 at b0 b1 b2 k0 hz ⊢
  have hseq : SeqO Try.prog 95 #[.pointer (some ⟨w.heap.size + 1 + 1, 0, none⟩)] (fun x : Nat × Fr => #[.int .i64 (x.1 : Int), stv x.2]) (fun k => k = w.heap.size + 1 + 1 ∨ k = bs) (bk fs.reverse fs.reverse.length) W0 :=
    backward_seq (w.heap.size + 1 + 1) bs c2 A fs.reverse W0 b2.lt (by rw [b2.cell 0]; simp) (fun h0 => ⟨hA h0, by have := (hcell 0 0 h0 (by omega)).1; omega⟩) (fun j i hj hi => by
      obtain ⟨x1, x2⟩ := hcell j i hj hi
      exact (k0.cell (p := ⟨bs, j * 2 + i, none⟩) x1 id).trans x2) (by simpa using hl)
  have h0 : HI w g b c n top w.heap.size (w.heap.size + 1) nd fs t No [] W0 :=
    ⟨t, nd, ho, k0.all, h.kp0 k0, b0, b1, ⟨id, id, id, id, fun _ h => h.elim⟩, hT, hF, rfl, hb, hbf, hnr, fun _ _ => rfl, fun _ => rfl⟩
  have H0 := hid h0
  have HS := hid hseq
  have HZ := hid hz
  have HCE := hid hcell
  clear hcell h0 hseq hz hA hv hne b0 b1 b2 k0
  refine range_own (gf := 95) (lb := #[.pointer (some ⟨w.heap.size + 1 + 1, 0, none⟩)]) rfl (enters_of Try.func95 (by kernel_rfl) rfl)
    HS.out (by rintro k (rfl | rfl) <;> rw [HZ.out] <;> omega) (fun _ => rfl) (HI w g b c n top w.heap.size (w.heap.size + 1) nd fs t) (fun _ _ _ _ => False) (HI.ab _ _ _ _ _ _ _ _ _ _ _) (fun _ _ _ _ _ _ h => h.elim) H0.out ?round ?done ?stop
  case stop => exact fun _ _ _ _ _ _ _ _ _ h => h.elim
  case done =>
    rintro D O W hD hO ⟨t', nd', ho', k, s, bS, bA, ⟨o1, o2, o3, o4, o5⟩, hh⟩ hK
    have c1 := bS.cell 0
    have c2' := bA.cell 0
    simp at c1 c2'
    have c3 := s.head.2
    have f3 := s.hd.frozen 1
    gi_wp2
    have hDg : D ≠ g := by rintro rfl; exact o3 hO
    have hDb : D ≠ b := by rintro rfl; exact o4 hO
    have hK2 : (W.setCell ⟨g, 1, none⟩ (.int .i64 (t'.root : Int))).heap[D]? = some (.deferred (some [])) := (Below.heap_setCell W ⟨g, 1, none⟩ _ D hDg).trans hK
    refine ⟨by simp, .inl ⟨_, _, rfl, run_takeDeferred hK2, ?_⟩⟩
    refine ⟨_, results_none rfl _ _ _, rfl, ?_, nd', t', ⟨?_, ?_, s.ne, s.small⟩, hh.tr, ?_, hh.bal, hh.same, hh.item⟩
    · exact (k.setCell (p := ⟨g, 1, none⟩) (.inl (.inl rfl)) _).putObj (.inr (by have := HZ.out; omega)) _
    · have := s.hd.put 1 (.int .i64 (t'.root : Int))
      exact (Blk.kp this (Kp.put1 D _ _) (Ne.symm hDg))
    · exact (s.row.kp (Kp.set1 g 1 W _) s.ne).kp (Kp.put1 D _ _) (Ne.symm hDb)
    · have := hh.pls
      rw [show (bk fs.reverse fs.reverse.length).length = fs.length by simp [bk], List.drop_length] at this
      exact this
  case round =>
    rintro l O pre x rest W hx hOl hl1 hl2 ⟨t', nd', ho', k, s, bS, bA, ⟨o1, o2, o3, o4, o5⟩, hh⟩
    obtain ⟨hm, rfl⟩ := bk_at hx
    have hm' : pre.length < fs.length := by simpa using hm
    rw [rev_at fs hm']
    have hd := drop_at fs hm'
    generalize fs.getD pre.length fr0 = f at hd ⊢
    have Hd := hid hd
    have Hh := hid hh
    clear hd hh hx
    dsimp only [stv]
    gi_wp2
    refine ⟨(Kp.refl _ _).alloc _, fun W2 hk2 => ?_⟩
    have bX : Blk W2 W.heap.size 135 #[.int .i64 (f.p : Int), .int .i64 (f.s : Int)] := (Blk.new W 135 _).kp hk2 (fun e => by have : W.heap.size = l := e; omega)
    have kA : Kp (Only l) W W2 := ((Kp.refl (Only l) W).alloc _).trans hk2
    have s2 : Sh W2 g b c n nd' top := s.kp kA (fun e => o3 (by rw [show g = l from e]; exact hOl)) (fun e => o4 (by rw [show b = l from e]; exact hOl))
    have bS2 := bS.kp kA (fun e => o1 (by rw [show w.heap.size = l from e]; exact hOl))
    have bA2 := bA.kp kA (fun e => o2 (by rw [show w.heap.size + 1 = l from e]; exact hOl))
    have k2 : Kp (GB g b) w W2 := k.step kA (fun i hi h => absurd (show i = l from h) (by have := HZ.out; omega))
    have hW2 := kA.size
    have hW1 := k.size
    have cS := bS2.cell 0
    have cA := bA2.cell 0
    have fA := bA2.frozen 0
    simp at cS cA
    clear s bS bA k kA hk2
    have hTF := Hh.out.trf
    rw [Hd.out] at hTF
    obtain ⟨hsd, hTo, hTr⟩ := hTF
    have hpl := Hh.out.pls
    rw [Hd.out, plug, plug_pls] at hpl
    have nP : (plug1 f t').pls.Nodup := by
      have := hn
      rw [← hpl, List.nodup_append, List.nodup_append] at this
      exact this.2.1.1
    have iP : In n (plug1 f t').pls := fun q hq => hi q (by rw [← hpl]; simp [hq])
    have HP := hid hpl
    have HT' := hid Hh.out.tr
    clear hpl
    rcases hsd with ⟨hs0, hso⟩ | ⟨hs0, hso⟩
    · skip
      have eq : plug1 f t' = .node f.p t' f.o := by unfold plug1; rw [if_pos hs0]
      rw [eq] at nP iP
      have hN := nod_iff.1 nP
      obtain ⟨p1, p2⟩ := iP.p
      have cX1 := bX.cell 1
      have cX0 := bX.cell 0
      rw [hs0] at cX1
      simp at cX0 cX1
      have cL := s2.lo p1 p2
      have fL := s2.row.frozen (ad f.p + 2)
      have HS0 := hid hs0
      have HO := hid hso
      clear hs0 hso
      gi_wp2
      have sD := s2.kp0 (Kp.refl No _).drew
      refine region_in_tail 10 (by kernel_rfl) (by kernel_rfl) (fun ⟨_, _, h⟩ => h.elim) (by kernel_rfl) ?_
      simp only [List.take_succ_cons, List.take_zero, List.drop_succ_cons, List.drop_zero]
      repeat still_step
      still_call (flp (node_any sD f.p p1 p2))
      repeat still_step
      refine wpStill_nil ?_
      go_wp2
      have s3 := (s2.put p1 p2 (i := 2) (by omega) { nd' f.p with lo := t'.root } rfl (fun j hj hne => by
        match j, hj with
        | 0, _ => rfl
        | 1, _ => rfl
        | 2, _ => exact absurd rfl hne
        | 3, _ => rfl
        | 4, _ => rfl
        | 5, _ => rfl
        )).kp0 (Kp.refl No _).drew
      have k3 : Kp (Only b) W2 (W2.setCell ⟨b, ad f.p + 2, none⟩ (.int .i64 (t'.root : Int))).drew := (Kp.set1 b (ad f.p + 2) W2 _).drew
      change Code.wpIn _ _ _ _ _ _ (W2.setCell ⟨b, ad f.p + 2, none⟩ (.int .i64 (t'.root : Int))).drew
      change Sh (W2.setCell ⟨b, ad f.p + 2, none⟩ (.int .i64 (t'.root : Int))).drew g b c n _ top at s3
      generalize (W2.setCell ⟨b, ad f.p + 2, none⟩ (.int .i64 (t'.root : Int))).drew = W3 at s3 k3 ⊢
      have bS3 := bS2.kp k3 (fun e => by have : w.heap.size = b := e; omega)
      have bA3 := bA2.kp k3 (fun e => by have : w.heap.size + 1 = b := e; omega)
      have bX3 := bX.kp k3 (fun e => by have : W.heap.size = b := e; omega)
      clear cX0 cX1 cL fL cS cA fA
      have cX0 := bX3.cell 0
      have cS := bS3.cell 0
      simp at cX0 cS
      have tA : Tr (upd nd' f.p { nd' f.p with lo := t'.root }) t' := HT'.out.upd hN.pl _
      have tO : Tr (upd nd' f.p { nd' f.p with lo := t'.root }) f.o := hTo.upd hN.pr _
      gi_wp2_with (refine ⟨trivial, ?_⟩; gi_at_call 82; refine (CallsIn.inRound l (callsIn_wide.2 (level_any s3 f.p (l := t') (r := f.o) (by rw [upd_same]) (by rw [upd_same]; exact HO.out) tA tO nP iP))).mono ?_; rintro e w4 ⟨t2, nd2, rfl, k4, s4, L4⟩; have bA4 := bA3.kp k4 (fun e => by have : w.heap.size + 1 = b := e; omega); have cA := bA4.cell 0; have fA := bA4.frozen 0; simp at cA)
      have bS4 := bS3.kp k4 (fun e => by have : w.heap.size = b := e; omega)
      have kk : Kp (Out O fun k => k = w.heap.size + 1 + 1 ∨ k = bs) W2 (w4.setCell ⟨w.heap.size + 1, 0, none⟩ (.int .i64 (t2.root : Int))) := by
        have ob : Out O (fun k => k = w.heap.size + 1 + 1 ∨ k = bs) b := ⟨o4, fun h => by rcases h with h | h <;> omega⟩
        exact (((k3.trans k4).mono fun q _ h => (show q = b from h) ▸ ob)).setCell (p := ⟨w.heap.size + 1, 0, none⟩) (.inl ⟨o2, fun h => by rcases h with h | h <;> simp only at h <;> omega⟩) _
      refine ⟨kk, t2, nd2, max ho' f.o.ht + 1, ?_, ?_, ?_, ?_, ⟨o1, o2, o3, o4, o5⟩, ?_⟩
      · exact ((k2.step k3 fun i _ h => .inr h).step k4 fun i _ h => .inr h).setCell (p := ⟨w.heap.size + 1, 0, none⟩) (.inr (Nat.le_succ _)) _
      · exact s4.kp (Kp.set1 (w.heap.size + 1) 0 _ _) (fun e => by have : g = w.heap.size + 1 := e; omega) (fun e => by have : b = w.heap.size + 1 := e; omega)
      · exact bS4.kp (Kp.set1 (w.heap.size + 1) 0 _ _) (fun e => by have : w.heap.size = w.heap.size + 1 := e; omega)
      · exact bA4.put 0 _
      · rw [List.length_append]
        exact Hh.out.next hn Hd.out (.inl ⟨HS0.out, rfl, rfl⟩) (fun q hq => upd_ne _ _ hq) (by rw [upd_same]) L4
    · skip
      have eq : plug1 f t' = .node f.p f.o t' := by unfold plug1; rw [if_neg (by omega)]
      rw [eq] at nP iP
      have hN := nod_iff.1 nP
      obtain ⟨p1, p2⟩ := iP.p
      have cX1 := bX.cell 1
      have cX0 := bX.cell 0
      rw [hs0] at cX1
      simp at cX0 cX1
      have cL := s2.hi p1 p2
      have fL := s2.row.frozen (ad f.p + 2 + 1)
      have HS0 := hid hs0
      have HO := hid hso
      clear hs0 hso
      gi_wp2
      have sD := s2.kp0 (Kp.refl No _).drew
      refine region_in_tail 10 (by kernel_rfl) (by kernel_rfl) (fun ⟨_, _, h⟩ => h.elim) (by kernel_rfl) ?_
      simp only [List.take_succ_cons, List.take_zero, List.drop_succ_cons, List.drop_zero]
      repeat still_step
      still_call (flp (node_any sD f.p p1 p2))
      repeat still_step
      refine wpStill_nil ?_
      go_wp2
      have s3 := (s2.put p1 p2 (i := 3) (by omega) { nd' f.p with hi := t'.root } rfl (fun j hj hne => by
        match j, hj with
        | 0, _ => rfl
        | 1, _ => rfl
        | 2, _ => rfl
        | 3, _ => exact absurd rfl hne
        | 4, _ => rfl
        | 5, _ => rfl
        )).kp0 (Kp.refl No _).drew
      have k3 : Kp (Only b) W2 (W2.setCell ⟨b, ad f.p + 2 + 1, none⟩ (.int .i64 (t'.root : Int))).drew := (Kp.set1 b (ad f.p + 2 + 1) W2 _).drew
      change Code.wpIn _ _ _ _ _ _ (W2.setCell ⟨b, ad f.p + 2 + 1, none⟩ (.int .i64 (t'.root : Int))).drew
      change Sh (W2.setCell ⟨b, ad f.p + 2 + 1, none⟩ (.int .i64 (t'.root : Int))).drew g b c n _ top at s3
      generalize (W2.setCell ⟨b, ad f.p + 2 + 1, none⟩ (.int .i64 (t'.root : Int))).drew = W3 at s3 k3 ⊢
      have bS3 := bS2.kp k3 (fun e => by have : w.heap.size = b := e; omega)
      have bA3 := bA2.kp k3 (fun e => by have : w.heap.size + 1 = b := e; omega)
      have bX3 := bX.kp k3 (fun e => by have : W.heap.size = b := e; omega)
      clear cX0 cX1 cL fL cS cA fA
      have cX0 := bX3.cell 0
      have cS := bS3.cell 0
      simp at cX0 cS
      have tA : Tr (upd nd' f.p { nd' f.p with hi := t'.root }) t' := HT'.out.upd hN.pr _
      have tO : Tr (upd nd' f.p { nd' f.p with hi := t'.root }) f.o := hTo.upd hN.pl _
      gi_wp2_with (refine ⟨trivial, ?_⟩; gi_at_call 82; refine (CallsIn.inRound l (callsIn_wide.2 (level_any s3 f.p (l := f.o) (r := t') (by rw [upd_same]; exact HO.out) (by rw [upd_same]) tO tA nP iP))).mono ?_; rintro e w4 ⟨t2, nd2, rfl, k4, s4, L4⟩; have bA4 := bA3.kp k4 (fun e => by have : w.heap.size + 1 = b := e; omega); have cA := bA4.cell 0; have fA := bA4.frozen 0; simp at cA)
      have bS4 := bS3.kp k4 (fun e => by have : w.heap.size = b := e; omega)
      have kk : Kp (Out O fun k => k = w.heap.size + 1 + 1 ∨ k = bs) W2 (w4.setCell ⟨w.heap.size + 1, 0, none⟩ (.int .i64 (t2.root : Int))) := by
        have ob : Out O (fun k => k = w.heap.size + 1 + 1 ∨ k = bs) b := ⟨o4, fun h => by rcases h with h | h <;> omega⟩
        exact (((k3.trans k4).mono fun q _ h => (show q = b from h) ▸ ob)).setCell (p := ⟨w.heap.size + 1, 0, none⟩) (.inl ⟨o2, fun h => by rcases h with h | h <;> simp only at h <;> omega⟩) _
      refine ⟨kk, t2, nd2, max ho' f.o.ht + 1, ?_, ?_, ?_, ?_, ⟨o1, o2, o3, o4, o5⟩, ?_⟩
      · exact ((k2.step k3 fun i _ h => .inr h).step k4 fun i _ h => .inr h).setCell (p := ⟨w.heap.size + 1, 0, none⟩) (.inr (Nat.le_succ _)) _
      · exact s4.kp (Kp.set1 (w.heap.size + 1) 0 _ _) (fun e => by have : g = w.heap.size + 1 := e; omega) (fun e => by have : b = w.heap.size + 1 := e; omega)
      · exact bS4.kp (Kp.set1 (w.heap.size + 1) 0 _ _) (fun e => by have : w.heap.size = w.heap.size + 1 := e; omega)
      · exact bA4.put 0 _
      · rw [List.length_append]
        exact Hh.out.next hn Hd.out (.inr ⟨HS0.out, rfl, rfl⟩) (fun q hq => upd_ne _ _ hq) (by rw [upd_same]) L4
end
end Go.Proofs.Ytpbnmfoecmhnnaa
