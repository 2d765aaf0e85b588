/-
  The iterator over items: All, and what it gives to any body.
-/
import Derived.Test.YtpbnmfoecmhnnaaSM
namespace Go.Proofs.Ytpbnmfoecmhnnaa
open Go.RowKit Go.Shelf

attribute [local go_sem] Oper.semAt_some

section
variable {w w' : World} {g b c n top : Nat} {nd nd' : Nat → Nd} {S : Nat → Prop}

/-- Items with their ranks. -/
def en : Nat → List It → List (Nat × It)
  | _, [] => []
  | i, x :: l => (i, x) :: en (i + 1) l
theorem en_app (i : Nat) (l m : List It) : en i (l ++ m) = en i l ++ en (i + l.length) m := by
  induction l generalizing i with
  | nil => simp [en]
  | cons x l ih => simp only [List.cons_append, en, ih, List.length_cons, show i + 1 + l.length = i + (l.length + 1) by omega]
theorem en_snoc (l : List It) (x : It) : en 0 (l ++ [x]) = en 0 l ++ [(l.length, x)] := by rw [en_app]; simp [en]
/-- The items of places. -/
def itsOf (nd : Nat → Nd) (l : List Nat) : List It := l.map fun p => (nd p).it

theorem all_any (w : World) (g : Nat) :
    Calls Try.prog 36 #[.pointer (some ⟨g, 0, none⟩)] w fun e w' => e = .returned (.func (.func 62) #[] #[.pointer (some ⟨w.heap.size, 0, none⟩)]) ∧ w' = w.alloc (.cells #[.pointer (some ⟨g, 0, none⟩)] 26) := by
  go_enter Try.func36, Try.ntmps36
  go_wp2
  go_ret
  exact ⟨rfl, rfl⟩

/-- What All itself owns, beside what the inner iterator does. -/
def Oa (q : Nat) (O : Nat → Prop) : Nat → Prop := fun k => O k ∨ k = q ∨ k = q + 1 ∨ k = q + 1 + 1

/-- Between two rounds of All's own loop. -/
def AI (J : (Nat → Prop) → List (Nat × It) → World → Prop) (q l B0 : Nat) (R : Nat → Prop) (Pv : World → Prop) (nd : Nat → Nd) (g : Nat) (O : Nat → Prop) (pre : List Nat) (W : World) : Prop :=
  J (Oa q O) (en 0 (itsOf nd pre)) W ∧ Blk W q 110 #[.func (.yield l) #[] #[]] ∧ Blk W (q + 1) 3 #[.int .i64 (pre.length : Int)] ∧ Blk W B0 26 #[.pointer (some ⟨g, 0, none⟩)] ∧ Pv W ∧ q + 1 + 1 < W.heap.size ∧ (∀ k, O k → q + 1 + 1 < k) ∧ (∀ k, R k → k < q) ∧ B0 < q
def AX (Jx : (Nat → Prop) → List (Nat × It) → World → Prop) (q : Nat) (nd : Nat → Nd) (c : Code) (O : Nat → Prop) (pre : List Nat) (W : World) : Prop :=
  c = .ret ∧ Jx (Oa q O) (en 0 (itsOf nd pre)) W ∧ q + 1 + 1 < W.heap.size ∧ (∀ k, O k → q + 1 + 1 < k)

theorem AI.ab {J : (Nat → Prop) → List (Nat × It) → World → Prop} (hJ : AbO J) (q l B0 : Nat) (R : Nat → Prop) (Pv : World → Prop) (hPv : ∀ {S : Nat → Prop} {A B : World}, Pv A → Kp S A B → (∀ k, R k → ¬ S k) → Pv B) (nd : Nat → Nd) (g : Nat) : AbO (AI J q l B0 R Pv nd g) := by
  rintro O O' pre W W' ⟨h1, h2, h3, h4, h5, h6, h7, h8, h9⟩ hk hO
  have hs := hk.size
  refine ⟨hJ _ _ _ _ _ h1 (hk.mono fun k _ h => .inl h) ?_, h2.kp hk (fun e => absurd (h7 _ e) (by omega)), h3.kp hk (fun e => absurd (h7 _ e) (by omega)), h4.kp hk (fun e => absurd (h7 _ e) (by omega)), hPv h5 hk (fun k hk' e => absurd (h7 _ e) (by have := h8 k hk'; omega)), by omega, fun k h => ?_, h8, h9⟩
  · rintro k (h | h)
    · rcases hO k h with h | h
      · exact .inl (.inl h)
      · exact .inr h
    · exact .inl (.inr h)
  · rcases hO k h with h | h
    · exact h7 k h
    · omega
theorem AX.ab {Jx : (Nat → Prop) → List (Nat × It) → World → Prop} (hJ : AbO Jx) (q : Nat) (nd : Nat → Nd) (c : Code) : AbO (AX Jx q nd c) := by
  rintro O O' pre W W' ⟨h0, h1, h6, h7⟩ hk hO
  have hs := hk.size
  refine ⟨h0, hJ _ _ _ _ _ h1 (hk.mono fun k _ h => .inl h) ?_, by omega, fun k h => ?_⟩
  · rintro k (h | h)
    · rcases hO k h with h | h
      · exact .inl (.inl h)
      · exact .inr h
    · exact .inl (.inr h)
  · rcases hO k h with h | h
    · exact h7 k h
    · omega

set_option maxRecDepth 100000 in
set_option maxHeartbeats 1000000 in
theorem places_nil (B : Nat) (h : Blk w g 97 #[.slice none 0 0, .int .i64 0]) (hB : Blk w B 26 #[.pointer (some ⟨g, 0, none⟩)]) :
    SeqO Try.prog 84 #[.pointer (some ⟨B, 0, none⟩)] (fun p : Nat => #[.int .i64 (p : Int)]) (fun k => k = B ∨ k = g) [] w := by
  intro l J Jx W hW hJ hJx hY h0
  have sW : Blk W g 97 #[.slice none 0 0, .int .i64 0] := h.kp hW (fun e => e (.inr rfl))
  have bW : Blk W B 26 #[.pointer (some ⟨g, 0, none⟩)] := hB.kp hW (fun e => e (.inl rfl))
  have c1 := sW.cell 1
  have cB := bW.cell 0
  simp at c1 cB
  clear h hB hW hY
  show Calls Try.prog 84 #[.func (.yield l) #[] #[], .pointer (some ⟨B, 0, none⟩)] W _
  go_enter Try.func84, Try.ntmps84
  go_wp2_with fail
  go_step3
  go_wp2_with fail
  go_step3
  go_wp2_with fail
  simp only [Exit.noGoto]
  exact bodyPost_ret (results_none rfl _ _ _) rfl ⟨⟨_, rfl⟩, .inl ⟨_, h0⟩⟩

set_option maxRecDepth 100000 in
set_option maxHeartbeats 1000000 in
theorem all_nil (B0 : Nat) (h : Blk w g 97 #[.slice none 0 0, .int .i64 0]) (hB : Blk w B0 26 #[.pointer (some ⟨g, 0, none⟩)]) :
    SeqO Try.prog 62 #[.pointer (some ⟨B0, 0, none⟩)] (fun x : Nat × It => #[.int .i64 (x.1 : Int), .agg #[.int .i64 x.2.key, .int .i64 x.2.id]]) (fun k => k = B0 ∨ k = g) [] w := by
  intro l J Jx W hW hJ hJx hY h0
  have sW : Blk W g 97 #[.slice none 0 0, .int .i64 0] := h.kp hW (fun e => e (.inr rfl))
  have bW : Blk W B0 26 #[.pointer (some ⟨g, 0, none⟩)] := hB.kp hW (fun e => e (.inl rfl))
  have hgl := sW.lt
  have hBl := bW.lt
  have cB := bW.cell 0
  simp at cB
  clear h hB hW
  refine (callsIn_wide (n := 5)).1 ?_
  refine callsIn_of_wp_marks Try.func62 rfl trivial ?_ rfl
  simp only [Try.ntmps62, List.size_toArray, List.length_cons, List.length_nil, Nat.reduceAdd, Nat.reduceSub, Array.replicate_succ, Array.replicate_zero, List.push_toArray, List.append_toArray, List.nil_append, List.cons_append]
  gi_wp2_with (refine ⟨trivial, ?_⟩; gi_at_call 63; refine (callsIn_wide.2 (places_any _ _)).mono ?_; rintro e w' ⟨rfl, rfl⟩)
  have b0 : Blk _ W.heap.size 110 #[.func (.yield l) #[] #[]] := ((Blk.new W 110 #[.func (.yield l) #[] #[]]).kp0 ((Kp.refl No _).alloc (.cells #[.int .i64 0] 3))).kp0 ((Kp.refl No _).alloc (.cells #[.pointer (some ⟨g, 0, none⟩)] 26))
  have b1 : Blk _ (W.heap.size + 1) 3 #[.int .i64 0] := ((Blk.new (W.alloc (.cells #[.func (.yield l) #[] #[]] 110)) 3 #[.int .i64 0]).next (by simp)).kp0 ((Kp.refl No _).alloc (.cells #[.pointer (some ⟨g, 0, none⟩)] 26))
  have b2 : Blk _ (W.heap.size + 1 + 1) 26 #[.pointer (some ⟨g, 0, none⟩)] := (Blk.new ((W.alloc (.cells #[.func (.yield l) #[] #[]] 110)).alloc (.cells #[.int .i64 0] 3)) 26 #[.pointer (some ⟨g, 0, none⟩)]).next (by simp)
  have k0 : Kp No W _ := (((Kp.refl No W).alloc (.cells #[.func (.yield l) #[] #[]] 110)).alloc (.cells #[.int .i64 0] 3)).alloc (.cells #[.pointer (some ⟨g, 0, none⟩)] 26)
  have hz : _ = W.heap.size + 3 := show (((W.alloc (.cells #[.func (.yield l) #[] #[]] 110)).alloc (.cells #[.int .i64 0] 3)).alloc (.cells #[.pointer (some ⟨g, 0, none⟩)] 26)).heap.size = W.heap.size + 3 by simp
  generalize (((W.alloc (.cells #[.func (.yield l) #[] #[]] 110)).alloc (.cells #[.int .i64 0] 3)).alloc (.cells #[.pointer (some ⟨g, 0, none⟩)] 26)) = W0 at b0 b1 b2 k0 hz ⊢
  have HZ := hid hz
  have i0 : AI J W.heap.size l B0 (fun k => k = g) (fun W => Blk W g 97 #[.slice none 0 0, .int .i64 0]) ndz g No [] W0 :=
    ⟨hJ _ _ _ _ _ h0 k0 (fun k hk => by
      rcases hk with hk | hk | hk | hk
      · exact hk.elim
      · exact .inr (by omega)
      · exact .inr (by omega)
      · exact .inr (by omega)), b0, b1, bW.kp0 k0, sW.kp0 k0, by omega, fun k hk => hk.elim, fun k hk => by subst hk; exact hgl, hBl⟩
  have hsq := places_nil (W.heap.size + 1 + 1) (sW.kp0 k0) b2
  have I0 := hid i0
  have SQ := hid hsq
  clear i0 hsq hz b0 b1 b2 k0 cB
  refine range_own (gf := 84) (lb := #[.pointer (some ⟨W.heap.size + 1 + 1, 0, none⟩)]) rfl (enters_of Try.func84 (by kernel_rfl) rfl)
    SQ.out (by rintro k (rfl | rfl) <;> rw [HZ.out] <;> omega) (fun _ => rfl) (AI J W.heap.size l B0 (fun k => k = g) (fun W => Blk W g 97 #[.slice none 0 0, .int .i64 0]) ndz g) (AX Jx W.heap.size ndz) (AI.ab hJ _ _ _ _ _ (fun h k hn => h.kp k (hn g rfl)) _ _) (AX.ab hJx _ _) I0.out ?round ?done ?stop
  case done =>
    rintro D O V hD hO ⟨a1, _⟩ hK
    gi_wp2
    refine ⟨by simp, .inl ⟨_, _, rfl, run_takeDeferred hK, ?_⟩⟩
    exact ⟨_, results_none rfl _ _ _, ⟨_, rfl⟩, .inl ⟨_, hJ _ _ _ _ _ a1 ((Kp.put1 D V _).mono fun k _ h => by cases h; exact .inl hO) fun k h => .inl h⟩⟩
  case stop =>
    rintro D O c pre rest V hD hO hx ⟨rfl, a1, _⟩ hK
    gi_wp2
    refine ⟨by simp, .inl ⟨_, _, rfl, run_takeDeferred hK, ?_⟩⟩
    exact ⟨_, results_none rfl _ _ _, ⟨_, rfl⟩, .inr ⟨_, en 0 (itsOf ndz pre), en (itsOf ndz pre).length (itsOf ndz rest), by simp at hx; rw [hx.1, hx.2]; rfl, hJx _ _ _ _ _ a1 ((Kp.put1 D V _).mono fun k _ h => by cases h; exact .inl hO) fun k h => .inl h⟩⟩
  case round =>
    intro l' O pre x rest W2 hx
    simp at hx

set_option maxRecDepth 100000 in
set_option maxHeartbeats 1000000 in
theorem all_seq (B0 : Nat) {T : BT} (h : Sh w g b c n nd top) (hr : T.root = top) (hI : Inv nd n T) (hB : Blk w B0 26 #[.pointer (some ⟨g, 0, none⟩)]) :
    SeqO Try.prog 62 #[.pointer (some ⟨B0, 0, none⟩)] (fun x : Nat × It => #[.int .i64 (x.1 : Int), .agg #[.int .i64 x.2.key, .int .i64 x.2.id]]) (fun k => k = B0 ∨ k = g ∨ k = b) (en 0 (items nd T)) w := by
  intro l J Jx W hW hJ hJx hY h0
  subst hr
  have sW : Sh W g b c n nd T.root := h.kp hW (fun e => e (.inr (.inl rfl))) (fun e => e (.inr (.inr rfl)))
  have bW : Blk W B0 26 #[.pointer (some ⟨g, 0, none⟩)] := hB.kp hW (fun e => e (.inl rfl))
  have hgl := sW.hd.lt
  have hbl := sW.row.lt
  have hBl := bW.lt
  have cB := bW.cell 0
  simp at cB
  clear h hB hW
  refine (callsIn_wide (n := 5)).1 ?_
  refine callsIn_of_wp_marks Try.func62 rfl trivial ?_ rfl
  simp only [Try.ntmps62, List.size_toArray, List.length_cons, List.length_nil, Nat.reduceAdd, Nat.reduceSub, Array.replicate_succ, Array.replicate_zero, List.push_toArray, List.append_toArray, List.nil_append, List.cons_append]
  gi_wp2_with (refine ⟨trivial, ?_⟩; gi_at_call 63; refine (callsIn_wide.2 (places_any _ _)).mono ?_; rintro e w' ⟨rfl, rfl⟩)
  have b0 : Blk _ W.heap.size 110 #[.func (.yield l) #[] #[]] := ((Blk.new W 110 #[.func (.yield l) #[] #[]]).kp0 ((Kp.refl No _).alloc (.cells #[.int .i64 0] 3))).kp0 ((Kp.refl No _).alloc (.cells #[.pointer (some ⟨g, 0, none⟩)] 26))
  have b1 : Blk _ (W.heap.size + 1) 3 #[.int .i64 0] := ((Blk.new (W.alloc (.cells #[.func (.yield l) #[] #[]] 110)) 3 #[.int .i64 0]).next (by simp)).kp0 ((Kp.refl No _).alloc (.cells #[.pointer (some ⟨g, 0, none⟩)] 26))
  have b2 : Blk _ (W.heap.size + 1 + 1) 26 #[.pointer (some ⟨g, 0, none⟩)] := (Blk.new ((W.alloc (.cells #[.func (.yield l) #[] #[]] 110)).alloc (.cells #[.int .i64 0] 3)) 26 #[.pointer (some ⟨g, 0, none⟩)]).next (by simp)
  have k0 : Kp No W _ := (((Kp.refl No W).alloc (.cells #[.func (.yield l) #[] #[]] 110)).alloc (.cells #[.int .i64 0] 3)).alloc (.cells #[.pointer (some ⟨g, 0, none⟩)] 26)
  have hz : _ = W.heap.size + 3 := show (((W.alloc (.cells #[.func (.yield l) #[] #[]] 110)).alloc (.cells #[.int .i64 0] 3)).alloc (.cells #[.pointer (some ⟨g, 0, none⟩)] 26)).heap.size = W.heap.size + 3 by simp
  generalize (((W.alloc (.cells #[.func (.yield l) #[] #[]] 110)).alloc (.cells #[.int .i64 0] 3)).alloc (.cells #[.pointer (some ⟨g, 0, none⟩)] 26)) = W0 at b0 b1 b2 k0 hz ⊢
  have HZ := hid hz
  have i0 : AI J W.heap.size l B0 (fun k => k = g ∨ k = b) (fun W => Sh W g b c n nd T.root) nd g No [] W0 :=
    ⟨hJ _ _ _ _ _ h0 k0 (fun k hk => by
      rcases hk with hk | hk | hk | hk
      · exact hk.elim
      · exact .inr (by omega)
      · exact .inr (by omega)
      · exact .inr (by omega)), b0, b1, bW.kp0 k0, sW.kp0 k0, by omega, fun k hk => hk.elim, fun k hk => by rcases hk with rfl | rfl <;> assumption, hBl⟩
  have hsq := places_seq (W.heap.size + 1 + 1) (sW.kp0 k0) rfl hI b2
  have I0 := hid i0
  have SQ := hid hsq
  clear i0 hsq hz b0 b1 b2 k0 cB
  refine range_own (gf := 84) (lb := #[.pointer (some ⟨W.heap.size + 1 + 1, 0, none⟩)]) rfl (enters_of Try.func84 (by kernel_rfl) rfl)
    SQ.out (by rintro k (rfl | rfl | rfl) <;> rw [HZ.out] <;> omega) (fun _ => rfl) (AI J W.heap.size l B0 (fun k => k = g ∨ k = b) (fun W => Sh W g b c n nd T.root) nd g) (AX Jx W.heap.size nd) (AI.ab hJ _ _ _ _ _ (fun h k hn => h.kp k (hn g (.inl rfl)) (hn b (.inr rfl))) _ _) (AX.ab hJx _ _) I0.out ?round ?done ?stop
  case done =>
    rintro D O V hD hO ⟨a1, _⟩ hK
    gi_wp2
    refine ⟨by simp, .inl ⟨_, _, rfl, run_takeDeferred hK, ?_⟩⟩
    exact ⟨_, results_none rfl _ _ _, ⟨_, rfl⟩, .inl ⟨_, hJ _ _ _ _ _ a1 ((Kp.put1 D V _).mono fun k _ h => by cases h; exact .inl hO) fun k h => .inl h⟩⟩
  case stop =>
    rintro D O c pre rest V hD hO hx ⟨rfl, a1, _⟩ hK
    gi_wp2
    refine ⟨by simp, .inl ⟨_, _, rfl, run_takeDeferred hK, ?_⟩⟩
    exact ⟨_, results_none rfl _ _ _, ⟨_, rfl⟩, .inr ⟨_, en 0 (itsOf nd pre), en (itsOf nd pre).length (itsOf nd rest), by unfold items; rw [hx, List.map_append, en_app, Nat.zero_add]; rfl, hJx _ _ _ _ _ a1 ((Kp.put1 D V _).mono fun k _ h => by cases h; exact .inl hO) fun k h => .inl h⟩⟩
  case round =>
    rintro l' O pre x rest W2 hx hOl hl1 hl2 ⟨a1, a2, a3, a4, a5, a6, a7, a8, a9⟩
    have hxp : x ∈ T.pls := by rw [hx]; simp
    obtain ⟨x1, x2⟩ := hI.ins x hxp
    have hpl : pre.length ≤ n := by
      have := congrArg List.length hx
      rw [hI.len] at this
      simp at this
      omega
    have hxs : en 0 (items nd T) = en 0 (itsOf nd pre) ++ (pre.length, (nd x).it) :: en (pre.length + 1) (itsOf nd rest) := by
      unfold items
      rw [hx, List.map_append, en_app]
      simp [en, itsOf]
    have HX := hid hxs
    have hsn := hid (en_snoc (itsOf nd pre) (nd x).it)
    clear hx hxs hxp
    dsimp only
    gi_wp2
    refine ⟨Kp.refl _ _, fun W3 hk3 => ?_⟩
    have hl3 : W.heap.size + 1 + 1 < l' := a7 l' hOl
    have b0 := a2.kp hk3 (fun e => by have : W.heap.size = l' := e; omega)
    have b1 := a3.kp hk3 (fun e => by have : W.heap.size + 1 = l' := e; omega)
    have b4 := a4.kp hk3 (fun e => by have : B0 = l' := e; omega)
    have s3 : Sh W3 g b c n nd T.root := a5.kp hk3 (fun e => by have : g = l' := e; omega) (fun e => by have : b = l' := e; omega)
    have j3 : J (Oa W.heap.size O) (en 0 (itsOf nd pre)) W3 := hJ _ _ _ _ _ a1 (hk3.mono fun k _ h => by cases h; exact .inl hOl) fun k h => .inl h
    have c0 := b0.cell 0
    have c1 := b1.cell 0
    have f1 := b1.frozen 0
    have c4 := b4.cell 0
    simp at c0 c1 c4
    have ck := s3.key x1 x2
    have ci := s3.id x1 x2
    have hw3 := hk3.size
    clear a1 a2 a3 a4 a5
    have sD := s3.kp0 (Kp.refl No _).drew
    obtain ⟨fn, tmps, assign, body, hy, hR⟩ := hY _ _ _ _ W3.drew HX.out (hJ _ _ _ _ _ j3 ((Kp.refl _ W3).drew) fun k h => .inl h)
    dsimp only at hy
    gi_wp2
    refine region_fence_tail 8 (by kernel_rfl) (by kernel_rfl) (fun ⟨_, _, h⟩ => h.elim) (by kernel_rfl) ?_
    simp only [List.take_succ_cons, List.take_zero, List.drop_succ_cons, List.drop_zero]
    repeat still_step
    still_call (flp (node_any sD x x1 x2))
    repeat still_step
    refine wpStill_nil ?_
    gi_wp2
    refine (RoundIn.inR hR).mono ?_
    have hlen : (itsOf nd pre).length = pre.length := by simp [itsOf]
    have hie : itsOf nd (pre ++ [x]) = itsOf nd pre ++ [(nd x).it] := by simp [itsOf]
    have hen : en 0 (itsOf nd (pre ++ [x])) = en 0 (itsOf nd pre) ++ [(pre.length, (nd x).it)] := by rw [hie, hsn.out, hlen]
    have HEN := hid hen
    clear hlen hie hen
    rintro e W4 (⟨rfl, hJ4, hk4⟩ | ⟨rfl, hx4, hk4⟩)
    · have k4 : Kp (Out (Oa W.heap.size O) fun k => k = B0 ∨ k = g ∨ k = b) W3 W4 := (Kp.refl _ W3).drew.trans hk4
      have b0' := b0.kp k4 (fun e => e.1 (.inr (.inl rfl)))
      have b1' := b1.kp k4 (fun e => e.1 (.inr (.inr (.inl rfl))))
      have b4' := b4.kp k4 (fun e => e.2 (.inl rfl))
      have s4 : Sh W4 g b c n nd T.root := s3.kp k4 (fun e => e.2 (.inr (.inl rfl))) (fun e => e.2 (.inr (.inr rfl)))
      have k4s := k4.size
      clear c0 c1 f1 c4 hy ck ci
      have c1 := b1'.cell 0
      have f1 := b1'.frozen 0
      simp at c1
      have hsm := s4.small
      gi_wp2
      have kk : Kp (Out O fun k => k = W.heap.size + 1 + 1 ∨ k = g ∨ k = b) W3 (W4.setCell ⟨W.heap.size + 1, 0, none⟩ (.int .i64 ((pre.length : Int) + 1))) := by
        refine (k4.mono fun k _ h => ⟨fun x => h.1 (.inl x), fun x => ?_⟩).setCell (p := ⟨W.heap.size + 1, 0, none⟩) (.inl ⟨fun e => absurd (a7 _ e) (by simp), fun e => ?_⟩) _
        · rcases x with x | x
          · exact h.1 (.inr (.inr (.inr x)))
          · exact h.2 (.inr x)
        · rcases e with e | e | e <;> simp only at e <;> omega
      have ks := Kp.set1 (W.heap.size + 1) 0 W4 (.int .i64 ((pre.length : Int) + 1))
      refine ⟨kk, ?_, ?_, ?_, ?_, ?_, ?_, a7, a8, a9⟩
      · rw [HEN.out]
        exact hJ _ _ _ _ _ hJ4 (ks.mono fun k _ h => .inr (.inr (.inl h))) fun k h => .inl h
      · exact b0'.kp ks (fun e => by have : W.heap.size = W.heap.size + 1 := e; omega)
      · have := b1'.put 0 (.int .i64 ((pre.length : Int) + 1))
        rw [List.length_append, List.length_singleton]
        exact this
      · exact b4'.kp ks (fun e => by have : B0 = W.heap.size + 1 := e; omega)
      · exact s4.kp ks (fun e => by have : g = W.heap.size + 1 := e; omega) (fun e => by have : b = W.heap.size + 1 := e; omega)
      · have := ks.size
        omega
    · have k4 : Kp (Nt (Oa W.heap.size O)) W3 W4 := (Kp.refl _ W3).drew.trans hk4
      have k4s := k4.size
      gi_wp2
      refine ⟨k4.mono fun k _ h x => h (.inl x), rfl, ?_, by omega, a7⟩
      rw [HEN.out]
      exact hx4

/-- All of a shelf, to whatever body. -/
theorem All_seq {l : List It} (h : Shf w g S l) (B0 : Nat) (hB : Blk w B0 26 #[.pointer (some ⟨g, 0, none⟩)]) :
    ∃ Rd : Nat → Prop, (∀ k, Rd k → k < w.heap.size ∧ (k = B0 ∨ S k)) ∧ SeqO Try.prog 62 #[.pointer (some ⟨B0, 0, none⟩)] (fun x : Nat × It => #[.int .i64 (x.1 : Int), .agg #[.int .i64 x.2.key, .int .i64 x.2.id]]) Rd (en 0 l) w := by
  rcases h.2 with ⟨rfl, h2⟩ | ⟨b, c, n, nd, T, hb, h2, h3, rfl⟩
  · refine ⟨_, fun k hk => ?_, all_nil B0 h2 hB⟩
    rcases hk with rfl | rfl
    · exact ⟨hB.lt, .inl rfl⟩
    · exact ⟨h2.lt, .inr h.1⟩
  · refine ⟨_, fun k hk => ?_, all_seq B0 h2 rfl h3 hB⟩
    rcases hk with rfl | rfl | rfl
    · exact ⟨hB.lt, .inl rfl⟩
    · exact ⟨h2.hd.lt, .inr h.1⟩
    · exact ⟨h2.row.lt, .inr hb⟩
end
end Go.Proofs.Ytpbnmfoecmhnnaa
