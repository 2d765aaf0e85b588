/-
  The last step of the proof of ImageReads: from its walk to the given statement. For every input the call returns true and leaves its arguments as they were. Condition: the listed package-level variables start as the program's text lays them; the card ties that to the text. (The frame is after the shell of the kit's proof-skeleton and the worked text Pinup.)
-/
import Derived.Test.YtggmdgdgljlddaaGreatDoorJK
import Derived.Test.YtggmdgdgljlddaaGreatDoorZSame
import Derived.Test.YtggmdgdgljlddaaGreatDoorZDg
import Derived.Deep.RegionHeldLaw
import Derived.Test.YtggmdgdgljlddaaGreatDoorTail
import Derived.Test.YtggmdgdgljlddaaGreatDoorCrcTab
import Derived.Test.YtggmdgdgljlddaaGreatDoorTie
import Derived.Test.YtggmdgdgljlddaaGreatDoorCards
import Derived.SevenTiedAt
import Derived.Test.YtggmdgdgljlddaaGreatDoorRows
import Derived.Test.YtggmdgdgljlddaaGreatDoorArgs
import Derived.ProofKit
import Derived.OpenShut
import Derived.ShutString
import Derived.ChangeOld
import Derived.Test.YtggmdgdgljlddaaGreatDoorPOpen
/-
  The walk of ImageBack.
-/
namespace Go.Proofs.YtggmdgdgljlddaaGreatDoor
open Go.RowKit Go.Shelf

theorem same_is {w : World} {P Q : Nat → Prop} {v u : Value} {gs gs' : List GS} {ts ts' : List TS} {q : Bool} (h : Sce w P v gs ts) (h' : Sce w Q u gs' ts') (hq : decide (gs = gs' ∧ ts = ts') = q) :
    Calls Tryz.prog 13 #[v, u] w fun e w' => e = .returned (.bool q) ∧ Kp No w w' := by
  rw [← hq]
  exact zsame_any h h'
theorem few_is {w : World} {P : Nat → Prop} {v : Value} {gs : List GS} {ts : List TS} {q : Bool} (h : Sce w P v gs ts) (hq : few gs ts = q) :
    Calls Tryz.prog 6 #[v] w fun e w' => e = .returned (.bool q) ∧ Kp No w w' := by
  rw [← hq]
  exact zfew_any h
theorem few_bd {gs : List GS} {ts : List TS} (h : few gs ts = true) : gs.length ≤ 30 ∧ ts.length ≤ 30 := by
  unfold few at h
  simpa using h
theorem encZ {gs : List GS} {ts : List TS} (h : encE gs ts = 0) : checkS gs ts = 0 ∧ Can (secs gs ts) := by
  unfold encE at h
  by_cases h0 : checkS gs ts = 0
  · rw [if_pos h0] at h
    exact ⟨h0, (can_iff _).1 h⟩
  · rw [if_neg h0] at h
    exact absurd h h0
theorem enc_few {gs : List GS} {ts : List TS} (h : few gs ts = true) : encE gs ts = checkS gs ts := by
  obtain ⟨h1, h2⟩ := few_bd h
  unfold encE
  by_cases h0 : checkS gs ts = 0
  · rw [if_pos h0, (can_iff _).2 (secs_can h1 h2), h0]
  · rw [if_neg h0]
end Go.Proofs.YtggmdgdgljlddaaGreatDoor

/-
  Contracts of the document's at and Decode.
-/
namespace Go.Proofs.YtggmdgdgljlddaaGreatDoor
open Go.RowKit Go.Shelf

section
variable {P : Program} {Q : Exit → Act → World → Prop} {l : List Oper} {o : Oper}
theorem then_of {a : Act} {w : World} (h : wpList P (l ++ [o]).toArray Q [o] a w) : Then P Q l o .normal a w := by
  show wpOp P (l ++ [o]).toArray Q l.length (Q .normal) a w
  unfold wpOp
  rw [op_last]
  exact h
/-- A region that draws, whose last operation waits for all others: the others in whatever order, then the last one. -/
theorem region_last {id : Nat} {a : Act} {w : World} {full : List Oper} (n : Nat) (hn : full.drop n = [o]) (hm : P.follows .mixedOrders = true) (hT : lastB (full.take n) o = true)
    (h : wpAny P .any (full.take n).toArray (Then P Q (full.take n) o) (full.take n).length (Array.replicate (full.take n).length false) a w.drew) : (Code.region id full.toArray true).wp P Q a w := by
  have e : full = full.take n ++ [o] := by rw [← hn, List.take_append_drop]
  generalize full.take n = l at *
  subst e
  have hL := last_of hT
  refine wp_region_any hm ?_
  have h3 := hL.any _ _ _ _ (by simp) h
  have e2 : (Array.replicate l.length false).push false = Array.replicate (l ++ [o]).toArray.size false := by simp [Array.replicate_succ]
  rw [e2] at h3
  simpa using h3
end
theorem Byt.dropL {w : World} {P : Nat → Prop} {b o n c : Nat} {xs : List Int} (h : Byt w P (.slice (some ⟨b, o, none⟩) n c) xs) (k : Nat) (hk : k ≤ xs.length) : Byt w P (.slice (some ⟨b, o + k, none⟩) (n - k) (c - k)) (xs.drop k) := by
  have ha : (⟨b, o, none⟩ : Addr).add k = ⟨b, o + k, none⟩ := by unfold Addr.add; split <;> simp_all
  have := h.drop k hk
  simpa only [Option.map_some, ha] using this
theorem aw_at {a : List Int} (h : 9 < a.length) : aw a = a.getD 9 0 := by
  unfold aw
  simp only [List.drop_drop, Nat.reduceAdd]
  rw [List.drop_eq_getElem_cons h, List.take_succ_cons, List.take_zero]
  simp [num, List.getD, h]
theorem rat_any {S : Nat → Prop} {w : World} {b o n c : Nat} {xs : List Int} {f k : Nat} (h : Byt w S (.slice (some ⟨b, o, none⟩) n c) xs) (hn : xs.length = n) (hk : 0 < k) (h8 : k ≤ 8) (hf : f + k ≤ n) (hn9 : n ≤ 1000000) {y : Int} (hy : IntKind.i64.wrap (num ((xs.drop f).take k)) = y) :
    Calls Tryz.prog 26 #[.slice (some ⟨b, o, none⟩) n c, .int .i64 (f : Int), .int .i64 (k : Int)] w fun e w' => e = .returned (.int .i64 y) ∧ w' = w := by
  have hp := h.part (i := f) (m := k) (by omega)
  have hcm : n ≤ c ∧ c ≤ 9223372036854775807 := by
    obtain ⟨_, c', he, hc, hm, _⟩ := id h
    injection he with _ _ he
    subst he
    unfold maxLen at hm
    omega
  have HN := hid (number_any _ _ w hp (by rw [List.length_take]; omega))
  obtain ⟨e, he⟩ : ∃ e, f + k = e := ⟨_, rfl⟩
  have hek : e - f = k := by omega
  have hsum : (f : Int) + (k : Int) = (e : Int) := by omega
  have hwr := wrapI (x := (e : Int)) (by unfold I64; omega)
  have hwf := wrapI (x := (f : Int)) (by unfold I64; omega)
  have hfe : f ≤ e := by omega
  have hcm1 := hcm.1
  have hcm2 := hcm.2
  have hec : e ≤ c := by omega
  have hfc : ¬ c = f := by omega
  have hcf : ¬ f = c := by omega
  clear h hp hf he hn hcm
  go_enter Tryz.func26, Tryz.ntmps26
  go_wp2_with (first
    | (go_at_call 27
       with_reducible refine HN.out.mono ?_
       rintro e w1 ⟨rfl, rfl⟩))
  go_ret
  exact ⟨rfl, rfl⟩
set_option maxRecDepth 100000 in
set_option maxHeartbeats 16000000 in
theorem rdecode_any {w : World} {S : Nat → Prop} {v : Value} {xs : List Int} (h : Byt w S v xs) (hl : xs.length ≤ 100000) {x : Int} {gs : List GS} {ts : List TS} (hx : dec xs = (x, gs, ts)) :
    Calls Tryz.prog 12 #[v] w (DecPost x gs ts w) := by
  have HBS := hid (show Bs xs from h.bytes)
  have k1 := ((Kp.refl No w).alloc (.cells #[.slice none 0 0, .slice none 0 0] 25)).alloc (.cells #[.slice none 0 0, .slice none 0 0] 25)
  have br := (Blk.new w 25 #[.slice none 0 0, .slice none 0 0]).kp0 ((Kp.refl No _).alloc (.cells #[.slice none 0 0, .slice none 0 0] 25))
  have bz := Blk.new (w.alloc (.cells #[.slice none 0 0, .slice none 0 0] 25)) 25 #[.slice none 0 0, .slice none 0 0]
  have z1 : (w.alloc (.cells #[.slice none 0 0, .slice none 0 0] 25)).heap.size = w.heap.size + 1 := World.size_alloc _ _
  rw [z1] at bz
  obtain ⟨w1, hw1⟩ : ∃ w1, (w.alloc (.cells #[.slice none 0 0, .slice none 0 0] 25)).alloc (.cells #[.slice none 0 0, .slice none 0 0] 25) = w1 := ⟨_, rfl⟩
  rw [hw1] at k1 br bz
  have K1 := hid k1
  have BR := hid br
  have BZ := hid bz
  have HU := hid (runpack_any (h.kp k1 fun _ _ h => h) (by omega))
  have HX := hid hx
  obtain ⟨A, c, rfl, _⟩ := h
  obtain ⟨n, hn⟩ : ∃ n, xs.length = n := ⟨_, rfl⟩
  have HNL := hid hn
  rw [hn] at HU hl ⊢
  have HW1 := hid hw1
  clear k1 br bz z1 hx hn hw1
  obtain ⟨y, hy⟩ : ∃ y, (unp xs).1 = y := ⟨_, rfl⟩
  unfold UnpPost at HU
  rw [hy] at HU
  have HY := hid hy
  clear hy
  by_cases h0 : y = 0
  · subst h0
    have HUX := hid (show unp xs = (0, (unp xs).2) by rw [← HY.out])
    have HDX := hid (show dec xs = ofSecs (unp xs).2 by unfold dec; rw [if_pos HY.out])
    go_enter Tryz.func12, Tryz.ntmps12
    go_upto_region 2 with fail
    go_upto_region 5 with (first
      | (go_at_call 25
         rw [HW1.out]
         refine HU.out.mono ?_
         rintro e w2 ⟨u, ss, rfl, hs, how, hok, k2⟩
         have HS := hid hs
         have HP := hid (show Ps w2 (fun i => i < w2.heap.size) u ss from (UnpPost.ps how hok).below)
         have K2 := hid (K1.out.trans k2)
         have BR2 := hid (BR.out.kp0 k2)
         have BZ2 := hid (BZ.out.kp0 k2)
         obtain ⟨ns, hns⟩ : ∃ ns, ss.length = ns := ⟨_, rfl⟩
         obtain ⟨As, cs, rfl, _, _⟩ := HP.out.form hns
         have HNS := hid hns
         have HSL := hid (show ss.length ≤ 16 by
           have hC := (unp_zero HBS.out HUX.out).1.len
           rw [← hs, List.length_map] at hC
           exact hC)
         clear hs how hok k2 hns BR BZ HU))
    clear HW1
    have hsl := HSL.out
    rw [HNS.out] at hsl
    by_cases h4 : ns = 4
    · subst h4
      obtain ⟨s1, s2, s3, s4, rfl⟩ : ∃ s1 s2 s3 s4, ss = [s1, s2, s3, s4] := by
        have hl := HNS.out
        rcases ss with _ | ⟨s1, _ | ⟨s2, _ | ⟨s3, _ | ⟨s4, _ | ⟨s5, l⟩⟩⟩⟩⟩ <;> simp at hl
        exact ⟨s1, s2, s3, s4, rfl⟩
      obtain ⟨b, o, rfl, ok1, a1, d1⟩ := HP.out.at' (k := 0) (by simp)
      obtain ⟨_, _, e0, ok2, a2, d2⟩ := HP.out.at' (k := 1) (by simp)
      cases e0
      obtain ⟨_, _, e0, ok3, a3, d3⟩ := HP.out.at' (k := 2) (by simp)
      cases e0
      obtain ⟨_, _, e0, ok4, a4, d4⟩ := HP.out.at' (k := 3) (by simp)
      cases e0
      simp only [List.getD_cons_zero, List.getD_cons_succ, Nat.zero_mul, Nat.one_mul, Nat.add_zero, Nat.reduceMul] at ok1 ok2 ok3 ok4 a1 a2 a3 a4 d1 d2 d3 d4
      obtain ⟨k1, va⟩ : ∃ k, s1.k = k := ⟨_, rfl⟩
      obtain ⟨k2, vb⟩ : ∃ k, s2.k = k := ⟨_, rfl⟩
      obtain ⟨k3, vc⟩ : ∃ k, s3.k = k := ⟨_, rfl⟩
      obtain ⟨k4, vd⟩ : ∃ k, s4.k = k := ⟨_, rfl⟩
      rw [va] at a1
      rw [vb] at a2
      rw [vc] at a3
      rw [vd] at a4
      have HKS := hid (show (unp xs).2.map Sn.kind = [k1, k2, k3, k4] by rw [← HS.out, ← va, ← vb, ← vc, ← vd]; rfl)
      by_cases e1 : k1 = 1
      rotate_left
      · have t1 : (k1 != 1) = true := by rw [bne_iff_ne]; exact e1
        have HD := hid (show dec xs = (21, [], []) by
          rw [HDX.out]
          exact ofSecs_kinds fun e => by
            rw [HKS.out] at e
            simp only [List.cons.injEq, and_true] at e
            exact e1 e.1)
        have c0 := BR2.out.cell 0
        have c1 := BR2.out.cell 1
        have f0 := BR2.out.frozen 0
        have f1 := BR2.out.frozen 1
        have z0 := BZ2.out.cell 0
        have z1 := BZ2.out.cell 1
        simp only [List.getElem?_toArray, List.getElem?_cons_zero, List.getElem?_cons_succ] at c0 c1 z0 z1
        go_wp2_with fail
        have bf := (BR2.out.put 0 (.slice none 0 0)).put 1 (.slice none 0 0)
        simp only [List.setIfInBounds_toArray, List.set_cons_zero, List.set_cons_succ] at bf
        have kS := (Kp.set1 w.heap.size 0 w2 (.slice none 0 0)).setCell (p := ⟨w.heap.size, 1, none⟩) (.inl rfl) (.slice none 0 0)
        have kf := K2.out.step kS fun i hi e => by have e : i = w.heap.size := e; omega
        have ogf := (Ow.nil ((w2.setCell ⟨w.heap.size, 0, none⟩ (.slice none 0 0)).setCell ⟨w.heap.size, 1, none⟩ (.slice none 0 0)) w.heap.size 45 6 gc)
        have otf := (Ow.nil ((w2.setCell ⟨w.heap.size, 0, none⟩ (.slice none 0 0)).setCell ⟨w.heap.size, 1, none⟩ (.slice none 0 0)) w.heap.size 53 8 tc)
        obtain ⟨rfl, rfl, rfl⟩ := (by simpa using HX.out.symm.trans HD.out : x = 21 ∧ gs = [] ∧ ts = [])
        refine bodyPost_ret (v := .tuple #[.agg #[.slice none 0 0, .slice none 0 0], .int .i64 21]) ?_ rfl ⟨_, _, rfl, ogf, otf, kf⟩
        clear c0 c1 f0 f1 z0 z1 kf kS ogf otf
        generalize (w2.setCell _ _).setCell _ _ = WZ at bf ⊢
        have c0 := bf.cell 0
        have c1 := bf.cell 1
        simp only [List.getElem?_toArray, List.getElem?_cons_zero, List.getElem?_cons_succ] at c0 c1
        rw [results_cell2 rfl]
        go_simp
      by_cases e2 : k2 = 2
      rotate_left
      · have t2 : (k2 != 2) = true := by rw [bne_iff_ne]; exact e2
        have t1 : ((k1 : Int) != 1) = false := by rw [e1]; rfl
        have HD := hid (show dec xs = (21, [], []) by
          rw [HDX.out]
          exact ofSecs_kinds fun e => by
            rw [HKS.out] at e
            simp only [List.cons.injEq, and_true] at e
            exact e2 e.2.1)
        have c0 := BR2.out.cell 0
        have c1 := BR2.out.cell 1
        have f0 := BR2.out.frozen 0
        have f1 := BR2.out.frozen 1
        have z0 := BZ2.out.cell 0
        have z1 := BZ2.out.cell 1
        simp only [List.getElem?_toArray, List.getElem?_cons_zero, List.getElem?_cons_succ] at c0 c1 z0 z1
        go_wp2_with fail
        have bf := (BR2.out.put 0 (.slice none 0 0)).put 1 (.slice none 0 0)
        simp only [List.setIfInBounds_toArray, List.set_cons_zero, List.set_cons_succ] at bf
        have kS := (Kp.set1 w.heap.size 0 w2 (.slice none 0 0)).setCell (p := ⟨w.heap.size, 1, none⟩) (.inl rfl) (.slice none 0 0)
        have kf := K2.out.step kS fun i hi e => by have e : i = w.heap.size := e; omega
        have ogf := (Ow.nil ((w2.setCell ⟨w.heap.size, 0, none⟩ (.slice none 0 0)).setCell ⟨w.heap.size, 1, none⟩ (.slice none 0 0)) w.heap.size 45 6 gc)
        have otf := (Ow.nil ((w2.setCell ⟨w.heap.size, 0, none⟩ (.slice none 0 0)).setCell ⟨w.heap.size, 1, none⟩ (.slice none 0 0)) w.heap.size 53 8 tc)
        obtain ⟨rfl, rfl, rfl⟩ := (by simpa using HX.out.symm.trans HD.out : x = 21 ∧ gs = [] ∧ ts = [])
        refine bodyPost_ret (v := .tuple #[.agg #[.slice none 0 0, .slice none 0 0], .int .i64 21]) ?_ rfl ⟨_, _, rfl, ogf, otf, kf⟩
        clear c0 c1 f0 f1 z0 z1 kf kS ogf otf
        generalize (w2.setCell _ _).setCell _ _ = WZ at bf ⊢
        have c0 := bf.cell 0
        have c1 := bf.cell 1
        simp only [List.getElem?_toArray, List.getElem?_cons_zero, List.getElem?_cons_succ] at c0 c1
        rw [results_cell2 rfl]
        go_simp
      by_cases e3 : k3 = 3
      rotate_left
      · have t3 : (k3 != 3) = true := by rw [bne_iff_ne]; exact e3
        have t1 : ((k1 : Int) != 1) = false := by rw [e1]; rfl
        have t2 : ((k2 : Int) != 2) = false := by rw [e2]; rfl
        have HD := hid (show dec xs = (21, [], []) by
          rw [HDX.out]
          exact ofSecs_kinds fun e => by
            rw [HKS.out] at e
            simp only [List.cons.injEq, and_true] at e
            exact e3 e.2.2.1)
        have c0 := BR2.out.cell 0
        have c1 := BR2.out.cell 1
        have f0 := BR2.out.frozen 0
        have f1 := BR2.out.frozen 1
        have z0 := BZ2.out.cell 0
        have z1 := BZ2.out.cell 1
        simp only [List.getElem?_toArray, List.getElem?_cons_zero, List.getElem?_cons_succ] at c0 c1 z0 z1
        go_wp2_with fail
        have bf := (BR2.out.put 0 (.slice none 0 0)).put 1 (.slice none 0 0)
        simp only [List.setIfInBounds_toArray, List.set_cons_zero, List.set_cons_succ] at bf
        have kS := (Kp.set1 w.heap.size 0 w2 (.slice none 0 0)).setCell (p := ⟨w.heap.size, 1, none⟩) (.inl rfl) (.slice none 0 0)
        have kf := K2.out.step kS fun i hi e => by have e : i = w.heap.size := e; omega
        have ogf := (Ow.nil ((w2.setCell ⟨w.heap.size, 0, none⟩ (.slice none 0 0)).setCell ⟨w.heap.size, 1, none⟩ (.slice none 0 0)) w.heap.size 45 6 gc)
        have otf := (Ow.nil ((w2.setCell ⟨w.heap.size, 0, none⟩ (.slice none 0 0)).setCell ⟨w.heap.size, 1, none⟩ (.slice none 0 0)) w.heap.size 53 8 tc)
        obtain ⟨rfl, rfl, rfl⟩ := (by simpa using HX.out.symm.trans HD.out : x = 21 ∧ gs = [] ∧ ts = [])
        refine bodyPost_ret (v := .tuple #[.agg #[.slice none 0 0, .slice none 0 0], .int .i64 21]) ?_ rfl ⟨_, _, rfl, ogf, otf, kf⟩
        clear c0 c1 f0 f1 z0 z1 kf kS ogf otf
        generalize (w2.setCell _ _).setCell _ _ = WZ at bf ⊢
        have c0 := bf.cell 0
        have c1 := bf.cell 1
        simp only [List.getElem?_toArray, List.getElem?_cons_zero, List.getElem?_cons_succ] at c0 c1
        rw [results_cell2 rfl]
        go_simp
      by_cases e4 : k4 = 4
      rotate_left
      · have t4 : (k4 != 4) = true := by rw [bne_iff_ne]; exact e4
        have t1 : ((k1 : Int) != 1) = false := by rw [e1]; rfl
        have t2 : ((k2 : Int) != 2) = false := by rw [e2]; rfl
        have t3 : ((k3 : Int) != 3) = false := by rw [e3]; rfl
        have HD := hid (show dec xs = (21, [], []) by
          rw [HDX.out]
          exact ofSecs_kinds fun e => by
            rw [HKS.out] at e
            simp only [List.cons.injEq, and_true] at e
            exact e4 e.2.2.2)
        have c0 := BR2.out.cell 0
        have c1 := BR2.out.cell 1
        have f0 := BR2.out.frozen 0
        have f1 := BR2.out.frozen 1
        have z0 := BZ2.out.cell 0
        have z1 := BZ2.out.cell 1
        simp only [List.getElem?_toArray, List.getElem?_cons_zero, List.getElem?_cons_succ] at c0 c1 z0 z1
        go_wp2_with fail
        have bf := (BR2.out.put 0 (.slice none 0 0)).put 1 (.slice none 0 0)
        simp only [List.setIfInBounds_toArray, List.set_cons_zero, List.set_cons_succ] at bf
        have kS := (Kp.set1 w.heap.size 0 w2 (.slice none 0 0)).setCell (p := ⟨w.heap.size, 1, none⟩) (.inl rfl) (.slice none 0 0)
        have kf := K2.out.step kS fun i hi e => by have e : i = w.heap.size := e; omega
        have ogf := (Ow.nil ((w2.setCell ⟨w.heap.size, 0, none⟩ (.slice none 0 0)).setCell ⟨w.heap.size, 1, none⟩ (.slice none 0 0)) w.heap.size 45 6 gc)
        have otf := (Ow.nil ((w2.setCell ⟨w.heap.size, 0, none⟩ (.slice none 0 0)).setCell ⟨w.heap.size, 1, none⟩ (.slice none 0 0)) w.heap.size 53 8 tc)
        obtain ⟨rfl, rfl, rfl⟩ := (by simpa using HX.out.symm.trans HD.out : x = 21 ∧ gs = [] ∧ ts = [])
        refine bodyPost_ret (v := .tuple #[.agg #[.slice none 0 0, .slice none 0 0], .int .i64 21]) ?_ rfl ⟨_, _, rfl, ogf, otf, kf⟩
        clear c0 c1 f0 f1 z0 z1 kf kS ogf otf
        generalize (w2.setCell _ _).setCell _ _ = WZ at bf ⊢
        have c0 := bf.cell 0
        have c1 := bf.cell 1
        simp only [List.getElem?_toArray, List.getElem?_cons_zero, List.getElem?_cons_succ] at c0 c1
        rw [results_cell2 rfl]
        go_simp
      obtain ⟨rfl, rfl, rfl, rfl⟩ : k1 = 1 ∧ k2 = 2 ∧ k3 = 3 ∧ k4 = 4 := ⟨e1, e2, e3, e4⟩
      have HC := hid (unp_zero HBS.out HUX.out).1
      have hlong : ∀ s ∈ [s1, s2, s3, s4], s.bl.length ≤ 65535 := fun s hs => HC.out.long (sn s) (by rw [← HS.out]; exact List.mem_map.2 ⟨s, hs, rfl⟩)
      have l1 := hlong s1 (by simp)
      have l2 := hlong s2 (by simp)
      have l3 := hlong s3 (by simp)
      have l4 := hlong s4 (by simp)
      obtain ⟨_, Aa, ca, a⟩ := s1
      obtain ⟨_, Ab, cb, bb⟩ := s2
      obtain ⟨_, Ac, cc, cq⟩ := s3
      obtain ⟨_, Ad, cd, dd⟩ := s4
      have BA := hid ok1.b
      have BB := hid ok2.b
      have BC := hid ok3.b
      have BD := hid ok4.b
      simp only [Sv.bv] at BA BB BC BD d1 d2 d3 d4 l1 l2 l3 l4
      have HDS := hid (show ∀ r gs' ts', parseD a bb cq dd = (r, gs', ts') → dec xs = if r = false then (5, [], []) else if checkS gs' ts' = 0 then (0, gs', ts') else (checkS gs' ts', [], []) from fun r gs' ts' hp => by
        rw [HDX.out, ← HS.out]
        simp only at va vb vc vd
        subst va vb vc vd
        exact ofSecs_four a bb cq dd hp)
      obtain ⟨la, hla⟩ : ∃ n, a.length = n := ⟨_, rfl⟩
      obtain ⟨lb, hlb⟩ : ∃ n, bb.length = n := ⟨_, rfl⟩
      obtain ⟨lc, hlc⟩ : ∃ n, cq.length = n := ⟨_, rfl⟩
      obtain ⟨ld, hld⟩ : ∃ n, dd.length = n := ⟨_, rfl⟩
      rw [hla] at BA d1 l1
      rw [hlb] at BB d2 l2
      rw [hlc] at BC d3 l3
      rw [hld] at BD d4 l4
      have HLA := hid hla
      have HLB := hid hlb
      have HLC := hid hlc
      have HLD := hid hld
      obtain ⟨p, hp⟩ : ∃ p, la / 9 = p := ⟨_, rfl⟩
      obtain ⟨m, hm⟩ : ∃ m, lc / 27 = m := ⟨_, rfl⟩
      have hpi : (la : Int) / 9 = (p : Int) := by omega
      have hpt : (la : Int).tdiv 9 = (p : Int) := by rw [Int.tdiv_eq_ediv_of_nonneg (by omega)]; exact hpi
      have hmi : (lc : Int) / 27 = (m : Int) := by omega
      have hmt : (lc : Int).tdiv 27 = (m : Int) := by rw [Int.tdiv_eq_ediv_of_nonneg (by omega)]; exact hmi
      have HPQ := hid hp
      have HMQ := hid hm
      have hwp1 := wrapI (x := (p : Int)) (by unfold I64; omega)
      have hwp2 := wrapI (x := 9 * (p : Int)) (by unfold I64; omega)
      have hwp3 := wrapI (x := 12 * (p : Int)) (by unfold I64; omega)
      have hwm1 := wrapI (x := (m : Int)) (by unfold I64; omega)
      have hwm2 := wrapI (x := 27 * (m : Int)) (by unfold I64; omega)
      have hwm3 := wrapI (x := 8 * (m : Int)) (by unfold I64; omega)
      clear hla hlb hlc hld ok1 ok2 ok3 ok4 hlong va vb vc vd
      have t1 : ((1 : Int) != 1) = false := rfl
      have t2 : ((2 : Int) != 2) = false := rfl
      have t3 : ((3 : Int) != 3) = false := rfl
      have t4 : ((4 : Int) != 4) = false := rfl
      by_cases g1 : la = p * 9
      rotate_left
      · have u1 : ((la : Int) != 9 * (p : Int)) = true := by rw [bne_iff_ne]; omega
        have HD := hid (show dec xs = (5, [], []) by
          have hpd : parseD a bb cq dd = (false, [], []) := by
            unfold parseD parse
            rw [if_neg]
            rintro ⟨h1, h2⟩
            rw [pairB_iff, HLA.out, HLB.out, HPQ.out] at h1
            rw [pairB_iff, HLC.out, HLD.out, HMQ.out] at h2
            omega
          rw [HDS.out _ _ _ hpd]
          rfl)
        have c0 := BR2.out.cell 0
        have c1 := BR2.out.cell 1
        have f0 := BR2.out.frozen 0
        have f1 := BR2.out.frozen 1
        have z0 := BZ2.out.cell 0
        have z1 := BZ2.out.cell 1
        simp only [List.getElem?_toArray, List.getElem?_cons_zero, List.getElem?_cons_succ] at c0 c1 z0 z1
        go_wp2_with fail
        have bf := (BR2.out.put 0 (.slice none 0 0)).put 1 (.slice none 0 0)
        simp only [List.setIfInBounds_toArray, List.set_cons_zero, List.set_cons_succ] at bf
        have kS := (Kp.set1 w.heap.size 0 w2 (.slice none 0 0)).setCell (p := ⟨w.heap.size, 1, none⟩) (.inl rfl) (.slice none 0 0)
        have kf := K2.out.step kS fun i hi e => by have e : i = w.heap.size := e; omega
        have ogf := (Ow.nil ((w2.setCell ⟨w.heap.size, 0, none⟩ (.slice none 0 0)).setCell ⟨w.heap.size, 1, none⟩ (.slice none 0 0)) w.heap.size 45 6 gc)
        have otf := (Ow.nil ((w2.setCell ⟨w.heap.size, 0, none⟩ (.slice none 0 0)).setCell ⟨w.heap.size, 1, none⟩ (.slice none 0 0)) w.heap.size 53 8 tc)
        obtain ⟨rfl, rfl, rfl⟩ := (by simpa using HX.out.symm.trans HD.out : x = 5 ∧ gs = [] ∧ ts = [])
        refine bodyPost_ret (v := .tuple #[.agg #[.slice none 0 0, .slice none 0 0], .int .i64 5]) ?_ rfl ⟨_, _, rfl, ogf, otf, kf⟩
        clear c0 c1 f0 f1 z0 z1 kf kS ogf otf
        generalize (w2.setCell _ _).setCell _ _ = WZ at bf ⊢
        have c0 := bf.cell 0
        have c1 := bf.cell 1
        simp only [List.getElem?_toArray, List.getElem?_cons_zero, List.getElem?_cons_succ] at c0 c1
        rw [results_cell2 rfl]
        go_simp
      by_cases g2 : lb = p * 12
      rotate_left
      · have u2 : ((lb : Int) != 12 * (p : Int)) = true := by rw [bne_iff_ne]; omega
        have u1 : ((la : Int) != 9 * (p : Int)) = false := by rw [bne_eq_false_iff_eq]; omega
        have HD := hid (show dec xs = (5, [], []) by
          have hpd : parseD a bb cq dd = (false, [], []) := by
            unfold parseD parse
            rw [if_neg]
            rintro ⟨h1, h2⟩
            rw [pairB_iff, HLA.out, HLB.out, HPQ.out] at h1
            rw [pairB_iff, HLC.out, HLD.out, HMQ.out] at h2
            omega
          rw [HDS.out _ _ _ hpd]
          rfl)
        have c0 := BR2.out.cell 0
        have c1 := BR2.out.cell 1
        have f0 := BR2.out.frozen 0
        have f1 := BR2.out.frozen 1
        have z0 := BZ2.out.cell 0
        have z1 := BZ2.out.cell 1
        simp only [List.getElem?_toArray, List.getElem?_cons_zero, List.getElem?_cons_succ] at c0 c1 z0 z1
        go_wp2_with fail
        have bf := (BR2.out.put 0 (.slice none 0 0)).put 1 (.slice none 0 0)
        simp only [List.setIfInBounds_toArray, List.set_cons_zero, List.set_cons_succ] at bf
        have kS := (Kp.set1 w.heap.size 0 w2 (.slice none 0 0)).setCell (p := ⟨w.heap.size, 1, none⟩) (.inl rfl) (.slice none 0 0)
        have kf := K2.out.step kS fun i hi e => by have e : i = w.heap.size := e; omega
        have ogf := (Ow.nil ((w2.setCell ⟨w.heap.size, 0, none⟩ (.slice none 0 0)).setCell ⟨w.heap.size, 1, none⟩ (.slice none 0 0)) w.heap.size 45 6 gc)
        have otf := (Ow.nil ((w2.setCell ⟨w.heap.size, 0, none⟩ (.slice none 0 0)).setCell ⟨w.heap.size, 1, none⟩ (.slice none 0 0)) w.heap.size 53 8 tc)
        obtain ⟨rfl, rfl, rfl⟩ := (by simpa using HX.out.symm.trans HD.out : x = 5 ∧ gs = [] ∧ ts = [])
        refine bodyPost_ret (v := .tuple #[.agg #[.slice none 0 0, .slice none 0 0], .int .i64 5]) ?_ rfl ⟨_, _, rfl, ogf, otf, kf⟩
        clear c0 c1 f0 f1 z0 z1 kf kS ogf otf
        generalize (w2.setCell _ _).setCell _ _ = WZ at bf ⊢
        have c0 := bf.cell 0
        have c1 := bf.cell 1
        simp only [List.getElem?_toArray, List.getElem?_cons_zero, List.getElem?_cons_succ] at c0 c1
        rw [results_cell2 rfl]
        go_simp
      by_cases g3 : lc = m * 27
      rotate_left
      · have u3 : ((lc : Int) != 27 * (m : Int)) = true := by rw [bne_iff_ne]; omega
        have u1 : ((la : Int) != 9 * (p : Int)) = false := by rw [bne_eq_false_iff_eq]; omega
        have u2 : ((lb : Int) != 12 * (p : Int)) = false := by rw [bne_eq_false_iff_eq]; omega
        have HD := hid (show dec xs = (5, [], []) by
          have hpd : parseD a bb cq dd = (false, [], []) := by
            unfold parseD parse
            rw [if_neg]
            rintro ⟨h1, h2⟩
            rw [pairB_iff, HLA.out, HLB.out, HPQ.out] at h1
            rw [pairB_iff, HLC.out, HLD.out, HMQ.out] at h2
            omega
          rw [HDS.out _ _ _ hpd]
          rfl)
        have c0 := BR2.out.cell 0
        have c1 := BR2.out.cell 1
        have f0 := BR2.out.frozen 0
        have f1 := BR2.out.frozen 1
        have z0 := BZ2.out.cell 0
        have z1 := BZ2.out.cell 1
        simp only [List.getElem?_toArray, List.getElem?_cons_zero, List.getElem?_cons_succ] at c0 c1 z0 z1
        go_wp2_with fail
        have bf := (BR2.out.put 0 (.slice none 0 0)).put 1 (.slice none 0 0)
        simp only [List.setIfInBounds_toArray, List.set_cons_zero, List.set_cons_succ] at bf
        have kS := (Kp.set1 w.heap.size 0 w2 (.slice none 0 0)).setCell (p := ⟨w.heap.size, 1, none⟩) (.inl rfl) (.slice none 0 0)
        have kf := K2.out.step kS fun i hi e => by have e : i = w.heap.size := e; omega
        have ogf := (Ow.nil ((w2.setCell ⟨w.heap.size, 0, none⟩ (.slice none 0 0)).setCell ⟨w.heap.size, 1, none⟩ (.slice none 0 0)) w.heap.size 45 6 gc)
        have otf := (Ow.nil ((w2.setCell ⟨w.heap.size, 0, none⟩ (.slice none 0 0)).setCell ⟨w.heap.size, 1, none⟩ (.slice none 0 0)) w.heap.size 53 8 tc)
        obtain ⟨rfl, rfl, rfl⟩ := (by simpa using HX.out.symm.trans HD.out : x = 5 ∧ gs = [] ∧ ts = [])
        refine bodyPost_ret (v := .tuple #[.agg #[.slice none 0 0, .slice none 0 0], .int .i64 5]) ?_ rfl ⟨_, _, rfl, ogf, otf, kf⟩
        clear c0 c1 f0 f1 z0 z1 kf kS ogf otf
        generalize (w2.setCell _ _).setCell _ _ = WZ at bf ⊢
        have c0 := bf.cell 0
        have c1 := bf.cell 1
        simp only [List.getElem?_toArray, List.getElem?_cons_zero, List.getElem?_cons_succ] at c0 c1
        rw [results_cell2 rfl]
        go_simp
      by_cases g4 : ld = m * 8
      rotate_left
      · have u4 : ((ld : Int) != 8 * (m : Int)) = true := by rw [bne_iff_ne]; omega
        have u1 : ((la : Int) != 9 * (p : Int)) = false := by rw [bne_eq_false_iff_eq]; omega
        have u2 : ((lb : Int) != 12 * (p : Int)) = false := by rw [bne_eq_false_iff_eq]; omega
        have u3 : ((lc : Int) != 27 * (m : Int)) = false := by rw [bne_eq_false_iff_eq]; omega
        have HD := hid (show dec xs = (5, [], []) by
          have hpd : parseD a bb cq dd = (false, [], []) := by
            unfold parseD parse
            rw [if_neg]
            rintro ⟨h1, h2⟩
            rw [pairB_iff, HLA.out, HLB.out, HPQ.out] at h1
            rw [pairB_iff, HLC.out, HLD.out, HMQ.out] at h2
            omega
          rw [HDS.out _ _ _ hpd]
          rfl)
        have c0 := BR2.out.cell 0
        have c1 := BR2.out.cell 1
        have f0 := BR2.out.frozen 0
        have f1 := BR2.out.frozen 1
        have z0 := BZ2.out.cell 0
        have z1 := BZ2.out.cell 1
        simp only [List.getElem?_toArray, List.getElem?_cons_zero, List.getElem?_cons_succ] at c0 c1 z0 z1
        go_wp2_with fail
        have bf := (BR2.out.put 0 (.slice none 0 0)).put 1 (.slice none 0 0)
        simp only [List.setIfInBounds_toArray, List.set_cons_zero, List.set_cons_succ] at bf
        have kS := (Kp.set1 w.heap.size 0 w2 (.slice none 0 0)).setCell (p := ⟨w.heap.size, 1, none⟩) (.inl rfl) (.slice none 0 0)
        have kf := K2.out.step kS fun i hi e => by have e : i = w.heap.size := e; omega
        have ogf := (Ow.nil ((w2.setCell ⟨w.heap.size, 0, none⟩ (.slice none 0 0)).setCell ⟨w.heap.size, 1, none⟩ (.slice none 0 0)) w.heap.size 45 6 gc)
        have otf := (Ow.nil ((w2.setCell ⟨w.heap.size, 0, none⟩ (.slice none 0 0)).setCell ⟨w.heap.size, 1, none⟩ (.slice none 0 0)) w.heap.size 53 8 tc)
        obtain ⟨rfl, rfl, rfl⟩ := (by simpa using HX.out.symm.trans HD.out : x = 5 ∧ gs = [] ∧ ts = [])
        refine bodyPost_ret (v := .tuple #[.agg #[.slice none 0 0, .slice none 0 0], .int .i64 5]) ?_ rfl ⟨_, _, rfl, ogf, otf, kf⟩
        clear c0 c1 f0 f1 z0 z1 kf kS ogf otf
        generalize (w2.setCell _ _).setCell _ _ = WZ at bf ⊢
        have c0 := bf.cell 0
        have c1 := bf.cell 1
        simp only [List.getElem?_toArray, List.getElem?_cons_zero, List.getElem?_cons_succ] at c0 c1
        rw [results_cell2 rfl]
        go_simp
      have u1 : ((la : Int) != 9 * (p : Int)) = false := by rw [bne_eq_false_iff_eq]; omega
      have u2 : ((lb : Int) != 12 * (p : Int)) = false := by rw [bne_eq_false_iff_eq]; omega
      have u3 : ((lc : Int) != 27 * (m : Int)) = false := by rw [bne_eq_false_iff_eq]; omega
      have u4 : ((ld : Int) != 8 * (m : Int)) = false := by rw [bne_eq_false_iff_eq]; omega
      have HPB := hid (show pairB a.length 9 bb.length 12 = true ∧ pairB cq.length 27 dd.length 8 = true from ⟨(pairB_iff ..).2 (by rw [HLA.out, HLB.out, HPQ.out]; omega), (pairB_iff ..).2 (by rw [HLC.out, HLD.out, HMQ.out]; omega)⟩)
      have HPD := hid (show ∀ o, tsOf m cq dd = o → parseD a bb cq dd = (match o with | none => (false, [], []) | some l => (true, gsOf p a bb, l)) from fun o ho => by
        unfold parseD parse
        rw [if_pos HPB.out, HLA.out, HLC.out, HPQ.out, HMQ.out, ho]
        cases o <;> rfl)
      have HGG := hid (And.intro g1 (And.intro g2 (And.intro g3 g4)))
      clear g1 g2 g3 g4
      have k3 := (Kp.refl No w2).alloc (.cells #[.slice none 0 0, .slice none 0 0] 25)
      have b3 := Blk.new w2 25 #[.slice none 0 0, .slice none 0 0]
      have z3 := World.size_alloc w2 (.cells #[.slice none 0 0, .slice none 0 0] 25)
      have hold : ∀ i, i < w2.heap.size → ¬ i = w2.heap.size := fun i hi e => by omega
      have HBY := hid (fun (W : World) (k : Kp (fun i => i = w2.heap.size) (w2.alloc (.cells #[.slice none 0 0, .slice none 0 0] 25)) W) =>
        have kA := (k3.all (S := (fun i => i = w2.heap.size))).trans k
        show (Byt W (fun i => i < w2.heap.size) (.slice Aa la ca) a ∧ Byt W (fun i => i < w2.heap.size) (.slice Ab lb cb) bb ∧ Byt W (fun i => i < w2.heap.size) (.slice Ac lc cc) cq ∧ Byt W (fun i => i < w2.heap.size) (.slice Ad ld cd) dd) ∧
          (Blk W w.heap.size 25 #[.slice none 0 0, .slice none 0 0] ∧ Blk W (w.heap.size + 1) 25 #[.slice none 0 0, .slice none 0 0]) ∧
          (W.cell? ⟨b, o + 1, none⟩ = some (.slice Aa la ca) ∧ W.cell? ⟨b, o + 2 + 1, none⟩ = some (.slice Ab lb cb) ∧ W.cell? ⟨b, o + 4 + 1, none⟩ = some (.slice Ac lc cc) ∧ W.cell? ⟨b, o + 6 + 1, none⟩ = some (.slice Ad ld cd)) from
        ⟨⟨BA.out.kp kA hold, BB.out.kp kA hold, BC.out.kp kA hold, BD.out.kp kA hold⟩, ⟨BR2.out.kp kA (hold _ BR2.out.lt), BZ2.out.kp kA (hold _ BZ2.out.lt)⟩,
          (kA.cell (p := ⟨b, o + 1, none⟩) (World.block_lt_of_cell? w2 _ d1) (hold _ (World.block_lt_of_cell? w2 _ d1))).trans d1, (kA.cell (p := ⟨b, o + 2 + 1, none⟩) (World.block_lt_of_cell? w2 _ d2) (hold _ (World.block_lt_of_cell? w2 _ d2))).trans d2,
          (kA.cell (p := ⟨b, o + 4 + 1, none⟩) (World.block_lt_of_cell? w2 _ d3) (hold _ (World.block_lt_of_cell? w2 _ d3))).trans d3, (kA.cell (p := ⟨b, o + 6 + 1, none⟩) (World.block_lt_of_cell? w2 _ d4) (hold _ (World.block_lt_of_cell? w2 _ d4))).trans d4⟩)
      have I0 := hid (show GZ 6 45 gc (fun i => i = w2.heap.size) (w2.alloc (.cells #[.slice none 0 0, .slice none 0 0] 25)) (w2.alloc (.cells #[.slice none 0 0, .slice none 0 0] 25)) w2.heap.size 25 #[.slice none 0 0, .slice none 0 0] (.slice none 0 0) ([] : List GS) from
        ⟨Kp.refl _ _, b3, Ow.nil _ _ _ _ _, rfl, fun i e => by rw [z3, e]; omega⟩)
      have K3 := hid (K2.out.trans k3)
      have Z3 := hid z3
      go_upto_region 12 with fail
      obtain ⟨w3, hw3⟩ : ∃ w3, w2.alloc (.cells #[.slice none 0 0, .slice none 0 0] 25) = w3 := ⟨_, rfl⟩
      obtain ⟨q, hq⟩ : ∃ q, w2.heap.size = q := ⟨_, rfl⟩
      rw [hw3] at HBY I0 K3 Z3 ⊢
      rw [hq] at HBY I0 Z3 ⊢
      have HQ := hid hq
      clear k3 b3 z3 hold hw3 hq d1 d2 d3 d4 a1 a2 a3 a4 e1 e2 e3 e4 t1 t2 t3 t4 u1 u2 u3 u4 hpi hpt hmi hmt hwp1 hwp2 hwp3 hwm1 hwm2 hwm3 hp hm
      go_wp2_with fail
      go_loopw [10] (fun i wr => ∃ (k : Nat) (u : Value), k ≤ p ∧ i = .int .i64 (k : Int) ∧ Hid (GZ 6 45 gc (fun i => i = q) w3 wr q 25 #[u, .slice none 0 0] u ((gsOf p a bb).take k))) (fun i _ => p - (vI i).toNat)
      case atStart => exact ⟨0, _, Nat.zero_le _, rfl, I0⟩
      case round =>
        obtain ⟨k, u, hk, rfl, G⟩ := hrel
        clear I0
        by_cases hkn : k < p
        · have hkl : k < (gsOf p a bb).length := by rw [gsOf_len]; exact hkn
          have gk : (k : Int) < (p : Int) := by omega
          have hwk := wrapI (x := (k : Int) + 1) (by have := HGG.out; unfold I64; omega)
          obtain ⟨e9, he9⟩ : ∃ e, 9 * k = e := ⟨_, rfl⟩
          obtain ⟨e12, he12⟩ : ∃ e, 12 * k = e := ⟨_, rfl⟩
          have HS1 := hid (gsOf_snoc (a := a) (b := bb) hkn)
          rw [he9, he12] at HS1
          have hm9 : (9 : Int) * (k : Int) = (e9 : Int) := by omega
          have hm12 : (12 : Int) * (k : Int) = (e12 : Int) := by omega
          have hw9 := wrapI (x := (e9 : Int)) (by have := HGG.out; unfold I64; omega)
          have hw12 := wrapI (x := (e12 : Int)) (by have := HGG.out; unfold I64; omega)
          have hl1 : e9 + 9 ≤ la := by have := HGG.out; omega
          have hl2 : e12 + 12 ≤ lb := by have := HGG.out; omega
          obtain ⟨⟨hba, hbb, _, _⟩, _, hc1, hc2, _, _⟩ := HBY.out _ G.out.kp
          obtain ⟨b1, o1, rfl, hcm1, hcm2⟩ : ∃ b1 o1, Aa = some ⟨b1, o1, none⟩ ∧ la ≤ ca ∧ ca ≤ 9223372036854775807 := by
            obtain ⟨b1, o1, c1, e, h1, h2, _⟩ := hba.spot HLA.out (by omega)
            injection e with e _ e2
            subst e2
            exact ⟨b1, o1, e, h1, h2⟩
          obtain ⟨b2, o2, rfl, hcm3, hcm4⟩ : ∃ b1 o1, Ab = some ⟨b1, o1, none⟩ ∧ lb ≤ cb ∧ cb ≤ 9223372036854775807 := by
            obtain ⟨b1, o1, c1, e, h1, h2, _⟩ := hbb.spot HLB.out (by omega)
            injection e with e _ e2
            subst e2
            exact ⟨b1, o1, e, h1, h2⟩
          have HY1 := hid (fun (W : World) (kw : Kp (fun i => i = q) w3 W) => (HBY.out W kw).1.1.dropL e9 (by rw [HLA.out]; omega))
          have HY2 := hid (fun (W : World) (kw : Kp (fun i => i = q) w3 W) => (HBY.out W kw).1.2.1.dropL e12 (by rw [HLB.out]; omega))
          have hbs1 := (show Bs a from BA.out.bytes).drop e9
          have hbs2 := (show Bs bb from BB.out.bytes).drop e12
          obtain ⟨x0, hx0⟩ : ∃ x, gOf (a.drop e9) (bb.drop e12) = x := ⟨_, rfl⟩
          rw [hx0] at HS1
          obtain ⟨xid, xpar, xwt, xpd, xqt, xus⟩ := x0
          unfold gOf at hx0
          simp only [GS.mk.injEq] at hx0
          obtain ⟨h1, h2, h3, h4, h5, h6⟩ := hx0
          have HA1 := hid (fun (W : World) (kw : Kp (fun i => i = q) w3 W) => show Calls Tryz.prog 26 #[.slice (some ⟨b1, o1 + e9, none⟩) (la - e9) (ca - e9), .int .i64 0, .int .i64 3] W (fun e w' => e = .returned (.int .i64 xid) ∧ w' = W) from rat_any (f := 0) (k := 3) (HY1.out W kw) (by rw [List.length_drop, HLA.out]) (by omega) (by omega) (by omega) (by omega) (by rw [← h1]; exact num3 hbs1))
          have HA2 := hid (fun (W : World) (kw : Kp (fun i => i = q) w3 W) => show Calls Tryz.prog 26 #[.slice (some ⟨b1, o1 + e9, none⟩) (la - e9) (ca - e9), .int .i64 3, .int .i64 3] W (fun e w' => e = .returned (.int .i64 xpar) ∧ w' = W) from rat_any (f := 3) (k := 3) (HY1.out W kw) (by rw [List.length_drop, HLA.out]) (by omega) (by omega) (by omega) (by omega) (by rw [← h2]; exact num3 (hbs1.drop 3)))
          have HA3 := hid (fun (W : World) (kw : Kp (fun i => i = q) w3 W) => show Calls Tryz.prog 26 #[.slice (some ⟨b1, o1 + e9, none⟩) (la - e9) (ca - e9), .int .i64 6, .int .i64 3] W (fun e w' => e = .returned (.int .i64 xwt) ∧ w' = W) from rat_any (f := 6) (k := 3) (HY1.out W kw) (by rw [List.length_drop, HLA.out]) (by omega) (by omega) (by omega) (by omega) (by rw [← h3]; have := num3 (hbs1.drop 6); simpa only [List.drop_drop, Nat.add_assoc, Nat.reduceAdd] using this))
          have HA4 := hid (fun (W : World) (kw : Kp (fun i => i = q) w3 W) => show Calls Tryz.prog 26 #[.slice (some ⟨b2, o2 + e12, none⟩) (lb - e12) (cb - e12), .int .i64 0, .int .i64 3] W (fun e w' => e = .returned (.int .i64 xpd) ∧ w' = W) from rat_any (f := 0) (k := 3) (HY2.out W kw) (by rw [List.length_drop, HLB.out]) (by omega) (by omega) (by omega) (by omega) (by rw [← h4]; exact num3 hbs2))
          have HA5 := hid (fun (W : World) (kw : Kp (fun i => i = q) w3 W) => show Calls Tryz.prog 26 #[.slice (some ⟨b2, o2 + e12, none⟩) (lb - e12) (cb - e12), .int .i64 3, .int .i64 3] W (fun e w' => e = .returned (.int .i64 xqt) ∧ w' = W) from rat_any (f := 3) (k := 3) (HY2.out W kw) (by rw [List.length_drop, HLB.out]) (by omega) (by omega) (by omega) (by omega) (by rw [← h5]; exact num3 (hbs2.drop 3)))
          have HA6 := hid (fun (W : World) (kw : Kp (fun i => i = q) w3 W) => show Calls Tryz.prog 26 #[.slice (some ⟨b2, o2 + e12, none⟩) (lb - e12) (cb - e12), .int .i64 6, .int .i64 6] W (fun e w' => e = .returned (.int .i64 xus) ∧ w' = W) from rat_any (f := 6) (k := 6) (HY2.out W kw) (by rw [List.length_drop, HLB.out]) (by omega) (by omega) (by omega) (by omega) (by rw [← h6]; have := num6 (hbs2.drop 6); simpa only [List.drop_drop, Nat.add_assoc, Nat.reduceAdd] using this))
          have HLEN := hid (show ((gsOf p a bb).take k).length = k by rw [List.length_take, gsOf_len]; omega)
          obtain ⟨A5, c5, rfl⟩ := G.out.ow.formN HLEN.out
          have hi1 : e9 ≤ la := by omega
          have hi2 : e9 ≤ ca := by omega
          have hi3 : ¬ ca = e9 := by omega
          have hi3b : ¬ e9 = ca := by omega
          have hi4 : e12 ≤ lb := by omega
          have hi5 : e12 ≤ cb := by omega
          have hi6 : ¬ cb = e12 := by omega
          have hi6b : ¬ e12 = cb := by omega
          clear he9 he12 hba hbb h1 h2 h3 h4 h5 h6 hbs1 hbs2 hkl
          go_upto_region 17 with fail
          refine region_last 19 rfl (by kernel_rfl) (by kernel_rfl) ?_
          simp only [List.take_succ_cons, List.take_zero, List.length_cons, List.length_nil, Nat.reduceAdd]
          have Fd1 := hid (G.out.kp0 (Kp.refl No wr).drew)
          generalize World.drew wr = Wd1 at Fd1 ⊢
          have HS5 : (fun w' => Blk w' q 25 #[.slice A5 k c5, .slice none 0 0]) Wd1 := Fd1.out.bx
          (try simp only at HS5)
          clear G
          refine wpAny_of_held (S := (fun w' => Blk w' q 25 #[.slice A5 k c5, .slice none 0 0])) _ _ _ _ ?_
          simp only [Array.replicate_succ, Array.replicate_zero, List.push_toArray, List.nil_append, List.cons_append]
          refine wpAnyH_take (i := 0) (v := ?_) rfl (by kernel_rfl) (by kernel_rfl) (by kernel_rfl) (fun _ _ _ h => h) (Or.inl ⟨by rfl, ?_⟩) HS5 ?_
          rotate_left
          · (intro w6 hS6; have z0 := hS6.cell 0; simp only [List.getElem?_toArray, List.getElem?_cons_zero] at z0; (try go_simp); (try with_reducible rfl))
          simp only [List.getElem_toArray, List.getElem_cons_zero, Act.put, List.setIfInBounds_toArray, List.set_cons_zero, List.set_cons_succ]
          refine wpAnyH_take (i := 1) (v := ?_) rfl (by kernel_rfl) (by kernel_rfl) (by kernel_rfl) (fun _ _ _ h => h) (Or.inl ⟨by rfl, ?_⟩) HS5 ?_
          rotate_left
          · (intro w6 hS6; have z0 := hS6.cell 0; simp only [List.getElem?_toArray, List.getElem?_cons_zero] at z0; (try go_simp); (try with_reducible rfl))
          simp only [List.getElem_toArray, List.getElem_cons_zero, List.getElem_cons_succ, Act.put, List.setIfInBounds_toArray, List.set_cons_zero, List.set_cons_succ]
          refine wpAnyH_take (i := 2) (v := ?_) rfl (by kernel_rfl) (by kernel_rfl) (by kernel_rfl) (fun _ _ _ h => h) (Or.inl ⟨by rfl, ?_⟩) HS5 ?_
          rotate_left
          · (intro w6 hS6; have z0 := hS6.cell 0; simp only [List.getElem?_toArray, List.getElem?_cons_zero] at z0; (try go_simp); (try with_reducible rfl))
          simp only [List.getElem_toArray, List.getElem_cons_zero, List.getElem_cons_succ, Act.put, List.setIfInBounds_toArray, List.set_cons_zero, List.set_cons_succ]
          refine wpAnyH_take (i := 4) (v := ?_) rfl (by kernel_rfl) (by kernel_rfl) (by kernel_rfl) (fun _ _ _ h => h) (Or.inl ⟨by rfl, ?_⟩) HS5 ?_
          rotate_left
          · (intro w6 hS6; have z0 := hS6.cell 0; simp only [List.getElem?_toArray, List.getElem?_cons_zero] at z0; (try go_simp); (try with_reducible rfl))
          simp only [List.getElem_toArray, List.getElem_cons_zero, List.getElem_cons_succ, Act.put, List.setIfInBounds_toArray, List.set_cons_zero, List.set_cons_succ]
          refine wpAnyH_take (i := 6) (v := ?_) rfl (by kernel_rfl) (by kernel_rfl) (by kernel_rfl) (fun _ _ _ h => h) (Or.inl ⟨by rfl, ?_⟩) HS5 ?_
          rotate_left
          · (intro w6 hS6; have z0 := hS6.cell 0; simp only [List.getElem?_toArray, List.getElem?_cons_zero] at z0; (try go_simp); (try with_reducible rfl))
          simp only [List.getElem_toArray, List.getElem_cons_zero, List.getElem_cons_succ, Act.put, List.setIfInBounds_toArray, List.set_cons_zero, List.set_cons_succ]
          refine wpAnyH_take (i := 8) (v := ?_) rfl (by kernel_rfl) (by kernel_rfl) (by kernel_rfl) (fun _ _ _ h => h) (Or.inl ⟨by rfl, ?_⟩) HS5 ?_
          rotate_left
          · (intro w6 hS6; have z0 := hS6.cell 0; simp only [List.getElem?_toArray, List.getElem?_cons_zero] at z0; (try go_simp); (try with_reducible rfl))
          simp only [List.getElem_toArray, List.getElem_cons_zero, List.getElem_cons_succ, Act.put, List.setIfInBounds_toArray, List.set_cons_zero, List.set_cons_succ]
          refine wpAnyH_take (i := 10) (v := ?_) rfl (by kernel_rfl) (by kernel_rfl) (by kernel_rfl) (fun _ _ _ h => h) (Or.inl ⟨by rfl, ?_⟩) HS5 ?_
          rotate_left
          · (intro w6 hS6; have z0 := hS6.cell 0; simp only [List.getElem?_toArray, List.getElem?_cons_zero] at z0; (try go_simp); (try with_reducible rfl))
          simp only [List.getElem_toArray, List.getElem_cons_zero, List.getElem_cons_succ, Act.put, List.setIfInBounds_toArray, List.set_cons_zero, List.set_cons_succ]
          refine wpAnyH_take (i := 12) (v := ?_) rfl (by kernel_rfl) (by kernel_rfl) (by kernel_rfl) (fun _ _ _ h => h) (Or.inl ⟨by rfl, ?_⟩) HS5 ?_
          rotate_left
          · (intro w6 hS6; have z0 := hS6.cell 0; simp only [List.getElem?_toArray, List.getElem?_cons_zero] at z0; (try go_simp); (try with_reducible rfl))
          simp only [List.getElem_toArray, List.getElem_cons_zero, List.getElem_cons_succ, Act.put, List.setIfInBounds_toArray, List.set_cons_zero, List.set_cons_succ]
          clear HS5
          refine wpAnyH_ready (rs := [3]) (by kernel_rfl) (by simp) (AllReadyH.cons rfl (fun K hK => ?_) AllReadyH.nil)
          refine step_calld (by rfl) (by go_simp) (HA1.out _ Fd1.out.kp) ?_
          intro w9 hw
          rw [hw]
          clear hw w9
          refine hK.out _ _ (Fd1.out.bx) (fun hS => ?_)
          clear hK
          simp only [List.setIfInBounds_toArray, List.set_cons_zero, List.set_cons_succ, Act.put]
          clear hS
          refine wpAnyH_ready (rs := [5]) (by kernel_rfl) (by simp) (AllReadyH.cons rfl (fun K hK => ?_) AllReadyH.nil)
          refine step_calld (by rfl) (by go_simp) (HA2.out _ Fd1.out.kp) ?_
          intro w9 hw
          rw [hw]
          clear hw w9
          refine hK.out _ _ (Fd1.out.bx) (fun hS => ?_)
          clear hK
          simp only [List.setIfInBounds_toArray, List.set_cons_zero, List.set_cons_succ, Act.put]
          clear hS
          refine wpAnyH_ready (rs := [7]) (by kernel_rfl) (by simp) (AllReadyH.cons rfl (fun K hK => ?_) AllReadyH.nil)
          refine step_calld (by rfl) (by go_simp) (HA3.out _ Fd1.out.kp) ?_
          intro w9 hw
          rw [hw]
          clear hw w9
          refine hK.out _ _ (Fd1.out.bx) (fun hS => ?_)
          clear hK
          simp only [List.setIfInBounds_toArray, List.set_cons_zero, List.set_cons_succ, Act.put]
          clear hS
          refine wpAnyH_ready (rs := [9]) (by kernel_rfl) (by simp) (AllReadyH.cons rfl (fun K hK => ?_) AllReadyH.nil)
          refine step_calld (by rfl) (by go_simp) (HA4.out _ Fd1.out.kp) ?_
          intro w9 hw
          rw [hw]
          clear hw w9
          refine hK.out _ _ (Fd1.out.bx) (fun hS => ?_)
          clear hK
          simp only [List.setIfInBounds_toArray, List.set_cons_zero, List.set_cons_succ, Act.put]
          clear hS
          refine wpAnyH_ready (rs := [11]) (by kernel_rfl) (by simp) (AllReadyH.cons rfl (fun K hK => ?_) AllReadyH.nil)
          refine step_calld (by rfl) (by go_simp) (HA5.out _ Fd1.out.kp) ?_
          intro w9 hw
          rw [hw]
          clear hw w9
          refine hK.out _ _ (Fd1.out.bx) (fun hS => ?_)
          clear hK
          simp only [List.setIfInBounds_toArray, List.set_cons_zero, List.set_cons_succ, Act.put]
          clear hS
          refine wpAnyH_ready (rs := [13]) (by kernel_rfl) (by simp) (AllReadyH.cons rfl (fun K hK => ?_) AllReadyH.nil)
          refine step_calld (by rfl) (by go_simp) (HA6.out _ Fd1.out.kp) ?_
          intro w9 hw
          rw [hw]
          clear hw w9
          refine hK.out _ _ (Fd1.out.bx) (fun hS => ?_)
          clear hK
          simp only [List.setIfInBounds_toArray, List.set_cons_zero, List.set_cons_succ, Act.put]
          refine wpAnyH_take (i := 14) (v := ?_) rfl (by kernel_rfl) (by kernel_rfl) (by kernel_rfl) (fun _ _ _ h => h) (Or.inl ⟨by rfl, ?_⟩) hS ?_
          rotate_left
          · (intro w6 hS6; have z0 := hS6.cell 0; simp only [List.getElem?_toArray, List.getElem?_cons_zero] at z0; (try go_simp); (try with_reducible rfl))
          simp only [List.getElem_toArray, List.getElem_cons_zero, List.getElem_cons_succ, Act.put, List.setIfInBounds_toArray, List.set_cons_zero, List.set_cons_succ]
          refine wpAnyH_take (i := 15) (v := ?_) rfl (by kernel_rfl) (by kernel_rfl) (by kernel_rfl) (fun _ _ _ h => h) (Or.inl ⟨by rfl, ?_⟩) hS ?_
          rotate_left
          · (intro w6 hS6; have z0 := hS6.cell 0; simp only [List.getElem?_toArray, List.getElem?_cons_zero] at z0; (try go_simp); (try with_reducible rfl))
          simp only [List.getElem_toArray, List.getElem_cons_zero, List.getElem_cons_succ, Act.put, List.setIfInBounds_toArray, List.set_cons_zero, List.set_cons_succ]
          clear hS
          refine wpAnyH_ready (rs := [16]) (by kernel_rfl) (by simp) (AllReadyH.cons rfl (fun K hK => ?_) AllReadyH.nil)
          simp only [List.getElem_toArray, List.getElem_cons_zero, List.getElem_cons_succ]
          go_simp
          have Un8 := hid (Blk.new Wd1 45 #[.int .i64 xid, .int .i64 xpar, .int .i64 xwt, .int .i64 xpd, .int .i64 xqt, .int .i64 xus])
          have Fn8 := hid (Fd1.out.kp0 ((Kp.refl No Wd1).alloc (.cells #[.int .i64 xid, .int .i64 xpar, .int .i64 xwt, .int .i64 xpd, .int .i64 xqt, .int .i64 xus] 45)))
          generalize Wd1.alloc (.cells #[.int .i64 xid, .int .i64 xpar, .int .i64 xwt, .int .i64 xpd, .int .i64 xqt, .int .i64 xus] 45) = wn8 at Un8 Fn8 ⊢
          clear Fd1
          refine hK.out _ _ (Fn8.out.bx) (fun hS => ?_)
          clear hK
          simp only [List.setIfInBounds_toArray, List.set_cons_zero, List.set_cons_succ]
          clear hS
          refine wpAnyH_ready (rs := [17]) (by kernel_rfl) (by simp) (AllReadyH.cons rfl (fun K hK => ?_) AllReadyH.nil)
          refine step_app1 usG gc_one (by rfl) (.tmp 129) (.tmp 144) (by rfl) (base := w3.heap.size) (xs := (gsOf p a bb).take k) (y := ⟨xid, xpar, xwt, xpd, xqt, xus⟩) (by rfl) (by exact Fn8.out.ow) (by rfl) (fun i hi => by
              have hb := Un8.out
              match i, hi with
              | 0, _ => exact hb.cell 0
              | 1, _ => exact hb.cell 1
              | 2, _ => exact hb.cell 2
              | 3, _ => exact hb.cell 3
              | 4, _ => exact hb.cell 4
              | 5, _ => exact hb.cell 5) (by rw [HLEN.out]; omega) (by rw [HLEN.out]; simp only [maxLen]; omega) (by exact (Fn8.out.kp.size)) ?_
          intro v8 w8 o8 q8 p8
          obtain ⟨A8, c8, rfl⟩ := o8.formN (m := k + 1) (by rw [List.length_append, HLEN.out]; rfl)
          have F8 := hid (Fn8.out.app o8 q8)
          clear q8 p8 o8 Fn8 Un8
          refine hK.out _ _ (F8.out.bx) (fun hS => ?_)
          clear hK
          simp only [List.setIfInBounds_toArray, List.set_cons_zero, List.set_cons_succ, Act.put]
          refine wpAnyH_take (i := 18) (v := ?_) rfl (by kernel_rfl) (by kernel_rfl) (by kernel_rfl) (fun _ _ _ h => h) (Or.inl ⟨by rfl, ?_⟩) hS ?_
          rotate_left
          · (intro w6 hS6; have z0 := hS6.cell 0; simp only [List.getElem?_toArray, List.getElem?_cons_zero] at z0; (try go_simp); (try with_reducible rfl))
          simp only [List.getElem_toArray, List.getElem_cons_zero, List.getElem_cons_succ, Act.put, List.setIfInBounds_toArray, List.set_cons_zero, List.set_cons_succ]
          clear hS
          refine wpAnyH_done (by kernel_rfl) ?_ _
          refine then_of ?_
          simp only [List.cons_append, List.nil_append]
          have c0 := F8.out.bx.cell 0
          have f0 := F8.out.bx.frozen 0
          simp only [List.getElem?_toArray, List.getElem?_cons_zero] at c0
          have F9 := hid (F8.out.put 0 (.slice A8 (k + 1) c8))
          simp only [List.setIfInBounds_toArray, List.set_cons_zero] at F9
          go_wp2_with fail
          go_roundw
          case rel => exact ⟨k + 1, _, by omega, by go_num, hid (by rw [HS1.out]; exact F9.out)⟩
          case measure => simp [vI]; omega
        · have hkk : k = p := by omega
          subst hkk
          have hng : ¬ (k : Int) < (k : Int) := by omega
          have g := G.out
          rw [List.take_of_length_le (by rw [gsOf_len]; exact Nat.le_refl _)] at g
          obtain ⟨Ag, cg, rfl⟩ := g.ow.formN (gsOf_len _ _ _)
          have I1 := hid (show GZ 8 53 tc (fun i => i = q) wr wr q 25 #[.slice Ag k cg, .slice none 0 0] (.slice none 0 0) ([] : List TS) from
            ⟨Kp.refl _ _, g.bx, Ow.nil _ _ _ _ _, rfl, fun i e => by rw [e]; exact g.bx.lt⟩)
          have OG := hid g.ow
          have KG := hid g.kp
          clear g G
          obtain ⟨w4, hw4⟩ : ∃ w4, wr = w4 := ⟨_, rfl⟩
          rw [hw4] at I1 OG KG ⊢
          clear hw4
          go_wp2_with fail
          go_loopw [13] (fun i wr => ∃ (j : Nat) (u : Value) (L : List TS), j ≤ m ∧ i = .int .i64 (j : Int) ∧ Hid (tsOf j cq dd = some L) ∧ Hid (GZ 8 53 tc (fun i => i = q) w4 wr q 25 #[.slice Ag k cg, u] u L)) (fun i _ => m - (vI i).toNat)
          case atStart => exact ⟨0, _, _, Nat.zero_le _, rfl, hid rfl, I1⟩
          case round =>
            obtain ⟨j, u, L, hj, rfl, HTS, G⟩ := hrel
            clear I1
            by_cases hjm : j < m
            · have gj : (j : Int) < (m : Int) := by omega
              have hwj := wrapI (x := (j : Int) + 1) (by have := HGG.out; unfold I64; omega)
              obtain ⟨e27, he27⟩ : ∃ e, 27 * j = e := ⟨_, rfl⟩
              obtain ⟨e8, he8⟩ : ∃ e, 8 * j = e := ⟨_, rfl⟩
              obtain ⟨e88, he88⟩ : ∃ e, e8 + 8 = e := ⟨_, rfl⟩
              have hm27 : (27 : Int) * (j : Int) = (e27 : Int) := by omega
              have hm8 : (8 : Int) * (j : Int) = (e8 : Int) := by omega
              have hm88 : (e8 : Int) + 8 = (e88 : Int) := by omega
              have hw27 := wrapI (x := (e27 : Int)) (by have := HGG.out; unfold I64; omega)
              have hw8 := wrapI (x := (e8 : Int)) (by have := HGG.out; unfold I64; omega)
              have hw88 := wrapI (x := (e88 : Int)) (by have := HGG.out; unfold I64; omega)
              have hl1 : e27 + 27 ≤ lc := by have := HGG.out; omega
              have hl2 : e88 ≤ ld := by have := HGG.out; omega
              obtain ⟨⟨_, _, hbc, hbd⟩, ⟨hr, hz⟩, _, _, hc3, hc4⟩ := HBY.out _ (KG.out.trans G.out.kp)
              obtain ⟨b3, o3, rfl, hcm1, hcm2⟩ : ∃ b1 o1, Ac = some ⟨b1, o1, none⟩ ∧ lc ≤ cc ∧ cc ≤ 9223372036854775807 := by
                obtain ⟨b1, o1, c1, e, h1, h2, _⟩ := hbc.spot HLC.out (by omega)
                injection e with e _ e2
                subst e2
                exact ⟨b1, o1, e, h1, h2⟩
              obtain ⟨b4, o4, rfl, hcm3, hcm4⟩ : ∃ b1 o1, Ad = some ⟨b1, o1, none⟩ ∧ ld ≤ cd ∧ cd ≤ 9223372036854775807 := by
                obtain ⟨b1, o1, c1, e, h1, h2, _⟩ := hbd.spot HLD.out (by omega)
                injection e with e _ e2
                subst e2
                exact ⟨b1, o1, e, h1, h2⟩
              have HY1 := hid (fun (W : World) (kw : Kp (fun i => i = q) w4 W) => (HBY.out W (KG.out.trans kw)).1.2.2.1.dropL e27 (by rw [HLC.out]; omega))
              have hdl : (cq.drop e27).length = lc - e27 := by rw [List.length_drop, HLC.out]
              have HCL := hid (fun (W : World) (kw : Kp (fun i => i = q) w4 W) => show W.cell? ⟨b3, o3 + e27 + 9, none⟩ = some (.int .u8 ((cq.drop e27).getD 9 0)) from by
                obtain ⟨b1, o1, c1, e, _, _, h3⟩ := (HY1.out W kw).spot hdl (by omega)
                injection e with e _ _
                injection e with e
                injection e with e1 e2 _
                subst e1 e2
                exact h3 9 (by omega))
              have hbs1 := (show Bs cq from BC.out.bytes).drop e27
              have hbs2 := (show Bs dd from BD.out.bytes).drop e8
              obtain ⟨y9, hy9⟩ : ∃ y, (cq.drop e27).getD 9 0 = y := ⟨_, rfl⟩
              rw [hy9] at HCL
              have h99 : 9 < (cq.drop e27).length := by omega
              have hyb : 0 ≤ y9 ∧ y9 ≤ 255 := by
                have hg : (cq.drop e27).getD 9 0 = (cq.drop e27)[9] := by rw [List.getD_eq_getElem?_getD, List.getElem?_eq_getElem h99]; rfl
                rw [← hy9, hg]
                exact hbs1 _ (List.getElem_mem h99)
              clear h99
              have haw : aw (cq.drop e27) = y9 := by rw [aw_at (by omega), hy9]
              have c9 := HCL.out _ G.out.kp
              have hi9 : (9 : Int) < ((lc - e27 : Nat) : Int) := by omega
              have hi9b : 9 < lc - e27 := by omega
              have hi1 : e27 ≤ lc := by omega
              have hi2 : e27 ≤ cc := by omega
              have hi3 : ¬ cc = e27 := by omega
              have hi3b : ¬ e27 = cc := by omega
              by_cases hy1 : y9 ≤ 1
              rotate_left
              · have hgt : 1 < y9 := by omega
                have HD := hid (show dec xs = (5, [], []) by
                  have htb := tsOf_bad (b := dd) j hjm (by rw [he27, haw]; exact hy1)
                  rw [HDS.out _ _ _ (HPD.out _ htb)]
                  rfl)
                have BR5 := hid hr
                have BZ5 := hid hz
                have K5 := hid (show Kp No w wr from K3.out.step (KG.out.trans G.out.kp) fun i hi e => by have e : i = q := e; have := K2.out.size; have := HQ.out; omega)
                clear hr hz hbc hbd he27 he8 he88 hbs1 hbs2 hdl hc4 hy1
                have c0 := BR5.out.cell 0
                have c1 := BR5.out.cell 1
                have f0 := BR5.out.frozen 0
                have f1 := BR5.out.frozen 1
                have z0 := BZ5.out.cell 0
                have z1 := BZ5.out.cell 1
                simp only [List.getElem?_toArray, List.getElem?_cons_zero, List.getElem?_cons_succ] at c0 c1 z0 z1
                go_wp2_with fail
                have bf := (BR5.out.put 0 (.slice none 0 0)).put 1 (.slice none 0 0)
                simp only [List.setIfInBounds_toArray, List.set_cons_zero, List.set_cons_succ] at bf
                have kS := (Kp.set1 w.heap.size 0 wr (.slice none 0 0)).setCell (p := ⟨w.heap.size, 1, none⟩) (.inl rfl) (.slice none 0 0)
                have kf := K5.out.step kS fun i hi e => by have e : i = w.heap.size := e; omega
                have ogf := (Ow.nil ((wr.setCell ⟨w.heap.size, 0, none⟩ (.slice none 0 0)).setCell ⟨w.heap.size, 1, none⟩ (.slice none 0 0)) w.heap.size 45 6 gc)
                have otf := (Ow.nil ((wr.setCell ⟨w.heap.size, 0, none⟩ (.slice none 0 0)).setCell ⟨w.heap.size, 1, none⟩ (.slice none 0 0)) w.heap.size 53 8 tc)
                obtain ⟨rfl, rfl, rfl⟩ := (by simpa using HX.out.symm.trans HD.out : x = 5 ∧ gs = [] ∧ ts = [])
                refine bodyPost_ret (v := .tuple #[.agg #[.slice none 0 0, .slice none 0 0], .int .i64 5]) ?_ rfl ⟨_, _, rfl, ogf, otf, kf⟩
                clear c0 c1 f0 f1 z0 z1 kf kS ogf otf
                generalize (wr.setCell _ _).setCell _ _ = WZ at bf ⊢
                have c0 := bf.cell 0
                have c1 := bf.cell 1
                simp only [List.getElem?_toArray, List.getElem?_cons_zero, List.getElem?_cons_succ] at c0 c1
                rw [results_cell2 rfl]
                go_simp
              · have hle : ¬ 1 < y9 := by omega
                have HS1 := hid (tsOf_snoc (b := dd) j HTS.out (by rw [he27, haw]; exact hy1))
                rw [he27, he8] at HS1
                obtain ⟨x0, hx0⟩ : ∃ x, tOf (cq.drop e27) (dd.drop e8) = x := ⟨_, rfl⟩
                rw [hx0] at HS1
                obtain ⟨xid, xgr, xwt, xco, xsl, xra, xlv, xlr⟩ := x0
                unfold tOf at hx0
                simp only [TS.mk.injEq] at hx0
                obtain ⟨h1, h2, h3, h7, h8, h4, h5, h6⟩ := hx0
                rw [haw] at h8
                have hsl9 : ((y9 : Int) == 1) = xsl := by rw [← h8]; rfl
                have HA1 := hid (fun (W : World) (kw : Kp (fun i => i = q) w4 W) => show Calls Tryz.prog 26 #[.slice (some ⟨b3, o3 + e27, none⟩) (lc - e27) (cc - e27), .int .i64 0, .int .i64 3] W (fun e w' => e = .returned (.int .i64 xid) ∧ w' = W) from rat_any (f := 0) (k := 3) (HY1.out W kw) (by rw [List.length_drop, HLC.out]) (by omega) (by omega) (by omega) (by omega) (by rw [← h1]; exact num3 hbs1))
                have HA2 := hid (fun (W : World) (kw : Kp (fun i => i = q) w4 W) => show Calls Tryz.prog 26 #[.slice (some ⟨b3, o3 + e27, none⟩) (lc - e27) (cc - e27), .int .i64 3, .int .i64 3] W (fun e w' => e = .returned (.int .i64 xgr) ∧ w' = W) from rat_any (f := 3) (k := 3) (HY1.out W kw) (by rw [List.length_drop, HLC.out]) (by omega) (by omega) (by omega) (by omega) (by rw [← h2]; exact num3 (hbs1.drop 3)))
                have HA3 := hid (fun (W : World) (kw : Kp (fun i => i = q) w4 W) => show Calls Tryz.prog 26 #[.slice (some ⟨b3, o3 + e27, none⟩) (lc - e27) (cc - e27), .int .i64 6, .int .i64 3] W (fun e w' => e = .returned (.int .i64 xwt) ∧ w' = W) from rat_any (f := 6) (k := 3) (HY1.out W kw) (by rw [List.length_drop, HLC.out]) (by omega) (by omega) (by omega) (by omega) (by rw [← h3]; have := num3 (hbs1.drop 6); simpa only [List.drop_drop, Nat.add_assoc, Nat.reduceAdd] using this))
                have HA4 := hid (fun (W : World) (kw : Kp (fun i => i = q) w4 W) => show Calls Tryz.prog 26 #[.slice (some ⟨b3, o3 + e27, none⟩) (lc - e27) (cc - e27), .int .i64 10, .int .i64 6] W (fun e w' => e = .returned (.int .i64 xra) ∧ w' = W) from rat_any (f := 10) (k := 6) (HY1.out W kw) (by rw [List.length_drop, HLC.out]) (by omega) (by omega) (by omega) (by omega) (by rw [← h4]; have := num6 (hbs1.drop 10); simpa only [List.drop_drop, Nat.add_assoc, Nat.reduceAdd] using this))
                have HA5 := hid (fun (W : World) (kw : Kp (fun i => i = q) w4 W) => show Calls Tryz.prog 26 #[.slice (some ⟨b3, o3 + e27, none⟩) (lc - e27) (cc - e27), .int .i64 16, .int .i64 8] W (fun e w' => e = .returned (.int .i64 xlv) ∧ w' = W) from rat_any (f := 16) (k := 8) (HY1.out W kw) (by rw [List.length_drop, HLC.out]) (by omega) (by omega) (by omega) (by omega) (by rw [← h5]; have := num8 (hbs1.drop 16); simpa only [List.drop_drop, Nat.add_assoc, Nat.reduceAdd] using this))
                have HA6 := hid (fun (W : World) (kw : Kp (fun i => i = q) w4 W) => show Calls Tryz.prog 26 #[.slice (some ⟨b3, o3 + e27, none⟩) (lc - e27) (cc - e27), .int .i64 24, .int .i64 3] W (fun e w' => e = .returned (.int .i64 xlr) ∧ w' = W) from rat_any (f := 24) (k := 3) (HY1.out W kw) (by rw [List.length_drop, HLC.out]) (by omega) (by omega) (by omega) (by omega) (by rw [← h6]; have := num3 (hbs1.drop 24); simpa only [List.drop_drop, Nat.add_assoc, Nat.reduceAdd] using this))
                have HA7 := hid (fun (W : World) (kw : Kp (fun i => i = q) w4 W) => show Calls Tryz.prog 27 #[.slice (some ⟨b4, o4 + e8, none⟩) 8 (cd - e8)] W (fun e w' => e = .returned (.int .u64 xco) ∧ w' = W) from by
                  have hp := (HBY.out W (KG.out.trans kw)).1.2.2.2.part (i := e8) (m := 8) (by rw [HLD.out]; omega)
                  refine (number_any _ _ W hp (by rw [List.length_take]; omega)).mono ?_
                  rintro e w5 ⟨rfl, rfl⟩
                  exact ⟨by rw [h7], rfl⟩)
                have HLL := hid (tsOf_len _ HTS.out)
                obtain ⟨A5, c5, rfl⟩ := G.out.ow.formN HLL.out
                have HRD := hid (fun (W : World) (kw : Kp (fun i => i = q) w4 W) => show W.cell? ⟨b3, o3 + e27 + 9, none⟩ = some (.int .u8 y9) ∧ W.cell? ⟨b, o + 6 + 1, none⟩ = some (.slice (some ⟨b4, o4, none⟩) ld cd) from ⟨HCL.out W kw, (HBY.out W (KG.out.trans kw)).2.2.2.2.2⟩)
                have hj1 : e88 - e8 = 8 := by omega
                have hj2 : e8 ≤ e88 := by omega
                have hj3 : e88 ≤ cd := by omega
                have hj4 : ¬ cd = e8 := by omega
                have hj4b : ¬ e8 = cd := by omega
                have hj5 : e8 ≤ ld := by omega
                have hj6 : e8 ≤ cd := by omega
                clear he27 he8 he88 hbc hbd hr hz h1 h2 h3 h4 h5 h6 h7 h8 hbs1 hbs2 hdl hc4
                go_upto_region 24 with fail
                clear c9 hc3
                refine region_last 34 rfl (by kernel_rfl) (by kernel_rfl) ?_
                simp only [List.take_succ_cons, List.take_zero, List.length_cons, List.length_nil, Nat.reduceAdd]
                have Fd10 := hid (G.out.kp0 (Kp.refl No wr).drew)
                generalize World.drew wr = Wd10 at Fd10 ⊢
                have HS5 : (fun w' => Blk w' q 25 #[.slice Ag k cg, .slice A5 j c5] ∧ w'.cell? ⟨b3, o3 + e27 + 9, none⟩ = some (.int .u8 y9) ∧ w'.cell? ⟨b, o + 6 + 1, none⟩ = some (.slice (some ⟨b4, o4, none⟩) ld cd)) Wd10 := ⟨Fd10.out.bx, HRD.out _ Fd10.out.kp⟩
                (try simp only at HS5)
                clear G
                refine wpAny_of_held (S := (fun w' => Blk w' q 25 #[.slice Ag k cg, .slice A5 j c5] ∧ w'.cell? ⟨b3, o3 + e27 + 9, none⟩ = some (.int .u8 y9) ∧ w'.cell? ⟨b, o + 6 + 1, none⟩ = some (.slice (some ⟨b4, o4, none⟩) ld cd))) _ _ _ _ ?_
                simp only [Array.replicate_succ, Array.replicate_zero, List.push_toArray, List.nil_append, List.cons_append]
                refine wpAnyH_take (i := 0) (v := ?_) rfl (by kernel_rfl) (by kernel_rfl) (by kernel_rfl) (fun _ _ _ h => h) (Or.inl ⟨by rfl, ?_⟩) HS5 ?_
                rotate_left
                · (intro w6 hS6; obtain ⟨hB6, z9, zd⟩ := hS6; have z1 := hB6.cell 1; simp only [List.getElem?_toArray, List.getElem?_cons_zero, List.getElem?_cons_succ] at z1; (try go_simp); (try with_reducible rfl))
                simp only [List.getElem_toArray, List.getElem_cons_zero, Act.put, List.setIfInBounds_toArray, List.set_cons_zero, List.set_cons_succ]
                refine wpAnyH_take (i := 1) (v := ?_) rfl (by kernel_rfl) (by kernel_rfl) (by kernel_rfl) (fun _ _ _ h => h) (Or.inl ⟨by rfl, ?_⟩) HS5 ?_
                rotate_left
                · (intro w6 hS6; obtain ⟨hB6, z9, zd⟩ := hS6; have z1 := hB6.cell 1; simp only [List.getElem?_toArray, List.getElem?_cons_zero, List.getElem?_cons_succ] at z1; (try go_simp); (try with_reducible rfl))
                simp only [List.getElem_toArray, List.getElem_cons_zero, List.getElem_cons_succ, Act.put, List.setIfInBounds_toArray, List.set_cons_zero, List.set_cons_succ]
                refine wpAnyH_take (i := 2) (v := ?_) rfl (by kernel_rfl) (by kernel_rfl) (by kernel_rfl) (fun _ _ _ h => h) (Or.inl ⟨by rfl, ?_⟩) HS5 ?_
                rotate_left
                · (intro w6 hS6; obtain ⟨hB6, z9, zd⟩ := hS6; have z1 := hB6.cell 1; simp only [List.getElem?_toArray, List.getElem?_cons_zero, List.getElem?_cons_succ] at z1; (try go_simp); (try with_reducible rfl))
                simp only [List.getElem_toArray, List.getElem_cons_zero, List.getElem_cons_succ, Act.put, List.setIfInBounds_toArray, List.set_cons_zero, List.set_cons_succ]
                refine wpAnyH_take (i := 4) (v := ?_) rfl (by kernel_rfl) (by kernel_rfl) (by kernel_rfl) (fun _ _ _ h => h) (Or.inl ⟨by rfl, ?_⟩) HS5 ?_
                rotate_left
                · (intro w6 hS6; obtain ⟨hB6, z9, zd⟩ := hS6; have z1 := hB6.cell 1; simp only [List.getElem?_toArray, List.getElem?_cons_zero, List.getElem?_cons_succ] at z1; (try go_simp); (try with_reducible rfl))
                simp only [List.getElem_toArray, List.getElem_cons_zero, List.getElem_cons_succ, Act.put, List.setIfInBounds_toArray, List.set_cons_zero, List.set_cons_succ]
                refine wpAnyH_take (i := 6) (v := ?_) rfl (by kernel_rfl) (by kernel_rfl) (by kernel_rfl) (fun _ _ _ h => h) (Or.inl ⟨by rfl, ?_⟩) HS5 ?_
                rotate_left
                · (intro w6 hS6; obtain ⟨hB6, z9, zd⟩ := hS6; have z1 := hB6.cell 1; simp only [List.getElem?_toArray, List.getElem?_cons_zero, List.getElem?_cons_succ] at z1; (try go_simp); (try with_reducible rfl))
                simp only [List.getElem_toArray, List.getElem_cons_zero, List.getElem_cons_succ, Act.put, List.setIfInBounds_toArray, List.set_cons_zero, List.set_cons_succ]
                refine wpAnyH_take (i := 8) (v := ?_) rfl (by kernel_rfl) (by kernel_rfl) (by kernel_rfl) (fun _ _ _ h => h) (Or.inl ⟨by rfl, ?_⟩) HS5 ?_
                rotate_left
                · (intro w6 hS6; obtain ⟨hB6, z9, zd⟩ := hS6; have z1 := hB6.cell 1; simp only [List.getElem?_toArray, List.getElem?_cons_zero, List.getElem?_cons_succ] at z1; (try go_simp); (try with_reducible rfl))
                simp only [List.getElem_toArray, List.getElem_cons_zero, List.getElem_cons_succ, Act.put, List.setIfInBounds_toArray, List.set_cons_zero, List.set_cons_succ]
                refine wpAnyH_take (i := 9) (v := ?_) rfl (by kernel_rfl) (by kernel_rfl) (by kernel_rfl) (fun _ _ _ h => h) (Or.inl ⟨by rfl, ?_⟩) HS5 ?_
                rotate_left
                · (intro w6 hS6; obtain ⟨hB6, z9, zd⟩ := hS6; have z1 := hB6.cell 1; simp only [List.getElem?_toArray, List.getElem?_cons_zero, List.getElem?_cons_succ] at z1; (try go_simp); (try with_reducible rfl))
                simp only [List.getElem_toArray, List.getElem_cons_zero, List.getElem_cons_succ, Act.put, List.setIfInBounds_toArray, List.set_cons_zero, List.set_cons_succ]
                refine wpAnyH_take (i := 10) (v := ?_) rfl (by kernel_rfl) (by kernel_rfl) (by kernel_rfl) (fun _ _ _ h => h) (Or.inl ⟨by rfl, ?_⟩) HS5 ?_
                rotate_left
                · (intro w6 hS6; obtain ⟨hB6, z9, zd⟩ := hS6; have z1 := hB6.cell 1; simp only [List.getElem?_toArray, List.getElem?_cons_zero, List.getElem?_cons_succ] at z1; (try go_simp); (try with_reducible rfl))
                simp only [List.getElem_toArray, List.getElem_cons_zero, List.getElem_cons_succ, Act.put, List.setIfInBounds_toArray, List.set_cons_zero, List.set_cons_succ]
                refine wpAnyH_take (i := 11) (v := ?_) rfl (by kernel_rfl) (by kernel_rfl) (by kernel_rfl) (fun _ _ _ h => h) (Or.inl ⟨by rfl, ?_⟩) HS5 ?_
                rotate_left
                · (intro w6 hS6; obtain ⟨hB6, z9, zd⟩ := hS6; have z1 := hB6.cell 1; simp only [List.getElem?_toArray, List.getElem?_cons_zero, List.getElem?_cons_succ] at z1; (try go_simp); (try with_reducible rfl))
                simp only [List.getElem_toArray, List.getElem_cons_zero, List.getElem_cons_succ, Act.put, List.setIfInBounds_toArray, List.set_cons_zero, List.set_cons_succ]
                refine wpAnyH_take (i := 12) (v := ?_) rfl (by kernel_rfl) (by kernel_rfl) (by kernel_rfl) (fun _ _ _ h => h) (Or.inl ⟨by rfl, ?_⟩) HS5 ?_
                rotate_left
                · (intro w6 hS6; obtain ⟨hB6, z9, zd⟩ := hS6; have z1 := hB6.cell 1; simp only [List.getElem?_toArray, List.getElem?_cons_zero, List.getElem?_cons_succ] at z1; (try go_simp); (try with_reducible rfl))
                simp only [List.getElem_toArray, List.getElem_cons_zero, List.getElem_cons_succ, Act.put, List.setIfInBounds_toArray, List.set_cons_zero, List.set_cons_succ]
                refine wpAnyH_take (i := 14) (v := ?_) rfl (by kernel_rfl) (by kernel_rfl) (by kernel_rfl) (fun _ _ _ h => h) (Or.inl ⟨by rfl, ?_⟩) HS5 ?_
                rotate_left
                · (intro w6 hS6; obtain ⟨hB6, z9, zd⟩ := hS6; have z1 := hB6.cell 1; simp only [List.getElem?_toArray, List.getElem?_cons_zero, List.getElem?_cons_succ] at z1; (try go_simp); (try with_reducible rfl))
                simp only [List.getElem_toArray, List.getElem_cons_zero, List.getElem_cons_succ, Act.put, List.setIfInBounds_toArray, List.set_cons_zero, List.set_cons_succ]
                refine wpAnyH_take (i := 16) (v := ?_) rfl (by kernel_rfl) (by kernel_rfl) (by kernel_rfl) (fun _ _ _ h => h) (Or.inl ⟨by rfl, ?_⟩) HS5 ?_
                rotate_left
                · (intro w6 hS6; obtain ⟨hB6, z9, zd⟩ := hS6; have z1 := hB6.cell 1; simp only [List.getElem?_toArray, List.getElem?_cons_zero, List.getElem?_cons_succ] at z1; (try go_simp); (try with_reducible rfl))
                simp only [List.getElem_toArray, List.getElem_cons_zero, List.getElem_cons_succ, Act.put, List.setIfInBounds_toArray, List.set_cons_zero, List.set_cons_succ]
                refine wpAnyH_take (i := 19) (v := ?_) rfl (by kernel_rfl) (by kernel_rfl) (by kernel_rfl) (fun _ _ _ h => h) (Or.inl ⟨by rfl, ?_⟩) HS5 ?_
                rotate_left
                · (intro w6 hS6; obtain ⟨hB6, z9, zd⟩ := hS6; have z1 := hB6.cell 1; simp only [List.getElem?_toArray, List.getElem?_cons_zero, List.getElem?_cons_succ] at z1; (try go_simp); (try with_reducible rfl))
                simp only [List.getElem_toArray, List.getElem_cons_zero, List.getElem_cons_succ, Act.put, List.setIfInBounds_toArray, List.set_cons_zero, List.set_cons_succ]
                refine wpAnyH_take (i := 20) (v := ?_) rfl (by kernel_rfl) (by kernel_rfl) (by kernel_rfl) (fun _ _ _ h => h) (Or.inl ⟨by rfl, ?_⟩) HS5 ?_
                rotate_left
                · (intro w6 hS6; obtain ⟨hB6, z9, zd⟩ := hS6; have z1 := hB6.cell 1; simp only [List.getElem?_toArray, List.getElem?_cons_zero, List.getElem?_cons_succ] at z1; (try go_simp); (try with_reducible rfl))
                simp only [List.getElem_toArray, List.getElem_cons_zero, List.getElem_cons_succ, Act.put, List.setIfInBounds_toArray, List.set_cons_zero, List.set_cons_succ]
                refine wpAnyH_take (i := 21) (v := ?_) rfl (by kernel_rfl) (by kernel_rfl) (by kernel_rfl) (fun _ _ _ h => h) (Or.inl ⟨by rfl, ?_⟩) HS5 ?_
                rotate_left
                · (intro w6 hS6; obtain ⟨hB6, z9, zd⟩ := hS6; have z1 := hB6.cell 1; simp only [List.getElem?_toArray, List.getElem?_cons_zero, List.getElem?_cons_succ] at z1; (try go_simp); (try with_reducible rfl))
                simp only [List.getElem_toArray, List.getElem_cons_zero, List.getElem_cons_succ, Act.put, List.setIfInBounds_toArray, List.set_cons_zero, List.set_cons_succ]
                refine wpAnyH_take (i := 22) (v := ?_) rfl (by kernel_rfl) (by kernel_rfl) (by kernel_rfl) (fun _ _ _ h => h) (Or.inl ⟨by rfl, ?_⟩) HS5 ?_
                rotate_left
                · (intro w6 hS6; obtain ⟨hB6, z9, zd⟩ := hS6; have z1 := hB6.cell 1; simp only [List.getElem?_toArray, List.getElem?_cons_zero, List.getElem?_cons_succ] at z1; (try go_simp); (try with_reducible rfl))
                simp only [List.getElem_toArray, List.getElem_cons_zero, List.getElem_cons_succ, Act.put, List.setIfInBounds_toArray, List.set_cons_zero, List.set_cons_succ]
                refine wpAnyH_take (i := 23) (v := ?_) rfl (by kernel_rfl) (by kernel_rfl) (by kernel_rfl) (fun _ _ _ h => h) (Or.inl ⟨by rfl, ?_⟩) HS5 ?_
                rotate_left
                · (intro w6 hS6; obtain ⟨hB6, z9, zd⟩ := hS6; have z1 := hB6.cell 1; simp only [List.getElem?_toArray, List.getElem?_cons_zero, List.getElem?_cons_succ] at z1; (try go_simp); (try with_reducible rfl))
                simp only [List.getElem_toArray, List.getElem_cons_zero, List.getElem_cons_succ, Act.put, List.setIfInBounds_toArray, List.set_cons_zero, List.set_cons_succ]
                refine wpAnyH_take (i := 24) (v := ?_) rfl (by kernel_rfl) (by kernel_rfl) (by kernel_rfl) (fun _ _ _ h => h) (Or.inl ⟨by rfl, ?_⟩) HS5 ?_
                rotate_left
                · (intro w6 hS6; obtain ⟨hB6, z9, zd⟩ := hS6; have z1 := hB6.cell 1; simp only [List.getElem?_toArray, List.getElem?_cons_zero, List.getElem?_cons_succ] at z1; (try go_simp); (try with_reducible rfl))
                simp only [List.getElem_toArray, List.getElem_cons_zero, List.getElem_cons_succ, Act.put, List.setIfInBounds_toArray, List.set_cons_zero, List.set_cons_succ]
                refine wpAnyH_take (i := 25) (v := ?_) rfl (by kernel_rfl) (by kernel_rfl) (by kernel_rfl) (fun _ _ _ h => h) (Or.inl ⟨by rfl, ?_⟩) HS5 ?_
                rotate_left
                · (intro w6 hS6; obtain ⟨hB6, z9, zd⟩ := hS6; have z1 := hB6.cell 1; simp only [List.getElem?_toArray, List.getElem?_cons_zero, List.getElem?_cons_succ] at z1; (try go_simp); (try with_reducible rfl))
                simp only [List.getElem_toArray, List.getElem_cons_zero, List.getElem_cons_succ, Act.put, List.setIfInBounds_toArray, List.set_cons_zero, List.set_cons_succ]
                refine wpAnyH_take (i := 26) (v := ?_) rfl (by kernel_rfl) (by kernel_rfl) (by kernel_rfl) (fun _ _ _ h => h) (Or.inl ⟨by rfl, ?_⟩) HS5 ?_
                rotate_left
                · (intro w6 hS6; obtain ⟨hB6, z9, zd⟩ := hS6; have z1 := hB6.cell 1; simp only [List.getElem?_toArray, List.getElem?_cons_zero, List.getElem?_cons_succ] at z1; (try go_simp); (try with_reducible rfl))
                simp only [List.getElem_toArray, List.getElem_cons_zero, List.getElem_cons_succ, Act.put, List.setIfInBounds_toArray, List.set_cons_zero, List.set_cons_succ]
                refine wpAnyH_take (i := 27) (v := ?_) rfl (by kernel_rfl) (by kernel_rfl) (by kernel_rfl) (fun _ _ _ h => h) (Or.inl ⟨by rfl, ?_⟩) HS5 ?_
                rotate_left
                · (intro w6 hS6; obtain ⟨hB6, z9, zd⟩ := hS6; have z1 := hB6.cell 1; simp only [List.getElem?_toArray, List.getElem?_cons_zero, List.getElem?_cons_succ] at z1; (try go_simp); (try with_reducible rfl))
                simp only [List.getElem_toArray, List.getElem_cons_zero, List.getElem_cons_succ, Act.put, List.setIfInBounds_toArray, List.set_cons_zero, List.set_cons_succ]
                refine wpAnyH_take (i := 28) (v := ?_) rfl (by kernel_rfl) (by kernel_rfl) (by kernel_rfl) (fun _ _ _ h => h) (Or.inl ⟨by rfl, ?_⟩) HS5 ?_
                rotate_left
                · (intro w6 hS6; obtain ⟨hB6, z9, zd⟩ := hS6; have z1 := hB6.cell 1; simp only [List.getElem?_toArray, List.getElem?_cons_zero, List.getElem?_cons_succ] at z1; (try go_simp); (try with_reducible rfl))
                simp only [List.getElem_toArray, List.getElem_cons_zero, List.getElem_cons_succ, Act.put, List.setIfInBounds_toArray, List.set_cons_zero, List.set_cons_succ]
                clear HS5
                refine wpAnyH_ready (rs := [3]) (by kernel_rfl) (by simp) (AllReadyH.cons rfl (fun K hK => ?_) AllReadyH.nil)
                refine step_calld (by rfl) (by go_simp) (HA1.out _ Fd10.out.kp) ?_
                intro w9 hw
                rw [hw]
                clear hw w9
                refine hK.out _ _ (⟨Fd10.out.bx, HRD.out _ Fd10.out.kp⟩) (fun hS => ?_)
                clear hK
                simp only [List.setIfInBounds_toArray, List.set_cons_zero, List.set_cons_succ, Act.put]
                clear hS
                refine wpAnyH_ready (rs := [5]) (by kernel_rfl) (by simp) (AllReadyH.cons rfl (fun K hK => ?_) AllReadyH.nil)
                refine step_calld (by rfl) (by go_simp) (HA2.out _ Fd10.out.kp) ?_
                intro w9 hw
                rw [hw]
                clear hw w9
                refine hK.out _ _ (⟨Fd10.out.bx, HRD.out _ Fd10.out.kp⟩) (fun hS => ?_)
                clear hK
                simp only [List.setIfInBounds_toArray, List.set_cons_zero, List.set_cons_succ, Act.put]
                clear hS
                refine wpAnyH_ready (rs := [7]) (by kernel_rfl) (by simp) (AllReadyH.cons rfl (fun K hK => ?_) AllReadyH.nil)
                refine step_calld (by rfl) (by go_simp) (HA3.out _ Fd10.out.kp) ?_
                intro w9 hw
                rw [hw]
                clear hw w9
                refine hK.out _ _ (⟨Fd10.out.bx, HRD.out _ Fd10.out.kp⟩) (fun hS => ?_)
                clear hK
                simp only [List.setIfInBounds_toArray, List.set_cons_zero, List.set_cons_succ, Act.put]
                clear hS
                refine wpAnyH_ready (rs := [13]) (by kernel_rfl) (by simp) (AllReadyH.cons rfl (fun K hK => ?_) AllReadyH.nil)
                refine step_calld (by rfl) (by go_simp) (HA4.out _ Fd10.out.kp) ?_
                intro w9 hw
                rw [hw]
                clear hw w9
                refine hK.out _ _ (⟨Fd10.out.bx, HRD.out _ Fd10.out.kp⟩) (fun hS => ?_)
                clear hK
                simp only [List.setIfInBounds_toArray, List.set_cons_zero, List.set_cons_succ, Act.put]
                clear hS
                refine wpAnyH_ready (rs := [15]) (by kernel_rfl) (by simp) (AllReadyH.cons rfl (fun K hK => ?_) AllReadyH.nil)
                refine step_calld (by rfl) (by go_simp) (HA5.out _ Fd10.out.kp) ?_
                intro w9 hw
                rw [hw]
                clear hw w9
                refine hK.out _ _ (⟨Fd10.out.bx, HRD.out _ Fd10.out.kp⟩) (fun hS => ?_)
                clear hK
                simp only [List.setIfInBounds_toArray, List.set_cons_zero, List.set_cons_succ, Act.put]
                clear hS
                refine wpAnyH_ready (rs := [17]) (by kernel_rfl) (by simp) (AllReadyH.cons rfl (fun K hK => ?_) AllReadyH.nil)
                refine step_calld (by rfl) (by go_simp) (HA6.out _ Fd10.out.kp) ?_
                intro w9 hw
                rw [hw]
                clear hw w9
                refine hK.out _ _ (⟨Fd10.out.bx, HRD.out _ Fd10.out.kp⟩) (fun hS => ?_)
                clear hK
                simp only [List.setIfInBounds_toArray, List.set_cons_zero, List.set_cons_succ, Act.put]
                refine wpAnyH_take (i := 18) (v := ?_) rfl (by kernel_rfl) (by kernel_rfl) (by kernel_rfl) (fun _ _ _ h => h) (Or.inl ⟨by rfl, ?_⟩) hS ?_
                rotate_left
                · (intro w6 hS6; obtain ⟨hB6, z9, zd⟩ := hS6; have z1 := hB6.cell 1; simp only [List.getElem?_toArray, List.getElem?_cons_zero, List.getElem?_cons_succ] at z1; (try go_simp); (try with_reducible rfl))
                simp only [List.getElem_toArray, List.getElem_cons_zero, List.getElem_cons_succ, Act.put, List.setIfInBounds_toArray, List.set_cons_zero, List.set_cons_succ]
                clear hS
                refine wpAnyH_ready (rs := [29]) (by kernel_rfl) (by simp) (AllReadyH.cons rfl (fun K hK => ?_) AllReadyH.nil)
                refine step_calld (by rfl) (by go_simp) (HA7.out _ Fd10.out.kp) ?_
                intro w9 hw
                rw [hw]
                clear hw w9
                refine hK.out _ _ (⟨Fd10.out.bx, HRD.out _ Fd10.out.kp⟩) (fun hS => ?_)
                clear hK
                simp only [List.setIfInBounds_toArray, List.set_cons_zero, List.set_cons_succ, Act.put]
                refine wpAnyH_take (i := 30) (v := ?_) rfl (by kernel_rfl) (by kernel_rfl) (by kernel_rfl) (fun _ _ _ h => h) (Or.inl ⟨by rfl, ?_⟩) hS ?_
                rotate_left
                · (intro w6 hS6; obtain ⟨hB6, z9, zd⟩ := hS6; have z1 := hB6.cell 1; simp only [List.getElem?_toArray, List.getElem?_cons_zero, List.getElem?_cons_succ] at z1; (try go_simp); (try with_reducible rfl))
                simp only [List.getElem_toArray, List.getElem_cons_zero, List.getElem_cons_succ, Act.put, List.setIfInBounds_toArray, List.set_cons_zero, List.set_cons_succ]
                clear hS
                refine wpAnyH_ready (rs := [31]) (by kernel_rfl) (by simp) (AllReadyH.cons rfl (fun K hK => ?_) AllReadyH.nil)
                simp only [List.getElem_toArray, List.getElem_cons_zero, List.getElem_cons_succ]
                go_simp
                have Un18 := hid (Blk.new Wd10 53 #[.int .i64 xid, .int .i64 xgr, .int .i64 xwt, .int .u64 xco, .bool xsl, .int .i64 xra, .int .i64 xlv, .int .i64 xlr])
                have Fn18 := hid (Fd10.out.kp0 ((Kp.refl No Wd10).alloc (.cells #[.int .i64 xid, .int .i64 xgr, .int .i64 xwt, .int .u64 xco, .bool xsl, .int .i64 xra, .int .i64 xlv, .int .i64 xlr] 53)))
                generalize Wd10.alloc (.cells #[.int .i64 xid, .int .i64 xgr, .int .i64 xwt, .int .u64 xco, .bool xsl, .int .i64 xra, .int .i64 xlv, .int .i64 xlr] 53) = wn18 at Un18 Fn18 ⊢
                clear Fd10
                refine hK.out _ _ (⟨Fn18.out.bx, HRD.out _ Fn18.out.kp⟩) (fun hS => ?_)
                clear hK
                simp only [List.setIfInBounds_toArray, List.set_cons_zero, List.set_cons_succ]
                clear hS
                refine wpAnyH_ready (rs := [32]) (by kernel_rfl) (by simp) (AllReadyH.cons rfl (fun K hK => ?_) AllReadyH.nil)
                refine step_app1 usT tc_one (by rfl) (.tmp 165) (.tmp 195) (by rfl) (base := w4.heap.size) (xs := L) (y := ⟨xid, xgr, xwt, xco, xsl, xra, xlv, xlr⟩) (by rfl) (by exact Fn18.out.ow) (by rfl) (fun i hi => by
                    have hb := Un18.out
                    match i, hi with
                    | 0, _ => exact hb.cell 0
                    | 1, _ => exact hb.cell 1
                    | 2, _ => exact hb.cell 2
                    | 3, _ => exact hb.cell 3
                    | 4, _ => exact hb.cell 4
                    | 5, _ => exact hb.cell 5
                    | 6, _ => exact hb.cell 6
                    | 7, _ => exact hb.cell 7) (by rw [HLL.out]; omega) (by rw [HLL.out]; simp only [maxLen]; omega) (by exact (Fn18.out.kp.size)) ?_
                intro v8 w8 o8 q8 p8
                obtain ⟨A8, c8, rfl⟩ := o8.formN (m := j + 1) (by rw [List.length_append, HLL.out]; rfl)
                have F8 := hid (Fn18.out.app o8 q8)
                clear q8 p8 o8 Fn18 Un18
                refine hK.out _ _ (⟨F8.out.bx, HRD.out _ F8.out.kp⟩) (fun hS => ?_)
                clear hK
                simp only [List.setIfInBounds_toArray, List.set_cons_zero, List.set_cons_succ, Act.put]
                refine wpAnyH_take (i := 33) (v := ?_) rfl (by kernel_rfl) (by kernel_rfl) (by kernel_rfl) (fun _ _ _ h => h) (Or.inl ⟨by rfl, ?_⟩) hS ?_
                rotate_left
                · (intro w6 hS6; obtain ⟨hB6, z9, zd⟩ := hS6; have z1 := hB6.cell 1; simp only [List.getElem?_toArray, List.getElem?_cons_zero, List.getElem?_cons_succ] at z1; (try go_simp); (try with_reducible rfl))
                simp only [List.getElem_toArray, List.getElem_cons_zero, List.getElem_cons_succ, Act.put, List.setIfInBounds_toArray, List.set_cons_zero, List.set_cons_succ]
                clear hS
                refine wpAnyH_done (by kernel_rfl) ?_ _
                refine then_of ?_
                simp only [List.cons_append, List.nil_append]
                have c0 := F8.out.bx.cell 1
                have f0 := F8.out.bx.frozen 1
                simp only [List.getElem?_toArray, List.getElem?_cons_zero, List.getElem?_cons_succ] at c0
                have F9 := hid (F8.out.put 1 (.slice A8 (j + 1) c8))
                simp only [List.setIfInBounds_toArray, List.set_cons_zero, List.set_cons_succ] at F9
                go_wp2_with fail
                go_roundw
                case rel => exact ⟨j + 1, _, _, by omega, by go_num, HS1, F9⟩
                case measure => simp [vI]; omega
            · have hjj : j = m := by omega
              subst hjj
              have hng : ¬ (j : Int) < (j : Int) := by omega
              have HLL := hid (tsOf_len _ HTS.out)
              have HPP := hid (HPD.out _ HTS.out)
              have g := G.out
              obtain ⟨At, ct, rfl⟩ := g.ow.formN HLL.out
              obtain ⟨⟨hba, hbb, hbc, hbd⟩, ⟨hr, hz⟩, _⟩ := HBY.out _ (KG.out.trans g.kp)
              have hne := fun i (hi : w3.heap.size ≤ i) => show ¬ i = q from fun e => by have := Z3.out; omega
              have OG5 := hid ((OG.out.kp g.kp hne).lower (base' := w.heap.size) (by have := K3.out.size; omega))
              have OT5 := hid (g.ow.lower (base' := w.heap.size) (by have := (K3.out.size); have := KG.out.size; omega))
              have K5 := hid (show Kp No w wr from K3.out.step (KG.out.trans g.kp) fun i hi e => by have e : i = q := e; have := K2.out.size; have := HQ.out; omega)
              have OGB := hid (fun i (hi : (Value.slice Ag k cg).ownBlock = some i) => show w.heap.size < i from by have := (OG.out.blk hi).1; have := K3.out.size; have := Z3.out; have := K2.out.size; have := HQ.out; omega)
              have OTB := hid (fun i (hi : (Value.slice At j ct).ownBlock = some i) => show w.heap.size < i from by have := (g.ow.blk hi).1; have := K3.out.size; have := Z3.out; have := K2.out.size; have := HQ.out; have := KG.out.size; omega)
              have BG := hid g.bx
              have BR5 := hid hr
              have BZ5 := hid hz
              have HBD := hid (parseD_bd HPP.out BA.out.bytes BB.out.bytes BC.out.bytes)
              obtain ⟨y, hy⟩ : ∃ y, checkS (gsOf k a bb) L = y := ⟨_, rfl⟩
              have HYC := hid hy
              have HDF := hid (HDS.out _ _ _ HPP.out)
              have HCK := hid (rcheck_any (show Sce wr Anyb (.agg #[.slice Ag k cg, .slice At j ct]) (gsOf k a bb) L from ⟨_, _, rfl, (OG5.out.rwp).any, (OT5.out.rwp).any⟩))
              rw [hy] at HCK HDF
              have cg0 := BG.out.cell 0
              have cg1 := BG.out.cell 1
              simp only [List.getElem?_toArray, List.getElem?_cons_zero, List.getElem?_cons_succ] at cg0 cg1
              clear hy g hba hbb hbc hbd hr hz hne G
              by_cases hy0 : y = 0
              · subst hy0
                have HD1 := hid (show dec xs = (0, gsOf k a bb, L) by rw [HDF.out]; rfl)
                go_upto_region 28 with (first
                  | (go_at_call 17
                     refine HCK.out.mono ?_
                     rintro e w8 ⟨rfl, k8⟩
                     have B8 := hid (BR5.out.kp0 k8)
                     have K8 := hid (K5.out.trans k8)
                     have OG8 := hid (OG5.out.kp0 k8)
                     have OT8 := hid (OT5.out.kp0 k8)
                     have bg8 := BG.out.kp0 k8
                     have cg80 := bg8.cell 0
                     have cg81 := bg8.cell 1
                     simp only [List.getElem?_toArray, List.getElem?_cons_zero, List.getElem?_cons_succ] at cg80 cg81
                     clear k8 bg8))
                have c0 := B8.out.cell 0
                have c1 := B8.out.cell 1
                have f0 := B8.out.frozen 0
                have f1 := B8.out.frozen 1
                simp only [List.getElem?_toArray, List.getElem?_cons_zero, List.getElem?_cons_succ] at c0 c1
                go_wp2_with fail
                have bf := (B8.out.put 0 (.slice Ag k cg)).put 1 (.slice At j ct)
                simp only [List.setIfInBounds_toArray, List.set_cons_zero, List.set_cons_succ] at bf
                have kS := (Kp.set1 w.heap.size 0 w8 (.slice Ag k cg)).setCell (p := ⟨w.heap.size, 1, none⟩) (.inl rfl) (.slice At j ct)
                have kf := K8.out.step kS fun i hi e => by have e : i = w.heap.size := e; omega
                have ogf := OG8.out.kpx kS fun i hi e => by have e : i = w.heap.size := e; have := OGB.out i hi; omega
                have otf := OT8.out.kpx kS fun i hi e => by have e : i = w.heap.size := e; have := OTB.out i hi; omega
                obtain ⟨rfl, rfl, rfl⟩ := (by simpa using HX.out.symm.trans HD1.out : x = 0 ∧ gs = gsOf k a bb ∧ ts = L)
                refine bodyPost_ret (v := .tuple #[.agg #[.slice Ag k cg, .slice At j ct], .int .i64 0]) ?_ rfl ⟨_, _, rfl, ogf, otf, kf⟩
                clear c0 c1 f0 f1 kf kS ogf otf
                generalize (w8.setCell _ _).setCell _ _ = WZ at bf ⊢
                have c0 := bf.cell 0
                have c1 := bf.cell 1
                simp only [List.getElem?_toArray, List.getElem?_cons_zero, List.getElem?_cons_succ] at c0 c1
                rw [results_cell2 rfl]
                go_simp
              · have hy1 : (y != 0) = true := by rw [bne_iff_ne]; exact hy0
                have HD1 := hid (show dec xs = (y, [], []) by rw [HDF.out, if_neg (by simp), if_neg hy0])
                clear hy0
                go_upto_region 27 with (first
                  | (go_at_call 17
                     refine HCK.out.mono ?_
                     rintro e w8 ⟨rfl, k8⟩
                     have BR8 := hid (BR5.out.kp0 k8)
                     have BZ8 := hid (BZ5.out.kp0 k8)
                     have K8 := hid (K5.out.trans k8)
                     clear k8))
                have c0 := BR8.out.cell 0
                have c1 := BR8.out.cell 1
                have f0 := BR8.out.frozen 0
                have f1 := BR8.out.frozen 1
                have z0 := BZ8.out.cell 0
                have z1 := BZ8.out.cell 1
                simp only [List.getElem?_toArray, List.getElem?_cons_zero, List.getElem?_cons_succ] at c0 c1 z0 z1
                go_wp2_with fail
                have bf := (BR8.out.put 0 (.slice none 0 0)).put 1 (.slice none 0 0)
                simp only [List.setIfInBounds_toArray, List.set_cons_zero, List.set_cons_succ] at bf
                have kS := (Kp.set1 w.heap.size 0 w8 (.slice none 0 0)).setCell (p := ⟨w.heap.size, 1, none⟩) (.inl rfl) (.slice none 0 0)
                have kf := K8.out.step kS fun i hi e => by have e : i = w.heap.size := e; omega
                have ogf := (Ow.nil ((w8.setCell ⟨w.heap.size, 0, none⟩ (.slice none 0 0)).setCell ⟨w.heap.size, 1, none⟩ (.slice none 0 0)) w.heap.size 45 6 gc)
                have otf := (Ow.nil ((w8.setCell ⟨w.heap.size, 0, none⟩ (.slice none 0 0)).setCell ⟨w.heap.size, 1, none⟩ (.slice none 0 0)) w.heap.size 53 8 tc)
                obtain ⟨rfl, rfl, rfl⟩ := (by simpa using HX.out.symm.trans HD1.out : x = y ∧ gs = [] ∧ ts = [])
                refine bodyPost_ret (v := .tuple #[.agg #[.slice none 0 0, .slice none 0 0], .int .i64 x]) ?_ rfl ⟨_, _, rfl, ogf, otf, kf⟩
                clear c0 c1 f0 f1 z0 z1 kf kS ogf otf
                generalize (w8.setCell _ _).setCell _ _ = WZ at bf ⊢
                have c0 := bf.cell 0
                have c1 := bf.cell 1
                simp only [List.getElem?_toArray, List.getElem?_cons_zero, List.getElem?_cons_succ] at c0 c1
                rw [results_cell2 rfl]
                go_simp
    · have hn4 : ((ns : Int) != 4) = true := by rw [bne_iff_ne]; omega
      have HD := hid (show dec xs = (21, [], []) by
        rw [HDX.out]
        exact ofSecs_kinds fun e => by
          have := congrArg List.length e
          rw [List.length_map, ← HS.out, List.length_map, HNS.out] at this
          exact h4 (by simpa using this))
      have c0 := BR2.out.cell 0
      have c1 := BR2.out.cell 1
      have f0 := BR2.out.frozen 0
      have f1 := BR2.out.frozen 1
      have z0 := BZ2.out.cell 0
      have z1 := BZ2.out.cell 1
      simp only [List.getElem?_toArray, List.getElem?_cons_zero, List.getElem?_cons_succ] at c0 c1 z0 z1
      go_wp2_with fail
      have bf := (BR2.out.put 0 (.slice none 0 0)).put 1 (.slice none 0 0)
      simp only [List.setIfInBounds_toArray, List.set_cons_zero, List.set_cons_succ] at bf
      have kS := (Kp.set1 w.heap.size 0 w2 (.slice none 0 0)).setCell (p := ⟨w.heap.size, 1, none⟩) (.inl rfl) (.slice none 0 0)
      have kf := K2.out.step kS fun i hi e => by have e : i = w.heap.size := e; omega
      have ogf := (Ow.nil ((w2.setCell ⟨w.heap.size, 0, none⟩ (.slice none 0 0)).setCell ⟨w.heap.size, 1, none⟩ (.slice none 0 0)) w.heap.size 45 6 gc)
      have otf := (Ow.nil ((w2.setCell ⟨w.heap.size, 0, none⟩ (.slice none 0 0)).setCell ⟨w.heap.size, 1, none⟩ (.slice none 0 0)) w.heap.size 53 8 tc)
      obtain ⟨rfl, rfl, rfl⟩ := (by simpa using HX.out.symm.trans HD.out : x = 21 ∧ gs = [] ∧ ts = [])
      refine bodyPost_ret (v := .tuple #[.agg #[.slice none 0 0, .slice none 0 0], .int .i64 21]) ?_ rfl ⟨_, _, rfl, ogf, otf, kf⟩
      clear c0 c1 f0 f1 z0 z1 kf kS ogf otf
      generalize (w2.setCell _ _).setCell _ _ = WZ at bf ⊢
      have c0 := bf.cell 0
      have c1 := bf.cell 1
      simp only [List.getElem?_toArray, List.getElem?_cons_zero, List.getElem?_cons_succ] at c0 c1
      rw [results_cell2 rfl]
      go_simp
  · have hne : (y != 0) = true := by rw [bne_iff_ne]; exact h0
    have HD := hid (show dec xs = (y, [], []) by unfold dec; rw [if_neg (by rw [HY.out]; exact h0), HY.out])
    clear h0
    go_enter Tryz.func12, Tryz.ntmps12
    go_upto_region 2 with fail
    go_upto_region 4 with (first
      | (go_at_call 25
         rw [HW1.out]
         refine HU.out.mono ?_
         rintro e w2 ⟨u, ss, rfl, _, _, _, k2⟩
         have K2 := hid (K1.out.trans k2)
         have BR2 := hid (BR.out.kp0 k2)
         have BZ2 := hid (BZ.out.kp0 k2)
         clear k2 BR BZ HU))
    clear HW1
    have c0 := BR2.out.cell 0
    have c1 := BR2.out.cell 1
    have f0 := BR2.out.frozen 0
    have f1 := BR2.out.frozen 1
    have z0 := BZ2.out.cell 0
    have z1 := BZ2.out.cell 1
    simp only [List.getElem?_toArray, List.getElem?_cons_zero, List.getElem?_cons_succ] at c0 c1 z0 z1
    go_wp2_with fail
    have bf := (BR2.out.put 0 (.slice none 0 0)).put 1 (.slice none 0 0)
    simp only [List.setIfInBounds_toArray, List.set_cons_zero, List.set_cons_succ] at bf
    have kS := (Kp.set1 w.heap.size 0 w2 (.slice none 0 0)).setCell (p := ⟨w.heap.size, 1, none⟩) (.inl rfl) (.slice none 0 0)
    have kf := K2.out.step kS fun i hi e => by have e : i = w.heap.size := e; omega
    have ogf := (Ow.nil ((w2.setCell ⟨w.heap.size, 0, none⟩ (.slice none 0 0)).setCell ⟨w.heap.size, 1, none⟩ (.slice none 0 0)) w.heap.size 45 6 gc)
    have otf := (Ow.nil ((w2.setCell ⟨w.heap.size, 0, none⟩ (.slice none 0 0)).setCell ⟨w.heap.size, 1, none⟩ (.slice none 0 0)) w.heap.size 53 8 tc)
    obtain ⟨rfl, rfl, rfl⟩ := (by simpa using HX.out.symm.trans HD.out : x = y ∧ gs = [] ∧ ts = [])
    refine bodyPost_ret (v := .tuple #[.agg #[.slice none 0 0, .slice none 0 0], .int .i64 x]) ?_ rfl ⟨_, _, rfl, ogf, otf, kf⟩
    clear c0 c1 f0 f1 z0 z1 kf kS ogf otf
    generalize (w2.setCell _ _).setCell _ _ = WZ at bf ⊢
    have c0 := bf.cell 0
    have c1 := bf.cell 1
    simp only [List.getElem?_toArray, List.getElem?_cons_zero, List.getElem?_cons_succ] at c0 c1
    rw [results_cell2 rfl]
    go_simp
end Go.Proofs.YtggmdgdgljlddaaGreatDoor

/-
  The walk of ImageReads.
-/
namespace Go.Proofs.YtggmdgdgljlddaaGreatDoor
open Go.RowKit Go.Shelf

theorem sum_to {l : List Sn} {k : Nat} (h : ∀ s ∈ l, s.body.length ≤ k) : (l.map fun s => s.body.length).sum ≤ k * l.length := by
  induction l with
  | nil => simp
  | cons s l ih =>
    have h1 := h s (List.mem_cons_self ..)
    have h2 := ih fun x hx => h x (List.mem_cons_of_mem _ hx)
    rw [List.map_cons, List.sum_cons, List.length_cons, Nat.mul_add, Nat.mul_one]
    omega
/-- Pack of sections that are not long: so many bytes, or none. -/
theorem pack_to {w : World} {P : Nat → Prop} {v : Value} {ss : List Sv} (ht : Tab w) (h : Ps w P v ss) (hl : ss.length ≤ 20) (h4 : ∀ s ∈ ss, s.bl.length ≤ 400) :
    Calls Tryz.prog 14 #[v] w fun e w' => ∃ (A : Option Addr) (m c : Nat) (ys : List Int) (y : Int), e = .returned (.tuple #[.slice A m c, .int .i64 y]) ∧ Byt w' Anyb (.slice A m c) ys ∧ ys.length = m ∧ m ≤ 100000 ∧ Kp No w w' := by
  refine (pack_any ht h).mono ?_
  rintro e w' ⟨k, ⟨hC, u, rfl, ho⟩ | ⟨x, _, _, rfl⟩⟩
  · obtain ⟨A, c, rfl⟩ := ho.form
    refine ⟨A, _, c, _, 0, rfl, ho.byt fun _ _ => trivial, rfl, ?_, k⟩
    have h1 := sum_to (l := ss.map sn) (k := 400) fun s hs => by
      obtain ⟨t, ht, rfl⟩ := List.mem_map.1 hs
      exact h4 t ht
    rw [image_len]
    rw [List.length_map] at h1 ⊢
    omega
  · exact ⟨none, 0, 0, [], x, rfl, Byt.nil _ _, rfl, by omega, k⟩
set_option maxRecDepth 100000 in
set_option maxHeartbeats 4000000 in
theorem imageReads_walk (w : World) (v u : Value) {xs : List Int} {ss : List Sv} (ht : Tab w) (hv : Byt w Anyb v xs) (hu : Ps w Anyb u ss) :
    Calls Tryz.prog 4 #[v, u] w fun e w' => e = .returned (.bool true) ∧ Kp No w w' := by
  have HTB := hid ht
  have HB := hid hv
  obtain ⟨n, hn⟩ : ∃ n, xs.length = n := ⟨_, rfl⟩
  have HN := hid hn
  obtain ⟨A, c, rfl, hrest⟩ := hv
  rw [hn] at HB ⊢
  obtain ⟨ns, hns⟩ : ∃ n, ss.length = n := ⟨_, rfl⟩
  have HNS := hid hns
  obtain ⟨As, cs, rfl, _, _⟩ := hu.form hns
  have HP := hid hu
  clear ht hrest hn hu hns
  by_cases h1000 : 1000 < n
  · have g1 : (1000 : Int) < (n : Int) := by omega
    go_enter Tryz.func4, Tryz.ntmps4
    go_wp2_with (first
      | (go_at_call 5
         with_reducible refine (iawake_any HTB.out).mono ?_
         rintro e w1 ⟨rfl, k1⟩
         have K1 := hid k1
         clear k1))
    go_ret
    exact ⟨rfl, K1.out⟩
  · have g1 : ¬ (1000 : Int) < (n : Int) := by omega
    by_cases h20 : 20 < ns
    · have g2 : (20 : Int) < (ns : Int) := by omega
      go_enter Tryz.func4, Tryz.ntmps4
      go_wp2_with (first
        | (go_at_call 5
           with_reducible refine (iawake_any HTB.out).mono ?_
           rintro e w1 ⟨rfl, k1⟩
           have K1 := hid k1
           clear k1))
      go_ret
      exact ⟨rfl, K1.out⟩
    · have g2 : ¬ (20 : Int) < (ns : Int) := by omega
      have HL := hid (show xs.length ≤ 1000 by rw [HN.out]; omega)
      obtain ⟨x, p, hx⟩ : ∃ x p, dec xs = (x, p) := ⟨_, _, rfl⟩
      obtain ⟨gs, ts⟩ := p
      have HX := hid hx
      obtain ⟨lg, hlg⟩ : ∃ l, gs.length = l := ⟨_, rfl⟩
      obtain ⟨lt, hlt⟩ : ∃ l, ts.length = l := ⟨_, rfl⟩
      have HLG := hid hlg
      have HLT := hid hlt
      clear h1000 hx hlg hlt
      go_enter Tryz.func4, Tryz.ntmps4
      go_upto_region 4 with (first
        | (go_at_call 5
           with_reducible refine (iawake_any HTB.out).mono ?_
           rintro e w1 ⟨rfl, k1⟩
           have K1 := hid k1
           clear k1))
      have HP1 := hid (HP.out.kp0 K1.out)
      go_wp2_with fail
      go_loop [6] (fun i => ∃ k : Nat, k ≤ ns ∧ i = .int .i64 (k : Int) ∧ Hid (∀ j, j < k → (ss.getD j sv0).bl.length ≤ 400)) (fun i => ns - (vI i).toNat)
      case atStart => exact ⟨0, Nat.zero_le _, rfl, hid fun j hj => absurd hj (Nat.not_lt_zero _)⟩
      case round =>
        obtain ⟨k, hk, rfl, HJ⟩ := hrel
        by_cases hkn : k < ns
        · have hkl : k < ss.length := by rw [HNS.out]; exact hkn
          have gk : (k : Int) < (ns : Int) := by omega
          have hwk := wrapI (x := (k : Int) + 1) (by unfold I64; omega)
          obtain ⟨b, o, rfl, _, _, d1⟩ := HP1.out.at' hkl
          have HS := hid (show ∀ m, (ss.getD k sv0).bl.length = m → m ≤ 400 → ∀ j, j < k + 1 → (ss.getD j sv0).bl.length ≤ 400 from fun m hm h4 j hj => by
            by_cases e : j = k
            · subst e; omega
            · exact HJ.out j (by omega))
          obtain ⟨sk, hsk⟩ : ∃ s, ss.getD k sv0 = s := ⟨_, rfl⟩
          rw [hsk] at d1 HS
          unfold Sv.bv at d1
          obtain ⟨lk, hlk⟩ : ∃ l, sk.bl.length = l := ⟨_, rfl⟩
          rw [hlk] at d1
          have HLK := hid hlk
          clear hlk hsk hkl
          by_cases h4 : 400 < lk
          · have g4 : (400 : Int) < (lk : Int) := by omega
            go_wp2_with fail
            go_ret
            exact ⟨rfl, K1.out⟩
          · have g4 : ¬ (400 : Int) < (lk : Int) := by omega
            go_wp2_with fail
            go_round
            case rel => exact ⟨k + 1, by omega, by go_num, hid (HS.out lk HLK.out (by omega))⟩
            case measure => simp [vI]; omega
        · have hkk : k = ns := by omega
          subst hkk
          have hng : ¬ (k : Int) < (k : Int) := by omega
          have HALL := hid (show ∀ s ∈ ss, s.bl.length ≤ 400 from fun s hs => by
            obtain ⟨j, hj, rfl⟩ := List.getElem_of_mem hs
            have := HJ.out j (by have := HNS.out; omega)
            simpa [List.getD, hj] using this)
          have hxx : (x != x) = false := by simp
          clear HJ
          go_upto_region 13 with (first
            | (go_at_call 11
               with_reducible refine (decode_any (HTB.out.kp0 K1.out) (HB.out.kp K1.out fun _ _ h => h) (by have := HL.out; omega) HX.out).mono ?_
               rintro e wa1 ⟨ug, ut, rfl, og, ot, k4⟩
               obtain ⟨Ag1, cg1, rfl⟩ := og.formN HLG.out
               obtain ⟨At1, ct1, rfl⟩ := ot.formN HLT.out
               have k45 := (Kp.refl No wa1).alloc (.cells #[.slice Ag1 lg cg1, .slice At1 lt ct1] 25)
               have BA1 := hid (Blk.new wa1 25 #[.slice Ag1 lg cg1, .slice At1 lt ct1])
               have KA1 := hid (K1.out.trans (k4.trans k45))
               have HBA1 := hid ((HB.out.kp K1.out fun _ _ h => h).kp (k4.trans k45) fun _ _ h => h)
               have SA1 := hid (Own.sce (og.kp0 k45) (ot.kp0 k45))
               clear k4 k45 og ot)
            | (go_at_call 12
               with_reducible refine (rdecode_any HBA1.out (by have := HL.out; omega) HX.out).mono ?_
               rintro e wb1 ⟨ug, ut, rfl, og, ot, k4⟩
               obtain ⟨Bg1, dg1, rfl⟩ := og.formN HLG.out
               obtain ⟨Bt1, dt1, rfl⟩ := ot.formN HLT.out
               have k45 := (Kp.refl No wb1).alloc (.cells #[.slice Bg1 lg dg1, .slice Bt1 lt dt1] 25)
               have bb1 := Blk.new wb1 25 #[.slice Bg1 lg dg1, .slice Bt1 lt dt1]
               have KB1 := hid (KA1.out.trans (k4.trans k45))
               have SB1 := hid (Own.sce (og.kp0 k45) (ot.kp0 k45))
               have SAB1 := hid (SA1.out.kp0 (k4.trans k45))
               have ba1 := BA1.out.kp0 (k4.trans k45)
               have ca01 := ba1.cell 0
               have ca11 := ba1.cell 1
               have cb01 := bb1.cell 0
               have cb11 := bb1.cell 1
               simp only [List.getElem?_toArray, List.getElem?_cons_zero, List.getElem?_cons_succ] at ca01 ca11 cb01 cb11
               clear k4 k45 og ot ba1 bb1)
            | (go_at_call 13
               with_reducible refine (same_is (q := true) SAB1.out SB1.out (by simp)).mono ?_
               rintro e wc1 ⟨rfl, k8⟩
               have KC1 := hid (KB1.out.trans k8)
               clear k8))
          have HPC := hid (pack_to (HTB.out.kp0 KC1.out) (HP.out.kp0 KC1.out) (by have := HNS.out; omega) HALL.out)
          clear ca01 ca11 cb01 cb11 hxx
          go_upto_region 14 with (first
            | (go_at_call 14
               refine HPC.out.mono ?_
               rintro e wp ⟨Ap, m, cp, ys, y, rfl, hy1, hy2, hy3, kp⟩
               have HY1 := hid hy1
               have HY3 := hid (show ys.length ≤ 100000 by omega)
               have KP := hid (KC1.out.trans kp)
               clear hy1 hy2 hy3 kp))
          obtain ⟨x2, p2, hx2⟩ : ∃ x p, dec ys = (x, p) := ⟨_, _, rfl⟩
          obtain ⟨gs2, ts2⟩ := p2
          have HX2 := hid hx2
          obtain ⟨lg2, hlg⟩ : ∃ l, gs2.length = l := ⟨_, rfl⟩
          obtain ⟨lt2, hlt⟩ : ∃ l, ts2.length = l := ⟨_, rfl⟩
          have HLG2 := hid hlg
          have HLT2 := hid hlt
          have hxx : (x2 == x2) = true := by simp
          clear hx2 hlg hlt
          go_wp2_with (first
            | (go_at_call 11
               with_reducible refine (decode_any (HTB.out.kp0 KP.out) HY1.out (by have := HY3.out; omega) HX2.out).mono ?_
               rintro e wa2 ⟨ug, ut, rfl, og, ot, k4⟩
               obtain ⟨Ag2, cg2, rfl⟩ := og.formN HLG2.out
               obtain ⟨At2, ct2, rfl⟩ := ot.formN HLT2.out
               have k45 := (Kp.refl No wa2).alloc (.cells #[.slice Ag2 lg2 cg2, .slice At2 lt2 ct2] 25)
               have BA2 := hid (Blk.new wa2 25 #[.slice Ag2 lg2 cg2, .slice At2 lt2 ct2])
               have KA2 := hid (KP.out.trans (k4.trans k45))
               have HBA2 := hid (HY1.out.kp (k4.trans k45) fun _ _ h => h)
               have SA2 := hid (Own.sce (og.kp0 k45) (ot.kp0 k45))
               clear k4 k45 og ot)
            | (go_at_call 12
               with_reducible refine (rdecode_any HBA2.out (by have := HY3.out; omega) HX2.out).mono ?_
               rintro e wb2 ⟨ug, ut, rfl, og, ot, k4⟩
               obtain ⟨Bg2, dg2, rfl⟩ := og.formN HLG2.out
               obtain ⟨Bt2, dt2, rfl⟩ := ot.formN HLT2.out
               have k45 := (Kp.refl No wb2).alloc (.cells #[.slice Bg2 lg2 dg2, .slice Bt2 lt2 dt2] 25)
               have bb2 := Blk.new wb2 25 #[.slice Bg2 lg2 dg2, .slice Bt2 lt2 dt2]
               have KB2 := hid (KA2.out.trans (k4.trans k45))
               have SB2 := hid (Own.sce (og.kp0 k45) (ot.kp0 k45))
               have SAB2 := hid (SA2.out.kp0 (k4.trans k45))
               have ba2 := BA2.out.kp0 (k4.trans k45)
               have ca02 := ba2.cell 0
               have ca12 := ba2.cell 1
               have cb02 := bb2.cell 0
               have cb12 := bb2.cell 1
               simp only [List.getElem?_toArray, List.getElem?_cons_zero, List.getElem?_cons_succ] at ca02 ca12 cb02 cb12
               clear k4 k45 og ot ba2 bb2)
            | (go_at_call 13
               with_reducible refine (same_is (q := true) SAB2.out SB2.out (by simp)).mono ?_
               rintro e wc2 ⟨rfl, k8⟩
               have KC2 := hid (KB2.out.trans k8)
               clear k8))
          go_ret
          exact ⟨rfl, KC2.out⟩
end Go.Proofs.YtggmdgdgljlddaaGreatDoor

namespace Go.Proofs.YtggmdgdgljlddaaGreatDoor.imageReads
open Go.ChangeShapes Go.WideShapes Go.ChangeAt Go.RowKit
open Go.ChangeMaps (open_string shut_string)
set_option linter.unusedVariables false

theorem own : ownKnob Tryz.prog.godebug = none := by kernel_rfl
theorem laidOut : laidOutB Tryz.prog = true := by kernel_rfl

set_option maxRecDepth 100000 in
theorem lifted (os : Os) (started : os.Started) (H : Type) (enc : TypeId × Value → H) :
    ReturnsInHanded {} Tryz.checked os 4 .any (fun w args => (Rows.imageReadsSpec.pre enc Tryz.prog Tryz.f4 Rows.imageReadsRow.domain false w args ∧ laidMetH Tryz.prog laidL w) ∧ sizedMet enc Tryz.prog Tryz.f4 (OpenSpec.ofChange Rows.imageReadsSpec) false w args)
      (Rows.imageReadsSpec.post enc Tryz.prog Tryz.f4 false true false false) := by
  refine returnsInHanded_of_change_and (C := Tryz.checked) (X := fun w _ => laidMetH Tryz.prog laidL w) (fun _ _ _ hh h => h.of_heap hh) own started (by kernel_rfl) Tryz.func4
    (ChangeSpec.witness_shaped (enc := enc) (C := Tryz.checked) (os := os) (X := fun w _ => laidMetH Tryz.prog laidL w) false (World.laidAll Tryz.prog os laidL) #[.slice none 0 0, .slice none 0 0] 8 (World.laidAll_os _ _ _)
      (World.shaped_of_ZipB (by kernel_rfl) (by kernel_rfl)) (by kernel_rfl) (by kernel_rfl) (by kernel_rfl) (met os _)) ?_
  intro W base args ds gs before hval0 hW hcnd _ hL _
  have hval : ∀ (j : Nat) t v, Tryz.f4.params[j]? = some t → args[j]? = some v → Value.okWide Tryz.prog W .any base t v := hval0
  have hW' := hW
  obtain ⟨p, q, hA0, hV, rfl, hfz, hnd⟩ := hW
  have hA : DataW.TrodAll enc Tryz.prog W 0 (fun _ => true) true Tryz.f4.params.toList args.toList ds p := hA0
  rw [Tryz.params4] at hA hval
  obtain ⟨v0, vs0, d0, ds0, p0, q0, hargs, rfl, rfl, h0, r0⟩ := trodAll_cons hA
  obtain ⟨v1, vs1, d1, ds1, p1, q1, rfl, rfl, rfl, h1, r1⟩ := trodAll_cons r0
  obtain ⟨rfl, rfl, rfl⟩ := trodAll_nil r1
  obtain rfl : args = #[v0, v1] := by cases args; simp_all
  obtain ⟨rfl, rfl⟩ := trodVars_none hV
  obtain ⟨a0, len0, cap0, rfl⟩ := okWide_slice Tryz.underlying28 (hval 0 28 v0 rfl rfl)
  have k0 := h0
  have lt0 : ∀ x ∈ p0, x.block < W.heap.size := by obtain ⟨m, hm⟩ := k0; exact DataW.trod_lt m _ _ _ hm
  obtain ⟨z0, w0⟩ : ∃ zs, Byt W Anyb (.slice a0 len0 cap0) zs := by
    obtain ⟨fuel, hf⟩ := h0
    rcases open_ints Tryz.underlying28 Tryz.underlying5 (by kernel_rfl) hf with ⟨hcs, _⟩ | ⟨x, l, c, zs, hcs, _, hl, hm, hz, _, hcell, hwz⟩
    · simp [Value.cells] at hcs
      obtain ⟨rfl, rfl, rfl⟩ := hcs
      exact ⟨[], Byt.nil W Anyb⟩
    · simp [Value.cells] at hcs
      obtain ⟨rfl, rfl, rfl⟩ := hcs
      exact ⟨zs.take _, Byt.of_row hl hm (by simpa using hz) hcell hwz⟩
  obtain ⟨a1, len1, cap1, rfl⟩ := okWide_slice Tryz.underlying34 (hval 1 34 v1 rfl rfl)
  have k1 := h1
  have lt1 : ∀ x ∈ p1, x.block < W.heap.size := by obtain ⟨m, hm⟩ := k1; exact DataW.trod_lt m _ _ _ hm
  obtain ⟨z1, w1⟩ : ∃ zs, Ps W Anyb (.slice a1 len1 cap1) zs := by
    obtain ⟨fuel, hf⟩ := h1
    exact open_secs (by simpa [Value.cells] using hf)
  clear hA0 hval0
  refine (imageReads_walk W _ _ (tab_of hL) w0 w1).mono fun e W' ⟨he, hk⟩ => ?_
  have bel := hk.below
  subst he
  exact ⟨_, rfl, _, _, _, [], _, [], hW', trodAll_mk1 (shut_bool Tryz.underlying4 _), (trodAll_cons_mk (Below.trod laidOut (by kernel_rfl) (of_decide_eq_true (by kernel_rfl)) k0 bel lt0) (trodAll_cons_mk (Below.trod laidOut (by kernel_rfl) (of_decide_eq_true (by kernel_rfl)) k1 bel lt1) trodAll_mk0)), rfl, bel.frame _, fun h => by cases h⟩

theorem over : Rows.imageReadsRow.holds Tryz.pinned (OpenSpec.ofChange Rows.imageReadsSpec) :=
  OpenClaim.holds_of_wide 4 Tryz.f4 rfl rfl rfl rfl rfl rfl rfl ⟨rfl, rfl, rfl, rfl, rfl⟩ rfl rfl rfl rfl rfl (by kernel_rfl) Tryz.func4 (by kernel_rfl)
    (of_decide_eq_true (by kernel_rfl)) (by unfold Func.isWrapper; first | (rw [if_pos (by decide +kernel)]; kernel_rfl) | (rw [if_neg (by decide +kernel)]; exact ⟨rfl, rfl⟩))
    (fun os started H enc _ => lifted os started H enc)

theorem proved : Rows.ImageReadsCardSaid :=
  Claim7.holds_tied_plain_at .later [] [.data] true _ false over (fun _ h => by cases h) (by kernel_rfl) (fun _ h => by cases h) imageReads_row_tie rfl ⟨rfl, rfl⟩ (by kernel_rfl) rfl
    (fun f fn hf hfn => by
      obtain rfl : f = 4 := Option.some.inj ((show Tryz.prog.funcNamed "diapause/diapauselaw14.ImageReads" = some 4 by kernel_rfl).symm.trans hf) |>.symm
      obtain rfl : fn = Tryz.f4 := (Option.some.inj (Tryz.func4.symm.trans hfn)).symm
      exact ⟨by kernel_rfl, fun j t ht => by
        rw [Tryz.params4] at ht
        have hm : t ∈ [28, 34] := by
          have := Array.mem_of_getElem? ht
          simp at this ⊢
          first | omega | (rcases this with h | h | h | h <;> subst h <;> simp) | (rcases this with h | h | h | h | h <;> subst h <;> simp)
        have hall : ([28, 34].all fun u => !Tryz.prog.wantsStandIn u) = true := by kernel_rfl
        exact (show Tryz.prog.wantsStandIn t = false by simpa using List.all_eq_true.1 hall t hm)⟩)
    (by kernel_rfl)

end Go.Proofs.YtggmdgdgljlddaaGreatDoor.imageReads
