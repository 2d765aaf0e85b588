/-
  Contract of hall's move.
-/
import Derived.Test.YtoeeighfjoplhaaLoL3
namespace Go.Proofs.Ytoeeighfjoplhaa
open Go.RowKit
def csAt (ss : List St) (x : Int) : Nat := (ss.getD x.toNat st0).cs
/-- Seat p may move from core x: there is a core, online, on which it may be, whose load, and one, is below x's. -/
def Mb (ss : List St) (ls : List Int) (on : Nat) (x p : Int) : Prop := ∃ g : Nat, g < 64 ∧ on.testBit g = true ∧ (csAt ss p).testBit g = true ∧ ldF ls (g : Int) + 1 < ldF ls x
/-- The move: seat p of core x goes to core t. -/
structure MvY (ss : List St) (ls : List Int) (P : Nat → List Int) (on : Nat) (x p t : Int) : Prop where
  xin : ∃ k : Nat, k < 64 ∧ x = (k : Int) ∧ on.testBit k = true
  pin : p ∈ P x.toNat
  mov : Mb ss ls on x p
  goal : Chs (csAt ss p &&& on) ls t
  first1 : ∀ k : Nat, k < 64 → on.testBit k = true → ldR ls (k : Int) x → ∀ q ∈ P k, ¬ Mb ss ls on (k : Int) q
  first2 : ∀ q ∈ P x.toNat, ordR ss q p → ¬ Mb ss ls on x q
/-- There is none. -/
def MvN (ss : List St) (ls : List Int) (P : Nat → List Int) (on : Nat) : Prop := ∀ k : Nat, k < 64 → on.testBit k = true → ∀ q ∈ P k, ¬ Mb ss ls on (k : Int) q
theorem MvY.not {ss : List St} {ls : List Int} {P : Nat → List Int} {on : Nat} {x p t : Int} (h : MvY ss ls P on x p t) (hn : MvN ss ls P on) : False := by
  obtain ⟨k, h1, h2, h3⟩ := h.xin
  have hp := h.pin
  have hm := h.mov
  rw [h2] at hp hm
  exact hn k h1 h3 p (by simpa using hp) hm
theorem MvY.one {ss : List St} {ls : List Int} {P : Nat → List Int} {on : Nat} {x p t x' p' t' : Int} (hP : ∀ k, k < 64 → (P k).Pairwise (ordR ss)) (h : MvY ss ls P on x p t) (h' : MvY ss ls P on x' p' t') : x = x' ∧ p = p' ∧ t = t' := by
  have key : ∀ {x p t x' p' t' : Int}, MvY ss ls P on x p t → MvY ss ls P on x' p' t' → ¬ ldR ls x' x := fun {x p t x' p' t'} h h' hr => by
    obtain ⟨k, h1, h2, h3⟩ := h'.xin
    have hp := h'.pin
    have hm := h'.mov
    rw [h2] at hr hp hm
    exact h.first1 k h1 h3 hr p' (by simpa using hp) hm
  have n1 := key h h'
  have n2 := key h' h
  have e : x = x' := by
    unfold ldR at n1 n2
    omega
  subst e
  have e2 : p = p' := by
    obtain ⟨k, h1, h2, _⟩ := h.xin
    have hp := h.pin
    have hp' := h'.pin
    rw [h2] at hp hp'
    simp only [Int.toNat_natCast] at hp hp'
    obtain ⟨i, hi, e1⟩ := List.mem_iff_getElem.1 hp
    obtain ⟨j, hj, e2⟩ := List.mem_iff_getElem.1 hp'
    rcases Nat.lt_trichotomy i j with c | c | c
    · have := List.pairwise_iff_getElem.1 (hP k h1) i j hi hj c
      rw [e1, e2] at this
      exact absurd h.mov (h'.first2 p h.pin this)
    · subst c
      exact e1.symm.trans e2
    · have := List.pairwise_iff_getElem.1 (hP k h1) j i hj hi c
      rw [e1, e2] at this
      exact absurd h'.mov (h.first2 p' h'.pin this)
  subst e2
  exact ⟨rfl, rfl, h.goal.one h'.goal⟩
section
variable {w : World} {Bd hb : Nat} {bs : Nat → Option Nat} {cp : Nat → Nat} {P : Nat → List Int}
theorem and_ne (a b : Nat) : (a &&& b ≠ 0) ↔ ∃ i, a.testBit i = true ∧ b.testBit i = true := by
  constructor
  · intro h
    refine Classical.byContradiction fun hn => h (Nat.eq_of_testBit_eq fun i => ?_)
    rw [Nat.testBit_and, Nat.zero_testBit]
    cases ha : a.testBit i with
    | false => rfl
    | true =>
      cases hb : b.testBit i with
      | false => rfl
      | true => exact absurd ⟨i, ha, hb⟩ hn
  · rintro ⟨i, h1, h2⟩ h
    have : (a &&& b).testBit i = true := by rw [Nat.testBit_and, h1, h2]; rfl
    rw [h, Nat.zero_testBit] at this
    cases this
set_option maxRecDepth 100000 in
set_option maxHeartbeats 4000000 in
theorem goal_any {qh qg n c s : Nat} {A : Option Addr} {ss : List St} {x : Int} (hh : w.cell? ⟨qh, 0, none⟩ = some (.pointer (some ⟨hb, 0, none⟩))) (hg : w.cell? ⟨qg, 0, none⟩ = some (.int .u64 (s : Int))) (hd : w.cell? ⟨hb, 0, none⟩ = some (.slice A n c))
    (hr : Rw 3 sc st0 w Anyb (.slice A n c) ss) (hn : ss.length = n) (hx : plc n x) (hs : U64 s) (hc : ∀ x, U64 (csAt ss x)) :
    Calls Try.prog 46 #[.int .i64 x, .pointer (some ⟨qh, 0, none⟩), .pointer (some ⟨qg, 0, none⟩)] w fun e w' => e = .returned (.bool (csAt ss x &&& s != 0)) ∧ Kp No w w' := by
  obtain ⟨i, hi, rfl⟩ := hx
  obtain ⟨b, o, rfl⟩ := hr.there (by omega)
  obtain ⟨k, hk⟩ : ∃ k, csAt ss (i : Int) = k := ⟨_, rfl⟩
  have HB := hid (fun (W : World) (kk : Kp No w W) => show W.cell? ⟨qh, 0, none⟩ = some (.pointer (some ⟨hb, 0, none⟩)) ∧ W.cell? ⟨qg, 0, none⟩ = some (.int .u64 (s : Int)) ∧ W.cell? ⟨hb, 0, none⟩ = some (.slice (some ⟨b, o, none⟩) n c) ∧ W.cell? ⟨b, o + i * 3 + 2, none⟩ = some (.int .u64 (k : Int)) from by
    have h1 := hr.cell (j := i) (i := 2) kk (by omega) (by omega) rfl
    rw [← Nat.add_assoc] at h1
    have e : sc (ss.getD i st0) 2 = .int .u64 (k : Int) := by
      show Value.int .u64 ((ss.getD i st0).cs : Int) = _
      rw [← hk]
      unfold csAt
      rw [Int.toNat_natCast]
    rw [e] at h1
    exact ⟨(kk.cell (p := ⟨qh, 0, none⟩) (World.block_lt_of_cell? w _ hh) id).trans hh, (kk.cell (p := ⟨qg, 0, none⟩) (World.block_lt_of_cell? w _ hg) id).trans hg, (kk.cell (p := ⟨hb, 0, none⟩) (World.block_lt_of_cell? w _ hd) id).trans hd, h1⟩)
  have hck := hc (i : Int)
  rw [hk] at hck ⊢
  have hbits := and_bits hck hs
  have mixed : Try.prog.follows .mixedOrders = true := by kernel_rfl
  have gi : (i : Int) < (n : Int) := by omega
  clear hh hg hd hr hn hk hc hck hs
  go_enter Try.func46, Try.ntmps46
  go_upto_region 1 with fail
  refine region_class (fun W => Kp No w W) 11 rfl mixed (by kernel_rfl) (by kernel_rfl) ((Kp.refl No w).drew) ?_
  simp only [List.take_succ_cons, List.take_zero]
  repeat ((first | ((with_reducible refine cl_val (v := ?_) ?_ ?_ ?_); rotate_left; (focus (go_simp; done)); (focus (intro w' hw; obtain ⟨z0, z1, z2, z3⟩ := HB.out _ hw; go_simp; (try with_reducible rfl); done)))); simp only [Act.put, List.setIfInBounds_toArray, List.set_cons_zero, List.set_cons_succ])
  refine cl_nil fun w5 hw => ?_
  have K5 := hid hw
  clear hw
  go_wp2_with fail
  go_ret
  refine ⟨?_, K5.out⟩
  show Ending.returned (Value.bool _) = _
  congr 2
  rw [Bool.eq_iff_iff]
  simp
set_option maxRecDepth 100000 in
set_option maxHeartbeats 4000000 in
theorem index_row2 {b : Option Nat} {n c : Nat} {ks : List Int} {g : FuncId} {bd cb : Array Value} {V : Int → Prop} {f : Int → Bool} (h : RowI w b n c ks) (hC : Pre w g bd cb V f) (hV : ∀ x ∈ ks, V x) (hn : n ≤ 1000000) :
    Calls Try.prog 45 #[gsl b n c, .func (.func g) bd cb] w fun e w' => ∃ r : Int, e = .returned (.int .i64 r) ∧ ((∃ i, i < n ∧ r = (i : Int) ∧ f (rowf ks i) = true ∧ ∀ j, j < i → f (rowf ks j) = false) ∨ (r = -1 ∧ ∀ j, j < n → f (rowf ks j) = false)) ∧ Kp No w w' := by
  refine (index_row h hC hV hn).mono ?_
  rintro e w' ⟨k, (⟨i, h1, rfl, h2, h3⟩ | ⟨rfl, h1⟩)⟩
  · exact ⟨(i : Int), rfl, .inl ⟨i, h1, rfl, h2, h3⟩, k⟩
  · exact ⟨-1, rfl, .inr ⟨rfl, h1⟩, k⟩
set_option maxRecDepth 100000 in
set_option maxHeartbeats 4000000 in
theorem move_any {n c on : Nat} {A : Option Addr} {ss : List St} (h : Hl w Bd hb (.slice A n c) bs cp P) (hP : ∀ k, k < 64 → Rk ss k (P k)) (hr : Rw 3 sc st0 w Anyb (.slice A n c) ss) (hn : ss.length = n) (hn2 : n ≤ 900) (ho : U64 on) (hc : ∀ x, U64 (csAt ss x)) :
    Calls Try.prog 33 #[.pointer (some ⟨hb, 0, none⟩), .int .u64 (on : Int)] w fun e w' => Kp No w w' ∧ ((∃ x p t, e = .returned (.tuple #[.int .i64 p, .int .i64 t, .bool true]) ∧ MvY ss (ldL P) P on x p t) ∨ (e = .returned (.tuple #[.int .i64 0, .int .i64 0, .bool false]) ∧ MvN ss (ldL P) P on)) := by
  have H0 := hid (Blk.new w 55 #[.pointer (some ⟨hb, 0, none⟩)])
  have K0 := hid ((Kp.refl No w).alloc (.cells #[.pointer (some ⟨hb, 0, none⟩)] 55))
  have HH := hid h
  have HP := hid hP
  have HR := hid hr
  have HN := hid hn
  have HO := hid ho
  have HC := hid hc
  have HPL := hid (fun k (hk : k < 64) => show (P k).length ≤ 900 from by have := (hP k hk).len; omega)
  have HBD := hid (show ∀ x, 0 ≤ ldF (ldL P) x ∧ ldF (ldL P) x ≤ 1000 from fun x => by
    by_cases hx : x.toNat < 64
    · have h1 := ldL_at P hx
      have h2 : ldF (ldL P) x = ldF (ldL P) ((x.toNat : Nat) : Int) := by unfold ldF; rw [Int.toNat_natCast]
      have := HPL.out _ hx
      rw [h2, h1]
      omega
    · have h2 : ldF (ldL P) x = 0 := by
        unfold ldF
        rw [List.getD_eq_getElem?_getD, List.getElem?_eq_none (by rw [ldL_len]; omega)]
        rfl
      rw [h2]
      omega)
  clear h hP hr hn ho hc
  go_enter Try.func33, Try.ntmps33
  go_upto_region 1 with fail
  obtain ⟨qh, hqh⟩ : ∃ q, w.heap.size = q := ⟨_, rfl⟩
  have HQH := hid hqh
  rw [hqh] at H0 ⊢
  generalize w.alloc (.cells #[.pointer (some ⟨hb, 0, none⟩)] 55) = w1 at H0 K0 ⊢
  clear hqh
  have c0 : w1.cell? ⟨qh, 0, none⟩ = some (.pointer (some ⟨hb, 0, none⟩)) := H0.out.cell 0
  have HLD := hid (loads_any (HH.out.kp0 K0.out) (fun k hk => by have := HPL.out k hk; omega))
  go_upto_region 2 with (go_at_call 42; refine HLD.out.mono ?_; rintro e w2 ⟨lb, rfl, hr2, hb2, k2⟩; have HR2 := hid hr2; have K2 := hid (K0.out.trans k2); have K12 := hid k2; clear hr2 hb2 k2)
  have HRW := hid (HR2.out.rw (S := Anyb) fun _ _ => trivial)
  have HBS := hid (busiest_any HO.out HRW.out (ldL_len P))
  unfold gsl
  go_upto_region 3 with (go_at_call 43; refine HBS.out.mono ?_; rintro e w3 ⟨b, m, c3, l, rfl, hr3, hz3, k3⟩; have HR3 := hid hr3; have HZ3 := hid hz3; have K3 := hid (K2.out.trans k3); have K23 := hid k3; clear hr3 hz3 k3)
  have HMM := hid (show m ≤ 64 from by have := HZ3.out.len; have := HR3.out.1; omega)
  have HLM := hid HR3.out.1
  have HIN := hid (show ∀ x ∈ l, 0 ≤ x ∧ x < 64 from fun x hx => by obtain ⟨i, h1, h2, _⟩ := (HZ3.out.mem x).1 hx; omega)
  have HSR := hid (show Srt (ldR (ldL P)) 0 m (rowf l) from by rw [HLM.out]; exact pair_srt HZ3.out.srt)
  have HLB := hid (HR2.out.kp0 K23.out)
  have HB1 := hid ((H0.out.kp0 K12.out).kp0 K23.out)
  clear HBS HRW HLD HR2 K12 K23 c0 H0 K0
  unfold gsl
  go_wp2_with fail
  go_loopw [20] (fun u wr => ∃ (t : Nat), u = .int .i64 (t : Int) ∧ t ≤ m ∧ Hid (Kp No w3 wr) ∧ Hid (∀ t', t' < t → ∀ q ∈ P (rowf l t').toNat, ¬ Mb ss (ldL P) on (rowf l t') q)) (fun u _ => m - (vNum u).toNat)
  case atStart => exact ⟨0, rfl, Nat.zero_le _, hid (Kp.refl _ _), hid fun t' ht => by omega⟩
  case round =>
    obtain ⟨t, rfl, htm, HK, HF⟩ := hrel
    have hm64 := HMM.out
    have wt := wrapI (x := (t : Int) + 1) (by unfold I64; omega)
    have HNO := hid (show (∀ t', t' < m → ∀ q ∈ P (rowf l t').toNat, ¬ Mb ss (ldL P) on (rowf l t') q) → MvN ss (ldL P) P on from fun hall k hk hb q hq hm => by
      obtain ⟨j, hj, e⟩ := mem_rowf.1 ((HZ3.out.mem (k : Int)).2 ⟨k, hk, rfl, hb⟩)
      refine hall j (by have := HLM.out; omega) q ?_ ?_
      · rw [← e]; simpa using hq
      · rw [← e]; exact hm)
    by_cases hlt : t < m
    · have glt : (t : Int) < (m : Int) := by omega
      obtain ⟨kk, hkk⟩ : ∃ kk, b = some kk := by
        cases b with
        | none => obtain ⟨h1, _, _⟩ := HR3.out.none_nil; omega
        | some kk => exact ⟨kk, rfl⟩
      subst hkk
      have cl : wr.cell? ⟨kk, t, none⟩ = some (.int .i64 (rowf l t)) := (HR3.out.kp0 HK.out).cell (by have := HLM.out; omega)
      obtain ⟨k, hk⟩ : ∃ k : Nat, rowf l t = (k : Int) := ⟨(rowf l t).toNat, by have := HIN.out _ (mem_rowf.2 ⟨t, by have := HLM.out; omega, rfl⟩); omega⟩
      have HX := hid hk
      have hk64 : k < 64 := by have := HIN.out _ (mem_rowf.2 ⟨t, by have := HLM.out; omega, rfl⟩); omega
      rw [hk] at cl
      have gk : (k : Int) < 64 := by omega
      have cld : wr.cell? ⟨lb, k, none⟩ = some (.int .i64 (((P k).length : Nat) : Int)) := by
        have := (HLB.out.kp0 HK.out).cell (j := k) (by rw [ldL_len]; exact hk64)
        rw [this]
        congr 2
        have h2 := ldL_at P hk64
        unfold ldF at h2
        rw [Int.toNat_natCast] at h2
        exact h2
      obtain ⟨ld, hld⟩ : ∃ z : Int, ((P k).length : Int) = z := ⟨_, rfl⟩
      have HLDV := hid (show ldF (ldL P) (k : Int) = ld from by rw [ldL_at P hk64, hld])
      rw [hld] at cld
      clear hk hld
      have HEM := hid (emptier_any (ld := ld) (HR3.out.kp0 HK.out) ((HLB.out.kp0 HK.out).rw (S := Anyb) fun _ _ => trivial) (ldL_len P) HIN.out HMM.out HBD.out)
      unfold gsl at HEM
      simp only [ga, Option.map_some] at *
      go_upto_region 7 with (go_at_call 44; refine HEM.out.mono ?_; rintro e w4 ⟨s, rfl, he4, k4⟩; have HE4 := hid he4; have K4 := hid (HK.out.trans k4); clear he4 k4)
      have HBG := hid (Blk.new w4 48 #[.int .u64 (s : Int)])
      have K5 := hid (K4.out.trans ((Kp.refl No w4).alloc (.cells #[.int .u64 (s : Int)] 48)))
      obtain ⟨qg, hqg⟩ : ∃ q, w4.heap.size = q := ⟨_, rfl⟩
      rw [hqg] at HBG ⊢
      generalize w4.alloc (.cells #[.int .u64 (s : Int)] 48) = w5 at HBG K5 ⊢
      clear hqg
      have cg : w5.cell? ⟨qg, 0, none⟩ = some (.int .u64 (s : Int)) := HBG.out.cell 0
      have HGO := hid (show ∀ i, i < 64 → (s.testBit i = true ↔ on.testBit i = true ∧ ldF (ldL P) (i : Int) + 1 < ld) from fun i hi => by
        rw [HE4.out.bit i hi]
        constructor
        · rintro ⟨j, h1, h2, h3⟩
          obtain ⟨i', g1, g2, g3⟩ := (HZ3.out.mem (rowf l j)).1 (mem_rowf.2 ⟨j, by have := HLM.out; omega, rfl⟩)
          have : i' = i := by omega
          subst this
          exact ⟨g3, h3⟩
        · rintro ⟨h1, h2⟩
          obtain ⟨j, g1, g2⟩ := mem_rowf.1 ((HZ3.out.mem (i : Int)).2 ⟨i, hi, rfl, h1⟩)
          exact ⟨j, by have := HLM.out; omega, g2.symm, h2⟩)
      have HMB := hid (show ∀ q, Mb ss (ldL P) on (k : Int) q ↔ (csAt ss q &&& s != 0) = true from fun q => by
        rw [bne_iff_ne, and_ne]
        constructor
        · rintro ⟨g, h1, h2, h3, h4⟩
          exact ⟨g, h3, (HGO.out g h1).2 ⟨h2, by rw [HLDV.out] at h4; exact h4⟩⟩
        · rintro ⟨g, h1, h2⟩
          have hg : g < 64 := by
            refine Nat.lt_of_not_le fun hge => ?_
            rw [HE4.out.u.bit hge] at h2
            cases h2
          obtain ⟨h3, h4⟩ := (HGO.out g hg).1 h2
          exact ⟨g, hg, h3, h1, by rw [HLDV.out]; exact h4⟩)
      by_cases hs0 : s = 0
      · subst hs0
        have HN1 := hid (HNO.out fun t' ht' q hq hm => by
          by_cases c : t' < t
          · exact HF.out t' c q hq hm
          · obtain ⟨g, h1, h2, h3, h4⟩ := hm
            have hle : ldF (ldL P) (rowf l t') ≤ ld := by
              rcases Nat.lt_or_eq_of_le (show t ≤ t' by omega) with c2 | c2
              · have := HSR.out t t' (Nat.zero_le _) c2 ht'
                unfold ldR at this
                rw [HX.out, HLDV.out] at this
                omega
              · rw [← c2, HX.out, HLDV.out]
                exact Int.le_refl _
            have := (HGO.out g h1).2 ⟨h2, by omega⟩
            simp at this)
        go_wp2_with fail
        (try simp only [Exit.inBlock, Exit.then])
        refine bodyPost_ret (results_tmp3 rfl _ _ _) rfl ?_
        exact ⟨K3.out.trans K5.out, .inr ⟨rfl, HN1.out⟩⟩
      · have hsz : ((s : Int) == 0) = false := by rw [beq_eq_false_iff_ne]; omega
        have hsz2 : ¬ (s : Int) = 0 := by omega
        have HH5 := hid (HH.out.kp0 (K3.out.trans K5.out))
        have HR5 := hid (HR.out.kp0 (K3.out.trans K5.out))
        have HB5 := hid (HB1.out.kp0 K5.out)
        have ch : w5.cell? ⟨qh, 0, none⟩ = some (.pointer (some ⟨hb, 0, none⟩)) := HB5.out.cell 0
        have cp5 := HH5.out.cell hk64
        have HIX := hid (index_row2 (V := plc n) (f := fun x => csAt ss x &&& s != 0) (g := 46) (bd := #[]) (cb := #[.pointer (some ⟨qh, 0, none⟩), .pointer (some ⟨qg, 0, none⟩)]) (HH5.out.rows k hk64)
          ⟨fun args w => by first | rfl | kernel_rfl, fun W kW x hx => by
            have h1 : W.cell? ⟨qh, 0, none⟩ = some (.pointer (some ⟨hb, 0, none⟩)) := (HB5.out.kp0 kW).cell 0
            have h2 : W.cell? ⟨qg, 0, none⟩ = some (.int .u64 (s : Int)) := (HBG.out.kp0 kW).cell 0
            exact goal_any h1 h2 (HH5.out.kp0 kW).head (HR5.out.kp0 kW) HN.out hx HE4.out.u HC.out⟩
          (fun x hx => by
            obtain ⟨i, h1, h2, _⟩ := ((HP.out k hk64).mem x).1 hx
            exact ⟨i, by have := HN.out; omega, h2⟩) (by have := HPL.out k hk64; omega))
        unfold gsl at cp5 HIX
        have HPK := hid (show (((P k).length : Nat) : Int) = ld from by have := HLDV.out; rwa [ldL_at P hk64] at this)
        go_upto_region 9 with (go_at_call 45; refine HIX.out.mono ?_; rintro e w6 ⟨r, rfl, hx6, k6⟩; have K6 := hid k6; have HX6 := hid hx6; clear k6 hx6)
        have hr6 : -1 ≤ r := by
          rcases HX6.out with ⟨i, h1, h2, _⟩ | ⟨h1, _⟩ <;> omega
        by_cases hr0 : 0 ≤ r
        · obtain ⟨i, hi1, hi2, hi3, hi4⟩ : ∃ i, i < (P k).length ∧ r = (i : Int) ∧ (csAt ss (rowf (P k) i) &&& s != 0) = true ∧ ∀ j, j < i → (csAt ss (rowf (P k) j) &&& s != 0) = false := by
            rcases HX6.out with h | ⟨h1, _⟩
            · exact h
            · omega
          subst hi2
          have HI3 := hid hi3
          have HI4 := hid hi4
          clear hi3 hi4 HX6 hr6
          obtain ⟨p, hp⟩ : ∃ p, rowf (P k) i = p := ⟨_, rfl⟩
          have HPI := hid hp
          have HPM := hid (show p ∈ P k from by rw [← hp]; exact mem_rowf.2 ⟨i, hi1, rfl⟩)
          obtain ⟨pn, hpn1, hpn2, _⟩ := ((HP.out k hk64).mem p).1 HPM.out
          have HY := hid (show ∀ t0, Chs (csAt ss p &&& on) (ldL P) t0 → MvY ss (ldL P) P on (k : Int) p t0 from fun t0 ht => by
            have hbit : on.testBit k = true := by
              obtain ⟨i', g1, g2, g3⟩ := (HZ3.out.mem (rowf l t)).1 (mem_rowf.2 ⟨t, by have := HLM.out; omega, rfl⟩)
              rw [HX.out] at g2
              have : i' = k := by omega
              rwa [this] at g3
            refine ⟨⟨k, hk64, rfl, hbit⟩, by simpa using HPM.out, (HMB.out p).2 (by rw [← HPI.out]; exact HI3.out), ht, fun j hj hbj hr q hq hm => ?_, fun q hq hr hm => ?_⟩
            · obtain ⟨a, ha1, ha2⟩ := mem_rowf.1 ((HZ3.out.mem (j : Int)).2 ⟨j, hj, rfl, hbj⟩)
              by_cases c : a < t
              · refine HF.out a c q ?_ ?_
                · rw [← ha2]; simpa using hq
                · rw [← ha2]; exact hm
              · rcases Nat.lt_or_eq_of_le (show t ≤ a by omega) with c2 | c2
                · have := HSR.out t a (Nat.zero_le _) c2 (by have := HLM.out; omega)
                  rw [HX.out, ← ha2] at this
                  exact ldR_irr _ _ (ldR_tr hr this)
                · rw [← c2, HX.out] at ha2
                  rw [ha2] at hr
                  exact ldR_irr _ _ hr
            · simp only [Int.toNat_natCast] at hq
              obtain ⟨a, ha1, ha2⟩ := mem_rowf.1 hq
              have hs := pair_srt (HP.out k hk64).srt
              by_cases c : a < i
              · have h1 := HI4.out a c
                rw [← ha2] at h1
                have h2 := (HMB.out q).1 hm
                rw [h1] at h2
                cases h2
              · rcases Nat.lt_or_eq_of_le (show i ≤ a by omega) with c2 | c2
                · have := hs i a (Nat.zero_le _) c2 ha1
                  rw [HPI.out, ← ha2] at this
                  exact ordR_irr _ _ (ordR_tr hr this)
                · rw [← c2, HPI.out] at ha2
                  rw [ha2] at hr
                  exact ordR_irr _ _ hr)
          have HH6 := hid (HH5.out.kp0 K6.out)
          have HR6 := hid (HR5.out.kp0 K6.out)
          have ch6 : w6.cell? ⟨qh, 0, none⟩ = some (.pointer (some ⟨hb, 0, none⟩)) := (HB5.out.kp0 K6.out).cell 0
          have cp6 := HH6.out.cell hk64
          unfold gsl at cp6
          obtain ⟨kb, hkb⟩ : ∃ kb, bs k = some kb := by
            rcases hb0 : bs k with _ | kb
            · have h1 := HH6.out.rows k hk64
              rw [hb0] at h1
              obtain ⟨h2, _, _⟩ := h1.none_nil
              omega
            · exact ⟨kb, rfl⟩
          have crow : w6.cell? ⟨kb, i, none⟩ = some (.int .i64 p) := by
            have h1 := HH6.out.rows k hk64
            rw [hkb] at h1
            have h2 := h1.cell hi1
            rw [← hp]
            exact h2
          rw [hkb] at cp6
          subst hpn2
          have chd := HH6.out.head
          obtain ⟨ba, oa, rfl⟩ := HR.out.there (by omega)
          have cst : w6.cell? ⟨ba, oa + pn * 3 + 2, none⟩ = some (.int .u64 ((csAt ss (pn : Int) : Nat) : Int)) := by
            have h1 := HR6.out.cell (j := pn) (i := 2) (Kp.refl No _) (by omega) (by omega) rfl
            rw [← Nat.add_assoc] at h1
            rw [h1]
            unfold csAt
            rw [Int.toNat_natCast]
            rfl
          have HCH := hid (lchoose_any (w := w6) (HC.out (pn : Int)).and (((HLB.out.kp0 K5.out).kp0 K6.out).rw (S := Anyb) fun _ _ => trivial) (ldL_len P) (cs := csAt ss (pn : Int) &&& on))
          obtain ⟨cv, hcv⟩ : ∃ cv, csAt ss (pn : Int) = cv := ⟨_, rfl⟩
          have hbits := and_bits (HC.out (pn : Int)) HO.out
          rw [hcv] at cst HCH hbits HY
          have gpn : (pn : Int) < (n : Int) := by have := HN.out; omega
          have gik : (i : Int) < ld := by rw [← HPK.out]; omega
          simp only [ga, Option.map_some] at *
          have gik2 : (i : Int) < (((P k).length : Nat) : Int) := by omega
          have g0i : (0 : Int) ≤ (i : Int) := by omega
          clear hp hcv hkb
          go_wp2_with (go_at_call 13; refine HCH.out.mono ?_; rintro e w7 ⟨t0, rfl, hc7, k7⟩; have HC7 := hid hc7; have K7 := hid k7; clear hc7 k7)
          (try simp only [Exit.inBlock, Exit.then])
          refine bodyPost_ret (results_tmp3 rfl _ _ _) rfl ?_
          exact ⟨((K3.out.trans K5.out).trans K6.out).trans K7.out, .inl ⟨(k : Int), (pn : Int), t0, rfl, HY.out t0 HC7.out⟩⟩
        · obtain rfl : r = -1 := by omega
          have HNX := hid (show ∀ q ∈ P k, ¬ Mb ss (ldL P) on (k : Int) q from fun q hq hm => by
            rcases HX6.out with ⟨i, _, h2, _⟩ | ⟨_, h2⟩
            · omega
            · obtain ⟨j, hj, e⟩ := mem_rowf.1 hq
              have h3 := (HMB.out q).1 hm
              rw [e, h2 j hj] at h3
              cases h3)
          go_wp2_with fail
          go_roundw
          case rel =>
            refine ⟨t + 1, by go_num, hlt, hid (K5.out.trans K6.out), hid fun t' ht' => ?_⟩
            by_cases c : t' = t
            · rw [c, HX.out]
              simpa using HNX.out
            · exact HF.out t' (by omega)
          case measure => simp [vNum] <;> omega
    · obtain rfl : t = m := by omega
      have glt : ¬ (t : Int) < (t : Int) := by omega
      have HN1 := hid (HNO.out HF.out)
      go_wp2_with fail
      (try simp only [Exit.inBlock, Exit.then])
      refine bodyPost_ret (results_tmp3 rfl _ _ _) rfl ?_
      exact ⟨K3.out.trans HK.out, .inr ⟨rfl, HN1.out⟩⟩
end
end Go.Proofs.Ytoeeighfjoplhaa
