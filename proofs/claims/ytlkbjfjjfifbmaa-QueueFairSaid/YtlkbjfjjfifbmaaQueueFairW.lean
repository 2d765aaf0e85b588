/-
  The walk of QueueFair.
-/
import Derived.Test.YtlkbjfjjfifbmaaQFair
import Derived.Test.YtlkbjfjjfifbmaaArgs
namespace Go.Proofs.Ytlkbjfjjfifbmaa
open Go.RowKit

section
variable {a w : World} {n c b o j : Nat} {xs : List Int}
theorem Sl.some_ {A : Option Addr} (h : Sl (Value.int .u32) 0 w Anyb (.slice A n c) xs) (h0 : 0 < xs.length) : ∃ b o, A = some ⟨b, o, none⟩ := by
  obtain ⟨A', c', he, _, _, hr⟩ := h
  obtain ⟨b, o, rfl, _⟩ := hr h0
  cases he
  exact ⟨b, o, rfl⟩
theorem Sl.cell_ (h : Sl (Value.int .u32) 0 a Anyb (.slice (some ⟨b, o, none⟩) n c) xs) (k : Kp No a w) (hj : j < xs.length) : w.cell? ⟨b, o + j, none⟩ = some (.int .u32 (xs.getD j 0)) := by
  obtain ⟨A', c', he, _, _, hr⟩ := h
  obtain ⟨b', o', rfl, hb, _, hc⟩ := hr (by omega)
  cases he
  exact (k.cell (p := ⟨b, o + j, none⟩) hb (fun h => h)).trans (hc j hj)
end
/-- Ints in a block. -/
def il (rs : List Int) : Array Value := (rs.map (Value.int .i64)).toArray
theorem il_get (rs : List Int) {i : Nat} (h : i < rs.length) : (il rs)[i]? = some (.int .i64 (rs.getD i 0)) := by simp [il, List.getD, h]
theorem il_set (rs : List Int) (i : Nat) (u : Int) : (il rs).setIfInBounds i (.int .i64 u) = il (rs.set i u) := by simp [il, List.map_set]
theorem mk_fair {n : Nat} (h : n ≤ 8) (w : World) : (Instr.makeSlice 89 (.int .i64 (n : Int)) (.int .i64 (n : Int))).run Try.prog w = .ok (.slice (some ⟨w.heap.size, 0, none⟩) n n) (w.alloc (.cells (il (List.replicate n 0)) 3)) := by
  obtain ⟨i, hi, hz, hs, hb⟩ := info_parts infoInt
  have hr := run_make (P := Try.prog) w 89 3 i (.int .i64 0) (by kernel_rfl) hi hz .i64 .i64 (n : Int) (n : Int) (by omega) (by omega) (by rw [hb]; omega) (by omega)
  rw [hs] at hr
  simp only [Int.toNat_natCast, Nat.mul_one] at hr
  have e : madeCells (Value.int IntKind.i64 0).cells n = il (List.replicate n 0) := by
    apply Array.ext'
    rw [show (Value.int IntKind.i64 0).cells = #[.int .i64 0] from rfl, toList_madeCells_one]
    simp [il]
  rw [← e]
  exact hr

theorem QN.less {a w : World} {N N' : Nat → Prop} {g mb sg : Nat} {s : Qs} (h : QN a w N g mb sg s) (hN : ∀ i, N' i → N i) : QN a w N' g mb sg s := by
  obtain ⟨k, T, h1, h2, h3⟩ := h
  exact ⟨k, T, h1, fun i hi => ⟨(h2 i hi).1, fun e => (h2 i hi).2 (hN i e)⟩, fun i hi => h3 i (hN i hi)⟩
theorem fair_near {ws rs : List Int} {s : Qs} {t : Nat} (hq : QOk s) (f : FairI ws rs s t) {j : Nat} (hj : j < s.l.length) :
    0 ≤ ((toldQ s).getD j mb0).v ∧ ((toldQ s).getD j mb0).v ≤ 2305843009213693952 ∧ 0 ≤ ((toldQ s).getD 0 mb0).v ∧ ((toldQ s).getD 0 mb0).v ≤ 2305843009213693952 ∧ 1 ≤ ((toldQ s).getD j mb0).w ∧ ((toldQ s).getD j mb0).w ≤ 1048576 ∧
      ((toldQ s).getD j mb0).v - ((toldQ s).getD 0 mb0).v ≤ 1048576 / ((toldQ s).getD j mb0).w + 1 := by
  have hj0 : 0 < s.l.length := by omega
  have e1 : (toldQ s).getD j mb0 = tl s.base (s.l.getD j mb0) := by simp [toldQ, List.getD, hj]
  have e0 : (toldQ s).getD 0 mb0 = tl s.base (s.l.getD 0 mb0) := by simp [toldQ, List.getD, hj0]
  have m1 := getD_mem hj
  have m0 := getD_mem hj0
  have o1 := hq.ok _ m1
  have o0 := hq.ok _ m0
  have b1 := hq.b1
  have n1 := f.near _ m1 _ m0
  have := o1.v1
  have := o1.v2
  have := o0.v1
  have := o0.v2
  have := o1.w1
  have := o1.w2
  rw [e1, e0]
  simp only [tl]
  omega

set_option maxRecDepth 100000 in
set_option maxHeartbeats 4000000 in
theorem queueFair_walk (w : World) (v : Value) (t : Int) {xs : List Int} (hv : Sl (Value.int .u32) 0 w Anyb v xs ∧ ∀ z ∈ xs, (Lit.int .u32 z).wf = true) (ht : 0 ≤ t ∧ t ≤ 255) :
    Calls Try.prog 13 #[v, .int .u8 t] w fun e w' => e = .returned (.bool true) ∧ Kp No w w' := by
  have HV := hid hv.1
  have HX := hid hv.2
  obtain ⟨hv1, _⟩ := hv
  obtain ⟨A, c, rfl, hc, hm, _⟩ := hv1
  simp only [maxLen] at hm
  obtain ⟨n, rfl⟩ : ∃ n : Nat, t = (n : Int) := ⟨t.toNat, by omega⟩
  have hn : n ≤ 255 := by omega
  clear ht
  go_enter Try.func13, Try.ntmps13
  go_wp2_with fail
  refine (awakeq_any w).mono ?_
  rintro e w1 ⟨rfl, k1⟩
  have K1 := hid k1
  have V1 := hid (HV.out.kp k1 fun _ _ _ h => h)
  clear k1 HV
  by_cases h8 : 8 < xs.length
  · have hi8 : (8 : Int) < (xs.length : Int) := by omega
    go_wp2_with fail
    go_ret
    exact ⟨rfl, K1.out⟩
  have hi8 : ¬ (8 : Int) < (xs.length : Int) := by omega
  by_cases h0 : xs.length = 0
  · rw [h0] at hi8
    simp only [h0]
    go_wp2_with fail
    go_ret
    exact ⟨rfl, K1.out⟩
  have hb1 : decide ((8 : Int) < (xs.length : Int)) = false := by simp; omega
  have hb2 : ((xs.length : Int) == 0) = false := by rw [beq_eq_false_iff_ne]; omega
  obtain ⟨b, o, hA⟩ := V1.out.some_ (by omega)
  subst hA
  go_wp2_with fail
  clear hb1 hb2 hi8
  refine (newQ w1).mono ?_
  rintro e w2 ⟨g, mb, sg, rfl, h2⟩
  have H2 := hid h2
  clear h2
  obtain ⟨ws, hws⟩ : ∃ ws : List Int, xs.map (fun z => 1 + z % 1048576) = ws := ⟨_, rfl⟩
  have WL : ws.length = xs.length := by rw [← hws]; simp
  have WG : ∀ k, k < xs.length → ws.getD k 0 = 1 + xs.getD k 0 % 1048576 := fun k hk => by rw [← hws]; simp [List.getD, hk]
  have WG := hid WG
  clear hws
  go_wp2_with fail
  go_loopw [7] (fun i wr => ∃ (k : Nat) (s : Qs), k ≤ xs.length ∧ i = .int .i64 (k : Int) ∧ Hid (QI w1 wr g mb sg s) ∧ Hid (JI ws k s)) (fun i _ => xs.length - (intOf i).toNat)
  case atStart => exact ⟨0, q0, by omega, rfl, H2, hid (JI.start ws)⟩
  case round =>
    obtain ⟨k, s, hk, rfl, H, J⟩ := hrel
    clear H2
    by_cases hlt : k < xs.length
    · have hki : (k : Int) < (xs.length : Int) := by omega
      have hk0 : ¬ (k : Int) < 0 := by omega
      have cz := V1.out.cell_ H.out.kept hlt
      have hwk := WG.out k hlt
      have zb : 0 ≤ xs.getD k 0 ∧ xs.getD k 0 ≤ 4294967295 := bounds_u32 (HX.out (xs.getD k 0) (by simp [List.getD, hlt]))
      generalize xs.getD k 0 = z at cz hwk zb
      obtain ⟨m, hm'⟩ : ∃ m, z % 1048576 = m := ⟨_, rfl⟩
      rw [hm'] at hwk
      have m0 : 0 ≤ m := by omega
      have m1 : m < 1048576 := by omega
      have f1 : z.tmod 1048576 = m := by rw [Int.tmod_eq_emod_of_nonneg zb.1, hm']
      have f2 := wrapU32 m0 (by omega)
      have f3 : IntKind.i64.wrap m = m := wrapI (by unfold I64; omega)
      have f4 : IntKind.i64.wrap (1 + m) = 1 + m := wrapI (by unfold I64; omega)
      have f5 : IntKind.i64.wrap ((k : Int) + 1) = (k : Int) + 1 := wrapI (by unfold I64; omega)
      have JS := J.out.step (by omega) (by rw [hwk]; omega) (by rw [hwk]; omega)
      rw [hwk] at JS
      have JS := hid JS
      clear hm' zb
      go_wp2_with fail
      refine (H.out.join ⟨(k : Int) + 1, 1 + m, 0, 0⟩ (by unfold I64; simp only; omega)).mono ?_
      rintro e w3 ⟨rfl, h3⟩
      have H3 := hid h3
      rw [JS.out.1]
      clear h3 cz H J
      go_wp2_with fail
      go_roundw
      case rel => exact ⟨k + 1, _, by omega, by go_num, H3, hid JS.out.2⟩
      case measure => simp [intOf]; omega
    · have hk2 : k = xs.length := by omega
      subst hk2
      have hmk := mk_fair (n := xs.length) (by omega)
      clear hlt hk
      go_wp2_with fail
      clear hmk
      have k4 := (Kp.refl No wr).alloc (.cells (il (List.replicate xs.length 0)) 3)
      have b4 := Blk.new wr 3 (il (List.replicate xs.length 0))
      have h4 := (H.out.beside k4).less (N' := fun i => i = wr.heap.size) (fun i hi => by simp; omega)
      have F0 := hid (by rw [← WL] at J; exact J.out.fair H.out.ok fun i hi => by have := WG.out i (by omega); omega)
      have RB := hid (show wr.heap.size < wr.heap.size + 1 by omega)
      generalize wr.alloc (.cells (il (List.replicate xs.length 0)) 3) = w4 at k4 b4 h4 ⊢
      generalize wr.heap.size = R at b4 h4 ⊢
      have B4 := hid b4
      have H4 := hid h4
      rw [← WL] at B4
      clear k4 b4 h4 H J RB
      generalize List.replicate ws.length (0 : Int) = rs0 at B4 F0
      go_loopw [9, 10, 11, 12, 13] (fun tt _ _ _ _ wr => ∃ (k : Nat) (s : Qs) (rs : List Int), k ≤ n ∧ tt = .int .i64 (k : Int) ∧ Hid (QN w1 wr (fun i => i = R) g mb sg s) ∧ Hid (Blk wr R 3 (il rs)) ∧ Hid (FairI ws rs s k)) (fun i _ _ _ _ _ => n - (intOf i).toNat)
      case atStart => exact ⟨0, s, rs0, by omega, rfl, H4, B4, F0⟩
      case round =>
        obtain ⟨k, s, rs, hk, rfl, H, B, F⟩ := hrel
        clear H4 B4 F0
        by_cases hlt : k < n
        · have hki : (k : Int) < (n : Int) := by omega
          have hnw : IntKind.i64.wrap (n : Int) = (n : Int) := wrapI (by unfold I64; omega)
          go_wp2_with fail
          refine H.out.qi.all.mono ?_
          rintro e w5 ⟨u5, rfl, k5, o5⟩
          obtain ⟨y, l, hl⟩ : ∃ y l, s.l = y :: l := by
            cases hs : s.l with
            | nil => have := F.out.len; rw [hs] at this; simp at this; omega
            | cons y l => exact ⟨y, l, rfl⟩
          obtain ⟨i, hi, hid', he, F'⟩ := fair_step H.out.qi.ok F.out (by omega) hl
          have HE := hid he
          have FF := hid F'
          clear he F'
          obtain ⟨A5, c5, rfl⟩ := o5.formN (m := xs.length) (by simp; rw [F.out.len, WL])
          have L5 := o5.rw (d := mb0)
          obtain ⟨lb, lo, rfl⟩ := L5.there (by simp [hl])
          have a0 := L5.cell (Kp.refl No w5) (j := 0) (by simp [hl]) (i := 0) (by omega) rfl
          have a1 := L5.cell (Kp.refl No w5) (j := 0) (by simp [hl]) (i := 1) (by omega) rfl
          have a2 := L5.cell (Kp.refl No w5) (j := 0) (by simp [hl]) (i := 2) (by omega) rfl
          have a3 := L5.cell (Kp.refl No w5) (j := 0) (by simp [hl]) (i := 3) (by omega) rfl
          simp only [hl, List.map_cons, List.getD_cons_zero, mc, tl, Nat.zero_mul, Nat.zero_add, Nat.add_zero] at a0 a1 a2 a3
          rw [hid'] at a0 HE FF
          have H5 := hid (H.out.kp0 k5)
          have B5 := hid (B.out.kp0 k5)
          have hir : i < rs.length := by rw [F.out.rlen]; exact hi
          have RBD := F.out.rb i hi
          have SQ := hid H.out.qi.ok
          clear k5 o5 L5 H B F hid'
          have B6 := hid (B5.out.kp0 ((Kp.refl No w5).alloc (.cells #[.int .i64 ((i : Int) + 1), .int .i64 y.w, .int .i64 (y.v - s.base), .int .i64 y.r] 67)))
          have H6 := hid (H5.out.kp0 ((Kp.refl No w5).alloc (.cells #[.int .i64 ((i : Int) + 1), .int .i64 y.w, .int .i64 (y.v - s.base), .int .i64 y.r] 67)))
          have M6 := hid (Blk.new w5 67 #[.int .i64 ((i : Int) + 1), .int .i64 y.w, .int .i64 (y.v - s.base), .int .i64 y.r])
          have hiL : (i : Int) < (xs.length : Int) := by omega
          have hi0 : ¬ (i : Int) < 0 := by omega
          have f1 : IntKind.i64.wrap ((i : Int) + 1 - 1) = (i : Int) := by rw [Int.add_sub_cancel]; exact wrapI (by unfold I64; omega)
          have hne : w5.heap.size ≠ R := by have := B5.out.lt; omega
          obtain ⟨r, hr⟩ : ∃ r, rs.getD i 0 = r := ⟨_, rfl⟩
          have cr : (w5.alloc (.cells #[.int .i64 ((i : Int) + 1), .int .i64 y.w, .int .i64 (y.v - s.base), .int .i64 y.r] 67)).cell? ⟨R, i, none⟩ = some (.int .i64 r) := by rw [B6.out.cell i, il_get rs hir, hr]
          have fz := B6.out.frozen i
          have hR : R < w5.heap.size + 1 := by have := B5.out.lt; omega
          have f2 : IntKind.i64.wrap (r + 1) = r + 1 := by rw [← hr]; exact wrapI (by unfold I64; omega)
          have kx := Kp.set1 R i (w5.alloc (.cells #[.int .i64 ((i : Int) + 1), .int .i64 y.w, .int .i64 (y.v - s.base), .int .i64 y.r] 67)) (.int .i64 (r + 1))
          have cm := (M6.out.kp kx fun e => hne e).cell 0
          have B7 := B6.out.put i (.int .i64 (r + 1))
          rw [il_set] at B7
          have B7 := hid B7
          have H7 := hid (H6.out.put (p := R) (i := i) rfl (.int .i64 (r + 1)))
          simp only [List.getElem?_toArray, List.getElem?_cons_zero] at cm
          rw [hr] at FF
          generalize rs.set i (r + 1) = rs' at B7 FF
          clear kx H6 H5 B5 B6 M6 hr RBD
          go_wp2_with fail
          refine H7.out.step (fun _ q => run_all q (by unfold I64; omega) 1) ?_
          intro w8 h8' k8
          have H8 := hid h8'
          have B8 := hid (B7.out.kp k8 fun e => e rfl)
          rw [HE.out]
          clear h8' k8 B7 H7 a0 a1 a2 a3 cr fz hR cm hne HE hl
          generalize runS s ((i : Int) + 1) 1 = s' at H8 FF
          go_wp2_with fail
          refine H8.out.qi.all.mono ?_
          rintro e w9 ⟨u9, rfl, k9, o9⟩
          obtain ⟨A9, c9, rfl⟩ := o9.formN (m := xs.length) (by simp; rw [FF.out.len, WL])
          have L9 := hid (show Rw 4 mc mb0 w9 Anyb (.slice A9 xs.length c9) (toldQ s') from o9.rw)
          have H9 := hid (H8.out.kp0 k9)
          have B9 := hid (B8.out.kp0 k9)
          have HL := hid (show (toldQ s').length = xs.length by rw [toldQ_len, FF.out.len, WL])
          have NR := hid fun (j : Nat) (hj : j < xs.length) => fair_near H8.out.qi.ok FF.out (j := j) (by rw [FF.out.len, WL]; exact hj)
          clear k9 o9 H8 B8
          generalize toldQ s' = L at L9 HL NR
          obtain ⟨lb9, lo9, rfl⟩ := L9.out.there (by rw [HL.out]; omega)
          have d2 := L9.out.cell (Kp.refl No w9) (j := 0) (by rw [HL.out]; omega) (i := 2) (by omega) rfl
          simp only [mc, Nat.zero_mul, Nat.zero_add] at d2
          generalize (L.getD 0 mb0).v = lw at NR d2
          go_wp2_with fail
          clear d2
          go_loopw [13] (fun i wr => ∃ j : Nat, j ≤ xs.length ∧ i = .int .i64 (j : Int) ∧ Hid (Kp No w9 wr)) (fun i _ => xs.length - (intOf i).toNat)
          case atStart => exact ⟨0, by omega, rfl, hid (Kp.refl No _)⟩
          case round =>
            obtain ⟨j, hj, rfl, K⟩ := hrel
            by_cases hjl : j < xs.length
            · have hji : (j : Int) < (xs.length : Int) := by omega
              have hj0 : ¬ (j : Int) < 0 := by omega
              have e1 := L9.out.cell K.out (j := j) (by rw [HL.out]; exact hjl) (i := 1) (by omega) rfl
              have e2 := L9.out.cell K.out (j := j) (by rw [HL.out]; exact hjl) (i := 2) (by omega) rfl
              obtain ⟨n1, n2, n3, n4, n5, n6, n7⟩ := NR.out j hjl
              generalize L.getD j mb0 = x at e1 e2 n1 n2 n3 n4 n5 n6 n7
              simp only [mc] at e1 e2
              rw [← Nat.add_assoc] at e1 e2
              obtain ⟨T, hT⟩ : ∃ T, 1048576 / x.w = T := ⟨_, rfl⟩
              have T0 : 0 ≤ T := by rw [← hT]; exact Int.ediv_nonneg (by omega) (by omega)
              have T1 : T ≤ 1048576 := by rw [← hT]; exact Int.ediv_le_self _ (by omega)
              rw [hT] at n7
              have hw0 : ¬ x.w = 0 := by omega
              have g1 : (1048576 : Int).tdiv x.w = T := by rw [Int.tdiv_eq_ediv_of_nonneg (by omega), hT]
              have g2 : IntKind.i64.wrap T = T := wrapI (by unfold I64; omega)
              have g3 : IntKind.i64.wrap (T + 1) = T + 1 := wrapI (by unfold I64; omega)
              have g4 : IntKind.i64.wrap (x.v - lw) = x.v - lw := wrapI (by unfold I64; omega)
              have g5 : IntKind.i64.wrap ((j : Int) + 1) = (j : Int) + 1 := wrapI (by unfold I64; omega)
              have g6 : ¬ T + 1 < x.v - lw := by omega
              clear hT n1 n2 n3 n4 n5 n6 n7 T0 T1
              go_wp2_with fail
              go_quiet (fail)
              go_wp2_with fail
              go_roundw
              case rel => exact ⟨j + 1, by omega, by go_num, hid (K.out.drewN _)⟩
              case measure => simp [intOf]; omega
            · have hj2 : j = xs.length := by omega
              subst hj2
              have H10 := hid (H9.out.kp0 K.out)
              have B10 := hid (B9.out.kp0 K.out)
              go_wp2_with fail
              go_roundw
              case rel => exact ⟨k + 1, _, _, by omega, by go_num, H10, B10, FF⟩
              case measure => simp [intOf]; omega
        · have hk2 : k = n := by omega
          subst hk2
          have hnw : IntKind.i64.wrap (k : Int) = (k : Int) := wrapI (by unfold I64; omega)
          go_wp2_with fail
          go_loopw [14, 15, 16] (fun i _ _ wr => ∃ j : Nat, j ≤ xs.length ∧ i = .int .i64 (j : Int) ∧ Hid (QN w1 wr (fun i => i = R) g mb sg s) ∧ Hid (Blk wr R 3 (il rs))) (fun i _ _ _ => xs.length - (intOf i).toNat)
          case atStart => exact ⟨0, by omega, rfl, H, B⟩
          case round =>
            obtain ⟨j, hj, rfl, H, B⟩ := hrel
            by_cases hjl : j < xs.length
            · have hji : (j : Int) < (xs.length : Int) := by omega
              have hj0 : ¬ (j : Int) < 0 := by omega
              obtain ⟨m, m1, m2, m3, m4, m5, m6, m7, m8, m9, m10⟩ := F.out.wide H.out.qi.ok (i := j) (by rw [WL]; exact hjl) (by omega)
              have hI : I64 ((j : Int) + 1) := by unfold I64; omega
              have hgM : getM s ((j : Int) + 1) = tl s.base m := by unfold getM; rw [m1]
              have hgB : getB s ((j : Int) + 1) = true := by unfold getB; rw [m1]; rfl
              have hb1 := H.out.qi.ok.b1
              have hjr : j < rs.length := by rw [F.out.rlen, WL]; exact hjl
              have g5 : IntKind.i64.wrap ((j : Int) + 1) = (j : Int) + 1 := wrapI (by unfold I64; omega)
              obtain ⟨V, hV⟩ : ∃ V, m.v - s.base = V := ⟨_, rfl⟩
              obtain ⟨ρ, hρ⟩ : ∃ ρ, rs.getD j 0 = ρ := ⟨_, rfl⟩
              rw [hρ] at m2
              have g1 : IntKind.i64.wrap (s.base + V) = m.v := by rw [show s.base + V = m.v by omega]; exact wrapI (by unfold I64; omega)
              rw [Int.mul_comm m.w m.v] at m2 m3 m4
              obtain ⟨X, hX⟩ : ∃ X, 1048576 * ρ = X := ⟨_, rfl⟩
              rw [hX] at m2
              obtain ⟨Y, hY⟩ : ∃ Y, m.v * m.w = Y := ⟨_, rfl⟩
              rw [hY] at m2 m3 m4
              have g2 : IntKind.i64.wrap (m.v * m.w) = Y := by rw [hY]; exact wrapI (by unfold I64; omega)
              have g3 : IntKind.i64.wrap (Y + m.r) = X := by rw [m2]; exact wrapI (by unfold I64; omega)
              have g4 : IntKind.i64.wrap (1048576 * ρ) = X := by rw [hX]; exact wrapI (by unfold I64; omega)
              clear m2 m3 m4 m5 m6 m7 m8 m9 m10 hX hY
              go_wp2_with fail
              refine (H.out.qi.get hI).mono ?_
              rintro e w10 ⟨rfl, k10⟩
              rw [hgM, hgB]
              simp only [tl]
              rw [hV]
              have H11 := hid ((H.out.kp0 k10).kp0 ((Kp.refl No w10).alloc (.cells #[.int .i64 m.id, .int .i64 m.w, .int .i64 V, .int .i64 m.r] 67)))
              have B11 := hid ((B.out.kp0 k10).kp0 ((Kp.refl No w10).alloc (.cells #[.int .i64 m.id, .int .i64 m.w, .int .i64 V, .int .i64 m.r] 67)))
              have M11 := Blk.new w10 67 #[.int .i64 m.id, .int .i64 m.w, .int .i64 V, .int .i64 m.r]
              clear k10 H B hV hgM hgB m1
              go_wp2_with fail
              generalize w10.alloc (.cells #[.int .i64 m.id, .int .i64 m.w, .int .i64 V, .int .i64 m.r] 67) = w11 at H11 B11 M11 ⊢
              have c1 := M11.cell 1
              have c2 := M11.cell 2
              have c3 := M11.cell 3
              simp only [List.getElem?_toArray, List.getElem?_cons_zero, List.getElem?_cons_succ] at c1 c2 c3
              have cr : w11.cell? ⟨R, j, none⟩ = some (.int .i64 ρ) := by rw [B11.out.cell j, il_get rs hjr, hρ]
              clear hρ
              go_quiet ((go_at_call 43; exact Calls.quiet_of_same (H11.out.kp0 ((Kp.refl No _).drewN _)).qi.base))
              go_wp2_with fail
              go_roundw
              case rel => exact ⟨j + 1, by omega, by go_num, hid (H11.out.kp0 ((Kp.refl No _).drewN _)), hid (B11.out.kp0 ((Kp.refl No _).drewN _))⟩
              case measure => simp [intOf]; omega
            · have hj2 : j = xs.length := by omega
              subst hj2
              go_wp2_with fail
              go_ret
              exact ⟨rfl, K1.out.trans H.out.kept⟩
end Go.Proofs.Ytlkbjfjjfifbmaa
