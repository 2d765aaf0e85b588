/-
  A queue of the call's own, and two apart from each other; contracts: the document's Same, awake, walked.
-/
import Derived.Test.YtpbnmfoecmhnnaaQOpen
namespace Go.Proofs.Ytpbnmfoecmhnnaa
open Go.RowKit

/-- From a on nothing old has turned; a queue of the call's own stands at g. -/
structure QI (a w : World) (g mb sg : Nat) (s : Qs) : Prop where
  kept : Kp No a w
  ex : ∃ T, Qu w g mb sg T s ∧ ∀ i, QB g mb T i → a.heap.size ≤ i

section
variable {a b w w' w1 w2 : World} {g mb sg : Nat} {S T : Nat → Prop} {s s' : Qs}
theorem QI.ok (h : QI a w g mb sg s) : QOk s := by
  obtain ⟨T, h1, _⟩ := h.ex
  exact h1.ok
theorem QI.kp0 (h : QI a w g mb sg s) (k : Kp No w w') : QI a w' g mb sg s := by
  obtain ⟨T, h1, h2⟩ := h.ex
  exact ⟨h.kept.trans k, T, h1.kp0 k, h2⟩
theorem QI.kp {p : Nat} (h : QI a w g mb sg s) (k : Kp (Only p) w w') (hb : w.heap.size ≤ p) : QI a w' g mb sg s := by
  obtain ⟨T, h1, h2⟩ := h.ex
  refine ⟨h.kept.step k fun i hi e => absurd hi (by have : i = p := e; have := h.kept.size; omega), _, h1.trim.only k (h1.new hb), fun i hi => h2 i (hi.imp id fun h => h.imp id fun h => h.1)⟩
theorem QI.lower (h : QI a w g mb sg s) (k : Kp No b a) : QI b w g mb sg s := by
  obtain ⟨T, h1, h2⟩ := h.ex
  exact ⟨k.trans h.kept, T, h1, fun i hi => Nat.le_trans k.size (h2 i hi)⟩
theorem QI.step (h : QI a w g mb sg s) {R : Ending → World → Prop} {f : FuncId} {args : Array Value} {v : Value}
    (hc : ∀ T, Qu w g mb sg T s → Calls Try.prog f args w fun e w' => e = .returned v ∧ OpR w w' g mb sg T s') (hR : ∀ w', QI a w' g mb sg s' → R (.returned v) w') : Calls Try.prog f args w R := by
  obtain ⟨T, h1, h2⟩ := h.ex
  refine (hc T h1).mono fun e w' ⟨he, r1, r2⟩ => ?_
  subst he
  have hs := h.kept.size
  exact hR w' ⟨h.kept.step r1 fun i hi e => absurd (h2 i e) (by omega), _, r2, fun i hi => by
    rcases hi with e | e | e
    · exact h2 i (.inl e)
    · exact h2 i (.inr (.inl e))
    · rcases e.1 with e | e
      · exact h2 i (.inr (.inr e))
      · omega⟩
theorem newQ (a : World) : Calls Try.prog 38 #[] a fun e w' => ∃ g mb sg, e = .returned (.pointer (some ⟨g, 0, none⟩)) ∧ QI a w' g mb sg q0 :=
  (newq_any a).mono fun _ _ ⟨g, mb, sg, T, h1, h2, h3, h4, h5, h6⟩ => ⟨g, mb, sg, h1, h2, T, h3, fun i hi => by
    rcases hi with e | e | e
    · omega
    · omega
    · exact h6 i e⟩
theorem QI.join (h : QI a w g mb sg s) (m : Mb) (hi : I64 m.id) :
    Calls Try.prog 51 #[.pointer (some ⟨g, 0, none⟩), .agg #[.int .i64 m.id, .int .i64 m.w, .int .i64 m.v, .int .i64 m.r]] w fun e w' => e = .returned (.int .i64 (joinE s m)) ∧ QI a w' g mb sg (joinS s m) :=
  h.step (fun _ q => join_any q m hi) fun _ hq => ⟨rfl, hq⟩
theorem QI.run (h : QI a w g mb sg s) {k : Int} (hk : I64 k) (n : Int) :
    Calls Try.prog 52 #[.pointer (some ⟨g, 0, none⟩), .int .i64 k, .int .i64 n] w fun e w' => e = .returned (.int .i64 (runE s k n)) ∧ QI a w' g mb sg (runS s k n) :=
  h.step (fun _ q => run_all q hk n) fun _ hq => ⟨rfl, hq⟩
theorem QI.weigh (h : QI a w g mb sg s) {k : Int} (hk : I64 k) (n : Int) :
    Calls Try.prog 53 #[.pointer (some ⟨g, 0, none⟩), .int .i64 k, .int .i64 n] w fun e w' => e = .returned (.int .i64 (weighE s k n)) ∧ QI a w' g mb sg (weighS s k n) :=
  h.step (fun _ q => weigh_all q hk n) fun _ hq => ⟨rfl, hq⟩
theorem QI.leave (h : QI a w g mb sg s) {k : Int} (hk : I64 k) :
    Calls Try.prog 50 #[.pointer (some ⟨g, 0, none⟩), .int .i64 k] w fun e w' => e = .returned (.tuple #[.agg #[.int .i64 (leaveM s k).id, .int .i64 (leaveM s k).w, .int .i64 (leaveM s k).v, .int .i64 (leaveM s k).r], .int .i64 (leaveE s k)]) ∧ QI a w' g mb sg (leaveS s k) :=
  h.step (fun _ q => leave_all q hk) fun _ hq => ⟨rfl, hq⟩
theorem QI.done (h : QI a w g mb sg s) (o : Qo) (hi : I64 o.m.id) :
    Calls Try.prog 39 #[.pointer (some ⟨g, 0, none⟩), .agg #[.int .i64 o.d, .int .i64 o.m.id, .int .i64 o.m.w, .int .i64 o.m.v, .int .i64 o.m.r, .int .i64 o.n]] w fun e w' =>
      e = .returned (.tuple #[.agg #[.int .i64 (doM s o).id, .int .i64 (doM s o).w, .int .i64 (doM s o).v, .int .i64 (doM s o).r], .int .i64 (doE s o)]) ∧ QI a w' g mb sg (doS s o) :=
  h.step (fun _ q => do_any q o hi) fun _ hq => ⟨rfl, hq⟩
theorem QI.base (h : QI a w g mb sg s) : Calls Try.prog 43 #[.pointer (some ⟨g, 0, none⟩)] w fun e w' => e = .returned (.int .i64 s.base) ∧ w' = w := by
  obtain ⟨T, h1, _⟩ := h.ex
  exact base_any h1
theorem QI.all (h : QI a w g mb sg s) : Calls Try.prog 45 #[.pointer (some ⟨g, 0, none⟩)] w fun e w' => ∃ v, e = .returned v ∧ Kp No w w' ∧ Ow w' w.heap.size 67 4 mc v (s.l.map (tl s.base)) := by
  obtain ⟨T, h1, _⟩ := h.ex
  exact allq_any h1
/-- What Get tells. -/
def getM (s : Qs) (k : Int) : Mb := match finM s.l k with | some m => tl s.base m | none => mb0
def getB (s : Qs) (k : Int) : Bool := (finM s.l k).isSome
theorem QI.get (h : QI a w g mb sg s) {k : Int} (hk : I64 k) : Calls Try.prog 47 #[.pointer (some ⟨g, 0, none⟩), .int .i64 k] w fun e w' => e = .returned (.tuple #[.agg #[.int .i64 (getM s k).id, .int .i64 (getM s k).w, .int .i64 (getM s k).v, .int .i64 (getM s k).r], .bool (getB s k)]) ∧ Kp No w w' := by
  obtain ⟨T, h1, _⟩ := h.ex
  unfold getM getB
  cases hf : finM s.l k with
  | none => exact get_none h1 hk hf
  | some y => exact get_some h1 hf

set_option maxRecDepth 100000 in
set_option maxHeartbeats 1000000 in
theorem awakeq_any (w : World) : Calls Try.prog 37 #[] w fun e w' => e = .returned (.bool true) ∧ Kp No w w' := by
  go_enter Try.func37, Try.ntmps37
  go_wp2_with fail
  refine (newQ w).mono ?_
  rintro e w1 ⟨g, mb, sg, rfl, h1⟩
  go_wp2_with fail
  refine (h1.join ⟨1, 1, 0, 0⟩ ⟨by decide, by decide⟩).mono ?_
  rintro e w2 ⟨rfl, h2⟩
  rw [show joinE q0 ⟨1, 1, 0, 0⟩ = 0 by kernel_rfl]
  rw [show joinS q0 ⟨1, 1, 0, 0⟩ = ⟨0, [⟨1, 1, 0, 0⟩]⟩ by kernel_rfl] at h2
  go_wp2_with fail
  refine (h2.join ⟨2, 2, 0, 0⟩ ⟨by decide, by decide⟩).mono ?_
  rintro e w3 ⟨rfl, h3⟩
  rw [show joinE ⟨0, [⟨1, 1, 0, 0⟩]⟩ ⟨2, 2, 0, 0⟩ = 0 by kernel_rfl]
  rw [show joinS ⟨0, [⟨1, 1, 0, 0⟩]⟩ ⟨2, 2, 0, 0⟩ = ⟨0, [⟨1, 1, 0, 0⟩, ⟨2, 2, 0, 0⟩]⟩ by kernel_rfl] at h3
  go_wp2_with fail
  refine (h3.run (k := 1) (by unfold I64; omega) 1).mono ?_
  rintro e w4 ⟨rfl, h4⟩
  rw [show runE ⟨0, [⟨1, 1, 0, 0⟩, ⟨2, 2, 0, 0⟩]⟩ 1 1 = 0 by kernel_rfl]
  rw [show runS ⟨0, [⟨1, 1, 0, 0⟩, ⟨2, 2, 0, 0⟩]⟩ 1 1 = ⟨0, [⟨2, 2, 0, 0⟩, ⟨1, 1, 1048576, 0⟩]⟩ by kernel_rfl] at h4
  go_wp2_with fail
  refine h4.base.mono ?_
  rintro e w5 ⟨rfl, rfl⟩
  go_wp2_with fail
  refine (h4.run (k := 2) (by unfold I64; omega) 1).mono ?_
  rintro e w6 ⟨rfl, h6⟩
  rw [show runE ⟨0, [⟨2, 2, 0, 0⟩, ⟨1, 1, 1048576, 0⟩]⟩ 2 1 = 0 by kernel_rfl]
  rw [show runS ⟨0, [⟨2, 2, 0, 0⟩, ⟨1, 1, 1048576, 0⟩]⟩ 2 1 = ⟨524288, [⟨2, 2, 524288, 0⟩, ⟨1, 1, 1048576, 0⟩]⟩ by kernel_rfl] at h6
  go_wp2_with fail
  refine (h6.get (k := 1) (by unfold I64; omega)).mono ?_
  rintro e w7 ⟨rfl, k7⟩
  rw [show getM ⟨524288, [⟨2, 2, 524288, 0⟩, ⟨1, 1, 1048576, 0⟩]⟩ 1 = ⟨1, 1, 524288, 0⟩ by kernel_rfl, show getB ⟨524288, [⟨2, 2, 524288, 0⟩, ⟨1, 1, 1048576, 0⟩]⟩ 1 = true by kernel_rfl]
  have h7 := h6.kp0 k7
  have h8 := h7.kp0 ((Kp.refl No w7).alloc (.cells #[.int .i64 1, .int .i64 1, .int .i64 524288, .int .i64 0] 67))
  clear h1 h2 h3 h4 h6
  go_wp2_with fail
  refine h8.base.mono ?_
  rintro e w8 ⟨rfl, rfl⟩
  go_wp2_with fail
  go_ret
  exact ⟨rfl, h8.kept⟩

def playQ (ops : List Qo) : Qs := ops.foldl doS q0
theorem playQ_snoc (ops : List Qo) (o : Qo) : playQ (ops ++ [o]) = doS (playQ ops) o := by simp [playQ]

set_option maxRecDepth 100000 in
set_option maxHeartbeats 1000000 in
theorem walkedq_any {v : Value} {ops : List Qo} (hv : Rw 6 qc qo0 w Anyb v ops) (hi : ∀ o ∈ ops, I6 o) (hl : ops.length ≤ 60) :
    Calls Try.prog 49 #[v] w fun e w' => ∃ g mb sg, e = .returned (.pointer (some ⟨g, 0, none⟩)) ∧ QI w w' g mb sg (playQ ops) := by
  have HV := hid hv
  obtain ⟨A, vc, rfl, hc, hm, hr⟩ := hv
  clear hr
  simp only [maxLen] at hm
  have HI := hid hi
  clear hi
  go_enter Try.func49, Try.ntmps49
  go_wp2_with fail
  refine (newQ w).mono ?_
  rintro e w1 ⟨g, mb, sg, rfl, h1⟩
  have H1 := hid h1
  clear h1
  go_wp2_with fail
  go_loopw [4] (fun i wr => ∃ k : Nat, k ≤ ops.length ∧ i = .int .i64 (k : Int) ∧ Hid (QI w wr g mb sg (playQ (ops.take k)))) (fun i _ => ops.length - (intOf i).toNat)
  case atStart => exact ⟨0, by omega, rfl, by simpa [playQ] using H1⟩
  case round =>
    obtain ⟨k, hk, rfl, H⟩ := hrel
    by_cases hlt : k < ops.length
    · have hki : (k : Int) < (ops.length : Int) := by omega
      obtain ⟨ob, oo, hA⟩ := HV.out.there (by omega)
      subst hA
      have c0 := HV.out.cell H.out.kept hlt (i := 0) (by omega) rfl
      have c1 := HV.out.cell H.out.kept hlt (i := 1) (by omega) rfl
      have c2 := HV.out.cell H.out.kept hlt (i := 2) (by omega) rfl
      have c3 := HV.out.cell H.out.kept hlt (i := 3) (by omega) rfl
      have c4 := HV.out.cell H.out.kept hlt (i := 4) (by omega) rfl
      have c5 := HV.out.cell H.out.kept hlt (i := 5) (by omega) rfl
      have HT := hid (take_at ops qo0 hlt)
      have ho6 := HI.out (ops.getD k qo0) (by simp [List.getD, hlt])
      generalize ops.getD k qo0 = o at c0 c1 c2 c3 c4 c5 HT ho6
      have HO := hid ho6
      clear ho6
      simp only [qc, Nat.add_zero] at c0 c1 c2 c3 c4 c5
      rw [← Nat.add_assoc] at c1 c2 c3 c4 c5
      go_wp2_with fail
      refine (H.out.done o HO.out.i).mono ?_
      rintro e w2 ⟨rfl, h2⟩
      have H2 := hid h2
      clear h2 c0 c1 c2 c3 c4 c5
      go_wp2_with fail
      go_roundw
      case rel => exact ⟨k + 1, by omega, by go_num, hid (by rw [HT.out, playQ_snoc]; exact H2.out)⟩
      case measure => simp [intOf]; omega
    · have hk2 : k = ops.length := by omega
      subst hk2
      go_wp2_with fail
      go_ret
      exact ⟨g, mb, sg, rfl, by have := H.out; rwa [List.take_length] at this⟩

set_option maxRecDepth 100000 in
theorem sameq_any {u v : Value} {l : List Mb} (hu : Rw 4 mc mb0 w Anyb u l) (hv : Rw 4 mc mb0 w Anyb v l) (hl : l.length ≤ 1000000) :
    Calls Try.prog 44 #[u, v] w fun e w' => e = .returned (.bool true) ∧ Kp No w w' := by
  have HU := hid hu
  have HV := hid hv
  obtain ⟨A, ca, rfl, hca, hma, hra⟩ := hu
  obtain ⟨B, cb, rfl, hcb, hmb, hrb⟩ := hv
  clear hra hrb
  simp only [maxLen] at hma hmb
  go_enter Try.func44, Try.ntmps44
  go_wp2_with fail
  go_loopw [5] (fun i wr => ∃ k : Nat, k ≤ l.length ∧ i = .int .i64 (k : Int) ∧ Hid (Kp No w wr)) (fun i _ => l.length - (intOf i).toNat)
  case atStart => exact ⟨0, by omega, rfl, hid (Kp.refl No w)⟩
  case round =>
    obtain ⟨k, hk, rfl, K⟩ := hrel
    by_cases hlt : k < l.length
    · obtain ⟨ab, ao, rfl⟩ := HU.out.there (by omega)
      obtain ⟨bb, bo, rfl⟩ := HV.out.there (by omega)
      have c0 := HU.out.cell K.out hlt (i := 0) (by omega) rfl
      have c1 := HU.out.cell K.out hlt (i := 1) (by omega) rfl
      have c2 := HU.out.cell K.out hlt (i := 2) (by omega) rfl
      have c3 := HU.out.cell K.out hlt (i := 3) (by omega) rfl
      have d0 := HV.out.cell K.out hlt (i := 0) (by omega) rfl
      have d1 := HV.out.cell K.out hlt (i := 1) (by omega) rfl
      have d2 := HV.out.cell K.out hlt (i := 2) (by omega) rfl
      have d3 := HV.out.cell K.out hlt (i := 3) (by omega) rfl
      generalize l.getD k mb0 = y at c0 c1 c2 c3 d0 d1 d2 d3
      simp only [mc, Nat.add_zero] at c0 c1 c2 c3 d0 d1 d2 d3
      rw [← Nat.add_assoc] at c1 c2 c3 d1 d2 d3
      go_wp2_with fail
      go_quiet (fail)
      go_wp2_with fail
      go_roundw
      case rel => exact ⟨k + 1, by omega, by go_num, hid (K.out.drewN _)⟩
      case measure => simp [intOf]; omega
    · go_wp2_with fail
      go_ret
      exact ⟨rfl, K.out⟩
end
end Go.Proofs.Ytpbnmfoecmhnnaa
