/-
  Contract of the document's Path.
-/
import Derived.Test.YtggmdgdgljlddaaNRefA
namespace Go.Proofs.Ytggmdgdgljlddaa
open Go.RowKit

section
variable {T : Tre} {D : Int → Nat} {w w' : World} {S P : Nat → Prop} {r : Nat} {v : Value} {L : List (Int × Int)} {x : Int}
set_option maxHeartbeats 1000000 in
set_option maxRecDepth 100000 in
theorem rpath_any (h : RT w P r v L) (hl : LT L T) (W : WT T D) (hx : I64 x) : Calls Try.prog 22 #[.pointer (some ⟨r, 0, none⟩), .int .i64 x] w fun e w' => ∃ u, e = .returned u ∧ Ow w' w.heap.size 3 1 zf u (path T x) ∧ Kp No w w' := by
  have HW := hid W
  have HR := hid h
  have HL := hid hl
  have hpl := path_le W x
  obtain ⟨X, hX⟩ : ∃ X, path T x = X := ⟨_, rfl⟩
  rw [hX] at hpl ⊢
  have HX := hid hX
  clear W h hX hl
  go_enter Try.func22, Try.ntmps22
  go_wp2_with fail
  go_loopw [1, 5] (fun i u wr => ∃ (y : Int) (pre : List Int), i = .int .i64 y ∧ I64 y ∧ Hid (X = pre ++ path T y) ∧ Hid (Ow wr w.heap.size 3 1 zf u pre) ∧ Hid (Kp No w wr)) (fun i _ _ => (path T (intOf i)).length)
  case atStart => exact ⟨x, [], rfl, hx, hid (by rw [HX.out]; rfl), hid (Ow.nil _ _ _ _ _), hid (Kp.refl _ _)⟩
  case round =>
    obtain ⟨y, pre, rfl, hy, HE, HO, KW⟩ := hrel
    cases hT : T y with
    | none =>
      have HNIL := hid (path_nil HW.out (.inl hT))
      by_cases hp : 0 < y
      · go_wp2_with (first
          | (go_at_call 14
             refine (rhas_any (HR.out.kp0 KW.out) HL.out HW.out y).mono ?_
             rintro e w2 ⟨rfl, rfl⟩
             rw [hT]
             simp only [Option.isSome_none]))
        go_ret
        have := HE.out
        rw [HNIL.out, List.append_nil] at this
        rw [this]
        exact ⟨_, rfl, HO.out, KW.out⟩
      · go_wp2_with fail
        go_ret
        have := HE.out
        rw [HNIL.out, List.append_nil] at this
        rw [this]
        exact ⟨_, rfl, HO.out, KW.out⟩
    | some q =>
      by_cases h0 : y = 0
      · have HNIL := hid (path_nil HW.out (.inr h0))
        have hp : ¬ 0 < y := by omega
        clear h0
        go_wp2_with fail
        go_ret
        have := HE.out
        rw [HNIL.out, List.append_nil] at this
        rw [this]
        exact ⟨_, rfl, HO.out, KW.out⟩
      · have hp : 0 < y := by have := HW.out.rg y q hT h0; omega
        have HPAR := hid (par_some hT)
        have HC := hid (path_cons HW.out hT h0)
        obtain ⟨q', hup⟩ := HW.out.up y q hT h0
        have hlow := HW.out.low hup
        have hqi : I64 q.1 := by unfold I64; omega
        have hlen : pre.length ≤ 16 := by have := HE.out; rw [this, List.length_append] at hpl; omega
        have KA := hid (KW.out.alloc (.cells #[.int .i64 y] 3))
        have OA := hid (HO.out.kp0 ((Kp.refl No wr).alloc (.cells #[.int .i64 y] 3)))
        have z0 := (Blk.new wr 3 #[.int .i64 y]).cell 0
        have HZ := hid z0
        clear h0 hup hlow z0
        go_wp2_with (first
          | (go_at_call 14
             refine (rhas_any (HR.out.kp0 KW.out) HL.out HW.out y).mono ?_
             rintro e w2 ⟨rfl, rfl⟩
             rw [hT]
             simp only [Option.isSome_some])
          | (at_builtin
             refine wp_app1 usI zf_one rfl (.tmp 13) (.tmp 15) rfl (base := w.heap.size) (xs := pre) (y := y) (by exact OA.out) rfl (by
               intro i hi
               match i, hi with
               | 0, _ => exact HZ.out) (by omega) (by simp only [maxLen]; omega) (by exact KA.out.size) ?_
             intro v5 w5 o5 k5 p5
             have O5 := hid o5
             have K5 := hid (KA.out.grown k5 fun i hi => .inr (OA.out.blk hi).1)
             clear o5 k5 p5)
          | (go_at_call 16
             refine (rparent_any (HR.out.kp0 K5.out) HL.out HW.out y).mono ?_
             rintro e w6 ⟨rfl, rfl⟩
             rw [HPAR.out]))
        go_roundw
        case rel => exact ⟨q.1, pre ++ [y], rfl, hqi, hid (by rw [HE.out, HC.out, List.append_assoc]; rfl), O5, K5⟩
        case measure =>
          simp only [intOf]
          rw [HC.out, List.length_cons]
          omega
end
end Go.Proofs.Ytggmdgdgljlddaa
