/-
  What is done with a disk: contracts of the laws' few, do, walked.
-/
import Derived.Test.YtndbkpmfimpgnaaDCrash
import Derived.Test.YtndbkpmfimpgnaaDRot
import Derived.Test.YtndbkpmfimpgnaaDR
import Derived.Test.YtndbkpmfimpgnaaDKept
import Derived.Test.YtndbkpmfimpgnaaDSame
namespace Go.Proofs.Ytndbkpmfimpgnaa
open Go.RowKit

/-- What is done: three numbers, bytes, and a list of bools. -/
structure Dop where
  d : Int
  i : Int
  n : Int
  bv : Value
  bl : List Int
  kv : Value
  kl : List Bool
def dop0 : Dop := ⟨0, 0, 0, .slice none 0 0, [], .slice none 0 0, []⟩
def dc (o : Dop) : Nat → Value
  | 0 => .int .i64 o.d
  | 1 => .int .i64 o.i
  | 2 => .int .i64 o.n
  | 3 => o.bv
  | _ => o.kv
structure OpOk (w : World) (P : Nat → Prop) (o : Dop) : Prop where
  d : I64 o.d
  i : I64 o.i
  n : I64 o.n
  b : Byt w P o.bv o.bl
  k : Sl Value.bool false w P o.kv o.kl
/-- A slice of such that came in. -/
structure Ops (w : World) (P : Nat → Prop) (v : Value) (os : List Dop) : Prop where
  rw : Rw 5 dc dop0 w P v os
  ok : ∀ o ∈ os, OpOk w P o

section
variable {w w' : World} {P S : Nat → Prop} {o : Dop} {v : Value} {os : List Dop}
theorem OpOk.kp (h : OpOk w P o) (k : Kp S w w') (hs : ∀ i, P i → ¬ S i) : OpOk w' P o := ⟨h.d, h.i, h.n, h.b.kp k hs, h.k.kp k fun i _ hp => hs i hp⟩
theorem Ops.kp (h : Ops w P v os) (k : Kp S w w') (hs : ∀ i, P i → ¬ S i) : Ops w' P v os := ⟨h.rw.kp k fun i _ hp => hs i hp, fun o ho => (h.ok o ho).kp k hs⟩
theorem Rw.below' {α : Type} {n : Nat} {f : α → Nat → Value} {d : α} {xs : List α} (h : Rw n f d w P v xs) : Rw n f d w (fun i => i < w.heap.size) v xs := by
  obtain ⟨A, c, rfl, hc, hm, hr⟩ := h
  refine ⟨A, c, rfl, hc, hm, fun h0 => ?_⟩
  obtain ⟨b, o, e, h1, h2, h3⟩ := hr h0
  exact ⟨b, o, e, h1, h1, h3⟩
theorem Ops.below (h : Ops w P v os) : Ops w (fun i => i < w.heap.size) v os := ⟨h.rw.below', fun o ho => ⟨(h.ok o ho).d, (h.ok o ho).i, (h.ok o ho).n, (h.ok o ho).b.below, (h.ok o ho).k.below⟩⟩

/-- One of them. -/
theorem Ops.at' {A : Option Addr} {n c k : Nat} (h : Ops w P (.slice A n c) os) (hk : k < os.length) : ∃ b o, A = some ⟨b, o, none⟩ ∧ OpOk w P (os.getD k dop0) ∧ (∀ j, j < 5 → w.cell? ⟨b, o + k * 5 + j, none⟩ = some (dc (os.getD k dop0) j)) := by
  obtain ⟨A', c', he, h1, h2, h3⟩ := h.rw
  injection he with e1 e2 e3
  subst e1
  obtain ⟨b, o, e, g1, g2, g3⟩ := h3 (by omega)
  exact ⟨b, o, e, h.ok _ (by simp [List.getD, hk]), fun j hj => by rw [Nat.add_assoc]; exact g3 k j hk hj⟩

def FewPost (w : World) (e : Ending) (w' : World) : Prop := ∃ q : Bool, e = .returned (.bool q) ∧ w' = w
set_option maxRecDepth 100000 in
theorem few_any (h : Ops w P v os) : Calls Try.prog 8 #[v] w (FewPost w) := by
  obtain ⟨A, c, rfl, hc, hm, _⟩ := h.rw
  unfold maxLen at hm
  obtain ⟨n, hn⟩ : ∃ n, os.length = n := ⟨_, rfl⟩
  have HN := hid hn
  have HO := hid h
  rw [hn] at hc ⊢
  rw [hn] at HO
  clear hn h
  go_enter Try.func8, Try.ntmps8
  go_wp2
  go_loop [3] (fun i => ∃ k : Nat, k ≤ n ∧ i = .int .i64 (k : Int)) (fun i => n - (intOf i).toNat)
  case atStart => exact ⟨0, Nat.zero_le _, rfl⟩
  case round =>
    obtain ⟨k, hk, rfl⟩ := hrel
    by_cases hkn : k < n
    · obtain ⟨b, o, rfl, ok, hcell⟩ := HO.out.at' (k := k) (by rw [HN.out]; exact hkn)
      generalize os.getD k dop0 = x at ok hcell
      have c3 := hcell 3 (by omega)
      have c4 := hcell 4 (by omega)
      obtain ⟨B, bc, hb, _, hbm, _⟩ := ok.b
      obtain ⟨K, kc, hkv, _, hkm, _⟩ := ok.k
      simp only [dc] at c3 c4
      rw [hb] at c3
      rw [hkv] at c4
      unfold maxLen at hbm hkm
      generalize x.bl.length = nb at *
      generalize x.kl.length = nk at *
      clear hcell ok hb hkv HO HN
      have hsum := wrapI (x := (k : Int) + 1) (by unfold I64; omega)
      go_wp2
      all_goals first
        | (go_ret; exact ⟨_, rfl, rfl⟩)
        | skip
      all_goals
        go_round
        case rel => exact ⟨k + 1, by omega, by go_num⟩
        case measure => simp [intOf]; omega
    · go_wp2
      go_ret
      exact ⟨_, rfl, rfl⟩
end
end Go.Proofs.Ytndbkpmfimpgnaa
