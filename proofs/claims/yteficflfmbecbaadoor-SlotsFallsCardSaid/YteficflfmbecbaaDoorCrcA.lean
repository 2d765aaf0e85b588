/-
  Contracts: enter, of the code and of the document.
-/
import Derived.Test.YteficflfmbecbaaDoorRows
import Derived.Test.YteficflfmbecbaaDoorBytes
import Derived.Test.YteficflfmbecbaaDoorCrcMath
import Derived.Deep.QuietTactic
import Derived.BigQuiet
import Derived.IntWalk
import Derived.Laws.BitsAllLaws
namespace Go.Proofs.YteficflfmbecbaaDoor
open Go.RowKit

/-- The table at package level reads as the document's. -/
def Tab (w : World) : Prop := ∀ j, j < 16 → w.cell? ⟨0, j, none⟩ = some (.int .u32 ((tb j : Nat) : Int))

theorem and15 (r : Nat) (hr : r < 4294967296) : bits .and .u32 (r : Int) 15 = ((r % 16 : Nat) : Int) := by
  have := u32_and_nat r 15 hr (by omega)
  rwa [show (15 : Nat) = 2 ^ 4 - 1 from rfl, Nat.and_two_pow_sub_one_eq_mod] at this
theorem xor16 (r t : Nat) (hr : r < 4294967296) (ht : t < 4294967296) : bits .xor .u32 ((r : Int) / 16) (t : Int) = ((r / 16 ^^^ t : Nat) : Int) := u32_xor_nat (r / 16) t (by omega) ht

theorem enter_any (c b : Nat) (w : World) (hc : c < 4294967296) (hb : b < 256) (ht : Tab w) :
    Calls Tryd.prog 76 #[.int .u32 (c : Int), .int .u8 (b : Int)] w fun e w' => e = .returned (.int .u32 (en c b : Nat)) ∧ w = w' := by
  have e1 := u32_xor_nat c b hc (by omega)
  have hr : c ^^^ b < 4294967296 := Nat.xor_lt_two_pow (n := 32) hc (by omega)
  have he := en_tb c b
  obtain ⟨r, hrr⟩ : ∃ r, c ^^^ b = r := ⟨_, rfl⟩
  rw [hrr] at e1 hr he
  have e2 := and15 r hr
  have hm := Nat.mod_lt r (show 0 < 16 by decide)
  have hc1 := ht (r % 16) hm
  have e3 := xor16 r (tb (r % 16)) hr (tb_lt _ hm)
  have hs : r / 16 ^^^ tb (r % 16) < 4294967296 := Nat.xor_lt_two_pow (n := 32) (by omega) (tb_lt _ hm)
  obtain ⟨s, hss⟩ : ∃ s, r / 16 ^^^ tb (r % 16) = s := ⟨_, rfl⟩
  rw [hss] at e3 hs he
  have e4 := and15 s hs
  have hm2 := Nat.mod_lt s (show 0 < 16 by decide)
  have hc2 := ht (s % 16) hm2
  have e5 := xor16 s (tb (s % 16)) hs (tb_lt _ hm2)
  rw [← he] at e5
  clear hrr he hss ht
  go_enter Tryd.func76, Tryd.ntmps76
  go_wp2
  go_ret
  exact ⟨rfl, rfl⟩

theorem xorP (c : Nat) (hc : c < 4294967296) : bits .xor .u32 ((c : Int) / 2) 3988292384 = ((c / 2 ^^^ 3988292384 : Nat) : Int) := u32_xor_nat (c / 2) 3988292384 (by omega) (by decide)
theorem st_odd (c : Nat) (h : c % 2 = 1) : st c = c / 2 ^^^ 3988292384 := by unfold st; rw [if_pos h]
theorem st_evn (c : Nat) (h : ¬ c % 2 = 1) : st c = c / 2 := by unfold st; rw [if_neg h, Nat.xor_zero]

end Go.Proofs.YteficflfmbecbaaDoor
