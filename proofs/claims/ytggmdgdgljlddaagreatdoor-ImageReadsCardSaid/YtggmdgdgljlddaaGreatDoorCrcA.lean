/-
  Contracts: enter, of the code and of the document.
-/
import Derived.Test.YtggmdgdgljlddaaGreatDoorRows
import Derived.Test.YtggmdgdgljlddaaGreatDoorBytes
import Derived.Test.YtggmdgdgljlddaaGreatDoorPMatb
import Derived.Deep.QuietTactic
import Derived.BigQuiet
import Derived.IntWalk
import Derived.Laws.BitsAllLaws
namespace Go.Proofs.YtggmdgdgljlddaaGreatDoor
open Go.RowKit

/-- The table at package level reads as the document's. -/
def Tab (w : World) : Prop := ∀ j, j < 16 → w.cell? ⟨0, j, none⟩ = some (.int .u32 ((tb j : Nat) : Int))

theorem and15 (r : Nat) (hr : r < 4294967296) : bits .and .u32 (r : Int) 15 = ((r % 16 : Nat) : Int) := by
  have := u32_and_nat r 15 hr (by omega)
  rwa [show (15 : Nat) = 2 ^ 4 - 1 from rfl, Nat.and_two_pow_sub_one_eq_mod] at this
theorem xor16 (r t : Nat) (hr : r < 4294967296) (ht : t < 4294967296) : bits .xor .u32 ((r : Int) / 16) (t : Int) = ((r / 16 ^^^ t : Nat) : Int) := u32_xor_nat (r / 16) t (by omega) ht

theorem enter_any (c b : Nat) (w : World) (hc : c < 4294967296) (hb : b < 256) (ht : Tab w) :
    Calls Tryz.prog 105 #[.int .u32 (c : Int), .int .u8 (b : Int)] w fun e w' => e = .returned (.int .u32 (en c b : Nat)) ∧ w = w' := by
  have e1 := u32_xor_nat c b hc (by omega)
  have hr : c ^^^ b < 4294967296 := Nat.xor_lt_two_pow (n := 32) hc (by omega)
  have he := en_tb c b
  obtain ⟨r, hrr⟩ : ∃ r, c ^^^ b = r := ⟨_, rfl⟩
  rw [hrr] at e1 hr he
  have e2 := and15 r hr
  have hm := Nat.mod_lt r (show 0 < 16 by decide)
  have hc1 := ht (r % 16) hm
  have e3 := xor16 r (tb (r % 16)) hr (tb_lt _ hm)
  have hs : r / 16 ^^^ tb (r % 16) < 4294967296 := Nat.xor_lt_two_pow (n := 32) (by omega) (tb_lt _ hm)
  obtain ⟨s, hss⟩ : ∃ s, r / 16 ^^^ tb (r % 16) = s := ⟨_, rfl⟩
  rw [hss] at e3 hs he
  have e4 := and15 s hs
  have hm2 := Nat.mod_lt s (show 0 < 16 by decide)
  have hc2 := ht (s % 16) hm2
  have e5 := xor16 s (tb (s % 16)) hs (tb_lt _ hm2)
  rw [← he] at e5
  clear hrr he hss ht
  go_enter Tryz.func105, Tryz.ntmps105
  go_wp2
  go_ret
  exact ⟨rfl, rfl⟩

theorem xorP (c : Nat) (hc : c < 4294967296) : bits .xor .u32 ((c : Int) / 2) 3988292384 = ((c / 2 ^^^ 3988292384 : Nat) : Int) := u32_xor_nat (c / 2) 3988292384 (by omega) (by decide)
theorem st_odd (c : Nat) (h : c % 2 = 1) : st c = c / 2 ^^^ 3988292384 := by unfold st; rw [if_pos h]
theorem st_evn (c : Nat) (h : ¬ c % 2 = 1) : st c = c / 2 := by unfold st; rw [if_neg h, Nat.xor_zero]

theorem refin_any (c b : Nat) (w : World) (hc : c < 4294967296) (hb : b < 256) :
    Calls Tryz.prog 138 #[.int .u32 (c : Int), .int .u8 (b : Int)] w fun e w' => e = .returned (.int .u32 (en c b : Nat)) ∧ w = w' := by
  have e1 := u32_xor_nat c b hc (by omega)
  have hr : c ^^^ b < 4294967296 := Nat.xor_lt_two_pow (n := 32) hc (by omega)
  have he : en c b = stn 8 (c ^^^ b) := rfl
  obtain ⟨r, hrr⟩ : ∃ r, c ^^^ b = r := ⟨_, rfl⟩
  rw [hrr] at e1 hr he
  have HE := hid he
  clear hrr he
  go_enter Tryz.func138, Tryz.ntmps138
  go_wp2
  clear e1
  go_loop [0, 5, 6] (fun n i _ => ∃ k x : Nat, k ≤ 8 ∧ i = .int .i64 k ∧ n = .int .u32 x ∧ x < 4294967296 ∧ Hid (stn k r = x)) (fun _ i _ => 8 - (intOf i).toNat)
  case atStart => exact ⟨0, r, Nat.zero_le _, rfl, rfl, hr, hid rfl⟩
  case round =>
    obtain ⟨k, x, hk, rfl, rfl, hx, HX⟩ := hrel
    have HS := hid (stn_succ k r)
    have hx2 := st_lt hx
    by_cases hlt : k < 8
    · by_cases hodd : x % 2 = 1
      · have e2 := xorP x hx
        have e3 := st_odd x hodd
        rw [← e3] at e2
        have HT := hid e3
        have hb1 : ((x : Int) % 2 == 1) = true := by rw [beq_iff_eq]; omega
        clear e3
        go_wp2
        go_round
        case rel => exact ⟨k + 1, st x, by omega, by go_num, rfl, hx2, hid (by rw [HS.out, HX.out])⟩
        case measure => simp [intOf]; omega
      · have e3 := st_evn x hodd
        have HT := hid e3
        have hb1 : ((x : Int) % 2 == 1) = false := by rw [beq_eq_false_iff_ne]; omega
        clear e3
        go_wp2
        go_round
        case rel => exact ⟨k + 1, st x, by omega, by go_num, by rw [HT.out]; go_num, hx2, hid (by rw [HS.out, HX.out])⟩
        case measure => simp [intOf]; omega
    · go_wp2
      go_ret
      have : k = 8 := by omega
      subst this
      rw [HE.out, HX.out]
      exact ⟨rfl, rfl⟩
end Go.Proofs.YtggmdgdgljlddaaGreatDoor
