/-
  What the laws ask of Pack and Unpack, in one form.
-/
import Derived.Test.YthhikjgaljkfpaaDoorPAwake
namespace Go.Proofs.YthhikjgaljkfpaaDoor
open Go.RowKit

section
variable {w w' : World} {P S T : Nat → Prop} {v u : Value} {xs : List Int} {ss : List Sv}
/-- What is packed: bytes of the call's own, or what is wrong. -/
def PkPost (ss : List Sv) (w : World) (e : Ending) (w' : World) : Prop :=
  Kp No w w' ∧ ((Can (ss.map sn) ∧ ∃ u, e = .returned (.tuple #[u, .int .i64 0]) ∧ Own w' w.heap.size 5 u (image (ss.map sn))) ∨
    (∃ x : Int, wrong (ss.map sn) = x ∧ x ≠ 0 ∧ e = .returned (.tuple #[.slice none 0 0, .int .i64 x])))
theorem pack_any (ht : Tab w) (h : Ps w P v ss) : Calls Tryd.prog 11 #[v] w (PkPost ss w) := by
  by_cases hw : wrong (ss.map sn) = 0
  · have hC := (can_iff _).1 hw
    exact (pack_is ht h hC).mono fun e w' ⟨u, he, ho, hk⟩ => ⟨hk, .inl ⟨hC, u, he, ho⟩⟩
  · exact (pack_no h rfl hw).mono fun e w' ⟨he, hk⟩ => ⟨hk, .inr ⟨_, rfl, hw, he⟩⟩
theorem refpack_any (h : Ps w P v ss) : Calls Tryd.prog 12 #[v] w (PkPost ss w) := by
  by_cases hw : wrong (ss.map sn) = 0
  · have hC := (can_iff _).1 hw
    exact (rpack_is h hC).mono fun e w' ⟨u, he, ho, hk⟩ => ⟨hk, .inl ⟨hC, u, he, ho⟩⟩
  · exact (rpack_no h rfl hw).mono fun e w' ⟨he, n, hk⟩ => ⟨by rw [hk]; exact (Kp.refl No w).drewN n, .inr ⟨_, rfl, hw, he⟩⟩
theorem Can.no {l : List Sn} (h : Can l) {x : Int} (hw : wrong l = x) (h0 : x ≠ 0) : False := h0 (by rw [← hw]; exact (can_iff l).2 h)
/-- An image is short where its sections are of a size that is looked at. -/
theorem small_image (hS : Small ss) (hC : Can (ss.map sn)) : (image (ss.map sn)).length ≤ 1725 := by
  have h1 : ∀ l : List Sv, (∀ s ∈ l, s.bl.length ≤ 100) → ((l.map sn).map fun s => s.body.length).sum ≤ 100 * l.length := by
    intro l
    induction l with
    | nil => simp
    | cons s l ih =>
      intro h
      have h1 := h s (List.mem_cons_self ..)
      have h2 := ih fun x hx => h x (List.mem_cons_of_mem _ hx)
      simp only [List.map_cons, List.sum_cons, List.length_cons]
      have h3 : (sn s).body.length = s.bl.length := rfl
      omega
  have h2 := h1 ss fun s hs => by
    rcases hS.2 s hs with h | h
    · exact h
    · have := hC.long (sn s) (List.mem_map.2 ⟨s, hs, rfl⟩)
      have h3 : (sn s).body.length = s.bl.length := rfl
      omega
  have h3 := hC.len
  rw [image_len]
  rw [List.length_map] at h3 ⊢
  omega
theorem UnpPost.ps {u : Value} (how : Ow w' w.heap.size 42 2 pc u ss) (hok : ∀ s ∈ ss, SvOk w' S s) : Ps w' Anyb u ss := ⟨how.rw, fun s hs => ⟨(hok s hs).k, (hok s hs).b.mono fun _ _ _ => trivial⟩⟩
end
end Go.Proofs.YthhikjgaljkfpaaDoor
