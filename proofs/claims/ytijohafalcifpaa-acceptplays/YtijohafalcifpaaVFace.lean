/- accept: Votes, Prepare: contracts. -/
import Derived.Test.YtijohafalcifpaaVTold
namespace Go.Proofs.Ytijohafalcifpaa
open Go.RowKit Go.Maps

theorem votes_any {D : Nat → Prop} {p q : Nat} {P : Int} {f : Vf} {c : Nat} (w : World) (h : Ac D w p q P f c) :
    Calls Try.prog 17 #[.pointer (some ⟨p, 0, none⟩)] w fun e w' => ∃ rv, e = .returned rv ∧ VRow 54 0 w.heap.size w' rv (allOf f) ∧ Below w.heap.size w w' := by
  have C := hide (told_any w 1 h)
  clear h
  go_enter Try.func17, Try.ntmps17
  go_wp2_with (go_at_call 27; refine (unhide C).mono ?_; rintro e w' ⟨rv, rfl, h1, h2⟩; have H1 := hide h1; have H2 := hide h2; clear h1 h2)
  go_ret
  exact ⟨_, rfl, unhide H1, unhide H2⟩
theorem numR_no {P b n : Int} {bad : Bool} (hN : noOf P b bad = n) (hn : noOf P b bad ≠ 0) : numR n = n := by
  subst hN
  unfold noOf at hn ⊢
  split
  · rfl
  · split
    · rfl
    · rename_i h1 h2
      rw [if_neg h1, if_neg h2] at hn; exact absurd rfl hn
/-- a refused ballot. -/
theorem prepare_no {D : Nat → Prop} {p q : Nat} {P : Int} {f : Vf} {c : Nat} (w : World) (b frm : Int) (h : Ac D w p q P f c) (hn : noOf P b false ≠ 0) :
    Calls Try.prog 14 #[.pointer (some ⟨p, 0, none⟩), .int .i64 b, .int .i64 frm] w fun e w' => e = .returned (.tuple #[.slice none 0 0, .int .i64 (noOf P b false)]) ∧ Below w.heap.size w w' := by
  have C := hide (refuse_of P b false p (.slice none 0 0) w ((cell_of_block h.box).trans rfl) (contains_nil w))
  obtain ⟨n, hN⟩ : ∃ n, noOf P b false = n := ⟨_, rfl⟩
  have HN := hide (numR_no hN hn)
  rw [hN] at C hn ⊢
  have HZ := hide hn
  clear h hN hn
  go_enter Try.func14, Try.ntmps14
  go_wp2_with fail
  refine (unhide C).mono ?_
  rintro e w1 ⟨v, rfl, hr, b1⟩
  rcases hr with ⟨h0, -⟩ | ⟨-, rb, rfl, hR⟩
  · exact absurd h0 (unhide HZ)
  · have NC := hide (number_ref n rb w1 hR)
    have B1 := hide b1
    rw [unhide HN] at NC
    unfold refV at NC ⊢
    clear hR b1 C HZ HN
    go_wp2_with (go_at_call 25; refine (unhide NC).mono ?_; rintro e w' ⟨rfl, rfl⟩)
    go_ret2
    exact ⟨rfl, unhide B1⟩
set_option maxRecDepth 20000 in
theorem prepare_ok {D : Nat → Prop} {p q : Nat} {P : Int} {f : Vf} {c : Nat} (w : World) (b frm : Int) (h : Ac D w p q P f c) (hn : noOf P b false = 0) :
    Calls Try.prog 14 #[.pointer (some ⟨p, 0, none⟩), .int .i64 b, .int .i64 frm] w fun e w' => ∃ rv, e = .returned (.tuple #[rv, .int .i64 0]) ∧ VRow 54 0 w.heap.size w' rv (toldOf f frm) ∧ Ac D w' p q b f c ∧ Kp (fun k => k = p) w w' := by
  have C := hide (refuse_of P b false p (.slice none 0 0) w ((cell_of_block h.box).trans rfl) (contains_nil w))
  rw [hn] at C
  have H := hide h
  clear h hn
  go_enter Try.func14, Try.ntmps14
  go_wp2_with fail
  refine (unhide C).mono ?_
  rintro e w1 ⟨v, rfl, hr, b1⟩
  rcases hr with ⟨-, rfl⟩ | ⟨h0, -⟩
  · have A1 := (unhide H).below b1
    have c0 : w1.cell? ⟨p, 0, none⟩ = some (.int .i64 P) := (cell_of_block A1.box).trans rfl
    have f0 : w1.frozen? ⟨p, 0, none⟩ = false := free_of_block A1.box
    obtain ⟨W, hW⟩ : ∃ W, w1.setCell ⟨p, 0, none⟩ (.int .i64 b) = W := ⟨_, rfl⟩
    have A2 : Ac D W p q b f c := by rw [← hW]; exact A1.promise b
    have k2 : Kp (fun k => k = p) w W := by
      rw [← hW]
      exact Kp.setCell (D := fun k => k = p) (Kp.of_below b1) (p := ⟨p, 0, none⟩) rfl _
    have TC := hide (told_any W frm A2)
    have AA := hide A2
    have KK := hide k2
    have HW := hide hW
    clear A1 A2 k2 hW b1 C
    go_upto_region 5 with fail
    rw [unhide HW]
    go_wp2_with (go_at_call 27; refine (unhide TC).mono ?_; rintro e w3 ⟨rv, rfl, h1, h2⟩; have H1 := hide h1; have H2 := hide h2; clear h1 h2)
    go_ret2
    exact ⟨_, rfl, (unhide H1).mono (Nat.le_refl _) (unhide KK).size, (unhide AA).below (unhide H2), (unhide KK).far (unhide H2)⟩
  · exact absurd rfl h0
end Go.Proofs.Ytijohafalcifpaa
