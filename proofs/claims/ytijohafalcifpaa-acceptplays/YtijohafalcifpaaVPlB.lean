/- AcceptPlays: what both Picks tell. -/
import Derived.Test.YtijohafalcifpaaVPick
import Derived.Test.YtijohafalcifpaaVXPick
import Derived.Test.YtijohafalcifpaaVCall
namespace Go.Proofs.Ytijohafalcifpaa
open Go.RowKit Go.Maps

def pkE : Option Vt → En × Bool
  | none => (zeroEn, false)
  | some v => (v.e, true)
theorem prepL_len (f : Vf) (_P _b frm : Int) (c : Prop) [Decidable c] : (if c then toldOf f frm else []).length ≤ 64 := by
  split
  · unfold toldOf
    have := toldN_len f (max frm 1) (65 - max frm 1).toNat
    have h : (65 - max frm 1).toNat ≤ 64 := by omega
    omega
  · simp
theorem told_none (a : Int) (n : Nat) : toldN Vf.none a n = [] := by
  induction n generalizing a with
  | zero => rfl
  | succ n ih => simp [toldN, ih, Vf.at, Vf.none]
theorem pickA {low base : Nat} {ao : Option Addr} {n cap : Nat} {vs : List Vt} (hn : vs.length = n) (hl : n ≤ 1000000) {slot : Int} {w : World} (h : VsR low base w ao vs) {e : En} {is : Bool} (hp : pkE (pickOf vs slot) = (e, is)) :
    Calls Try.prog 18 #[.slice ao n cap, .int .i64 slot] w fun r w' => ∃ mo mc, r = .returned (.tuple #[.agg #[.int .i64 e.kind, .int .i64 e.client, .int .i64 e.seq, .string e.text, .slice mo e.ms.length mc, .int .i64 e.dest], .bool is]) ∧ IntsR w' mo e.ms ∧ Below w.heap.size w w' := by
  refine (pick_any low base ao n cap vs hn hl slot w h).mono ?_
  rintro r w' ⟨ho, hb⟩
  cases hpk : pickOf vs slot with
  | none =>
    rw [hpk] at ho hp
    simp only [pkE, Prod.mk.injEq] at hp
    obtain ⟨rfl, rfl⟩ := hp
    simp only [PickOut] at ho
    exact ⟨none, 0, ho, IntsR.nil _ _, hb⟩
  | some v =>
    rw [hpk] at ho hp
    simp only [pkE, Prod.mk.injEq] at hp
    obtain ⟨rfl, rfl⟩ := hp
    simp only [PickOut] at ho
    obtain ⟨mo, mc, rfl, i2⟩ := ho
    exact ⟨mo, mc, rfl, (Ir.inF i2).ints, hb⟩
theorem pickX {low base : Nat} {ao : Option Addr} {n cap : Nat} {vs : List Vt} (hn : vs.length = n) (hl : n ≤ 1000000) {slot : Int} {w : World} (h : VsR low base w ao vs) {e : En} {is : Bool} (hp : pkE (pickOf vs slot) = (e, is)) :
    Calls Try.prog 19 #[.slice ao n cap, .int .i64 slot] w fun r w' => ∃ mo mc, r = .returned (.tuple #[.agg #[.int .i64 e.kind, .int .i64 e.client, .int .i64 e.seq, .string e.text, .slice mo e.ms.length mc, .int .i64 e.dest], .bool is]) ∧ (Mm low base w' mo mc e.ms ∧ e.ms.length ≤ 1000000) ∧ Below w.heap.size w w' := by
  refine (xpick_any low base ao n cap vs hn hl slot w h).mono ?_
  rintro r w' ⟨ho, hb⟩
  cases hpk : pickOf vs slot with
  | none =>
    rw [hpk] at ho hp
    simp only [pkE, Prod.mk.injEq] at hp
    obtain ⟨rfl, rfl⟩ := hp
    simp only [PickOut] at ho
    exact ⟨none, 0, ho, ⟨Or.inr (InF.nil _ _ _), by decide⟩, hb⟩
  | some v =>
    rw [hpk] at ho hp
    simp only [pkE, Prod.mk.injEq] at hp
    obtain ⟨rfl, rfl⟩ := hp
    simp only [PickOut] at ho
    obtain ⟨mo, mc, rfl, m4, hml⟩ := ho
    exact ⟨mo, mc, rfl, ⟨m4, hml⟩, hb⟩
/-- six cells stored one by one into one block: all else is kept. -/
theorem six_kp {y V : World} {B : Nat} {v0 v1 v2 v3 v4 v5 : Value} (hV : V = (((((y.setCell ⟨B, 0, none⟩ v0).setCell ⟨B, 1, none⟩ v1).setCell ⟨B, 2, none⟩ v2).setCell ⟨B, 3, none⟩ v3).setCell ⟨B, 4, none⟩ v4).setCell ⟨B, 5, none⟩ v5) : Kp (fun k => k = B) y V := by
  rw [hV]
  exact (((((((Kp.refl (fun k => k = B) y).setCell (p := ⟨B, 0, none⟩) rfl _).setCell (p := ⟨B, 1, none⟩) rfl _).setCell (p := ⟨B, 2, none⟩) rfl _).setCell (p := ⟨B, 3, none⟩) rfl _).setCell (p := ⟨B, 4, none⟩) rfl _).setCell (p := ⟨B, 5, none⟩) rfl _)
theorem six_below {w y : World} {B : Nat} {v0 v1 v2 v3 v4 v5 : Value} (hb : Below w.heap.size w y) (hB : w.heap.size ≤ B) : Below w.heap.size w ((((((y.setCell ⟨B, 0, none⟩ v0).setCell ⟨B, 1, none⟩ v1).setCell ⟨B, 2, none⟩ v2).setCell ⟨B, 3, none⟩ v3).setCell ⟨B, 4, none⟩ v4).setCell ⟨B, 5, none⟩ v5) :=
  (((((hb.setCell (p := ⟨B, 0, none⟩) hB _).setCell (p := ⟨B, 1, none⟩) hB _).setCell (p := ⟨B, 2, none⟩) hB _).setCell (p := ⟨B, 3, none⟩) hB _).setCell (p := ⟨B, 4, none⟩) hB _).setCell (p := ⟨B, 5, none⟩) hB _
end Go.Proofs.Ytijohafalcifpaa
