/- What the walks of the law share. -/
import Derived.Test.YtgllokinadjiaaaSKnown
import Derived.Test.YtgllokinadjiaaaKPlain
import Derived.Test.YtgllokinadjiaaaKSameC
namespace Go.Proofs.Ytgllokinadjiaaa
open Go.RowKit Go.Maps
attribute [local go_sem ↓] Go.wp_at_zero Go.wp_at_succ

/-- a row of the call's own, at its first place. -/
theorem Ir.first {base : Nat} {w : World} {mo : Option Addr} {n mc : Nat} {ys : List Int} (h : Ir base w (.slice mo n mc) ys) (hy : ys ≠ []) : ∃ g cs, mo = some ⟨g, 0, none⟩ ∧ base ≤ g ∧ w.heap[g]? = some (.cells cs 3 (0, 0)) ∧ w.cell? ⟨g, 0, none⟩ = some (.int .i64 (ys.getD 0 0)) := by
  obtain ⟨ao, cap, e, hf, _⟩ := h.slice
  cases e
  rcases h.2 with ⟨e1, e2⟩ | ⟨g, cap', cur, e1, e2, e3, _⟩
  · exact absurd (List.eq_nil_of_length_eq_zero e2) hy
  · cases e1
    obtain ⟨a, ea, hc⟩ := hf.1 0 (List.length_pos_iff.2 hy)
    cases ea
    exact ⟨g, cur, rfl, e2, e3, by rw [Addr.add_lit] at hc; exact hc⟩
/-- a list of members that may be. -/
theorem check_plain (β : Nat → Bool) : checkOf [] (plainOf β) = 0 := check_good Up.nil (by decide) (plain_Up β) (plain_len β) (plain_ne β)
theorem wrong_plain (e b : Int) (he : e = 1 ∨ e = 2) (hb : 0 ≤ b) (n : Int) (hn : 1 ≤ n) (β : Nat → Bool) : wrongG [] n e b [] (plainOf β) = 0 := by
  unfold wrongG wrongB followsOf
  simp [check_plain, he, hb, hn]
theorem seal_plain {gs : List Gn} {l : Gn} (hl : gs[gs.length - 1]? = some l) (h60 : gs.length < 60) (e b : Int) (he : e = 1 ∨ e = 2) (hb : l.base < b) (β : Nat → Bool) : sealNo gs l b e [] (plainOf β) = 0 := by
  unfold sealNo wrongG wrongB followsOf
  simp [hl, check_plain, he, hb]
  omega
theorem field_conf (a b c : Int) (o m : Option Addr) (on oc mn mc : Nat) (W : World) : (Instr.field 32 (.agg #[.int .i64 a, .int .i64 b, .int .i64 c, .slice o on oc, .slice m mn mc]) 3).run Try.prog W = .ok (.agg #[.slice o on oc, .slice m mn mc]) W := by kernel_rfl
theorem rsame_self (bn an : Option Addr) (n cn pn : Nat) (ms : List Int) (hn : ms.length = n) (hl : n ≤ 1000000) (w : World) (h : IntsR w bn ms) (h' : IntsR w an ms) :
    Calls Try.prog 15 #[.agg #[.slice none 0 0, .slice bn n pn], .agg #[.slice none 0 0, .slice an n cn]] w fun e w' => e = .returned (.bool true) ∧ Below w.heap.size w w' := by
  refine (rsame_any none bn none an 0 n 0 pn 0 n 0 cn [] ms [] ms rfl hn rfl hn (by decide) hl w (IntsR.nil _ _) h (IntsR.nil _ _) h').mono ?_
  rintro e w' ⟨rfl, hb⟩
  exact ⟨by unfold sameOf; simp, hb⟩
theorem Kp.put (w : World) (g : Nat) (u : Value) : Kp (fun k => k = g) w (w.setCell ⟨g, 0, none⟩ u) := Kp.setCell (D := fun k => k = g) (Kp.refl _ _) (p := ⟨g, 0, none⟩) rfl u
/-- members that may be. -/
def Pl (ms : List Int) : Prop := Up ms ∧ ms.length ≤ 7 ∧ ms ≠ []
theorem Pl.pos {ms : List Int} (h : Pl ms) : 0 < ms.length := List.length_pos_iff.2 h.2.2
theorem Pl.check {ms : List Int} (h : Pl ms) : checkOf [] ms = 0 := check_good Up.nil (by decide) h.1 h.2.1 h.2.2
theorem Pl.check0 {ms : List Int} (h : Pl ms) : checkOf [0] ms = 0 := check_good ⟨by simp, by simp⟩ (by decide) h.1 h.2.1 h.2.2
theorem plain_pl (bits : Int) : ∃ ms, Pl ms ∧ ms = plainOf (bitOf bits) ∧ ∀ w, Calls Try.prog 8 #[.int .i64 bits] w fun e w' => ∃ an n c, e = .returned (.agg #[.slice none 0 0, .slice an n c]) ∧ ms.length = n ∧ n ≤ c ∧ Fr w' an ms ∧ Below w.heap.size w w' :=
  ⟨_, ⟨plain_Up _, plain_len _, plain_ne _⟩, rfl, fun w => plain_any bits w⟩
theorem wrong_pl {ms : List Int} (h : Pl ms) {n e b : Int} (he : e = 1 ∨ e = 2) (hb : 0 ≤ b) (hn : 1 ≤ n) : wrongG [] n e b [] ms = 0 := by
  unfold wrongG wrongB followsOf
  simp [h.check, he, hb, hn]
theorem seal_pl {ms : List Int} (h : Pl ms) {gs : List Gn} {l : Gn} (hl : gs[gs.length - 1]? = some l) (h60 : gs.length < 60) {e b : Int} (he : e = 1 ∨ e = 2) (hb : l.base < b) : sealNo gs l b e [] ms = 0 := by
  unfold sealNo wrongG wrongB followsOf
  simp [hl, h.check, he, hb]
  omega
end Go.Proofs.Ytgllokinadjiaaa
