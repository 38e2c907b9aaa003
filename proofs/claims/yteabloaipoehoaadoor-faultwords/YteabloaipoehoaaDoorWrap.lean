/- fault.Wrap, fault.Is, Where at no error, and the law's known: contracts. -/
import Derived.Test.YteabloaipoehoaaDoorWhere
namespace Go.Proofs.YteabloaipoehoaaDoor
open Go.RowKit Go.Extern.Stop Go.Stop Go.Extern

theorem wrap_nil (s : ByteArray) (w : World) : Calls Tryd.prog 12 #[.string s, .nilIface] w fun ev w' => ev = .returned .nilIface ∧ w' = w := by
  go_enter Tryd.func12, Tryd.ntmps12
  go_wp2
  go_ret
  exact ⟨rfl, rfl⟩

set_option maxHeartbeats 400000 in
theorem where_nil (w : World) : Calls Tryd.prog 13 #[.nilIface] w fun ev w' => ev = .returned (.slice none 0 0) ∧ Below w.heap.size w w' := by
  go_enter Tryd.func13, Tryd.ntmps13
  go_wp2_with (go_at_call 20; refine (outermost_nil _).mono ?_; rintro e w' ⟨rfl, hb⟩)
  refine wp_loop_rounds 1 ?_
  rw [rounds_succ]
  go_wp2
  go_ret
  exact ⟨rfl, hb⟩

/-- the shape of a list that the call made: its length is told by its value. -/
theorem own_shape {w : World} {B : Nat} {v : Value} {n : Nat} {xs : List Value} (h : w.ownsRow B 9 1 v n xs) : ∃ ao cap, v = .slice ao n cap := by
  rcases h.2 with ⟨rfl, rfl⟩ | ⟨g, cap, cur, rfl, _⟩
  · exact ⟨none, 0, rfl⟩
  · exact ⟨_, _, rfl⟩

def wrapped (s : ByteArray) (ps : List ByteArray) : List ByteArray := if ps.length < 16 then s :: ps else ps

set_option maxHeartbeats 400000 in
theorem wrap_chain (s : ByteArray) (bv : Value) (hv : Base bv) (ps : List ByteArray) (hlen : ps.length ≤ 16) (v : Value) (w : World) (hg : Glob w) (hc : Chain w bv ps v) :
    Calls Tryd.prog 12 #[.string s, v] w fun ev w' => ∃ v', ev = .returned v' ∧ Chain w' bv (wrapped s ps) v' ∧ Below w.heap.size w w' := by
  obtain ⟨T, x, rfl⟩ := hc.form hv
  have HC := hide hc
  have HV := hide hv
  clear hc hv
  by_cases hl : ps.length < 16
  · have hw : wrapped s ps = s :: ps := if_pos hl
    have HW := hide hw
    clear hw
    go_enter Tryd.func12, Tryd.ntmps12
    go_wp2_with fail
    refine (where_chain bv (unhide HV) ps (by omega) _ w hg (unhide HC)).mono ?_
    rintro e w1 ⟨l, rfl, hown, hb⟩
    obtain ⟨ao, cap, rfl⟩ := own_shape hown
    have HB := hide hb
    clear hown hb
    go_wp2_with fail
    go_ret
    refine ⟨_, rfl, ?_, (unhide HB).alloc (unhide HB).size _⟩
    rw [unhide HW]
    exact ⟨_, _, rfl, by simp, by simp, (unhide HC).keep (fun b i u h => keep_alloc _ _ _ _ _ (keep_below (unhide HB) _ _ _ h))⟩
  · have hw : wrapped s ps = ps := if_neg hl
    have HW := hide hw
    clear hw
    go_enter Tryd.func12, Tryd.ntmps12
    go_wp2_with fail
    refine (where_chain bv (unhide HV) ps (by omega) _ w hg (unhide HC)).mono ?_
    rintro e w1 ⟨l, rfl, hown, hb⟩
    obtain ⟨ao, cap, rfl⟩ := own_shape hown
    have HB := hide hb
    clear hown hb
    go_wp2_with fail
    go_ret
    refine ⟨_, rfl, ?_, unhide HB⟩
    rw [unhide HW]
    exact (unhide HC).keep (keep_below (unhide HB))

set_option maxHeartbeats 400000 in
theorem fis_num (n m : Int) (hn : (n == 0) = false) (ps : List ByteArray) (v : Value) (w : World) (hg : Glob w) (hc : Chain w (.iface 24 (.int .i64 n)) ps v) :
    Calls Tryd.prog 18 #[v, .int .i64 m] w fun ev w' => ev = .returned (.bool (n == m)) ∧ Below w.heap.size w w' := by
  have HC := hide hc
  clear hc
  go_enter Tryd.func18, Tryd.ntmps18
  go_wp2_with fail
  refine (kind_num n hn ps v w hg (unhide HC)).mono ?_
  rintro e w1 ⟨rfl, hb⟩
  have HB := hide hb
  clear hb
  go_wp2_with fail
  refine (is_num n m [] _ w1 rfl).mono ?_
  rintro e w2 ⟨rfl, rfl⟩
  go_wp2_with fail
  go_ret
  exact ⟨rfl, unhide HB⟩

set_option maxHeartbeats 400000 in
theorem fis_plain (x : Value) (m : Int) (ps : List ByteArray) (v : Value) (w : World) (hg : Glob w) (hc : Chain w (.iface 62 x) ps v) :
    Calls Tryd.prog 18 #[v, .int .i64 m] w fun ev w' => ev = .returned (.bool (12 == m)) ∧ Below w.heap.size w w' := by
  have HC := hide hc
  clear hc
  go_enter Tryd.func18, Tryd.ntmps18
  go_wp2_with fail
  refine (kind_plain x ps v w hg (unhide HC)).mono ?_
  rintro e w1 ⟨rfl, hb⟩
  have HB := hide hb
  clear hb
  go_wp2_with fail
  refine (is_num 12 m [] _ w1 rfl).mono ?_
  rintro e w2 ⟨rfl, rfl⟩
  go_wp2_with fail
  go_ret
  exact ⟨rfl, unhide HB⟩

set_option maxHeartbeats 400000 in
theorem fis_nil (m : Int) (w : World) :
    Calls Tryd.prog 18 #[.nilIface, .int .i64 m] w fun ev w' => ev = .returned (.bool (0 == m)) ∧ w' = w := by
  go_enter Tryd.func18, Tryd.ntmps18
  go_wp2_with fail
  refine (kind_nil w).mono ?_
  rintro e w1 ⟨rfl, rfl⟩
  go_wp2_with fail
  refine (is_num 0 m [] _ w1 rfl).mono ?_
  rintro e w2 ⟨rfl, rfl⟩
  go_wp2_with fail
  go_ret
  exact ⟨rfl, rfl⟩

set_option maxHeartbeats 400000 in
theorem known_true (w : World) (hg : Glob w) :
    Calls Tryd.prog 9 #[] w fun ev w' => ev = .returned (.bool true) ∧ Below w.heap.size w w' := by
  go_enter Tryd.func9, Tryd.ntmps9
  go_wp2_with fail
  refine (new_num _ _ (by decide) _).mono ?_
  rintro e w1 ⟨rfl, rfl⟩
  go_wp2_with fail
  refine (wrap_chain _ (.iface 24 (.int .i64 14)) (Or.inl ⟨14, rfl⟩) [⟨#[98]⟩] (by decide) _ _ (hg.alloc _) ⟨w.heap.size, _, rfl, by simp, by simp, rfl⟩).mono ?_
  rintro e w2 ⟨v, rfl, hc, hb⟩
  have hw : wrapped ⟨#[97]⟩ [⟨#[98]⟩] = [⟨#[97]⟩, ⟨#[98]⟩] := rfl
  rw [hw] at hc
  have HC := hide hc
  have HB := hide hb
  clear hw hc hb
  go_wp2_with fail
  refine (where_chain (.iface 24 (.int .i64 14)) (Or.inl ⟨14, rfl⟩) [⟨#[97]⟩, ⟨#[98]⟩] (by decide) _ _ ((hg.alloc _).below (unhide HB)) (unhide HC)).mono ?_
  rintro e w3 ⟨l, rfl, hown, hb⟩
  have HB3 := hide hb
  clear hb
  rcases hown.2 with ⟨_, h⟩ | ⟨g, cap, cur, rfl, hbg, hgg, hcap, _⟩
  · simp at h
  · have c0 : w3.cell? ⟨g, 0, none⟩ = some (.string ⟨#[97]⟩) := by
      have := hown.cells (g := g) rfl 0 (.string ⟨#[97]⟩) rfl
      simpa [Addr.add] using this
    have c1 : w3.cell? ⟨g, 1, none⟩ = some (.string ⟨#[98]⟩) := by
      have := hown.cells (g := g) rfl 1 (.string ⟨#[98]⟩) rfl
      simpa [Addr.add] using this
    clear hown hgg
    go_wp2_with fail
    go_ret
    exact ⟨rfl, Below.undo ((unhide HB).mono (by simp) |>.trans ((unhide HB3).mono (by have := (unhide HB).size; simp at this; omega)))⟩
end Go.Proofs.YteabloaipoehoaaDoor
