/- synodallaw19.known: a contract. -/
import Derived.Test.YtndpkpkijfplaaaGAsk
namespace Go.Proofs.Ytndpkpkijfplaaa
open Go.RowKit Go.Maps
attribute [local go_sem ↓] Go.wp_at_zero Go.wp_at_succ

def zeroEn : En := ⟨0, 0, 0, ⟨#[]⟩, [], 0⟩
/-- the chapter's example. -/
def exEv : Ev := ⟨2, 1, 1, 1, zeroEn, []⟩
theorem wf_one : wf64 1 := wf_range (by omega)
theorem check_ex : checkOf [exEv] = 0 := by
  have h : Kn.nothing.take exEv = none := by
    unfold Kn.take exEv
    rw [if_neg (by decide), if_neg (by decide), if_pos rfl]
    simp only [Kn.settle]
    rw [if_neg (fun x => by have := x.1; simp [Kn.nothing] at this)]
  exact check_at (k := 0) (v := exEv) (S := .nothing) rfl rfl h
theorem check_nil : checkOf [] = -1 := rfl
theorem EvA.plain {A : World} {F : Nat → Prop} {v : Ev} (h : wf64 v.client ∧ wf64 v.seq ∧ wf64 v.index) (he : v.entry.ms = []) (hs : v.es = []) : EvA A F v none none :=
  ⟨h, ⟨fun i hi => by rw [he] at hi; simp at hi, by rw [he]; simp⟩, (fun i e hi => by rw [hs] at hi; simp at hi), (fun x hx => by rw [hs] at hx; cases hx), by rw [hs]; simp⟩
set_option maxRecDepth 20000 in
set_option maxHeartbeats 2000000 in
theorem known_any (w : World) : Calls Try.prog 9 #[] w fun e w' => e = .returned (.bool true) ∧ Below w.heap.size w w' := by
  obtain ⟨W, hW⟩ : ∃ W, w.alloc (.cells (evv exEv none 0 none 0) 31) = W := ⟨_, rfl⟩
  have bW : Below w.heap.size w W := by rw [← hW]; exact (Below.refl _ w).alloc (Nat.le_refl _) _
  have xW : W.heap[w.heap.size]? = some (.cells (evv exEv none 0 none 0) 31 (0, 0)) := by rw [← hW]; exact box_at _ _
  have hr : EvR W (fun _ => True) (some ⟨w.heap.size, 0, none⟩) [exEv] := fun i v hv => by
    cases i with
    | zero =>
      simp only [List.getElem?_cons_zero, Option.some.injEq] at hv
      subst hv
      refine ⟨w.heap.size, 0, none, 0, none, 0, rfl, fun j u hj => ?_, EvA.plain ⟨wf_one, wf_one, wf_one⟩ rfl rfl⟩
      rw [cell_of_block xW]
      simpa using hj
    | succ i => simp at hv
  have C1 := check_any (some ⟨w.heap.size, 0, none⟩) 1 1 [exEv] rfl (by omega) W hr
  rw [check_ex] at C1
  have CA := hide C1
  have CB := hide (fun Y : World => check_any (F := fun _ => True) none 0 0 [] rfl (by omega) Y (fun i v hv => by simp at hv))
  have BW := hide bW
  have HW := hide hW
  clear hr xW bW hW C1
  go_enter Try.func9, Try.ntmps9
  go_wp2_with fail
  have hW' : w.alloc (.cells #[.int .i64 2, .int .i64 1, .int .i64 1, .int .i64 1, .int .i64 0, .int .i64 0, .int .i64 0, .string ⟨#[]⟩, .slice none 0 0, .int .i64 0, .slice none 0 0] 31) = W := unhide HW
  rw [hW']
  clear hW'
  refine (unhide CA).mono ?_
  rintro z w1 ⟨rfl, b1⟩
  have B1 := hide (below_far (unhide BW) b1)
  clear b1 CA
  go_wp2_with fail
  refine (unhide CB _).mono ?_
  rintro z w2 ⟨rfl, b2⟩
  rw [check_nil]
  have B2 := hide (below_far (unhide B1) b2)
  clear b2 CB
  go_wp2
  go_ret
  exact ⟨rfl, unhide B2⟩
end Go.Proofs.Ytndpkpkijfplaaa
