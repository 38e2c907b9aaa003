/- tally's Votes: Won, Lost, Add: contracts. -/
import Derived.Test.YtjcidihcmbenhaaYVote
import Derived.Test.YtjcidihcmbenhaaKCf
namespace Go.Proofs.Ytjcidihcmbenhaa
open Go.RowKit Go.Maps

/-- v is a list of votes that is laid at once. -/
theorem made_votes (w : World) (cs : Array Value) (ys : List Int) (hc : cs.toList = i64s ys) : Fr (w.alloc (.cells cs 70)) (some ⟨w.heap.size, 0, none⟩) ys := by
  refine ⟨fun i hi => ⟨_, rfl, news_at i _ ?_⟩, fun a ha => by cases ha; exact ⟨_, _, rfl⟩⟩
  rw [hc, i64s, List.getElem?_map, List.getElem?_eq_getElem hi, List.getD_eq_getElem?_getD, List.getElem?_eq_getElem hi]; rfl
def saidOf (f : Int → Option Int) (id : Int) : Int := (f id).getD 0
def wonOf (old new : List Int) (f : Int → Option Int) : Bool := quorumBy old new (fun id => saidOf f id == 1)
def leftOf (old new : List Int) (f : Int → Option Int) : Bool := quorumBy old new (fun id => saidOf f id == 1 || saidOf f id == 0)
theorem who_quorum (old new : List Int) (f : Int → Option Int) (vs : List Int) : quorumOf old new ((ris (old ++ new)).filter fun id => vs.contains ((f id).getD 0)) = quorumBy old new (fun id => vs.contains (saidOf f id)) := by
  refine quorum_by fun z hz => ?_
  rw [Bool.eq_iff_iff, List.contains_iff_mem, List.mem_filter]
  exact ⟨fun h => h.2, fun h => ⟨by rw [mem_ris, List.mem_append]; exact hz, h⟩⟩
theorem won_is (old new : List Int) (f : Int → Option Int) : quorumOf old new ((ris (old ++ new)).filter fun id => [1].contains ((f id).getD 0)) = wonOf old new f := by
  rw [who_quorum]
  exact quorumBy_congr fun z _ => by rw [Bool.eq_iff_iff, List.contains_iff_mem, List.mem_singleton, beq_iff_eq]
theorem left_is (old new : List Int) (f : Int → Option Int) : quorumOf old new ((ris (old ++ new)).filter fun id => [1, 0].contains ((f id).getD 0)) = leftOf old new f := by
  rw [who_quorum]
  exact quorumBy_congr fun z _ => by rw [Bool.eq_iff_iff, List.contains_iff_mem, List.mem_cons, List.mem_singleton, Bool.or_eq_true, beq_iff_eq, beq_iff_eq]

set_option maxRecDepth 20000 in
set_option maxHeartbeats 2000000 in
theorem won_any {B : Nat} {p b : Nat} {old new : List Int} {f : Int → Option Int} {c : Nat} (w : World) (h : Vt B w p b old new f c) (hO : old.length ≤ 1000) (hN : new.length ≤ 1000) (hwm : ∀ x ∈ ris (old ++ new), wf64 x) :
    Calls Try.prog 16 #[.pointer (some ⟨p, 0, none⟩)] w fun e w' => e = .returned (.bool (wonOf old new f)) ∧ Below w.heap.size w w' := by
  have WHO := hide (fun (Y : World) (hY : Below w.heap.size w Y) (av : Option Addr) (hV : Fr Y av [1]) => who_any av 1 1 [1] rfl (by omega) Y (h.below hY) hO hN hwm hV)
  obtain ⟨ao, no, co, an, nn, cn, h1, h2, h3, h4, h5, -, -, -, -, -⟩ := h
  have SX := hide (fun (Y : World) (h : Below w.heap.size w Y) => And.intro (three_cells (Below.stay h h1)).1 (three_cells (Below.stay h h1)).2.1)
  have hlf : ((ris (old ++ new)).filter fun id => [1].contains ((f id).getD 0)).length ≤ 1000000 := Nat.le_trans (List.length_filter_le _ _) (Nat.le_trans (ris_length _) (by simp; omega))
  have WI := won_is old new f
  obtain ⟨ys, hys⟩ : ∃ ys, ((ris (old ++ new)).filter fun id => [1].contains ((f id).getD 0)) = ys := ⟨_, rfl⟩
  rw [hys] at WHO hlf WI
  have QU := hide (fun (Z : World) (h : Below w.heap.size w Z) (ay : Option Addr) (d : Nat) (hy : IntsR Z ay ys) => quorum_any ao an no nn co cn old new h2 h3 ay ys.length d ys rfl (by omega) (by omega) hlf Z (h4.1.below h) (h5.1.below h) hy)
  rw [WI] at QU
  obtain ⟨R, hR⟩ : ∃ R, wonOf old new f = R := ⟨_, rfl⟩
  rw [hR] at QU
  rw [hR]
  have EZ := hide (Below.refl w.heap.size w).drew
  have EA := hide (((Below.refl w.heap.size w).drew).alloc (Nat.le_refl _) (.cells #[.int .i64 1] 70))
  have FA := hide (made_votes w.drew #[.int .i64 1] [1] rfl)
  clear h1 h2 h3 h4 h5 hys hR WI hlf hwm
  go_enter Try.func16, Try.ntmps16
  go_wp2_with fail
  first
  | (go_region_held_law (fun Z => Z.cell? ⟨p, 0, none⟩ = some (.slice ao no co) ∧ Z.cell? ⟨p, 1, none⟩ = some (.slice an nn cn))
      (first | exact unhide SX _ (unhide EA) | exact unhide SX _ (unhide EZ))
      (first
        | (go_at_call 39
           refine (unhide WHO _ (unhide EA) _ (unhide FA)).mono ?_
           rintro e wz ⟨v, rfl, ov, bz⟩
           obtain ⟨ay, d, rfl, fy, _, _⟩ := ov.slice
           have E0 := hide ((unhide EA).trans (bz.mono (unhide EA).size))
           clear EZ
           have EZ := E0
           clear E0
           have Q1 := hide (unhide QU _ (unhide EZ) ay d fy.1)
           clear bz ov fy QU)
        | (go_at_call 31
           refine (unhide Q1).mono ?_
           rintro e wz ⟨rfl, bz⟩
           have E0 := hide ((unhide EZ).trans (bz.mono (unhide EZ).size))
           clear EZ
           have EZ := E0
           clear E0 bz Q1)))
  | fail
  all_goals go_wp2
  all_goals go_ret
  all_goals exact ⟨rfl, unhide EZ⟩

set_option maxRecDepth 20000 in
set_option maxHeartbeats 2000000 in
theorem lost_any {B : Nat} {p b : Nat} {old new : List Int} {f : Int → Option Int} {c : Nat} (w : World) (h : Vt B w p b old new f c) (hO : old.length ≤ 1000) (hN : new.length ≤ 1000) (hwm : ∀ x ∈ ris (old ++ new), wf64 x) :
    Calls Try.prog 18 #[.pointer (some ⟨p, 0, none⟩)] w fun e w' => e = .returned (.bool (!leftOf old new f)) ∧ Below w.heap.size w w' := by
  have WHO := hide (fun (Y : World) (hY : Below w.heap.size w Y) (av : Option Addr) (hV : Fr Y av [1, 0]) => who_any av 2 2 [1, 0] rfl (by omega) Y (h.below hY) hO hN hwm hV)
  obtain ⟨ao, no, co, an, nn, cn, h1, h2, h3, h4, h5, -, -, -, -, -⟩ := h
  have SX := hide (fun (Y : World) (h : Below w.heap.size w Y) => And.intro (three_cells (Below.stay h h1)).1 (three_cells (Below.stay h h1)).2.1)
  have hlf : ((ris (old ++ new)).filter fun id => [1, 0].contains ((f id).getD 0)).length ≤ 1000000 := Nat.le_trans (List.length_filter_le _ _) (Nat.le_trans (ris_length _) (by simp; omega))
  have WI := left_is old new f
  obtain ⟨ys, hys⟩ : ∃ ys, ((ris (old ++ new)).filter fun id => [1, 0].contains ((f id).getD 0)) = ys := ⟨_, rfl⟩
  rw [hys] at WHO hlf WI
  have QU := hide (fun (Z : World) (h : Below w.heap.size w Z) (ay : Option Addr) (d : Nat) (hy : IntsR Z ay ys) => quorum_any ao an no nn co cn old new h2 h3 ay ys.length d ys rfl (by omega) (by omega) hlf Z (h4.1.below h) (h5.1.below h) hy)
  rw [WI] at QU
  obtain ⟨R, hR⟩ : ∃ R, leftOf old new f = R := ⟨_, rfl⟩
  rw [hR] at QU
  rw [hR]
  have EZ := hide (Below.refl w.heap.size w).drew
  have EA := hide (((Below.refl w.heap.size w).drew).alloc (Nat.le_refl _) (.cells #[.int .i64 1, .int .i64 0] 70))
  have FA := hide (made_votes w.drew #[.int .i64 1, .int .i64 0] [1, 0] rfl)
  clear h1 h2 h3 h4 h5 hys hR WI hlf hwm
  go_enter Try.func18, Try.ntmps18
  go_wp2_with fail
  first
  | (go_region_held_law (fun Z => Z.cell? ⟨p, 0, none⟩ = some (.slice ao no co) ∧ Z.cell? ⟨p, 1, none⟩ = some (.slice an nn cn))
      (first | exact unhide SX _ (unhide EA) | exact unhide SX _ (unhide EZ))
      (first
        | (go_at_call 39
           refine (unhide WHO _ (unhide EA) _ (unhide FA)).mono ?_
           rintro e wz ⟨v, rfl, ov, bz⟩
           obtain ⟨ay, d, rfl, fy, _, _⟩ := ov.slice
           have E0 := hide ((unhide EA).trans (bz.mono (unhide EA).size))
           clear EZ
           have EZ := E0
           clear E0
           have Q1 := hide (unhide QU _ (unhide EZ) ay d fy.1)
           clear bz ov fy QU)
        | (go_at_call 31
           refine (unhide Q1).mono ?_
           rintro e wz ⟨rfl, bz⟩
           have E0 := hide ((unhide EZ).trans (bz.mono (unhide EZ).size))
           clear EZ
           have EZ := E0
           clear E0 bz Q1)))
  | fail
  all_goals go_wp2
  all_goals go_ret
  all_goals exact ⟨rfl, unhide EZ⟩
end Go.Proofs.Ytjcidihcmbenhaa
