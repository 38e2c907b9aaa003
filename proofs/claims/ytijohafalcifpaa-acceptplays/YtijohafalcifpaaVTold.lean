/- accept: told, Votes: contracts. -/
import Derived.Test.YtijohafalcifpaaVAcc
namespace Go.Proofs.Ytijohafalcifpaa
open Go.RowKit Go.Maps

theorem told_step_none {f : Vf} {a : Int} {n : Nat} (h : f (a + n) = none) : toldN f a (n + 1) = toldN f a n := by
  simp only [toldN, Vf.at, h, List.append_nil]
theorem told_step_some {f : Vf} {a : Int} {n : Nat} {b : Int} {e : En} (h : f (a + n) = some (b, e)) : toldN f a (n + 1) = toldN f a n ++ [⟨a + n, b, e⟩] := by
  simp only [toldN, Vf.at, h]
/-- a vote by itself, in a block of its own. -/
theorem VsR.one {low base : Nat} {w : World} {nb : Nat} {v : Vt} {mo : Option Addr} {mc : Nat} {T : TypeId} (hx : w.heap[nb]? = some (.cells (v.cells (.slice mo v.e.ms.length mc)).toArray T (0, 0))) (hm : Mm low base w mo mc v.e.ms) (hl : v.e.ms.length ≤ 1000000) : VsR low base w (some ⟨nb, 0, none⟩) [v] := fun i u hi => by
  have hi0 : i = 0 := by have := (List.getElem?_eq_some_iff.1 hi).1; simp at this; omega
  subst hi0
  simp at hi; subst hi
  refine ⟨nb, 0, mo, mc, rfl, fun j x hj => ?_, hm, hl⟩
  rw [cell_of_block hx]
  simpa using hj

set_option maxRecDepth 20000 in
set_option maxHeartbeats 4000000 in
theorem told_any {D : Nat → Prop} {p q : Nat} {P : Int} {f : Vf} {c : Nat} (w : World) (frm : Int) (h : Ac D w p q P f c) :
    Calls Try.prog 27 #[.pointer (some ⟨p, 0, none⟩), .int .i64 frm] w fun e w' => ∃ rv, e = .returned rv ∧ VRow 54 0 w.heap.size w' rv (toldOf f frm) ∧ Below w.heap.size w w' := by
  obtain ⟨a, ha⟩ : ∃ a : Int, max frm 1 = a := ⟨_, rfl⟩
  have ha1 : 1 ≤ a := by omega
  obtain ⟨m, hm⟩ : ∃ m : Nat, (65 - a).toNat = m := ⟨_, rfl⟩
  have ht : toldOf f frm = toldN f a m := by unfold toldOf; rw [ha, hm]
  rw [ht]
  have H := hide h
  have HM := hide hm
  have HA := hide ha
  clear h hm ht ha
  by_cases h1 : frm < 1
  all_goals
    go_enter Try.func27, Try.ntmps27
    go_wp2_with fail
    go_loopw [5, 6] (fun rv sv wr => ∃ n : Nat, n ≤ m ∧ sv = .int .i64 (a + n) ∧ VRow 54 0 w.heap.size wr rv (toldN f a n) ∧ Below w.heap.size w wr) (fun _ sv _ => 65 - (intOf sv).toNat)
    case atStart =>
      refine ⟨0, Nat.zero_le _, ?_, VRow.nil _ _ _ _, Below.refl _ _⟩
      congr 1
      have := unhide HA
      omega
    case round =>
      obtain ⟨n, hn, rfl, hrow, hbel⟩ := hrel
      have R := hide hrow
      have B := hide hbel
      have HN := hide hn
      clear hrow hbel
      obtain ⟨s, hs⟩ : ∃ s : Int, a + (n : Int) = s := ⟨_, rfl⟩
      have HSN := hide hs
      rw [hs]
      clear hs
      by_cases hlt : s ≤ 64
      · have A := (unhide H).below (unhide B)
        have cM : wr.cell? ⟨p, 1, none⟩ = some (.map (some q)) := (cell_of_block A.box).trans rfl
        have hs1 : 1 ≤ s := by have := unhide HSN; omega
        have hw : wf64 s := wf_range (by omega)
        cases hf : f s with
        | none =>
          have lk := A.map.look_none hw hf
          have HF := hide hf
          clear A hw hf
          go_wp2
          go_roundw
          case rel =>
            have bA : Below wr.heap.size wr (wr.alloc (.cells #[.int .i64 0, .int .i64 0, .int .i64 0, .int .i64 0, .int .i64 0, .string ⟨#[]⟩, .slice none 0 0, .int .i64 0] 54)) := (Below.refl _ wr).alloc (Nat.le_refl _) _
            refine ⟨n + 1, by have := unhide HM; have := unhide HSN; omega, by congr 1; have := unhide HSN; omega, ?_, below_far (unhide B) bA⟩
            rw [told_step_none (by rw [unhide HSN]; exact unhide HF)]
            exact (unhide R).below bA
          case measure => simp [intOf]; omega
        | some be =>
          obtain ⟨b, e⟩ := be
          obtain ⟨mo, mc, lk, hmem, hml⟩ := A.map.look_some hw hf
          have HF := hide hf
          have MEM := hide hmem
          obtain ⟨W1, hW1⟩ : ∃ W, wr.alloc (.cells #[.int .i64 s, .int .i64 b, .int .i64 e.kind, .int .i64 e.client, .int .i64 e.seq, .string e.text, .slice mo e.ms.length mc, .int .i64 e.dest] 54) = W := ⟨_, rfl⟩
          have b1 : Below wr.heap.size wr W1 := by rw [← hW1]; exact (Below.refl _ wr).alloc (Nat.le_refl _) _
          have x1 : W1.heap[wr.heap.size]? = some (.cells #[.int .i64 s, .int .i64 b, .int .i64 e.kind, .int .i64 e.client, .int .i64 e.seq, .string e.text, .slice mo e.ms.length mc, .int .i64 e.dest] 54 (0, 0)) := by rw [← hW1]; exact box_at _ _
          have C := twin_any ⟨s, b, e⟩ mo mc W1 ((Ir.inF hmem).ints.below b1) hml
          simp only [Vt.cells, En.cells] at C
          have CC := hide C
          have k0 : W1.cell? ⟨wr.heap.size, 0, none⟩ = some (.int .i64 s) := (cell_of_block x1).trans rfl
          have k1 : W1.cell? ⟨wr.heap.size, 1, none⟩ = some (.int .i64 b) := (cell_of_block x1).trans rfl
          have k2 : W1.cell? ⟨wr.heap.size, 2, none⟩ = some (.int .i64 e.kind) := (cell_of_block x1).trans rfl
          have k3 : W1.cell? ⟨wr.heap.size, 3, none⟩ = some (.int .i64 e.client) := (cell_of_block x1).trans rfl
          have k4 : W1.cell? ⟨wr.heap.size, 4, none⟩ = some (.int .i64 e.seq) := (cell_of_block x1).trans rfl
          have k5 : W1.cell? ⟨wr.heap.size, 5, none⟩ = some (.string e.text) := (cell_of_block x1).trans rfl
          have k6 : W1.cell? ⟨wr.heap.size, 6, none⟩ = some (.slice mo e.ms.length mc) := (cell_of_block x1).trans rfl
          have k7 : W1.cell? ⟨wr.heap.size, 7, none⟩ = some (.int .i64 e.dest) := (cell_of_block x1).trans rfl
          have HW1 := hide hW1
          have B1 := hide (below_far (unhide B) b1)
          have R1 := hide ((unhide R).below b1)
          clear A hw hf hmem C x1 hW1 b1
          go_upto_region 7 with fail
          rw [unhide HW1]
          go_wp2_with fail
          refine (unhide CC).mono ?_
          rintro x w2 ⟨mo2, mc2, rfl, o2, b2⟩
          have O2 := hide o2
          have B2 := hide (below_far (unhide B1) b2)
          have R2 := hide ((unhide R1).below b2)
          clear o2 b2 k0 k1 k2 k3 k4 k5 k6 k7
          obtain ⟨W3, hW3⟩ : ∃ W, w2.alloc (.cells #[.int .i64 s, .int .i64 b, .int .i64 e.kind, .int .i64 e.client, .int .i64 e.seq, .string e.text, .slice mo2 e.ms.length mc2, .int .i64 e.dest] 54) = W := ⟨_, rfl⟩
          have b3 : Below w2.heap.size w2 W3 := by rw [← hW3]; exact (Below.refl _ w2).alloc (Nat.le_refl _) _
          have x3 : W3.heap[w2.heap.size]? = some (.cells #[.int .i64 s, .int .i64 b, .int .i64 e.kind, .int .i64 e.client, .int .i64 e.seq, .string e.text, .slice mo2 e.ms.length mc2, .int .i64 e.dest] 54 (0, 0)) := by rw [← hW3]; exact box_at _ _
          have o3 : Ir w.heap.size W3 (.slice mo2 e.ms.length mc2) e.ms := own_mono ((unhide O2).below b3) (unhide B1).size
          have SRC : Hid (VsR 0 w.heap.size W3 (some ⟨w2.heap.size, 0, none⟩) [⟨s, b, e⟩]) := VsR.one (v := ⟨s, b, e⟩) x3 (Or.inl o3) hml
          have R3 := hide ((unhide R2).below b3)
          have B3 := hide (below_far (unhide B2) b3)
          have HLN : Hid ((toldN f a n).length + 1 ≤ 1000000) := by show _ ≤ _; have := toldN_len f a n; have := unhide HM; have := unhide HN; omega
          have S3 := hide ((unhide B3).size)
          clear b3 x3 o3
          subst hW3
          go_wp2_with (refine wpList_appV Try.underlying39 (by decide) Try.infoAV rfl (.tmp 25) (.tmp 28) rfl 0 w.heap.size (Nat.zero_le _) _ (toldN f a n) rfl (unhide R3) (some ⟨w2.heap.size, 0, none⟩) 1 1 [⟨s, b, e⟩] rfl rfl (unhide SRC) (unhide HLN) (unhide S3) ?_)
          intro v4 w4 r4 g4
          have B4 := hide ((unhide B3).grown g4 (unhide B3).size (fun k hk => ((unhide R3).tag k hk).1))
          have R4 := hide r4
          clear r4 g4
          go_wp2
          go_roundw
          case rel =>
            refine ⟨n + 1, by have := unhide HM; have := unhide HSN; omega, by congr 1; have := unhide HSN; omega, ?_, unhide B4⟩
            have e0 : (⟨s, b, e⟩ : Vt) = ⟨a + n, b, e⟩ := by rw [unhide HSN]
            rw [told_step_some (by rw [unhide HSN]; exact unhide HF), ← e0]
            exact unhide R4
          case measure => simp [intOf]; omega
      · go_wp2
        go_ret
        have e1 : n = m := by have := unhide HM; have := unhide HSN; omega
        exact ⟨_, rfl, e1 ▸ unhide R, unhide B⟩
end Go.Proofs.Ytijohafalcifpaa
