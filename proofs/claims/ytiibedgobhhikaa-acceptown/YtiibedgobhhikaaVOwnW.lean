/- AcceptOwn: the walk. -/
import Derived.Test.YtiibedgobhhikaaVKnown
import Derived.Test.YtiibedgobhhikaaVPick
import Derived.Test.YtiibedgobhhikaaVSame
namespace Go.Proofs.Ytiibedgobhhikaa
open Go.RowKit Go.Maps

theorem told_nil (a : Int) (n : Nat) : toldN Vf.none a n = [] := by
  induction n with
  | zero => rfl
  | succ n ih => simp [toldN, ih, Vf.at, Vf.none]
theorem all_one {s b : Int} {e : En} (h1 : 1 ≤ s) (h2 : s ≤ 64) : allOf (Vf.none.put s b e) = [⟨s, b, e⟩] := by
  rw [all_put _ h1 h2, told_nil, told_nil]; rfl
theorem pick_one (s b : Int) (e : En) : pickOf [⟨s, b, e⟩] s = some ⟨s, b, e⟩ := by
  have : best [⟨s, b, e⟩] s 1 = some 0 := by simp [best]
  exact pickOf_some this rfl
/-- a row of the call's own, at its first place. -/
theorem Ir.first {base : Nat} {w : World} {mo : Option Addr} {n mc : Nat} {ys : List Int} (h : Ir base w (.slice mo n mc) ys) (hy : ys ≠ []) : ∃ g cs, mo = some ⟨g, 0, none⟩ ∧ base ≤ g ∧ w.heap[g]? = some (.cells cs 3 (0, 0)) ∧ w.cell? ⟨g, 0, none⟩ = some (.int .i64 (ys.getD 0 0)) := by
  obtain ⟨ao, cap, e, hf, _⟩ := h.slice
  cases e
  rcases h.2 with ⟨e1, e2⟩ | ⟨g, cap', cur, e1, e2, e3, _⟩
  · exact absurd (List.eq_nil_of_length_eq_zero e2) hy
  · cases e1
    obtain ⟨a, ea, hc⟩ := hf.1 0 (List.length_pos_iff.2 hy)
    cases ea
    exact ⟨g, cur, rfl, e2, e3, by rw [Addr.add_lit] at hc; exact hc⟩
theorem Mm.own {base : Nat} {w : World} {mo : Option Addr} {mc : Nat} {ys : List Int} (h : Mm 0 base w mo mc ys) (hy : ys ≠ []) : Ir base w (.slice mo ys.length mc) ys := by
  rcases h with h | h
  · exact h
  · obtain ⟨a, _, hk, _⟩ := h 0 (List.length_pos_iff.2 hy)
    exact absurd hk (Nat.not_lt_zero _)

set_option maxRecDepth 20000 in
set_option maxHeartbeats 4000000 in
theorem own_walk (ao : Option Addr) (n cap : Nat) (ms : List Int) (hn : ms.length = n) (hnl : n ≤ maxLen) (by_ : Int) (w : World) (h : IntsR w ao ms) :
    Calls Try.prog 8 #[.slice ao n cap, .int .i64 by_] w fun e w' => e = .returned (.bool true) ∧ Below w.heap.size w w' := by
  have C0 := hide (known_any w)
  have HI := hide h
  have HN := hide hn
  clear h hn
  go_enter Try.func8, Try.ntmps8
  go_wp2_with fail
  refine (unhide C0).mono ?_
  rintro e w1 ⟨rfl, b1⟩
  have B1 := hide b1
  clear b1 C0
  by_cases hn0 : n = 0
  · subst hn0
    go_wp2
    go_ret
    exact ⟨rfl, unhide B1⟩
  by_cases hn20 : 20 < n
  · have q1 : (20 : Int) < (n : Int) := by omega
    have q2 : ((n : Int) == 0) = false := by simp; omega
    go_wp2
    go_ret
    exact ⟨rfl, unhide B1⟩
  have q1 : ¬ (20 : Int) < (n : Int) := by omega
  have q2 : ((n : Int) == 0) = false := by simp; omega
  have C1 := hide (new_any w1)
  have HNE : Hid (ms ≠ []) := hide (fun e => hn0 (by rw [← unhide HN, e]; rfl))
  have q3 : (0 : Int) < (n : Int) := by omega
  have q4 : 0 < n := by omega
  clear hn0
  go_wp2_with fail
  refine (unhide C1).mono ?_
  rintro e w2 ⟨p, q, rfl, A2, b2⟩
  have B2 := hide (below_far (unhide B1) b2)
  have A2' := hide A2
  have S1 := (unhide B1).size
  have hp1 : Hid (w1.heap.size ≤ p ∧ w1.heap.size ≤ q) := hide ⟨A2.own.1.1, A2.own.2.1⟩
  clear A2 b2 C1
  -- mine
  obtain ⟨W3, hW3⟩ : ∃ W, w2.alloc (.cells #[] 3) = W := ⟨_, rfl⟩
  have b3 : Below w2.heap.size w2 W3 := by rw [← hW3]; exact (Below.refl _ w2).alloc (Nat.le_refl _) _
  have i3 : Ir w2.heap.size W3 (.slice (some ⟨w2.heap.size, 0, none⟩) 0 0) [] := ⟨rfl, Or.inr ⟨w2.heap.size, 0, #[], rfl, Nat.le_refl _, by rw [← hW3]; exact box_at _ _, Nat.le_refl _, by decide, rfl, rfl⟩⟩
  have I3 := hide i3
  have B3 := hide (below_far (unhide B2) b3)
  have S3 := hide b3.size
  have A3 := hide ((unhide A2').below b3)
  have M3 := hide ((unhide HI).below (unhide B3))
  have HL3 : Hid (([] : List Int).length + n ≤ 1000000000) := hide (by simp; omega)
  clear b3 i3
  subst hW3
  go_upto_region 7 with (refine wpList_app rfl (.tmp 24) (.tmp 25) rfl w2.heap.size (.slice (some ⟨w2.heap.size, 0, none⟩) 0 0) [] rfl (unhide I3) ao n cap ms rfl (unhide HN) (unhide M3) (unhide HL3) (unhide S3) ?_
                         intro v4 w4 i4 g4)
  rw [List.nil_append] at i4
  have b4 : Below w2.heap.size (w2.alloc (.cells #[] 3)) w4 := (Below.refl _ _).grown g4 (unhide S3) (fun k hk => by cases hk; exact Nat.le_refl _)
  have A4 := (unhide A3).kp (Kp.of_grown g4) (fun k hk e => by cases e; exact Nat.lt_irrefl _ hk.2)
  obtain ⟨mo4, c4, rfl, -⟩ := i4.slice
  obtain ⟨g, cs, rfl, hg2, hgb, hgc⟩ := i4.first (unhide HNE)
  have hpq := (unhide A2').own
  have hgp : g ≠ p := fun e => by have := hpq.1.2; omega
  have hgq : g ≠ q := fun e => by have := hpq.2.2; omega
  have in4 : InF (fun k => k ≠ p) w4 (some ⟨g, 0, none⟩) ms := i4.inF.mono (fun k hk => by cases hk; exact hgp)
  have hml : ms.length ≤ 1000000 := by rw [unhide HN]; omega
  have CA := accept_ok w4 3 4 ⟨2, 0, 0, ⟨#[]⟩, ms, 0⟩ (some ⟨g, 0, none⟩) c4 A4 in4 hml (by decide) (by decide)
  simp only [unhide HN] at CA
  have CC := hide CA
  have B4 := hide ((unhide B3).trans (b4.mono (unhide B2).size))
  have HG := hide (And.intro hg2 (And.intro hgb hgc))
  have HGP := hide (And.intro hgp hgq)
  have HML := hide hml
  rw [unhide HN]
  clear i4 g4 b4 A4 in4 CA hpq hg2 hgb hgc hgp hgq hml A3 I3 S3 M3 HL3
  go_wp2_with fail
  refine (unhide CC).mono ?_
  rintro e w5 ⟨rfl, A5, k5⟩
  have hgb5 := k5.block (unhide HG).2.1 (fun x => by rcases x with x | x; exact (unhide HGP).1 x; exact (unhide HGP).2 x)
  have hgc5 := k5.cell (unhide HG).2.2 (fun x => by rcases x with x | x; exact (unhide HGP).1 x; exact (unhide HGP).2 x)
  have hfz5 : w5.frozen? ⟨g, 0, none⟩ = false := free_of_block hgb5
  obtain ⟨W6, hW6⟩ : ∃ W, w5.setCell ⟨g, 0, none⟩ (.int .i64 by_) = W := ⟨_, rfl⟩
  have hg4 := heap_lt (unhide HG).2.1
  have A6 : Ac (News (fun k => w1.heap.size ≤ k ∧ k < w2.heap.size) w4 w5) W6 p q 3 (Vf.none.put 4 3 ⟨2, 0, 0, ⟨#[]⟩, ms, 0⟩) (0 + 1) := by
    rw [← hW6]
    refine A5.kp (E := fun k => k = g) (Kp.setCell (D := fun k => k = g) (Kp.refl _ _) (p := ⟨g, 0, none⟩) rfl _) (fun k hk e => ?_)
    subst e
    have := (unhide HG).1
    rcases hk with x | x <;> omega
  have B5 : Below w.heap.size w w5 := (unhide B4).trans (k5.below (fun k hk => by have := unhide hp1; rcases hk with rfl | rfl <;> omega) (unhide B4).size)
  have B6 : Below w.heap.size w W6 := by
    rw [← hW6]
    exact B5.setCell (p := ⟨g, 0, none⟩) (by have := (unhide HG).1; have := (unhide B2).size; show w.heap.size ≤ g; omega) _
  have hs56 : W6.heap.size = w5.heap.size := by rw [← hW6]; simp [World.setCell]
  have C6 := votes_any W6 A6
  rw [all_one (by decide) (by decide)] at C6
  have CC6 := hide C6
  have A6' := hide A6
  have B6' := hide B6
  have HS := hide hs56
  have HW6 := hide hW6
  clear A5 k5 hgb5 hW6 hg4 A6 B5 B6 hs56 C6 CC B4 HG HGP
  go_upto_region 9 with fail
  rw [unhide HW6]
  go_wp2_with fail
  refine (unhide CC6).mono ?_
  rintro e w7 ⟨rv, rfl, r7, b7⟩
  obtain ⟨ao7, cap7, rfl, -, -⟩ := r7.slice
  obtain ⟨g7, off7, mo7, mc7, rfl, -, -, -, -, -, -, c6, -, hmm7, -⟩ := (r7.vsR).at (k := 0) (v := ⟨4, 3, ⟨2, 0, 0, ⟨#[]⟩, ms, 0⟩⟩) rfl
  simp only [Nat.zero_mul, Nat.add_zero, unhide HN, List.length_singleton] at c6 hmm7 ⊢
  have i7 := hmm7.own (unhide HNE)
  rw [unhide HN] at i7
  obtain ⟨g8, cs8, rfl, hg8, hb8, hc8⟩ := i7.first (unhide HNE)
  have hfz8 : w7.frozen? ⟨g8, 0, none⟩ = false := free_of_block hb8
  obtain ⟨W8, hW8⟩ : ∃ W, w7.setCell ⟨g8, 0, none⟩ (.int .i64 by_) = W := ⟨_, rfl⟩
  have A8 : Ac (News (fun k => w1.heap.size ≤ k ∧ k < w2.heap.size) w4 w5) W8 p q 3 (Vf.none.put 4 3 ⟨2, 0, 0, ⟨#[]⟩, ms, 0⟩) (0 + 1) := by
    rw [← hW8]
    refine ((unhide A6').below b7).kp (E := fun k => k = g8) (Kp.setCell (D := fun k => k = g8) (Kp.refl _ _) (p := ⟨g8, 0, none⟩) rfl _) (fun k hk e => ?_)
    subst e
    have := (unhide A6').lt k hk
    omega
  have B8 : Below w.heap.size w W8 := by
    rw [← hW8]
    exact (below_far (unhide B6') b7).setCell (p := ⟨g8, 0, none⟩) (by have := (unhide B6').size; show w.heap.size ≤ g8; omega) _
  have C8 := prepare_ok W8 9 1 A8 (by decide)
  rw [toldOf_one, all_one (by decide) (by decide)] at C8
  have CC8 := hide C8
  have A8' := hide A8
  have B8' := hide B8
  have HW8 := hide hW8
  clear r7 b7 hmm7 i7 hg8 hb8 hW8 A8 B8 C8 CC6 A6' B6' HS
  go_upto_region 13 with fail
  rw [unhide HW8]
  clear c6 hc8 hfz8 hfz5 hgc5
  go_wp2_with fail
  refine (unhide CC8).mono ?_
  rintro e w9 ⟨rv9, rfl, r9, A9, k9⟩
  obtain ⟨ao9, cap9, rfl, -, -⟩ := r9.slice
  have B9 := hide ((unhide B8').trans (k9.below (base := w.heap.size) (fun k hk => by subst hk; have := unhide hp1; omega) (unhide B8').size))
  have C9 := votes_any w9 A9
  rw [all_one (by decide) (by decide)] at C9
  have CC9 := hide C9
  have R9 := hide r9
  simp only [List.length_singleton]
  clear r9 A9 k9 C9 CC8 A8' B8'
  go_wp2_with fail
  refine (unhide CC9).mono ?_
  rintro e w10 ⟨rv10, rfl, r10, b10⟩
  obtain ⟨ao10, cap10, rfl, -, -⟩ := r10.slice
  have CP := pick_any 0 w9.heap.size ao10 1 cap10 [⟨4, 3, ⟨2, 0, 0, ⟨#[]⟩, ms, 0⟩⟩] rfl (by decide) 4 w10 r10.vsR
  rw [pick_one] at CP
  simp only [PickOut, unhide HN] at CP
  have CCP := hide CP
  have R10 := hide ((unhide R9).below b10)
  have B10 := hide (below_far (unhide B9) b10)
  simp only [List.length_singleton]
  clear r10 b10 CP CC9
  go_wp2_with fail
  refine (unhide CCP).mono ?_
  rintro e w11 ⟨⟨mo11, mc11, rfl, i11⟩, b11⟩
  obtain ⟨W12, hW12⟩ : ∃ W, w11.alloc (.cells #[.int .i64 2, .int .i64 0, .int .i64 0, .string ⟨#[]⟩, .slice mo11 n mc11, .int .i64 0] 32) = W := ⟨_, rfl⟩
  have b12 : Below w11.heap.size w11 W12 := by rw [← hW12]; exact (Below.refl _ w11).alloc (Nat.le_refl _) _
  have x12 : W12.heap[w11.heap.size]? = some (.cells #[.int .i64 2, .int .i64 0, .int .i64 0, .string ⟨#[]⟩, .slice mo11 n mc11, .int .i64 0] 32 (0, 0)) := by rw [← hW12]; exact box_at _ _
  have bb := below_far b11 b12
  have B12 := hide (below_far (unhide B10) bb)
  obtain ⟨g9, off9, mo9, mc9, rfl, -, -, -, -, -, -, c9, -, hmm9, -⟩ := (((unhide R10).below bb).vsR).at (k := 0) (v := ⟨4, 3, ⟨2, 0, 0, ⟨#[]⟩, ms, 0⟩⟩) rfl
  simp only [Nat.zero_mul, Nat.add_zero, unhide HN] at c9
  have hn9 : n ≤ 1000000000 := by omega
  have CS1 := hide (sints_eq mo9 ao n mc9 cap ms (unhide HN) hn9 W12 hmm9.ints ((unhide HI).below (unhide B12)))
  have HI11 := hide ((Ir.inF i11).ints.below b12)
  have X12 := hide x12
  have HW12 := hide hW12
  clear b11 b12 bb x12 hW12 hmm9 i11 CCP R9 R10
  go_upto_region 15 with fail
  rw [unhide HW12]
  go_wp2_with fail
  refine (unhide CS1).mono ?_
  rintro e w13 ⟨rfl, b13⟩
  have k13 : w13.cell? ⟨w11.heap.size, 4, none⟩ = some (.slice mo11 n mc11) := (cell_of_block (Below.stay b13 (unhide X12))).trans rfl
  have CS2 := hide (sints_eq mo11 ao n mc11 cap ms (unhide HN) hn9 w13 ((unhide HI11).below b13) ((unhide HI).below (below_far (unhide B12) b13)))
  have B13 := hide (below_far (unhide B12) b13)
  clear b13 c9 CS1
  go_wp2_with fail
  refine (unhide CS2).mono ?_
  rintro e w14 ⟨rfl, b14⟩
  have B14 := hide (below_far (unhide B13) b14)
  clear b14 k13
  go_wp2
  go_ret
  exact ⟨rfl, unhide B14⟩
end Go.Proofs.Ytiibedgobhhikaa
