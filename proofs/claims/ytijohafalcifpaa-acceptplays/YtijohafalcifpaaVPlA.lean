/- AcceptPlays: both acceptors side by side. -/
import Derived.Test.YtijohafalcifpaaVXAcc
import Derived.Test.YtijohafalcifpaaVXPrep
import Derived.Test.YtijohafalcifpaaVFace
import Derived.Test.YtijohafalcifpaaVAccept
import Derived.Test.YtijohafalcifpaaVCall
namespace Go.Proofs.Ytijohafalcifpaa
open Go.RowKit Go.Maps

/-- the cells of a call's box. -/
def callCells (c : Cl) (mo : Option Addr) (mc : Nat) : Array Value := #[.bool c.acc, .int .i64 c.ballot, .int .i64 c.slot, .int .i64 c.e.kind, .int .i64 c.e.client, .int .i64 c.e.seq, .string c.e.text, .slice mo c.e.ms.length mc, .int .i64 c.e.dest]
/-- the acceptor, the document's, and a call's box. -/
structure Ps (w0 w : World) (p q x B : Nat) (bx : Array Value) (P : Int) (f : Vf) (P2 : Int) (f2 : Vf) (n : Nat) : Prop where
  ex : ∃ D, Ac D w p q P f n ∧ ¬ D x
  xa : Xa w0.heap.size w0.heap.size w x P2 f2
  box : w.heap[B]? = some (.cells bx 34 (0, 0))
  lo : w0.heap.size ≤ p ∧ w0.heap.size ≤ q ∧ w0.heap.size ≤ x
  bel : Below w0.heap.size w0 w
theorem Ps.below {w0 w w' : World} {p q x B : Nat} {bx : Array Value} {P : Int} {f : Vf} {P2 : Int} {f2 : Vf} {n : Nat} (h : Ps w0 w p q x B bx P f P2 f2 n) (hb : Below w.heap.size w w') : Ps w0 w' p q x B bx P f P2 f2 n := by
  obtain ⟨⟨D, h1, h2⟩, h3, h4, h5, h6⟩ := h
  exact ⟨⟨D, h1.below hb, h2⟩, h3.below hb, Below.stay hb h4, h5, below_far h6 hb⟩
theorem Ps.drew {w0 w : World} {p q x B : Nat} {bx : Array Value} {P : Int} {f : Vf} {P2 : Int} {f2 : Vf} {n : Nat} (h : Ps w0 w p q x B bx P f P2 f2 n) : Ps w0 w.drew p q x B bx P f P2 f2 n := h.below (Below.refl _ _).drew
theorem Ps.mono {w0 w : World} {p q x B : Nat} {bx : Array Value} {P : Int} {f : Vf} {P2 : Int} {f2 : Vf} {n m : Nat} (h : Ps w0 w p q x B bx P f P2 f2 n) (hm : n ≤ m) : Ps w0 w p q x B bx P f P2 f2 m := by
  obtain ⟨⟨D, h1, h2⟩, h3, h4, h5, h6⟩ := h
  exact ⟨⟨D, h1.mono hm, h2⟩, h3, h4, h5, h6⟩
theorem Ps.kpA {w0 w w' : World} {p q x B : Nat} {bx : Array Value} {P b : Int} {f g : Vf} {P2 : Int} {f2 : Vf} {n m : Nat} {D D' : Nat → Prop} (h1 : Ac D w p q P f n) (h3 : Xa w0.heap.size w0.heap.size w x P2 f2) (h4 : w.heap[B]? = some (.cells bx 34 (0, 0))) (h5 : w0.heap.size ≤ p ∧ w0.heap.size ≤ q ∧ w0.heap.size ≤ x) (h6 : Below w0.heap.size w0 w)
    (a : Ac D' w' p q b g m) (hx : ¬ D' x) (hk : Kp (foot p q) w w') : Ps w0 w' p q x B bx b g P2 f2 m := by
  refine ⟨⟨D', a, hx⟩, h3.far hk (h1.far h5.1 h5.2.1 (by decide)), hk.block h4 (fun hh => ?_), h5, h6.trans (hk.below (fun k hk => by rcases hk with rfl | rfl; exact h5.1; exact h5.2.1) h6.size)⟩
  exact (h1.far (low := 0) (ts := [34]) (Nat.zero_le _) (Nat.zero_le _) (by decide) B hh (heap_lt h4)).2 _ _ _ h4 (by simp)
theorem Ps.kpX {w0 w w' : World} {p q x B : Nat} {bx : Array Value} {P b : Int} {f g : Vf} {P2 : Int} {f2 : Vf} {n : Nat} (h : Ps w0 w p q x B bx P f P2 f2 n) (a : Xa w0.heap.size w0.heap.size w' x b g) (hk : Kp (fun k => k = x) w w') : Ps w0 w' p q x B bx P f b g n := by
  obtain ⟨⟨D, h1, h2⟩, h3, h4, h5, h6⟩ := h
  refine ⟨⟨D, h1.kp hk (fun k hd e => h2 (by rw [← e]; exact hd)), h2⟩, a, hk.block h4 (fun hh => ?_), h5, h6.trans (hk.below (fun k hk => by rw [hk]; exact h5.2.2) h6.size)⟩
  obtain ⟨rv, k1, _⟩ := h3.box
  rw [hh, k1] at h4; cases h4
/-- what Accept does. -/
def accP (P b : Int) (bad : Bool) : Int := if noOf P b bad = 0 then b else P
def accF (f : Vf) (P b s : Int) (e : En) (bad : Bool) : Vf := if noOf P b bad = 0 then f.put s b e else f
theorem Ps.accA {w0 w : World} {p q x B : Nat} {bx : Array Value} {P : Int} {f : Vf} {P2 : Int} {f2 : Vf} {n : Nat} (h : Ps w0 w p q x B bx P f P2 f2 n) (b s : Int) (e : En) (mo : Option Addr) (mc : Nat) (hi : InF (fun k => k < w0.heap.size) w0 mo e.ms) (hl : e.ms.length ≤ 1000000) (hc : n < 1000000) (no : Int) (hno : noOf P b (decide (s < 1 ∨ 64 < s)) = no) :
    Calls Try.prog 12 #[.pointer (some ⟨p, 0, none⟩), .int .i64 b, .int .i64 s, .agg #[.int .i64 e.kind, .int .i64 e.client, .int .i64 e.seq, .string e.text, .slice mo e.ms.length mc, .int .i64 e.dest]] w fun r w' => r = .returned (.int .i64 no) ∧ Ps w0 w' p q x B bx (accP P b (decide (s < 1 ∨ 64 < s))) (accF f P b s e (decide (s < 1 ∨ 64 < s))) P2 f2 (n + 1) := by
  have h0 := h
  obtain ⟨⟨D, h1, h2⟩, h3, h4, h5, h6⟩ := h
  by_cases hn : noOf P b (decide (s < 1 ∨ 64 < s)) = 0
  · unfold accP accF
    rw [if_pos hn, if_pos hn]
    obtain rfl : no = 0 := hno.symm.trans hn
    refine (accept_ok w b s e mo mc h1 ((hi.below h6).mono (fun k hk => by have := h5.1; omega)) hl hc hn).mono ?_
    rintro r w' ⟨rfl, a, kp⟩
    refine ⟨rfl, Ps.kpA h1 h3 h4 h5 h6 a (fun hx => ?_) kp⟩
    rcases hx with hx | hx
    · exact h2 hx
    · obtain ⟨rv, k1, _⟩ := h3.box
      have := heap_lt k1; omega
  · unfold accP accF
    rw [if_neg hn, if_neg hn]
    refine (accept_no w b s e mo mc h1 hn).mono ?_
    rintro r w' ⟨rfl, hb⟩
    exact ⟨by rw [hno], (h0.below hb).mono (Nat.le_succ _)⟩
theorem Ps.accX {w0 w : World} {p q x B : Nat} {bx : Array Value} {P : Int} {f : Vf} {P2 : Int} {f2 : Vf} {n : Nat} (h : Ps w0 w p q x B bx P f P2 f2 n) (b s : Int) (e : En) (mo : Option Addr) (mc : Nat) (hi : InF (fun k => k < w0.heap.size) w0 mo e.ms) (hl : e.ms.length ≤ 1000000) (no : Int) (hno : noOf P2 b (decide (s < 1 ∨ 64 < s)) = no) :
    Calls Try.prog 13 #[.pointer (some ⟨x, 0, none⟩), .int .i64 b, .int .i64 s, .agg #[.int .i64 e.kind, .int .i64 e.client, .int .i64 e.seq, .string e.text, .slice mo e.ms.length mc, .int .i64 e.dest]] w fun r w' => r = .returned (.int .i64 no) ∧ Ps w0 w' p q x B bx P f (accP P2 b (decide (s < 1 ∨ 64 < s))) (accF f2 P2 b s e (decide (s < 1 ∨ 64 < s))) n := by
  by_cases hn : noOf P2 b (decide (s < 1 ∨ 64 < s)) = 0
  · unfold accP accF
    rw [if_pos hn, if_pos hn]
    obtain rfl : no = 0 := hno.symm.trans hn
    refine (xaccept_ok w b s e mo mc h.xa (Nat.le_refl _) h.bel.size h.lo.2.2 (hi.below h.bel) hl hn).mono ?_
    rintro r w' ⟨rfl, a, kp⟩
    exact ⟨rfl, h.kpX a kp⟩
  · unfold accP accF
    rw [if_neg hn, if_neg hn]
    refine (xaccept_no w b s e mo mc h.xa hn).mono ?_
    rintro r w' ⟨rfl, hb⟩
    exact ⟨by rw [hno], h.below hb⟩
/-- what Prepare tells. -/
def prepL (f : Vf) (P b frm : Int) : List Vt := if noOf P b false = 0 then toldOf f frm else []
theorem Ps.prepA {w0 w : World} {p q x B : Nat} {bx : Array Value} {P : Int} {f : Vf} {P2 : Int} {f2 : Vf} {n : Nat} (h : Ps w0 w p q x B bx P f P2 f2 n) (b frm : Int) (no : Int) (hno : noOf P b false = no) (L : Nat) (hL : (prepL f P b frm).length = L) :
    Calls Try.prog 14 #[.pointer (some ⟨p, 0, none⟩), .int .i64 b, .int .i64 frm] w fun r w' => ∃ ao cap, r = .returned (.tuple #[.slice ao L cap, .int .i64 no]) ∧ VRow 54 0 w.heap.size w' (.slice ao L cap) (prepL f P b frm) ∧ Ps w0 w' p q x B bx (accP P b false) f P2 f2 n := by
  have h0 := h
  obtain ⟨⟨D, h1, h2⟩, h3, h4, h5, h6⟩ := h
  by_cases hn : noOf P b false = 0
  · unfold prepL at hL ⊢
    unfold accP
    rw [if_pos hn] at hL ⊢
    rw [if_pos hn]
    obtain rfl : no = 0 := hno.symm.trans hn
    refine (prepare_ok w b frm h1 hn).mono ?_
    rintro r w' ⟨rv, rfl, r1, a, kp⟩
    obtain ⟨ao, cap, rfl, -, -⟩ := r1.slice
    rw [hL] at r1 ⊢
    exact ⟨ao, cap, rfl, r1, Ps.kpA h1 h3 h4 h5 h6 a h2 (kp.mono (fun j _ hj => Or.inl hj))⟩
  · unfold prepL at hL ⊢
    unfold accP
    rw [if_neg hn] at hL ⊢
    rw [if_neg hn]
    refine (prepare_no w b frm h1 hn).mono ?_
    rintro r w' ⟨rfl, hb⟩
    obtain rfl : 0 = L := hL
    exact ⟨none, 0, by rw [hno], VRow.nil _ _ _ _, h0.below hb⟩
theorem Ps.prepX {w0 w : World} {p q x B : Nat} {bx : Array Value} {P : Int} {f : Vf} {P2 : Int} {f2 : Vf} {n : Nat} (h : Ps w0 w p q x B bx P f P2 f2 n) (b frm : Int) (no : Int) (hno : noOf P2 b false = no) (L : Nat) (hL : (prepL f2 P2 b frm).length = L) {b0 : Nat} {rv : Value} {vs : List Vt} (hr : VRow 54 0 b0 w rv vs) :
    Calls Try.prog 15 #[.pointer (some ⟨x, 0, none⟩), .int .i64 b, .int .i64 frm] w fun r w' => ∃ ao cap, r = .returned (.tuple #[.slice ao L cap, .int .i64 no]) ∧ VRow 55 w0.heap.size w0.heap.size w' (.slice ao L cap) (prepL f2 P2 b frm) ∧ VRow 54 0 b0 w' rv vs ∧ Ps w0 w' p q x B bx P f (accP P2 b false) f2 n := by
  by_cases hn : noOf P2 b false = 0
  · unfold prepL at hL ⊢
    unfold accP
    rw [if_pos hn] at hL ⊢
    rw [if_pos hn]
    obtain rfl : no = 0 := hno.symm.trans hn
    refine (xprepare_ok w b frm h.xa (Nat.le_refl _) h.bel.size h.lo.2.2 hn).mono ?_
    rintro r w' ⟨rw', rfl, r1, a, kp⟩
    obtain ⟨ao, cap, rfl, -, -⟩ := r1.row.slice
    rw [hL] at r1 ⊢
    refine ⟨ao, cap, rfl, r1.row, hr.far kp (ts := [3, 54]) (fun k hk _ => ⟨Nat.zero_le _, fun cur e fr hc => ?_⟩) (by simp) (by simp), h.kpX a kp⟩
    obtain ⟨rv2, k1, _⟩ := h.xa.box
    rw [hk, k1] at hc; cases hc; decide
  · unfold prepL at hL ⊢
    unfold accP
    rw [if_neg hn] at hL ⊢
    rw [if_neg hn]
    refine (xprepare_no w b frm h.xa hn).mono ?_
    rintro r w' ⟨rfl, hb⟩
    rw [hb]
    obtain rfl : 0 = L := hL
    exact ⟨none, 0, by rw [hno], VRow.nil _ _ _ _, hr, h⟩
theorem Ps.votes {w0 w : World} {p q x B : Nat} {bx : Array Value} {P : Int} {f : Vf} {P2 : Int} {f2 : Vf} {n : Nat} (h : Ps w0 w p q x B bx P f P2 f2 n) (L : Nat) (hL : (allOf f).length = L) :
    Calls Try.prog 17 #[.pointer (some ⟨p, 0, none⟩)] w fun r w' => ∃ ao cap, r = .returned (.slice ao L cap) ∧ VRow 54 0 w.heap.size w' (.slice ao L cap) (allOf f) ∧ Below w.heap.size w w' := by
  obtain ⟨⟨D, h1, h2⟩, _⟩ := h
  refine (votes_any w h1).mono ?_
  rintro r w' ⟨rv, rfl, r1, b1⟩
  obtain ⟨ao, cap, rfl, -, -⟩ := r1.slice
  rw [hL] at r1 ⊢
  exact ⟨ao, cap, rfl, r1, b1⟩
theorem Ps.promised {w0 w : World} {p q x B : Nat} {bx : Array Value} {P : Int} {f : Vf} {P2 : Int} {f2 : Vf} {n : Nat} (h : Ps w0 w p q x B bx P f P2 f2 n) :
    Calls Try.prog 20 #[.pointer (some ⟨p, 0, none⟩)] w fun e w' => e = .returned (.int .i64 P) ∧ w' = w := by
  obtain ⟨⟨D, h1, h2⟩, _⟩ := h
  exact promised_any w h1
/-- the document's, as it is read. -/
theorem Ps.reads {w0 w : World} {p q x B : Nat} {bx : Array Value} {P : Int} {f : Vf} {P2 : Int} {f2 : Vf} {n : Nat} (h : Ps w0 w p q x B bx P f P2 f2 n) (L : Nat) (hL : (allOf f2).length = L) : ∃ ao cap, w.heap[x]? = some (.cells #[.int .i64 P2, .slice ao L cap] 29 (0, 0)) ∧ VRow 55 w0.heap.size w0.heap.size w (.slice ao L cap) (allOf f2) := by
  obtain ⟨rv, k1, k2⟩ := h.xa.box
  obtain ⟨ao, cap, rfl, -, -⟩ := k2.row.slice
  rw [hL] at k1 k2
  exact ⟨ao, cap, k1, k2.row⟩
theorem Ps.nine {w0 w : World} {p q x B : Nat} {c : Cl} {mo : Option Addr} {mc : Nat} {P : Int} {f : Vf} {P2 : Int} {f2 : Vf} {n : Nat} (h : Ps w0 w p q x B (callCells c mo mc) P f P2 f2 n) :
    w.cell? ⟨B, 1, none⟩ = some (.int .i64 c.ballot) ∧ w.cell? ⟨B, 2, none⟩ = some (.int .i64 c.slot) ∧ w.cell? ⟨B, 3, none⟩ = some (.int .i64 c.e.kind) ∧ w.cell? ⟨B, 4, none⟩ = some (.int .i64 c.e.client) ∧ w.cell? ⟨B, 5, none⟩ = some (.int .i64 c.e.seq) ∧ w.cell? ⟨B, 6, none⟩ = some (.string c.e.text) ∧ w.cell? ⟨B, 7, none⟩ = some (.slice mo c.e.ms.length mc) ∧ w.cell? ⟨B, 8, none⟩ = some (.int .i64 c.e.dest) :=
  ⟨(cell_of_block h.box).trans rfl, (cell_of_block h.box).trans rfl, (cell_of_block h.box).trans rfl, (cell_of_block h.box).trans rfl, (cell_of_block h.box).trans rfl, (cell_of_block h.box).trans rfl, (cell_of_block h.box).trans rfl, (cell_of_block h.box).trans rfl⟩
/-- what the loop keeps. -/
def Pl (w0 w : World) (p q x : Nat) (n : Nat) : Prop :=
  ∃ (P : Int) (f : Vf) (D : Nat → Prop), Ac D w p q P f n ∧ ¬ D x ∧ Xa w0.heap.size w0.heap.size w x P f ∧ (w0.heap.size ≤ p ∧ w0.heap.size ≤ q ∧ w0.heap.size ≤ x) ∧ Below w0.heap.size w0 w
theorem Pl.bel {w0 w : World} {p q x n : Nat} (h : Pl w0 w p q x n) : Below w0.heap.size w0 w := by
  obtain ⟨_, _, _, _, _, _, _, h⟩ := h; exact h
theorem Pl.below {w0 w w' : World} {p q x n : Nat} (h : Pl w0 w p q x n) (hb : Below w.heap.size w w') : Pl w0 w' p q x n := by
  obtain ⟨P, f, D, h1, h2, h3, h4, h5⟩ := h
  exact ⟨P, f, D, h1.below hb, h2, h3.below hb, h4, below_far h5 hb⟩
theorem Pl.mono {w0 w : World} {p q x n m : Nat} (h : Pl w0 w p q x n) (hm : n ≤ m) : Pl w0 w p q x m := by
  obtain ⟨P, f, D, h1, h2⟩ := h
  exact ⟨P, f, D, h1.mono hm, h2⟩
theorem Pl.ps {w0 w : World} {p q x n : Nat} (h : Pl w0 w p q x n) {B : Nat} {bx : Array Value} (hB : w.heap[B]? = some (.cells bx 34 (0, 0))) : ∃ P f, Ps w0 w p q x B bx P f P f n := by
  obtain ⟨P, f, D, h1, h2, h3, h4, h5⟩ := h
  exact ⟨P, f, ⟨D, h1, h2⟩, h3, hB, h4, h5⟩
theorem Ps.pl {w0 w : World} {p q x B : Nat} {bx : Array Value} {P : Int} {f : Vf} {n : Nat} (h : Ps w0 w p q x B bx P f P f n) : Pl w0 w p q x n := by
  obtain ⟨⟨D, h1, h2⟩, h3, h4, h5, h6⟩ := h
  exact ⟨P, f, D, h1, h2, h3, h5, h6⟩
end Go.Proofs.Ytijohafalcifpaa
