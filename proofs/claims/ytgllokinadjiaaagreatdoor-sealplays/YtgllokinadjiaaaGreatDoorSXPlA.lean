/- SealPlays: the code's generations and the document's side by side. -/
import Derived.Test.YtgllokinadjiaaaGreatDoorSXLaw
namespace Go.Proofs.YtgllokinadjiaaaGreatDoor
open Go.RowKit Go.Maps

/-- generations behind a seal, or as they were. -/
def sealTo (gs : List Gn) (l : Gn) (index eng : Int) (old new : List Int) : List Gn := if sealNo gs l index eng old new = 0 then gs ++ [⟨IntKind.i64.wrap (l.n + 1), eng, index, new⟩] else gs
/-- what all generations here keep. -/
structure GoodG (gs : List Gn) : Prop where
  ne : gs ≠ []
  len : gs.length ≤ 60
  fit : FitG gs
  ok : ∀ g ∈ gs, g.ok
theorem GoodG.last {gs : List Gn} (h : GoodG gs) : ∃ l, gs[gs.length - 1]? = some l ∧ l.ok := by
  have hp : 0 < gs.length := List.length_pos_iff.2 h.ne
  exact ⟨gs[gs.length - 1]'(by omega), List.getElem?_eq_getElem (by omega), h.ok _ (List.getElem_mem _)⟩
theorem wrong_zero {new : List Int} {b : Bool} (h : wrongOf b new = 0) : new.length ≤ 7 ∧ ∀ y ∈ new, 0 ≤ y ∧ y < 9 := by
  unfold wrongOf at h
  split at h
  · cases h
  · split at h
    · cases h
    · rename_i h7
      split at h
      · rename_i hc
        exact ⟨by omega, ((climb_up new).1 hc).2⟩
      · cases h
theorem check_zero {old new : List Int} (h : checkOf old new = 0) : new.length ≤ 7 ∧ ∀ y ∈ new, 0 ≤ y ∧ y < 9 := by
  unfold checkOf at h
  split at h
  · exact wrong_zero h
  · rename_i hn; exact absurd h hn
theorem seal_zero {gs : List Gn} {l : Gn} {index eng : Int} {old new : List Int} (h : sealNo gs l index eng old new = 0) : gs.length < 60 ∧ old = [] ∧ checkOf old new = 0 := by
  unfold sealNo wrongG wrongB at h
  split at h
  · cases h
  · split at h
    · rename_i hc; exact absurd h (by omega)
    · rename_i hc
      split at h
      · cases h
      · rename_i hj
        split at h
        · cases h
        · rename_i hk
          simp at hj hk
          exact ⟨by omega, hj, by simpa using hc⟩
theorem in64_wrap (y : Int) : in64 (IntKind.i64.wrap y) := by
  unfold in64
  simp only [IntKind.wrap, IntKind.bits, IntKind.signed]
  simp
  omega
theorem GoodG.sealTo {gs : List Gn} (h : GoodG gs) {l : Gn} {index eng : Int} (hi : in64 index) (he : in64 eng) (old new : List Int) : GoodG (sealTo gs l index eng old new) := by
  unfold Go.Proofs.YtgllokinadjiaaaGreatDoor.sealTo
  by_cases h0 : sealNo gs l index eng old new = 0
  · rw [if_pos h0]
    obtain ⟨h1, rfl, h2⟩ := seal_zero h0
    obtain ⟨h3, h4⟩ := check_zero h2
    refine ⟨by simp, by simp; omega, h.fit.snoc h0, fun g hg => ?_⟩
    rw [List.mem_append] at hg
    rcases hg with hg | hg
    · exact h.ok g hg
    · simp at hg; subst hg
      exact ⟨in64_wrap _, he, hi, fun y hy => by have := h4 y hy; exact ⟨by omega, by omega⟩, h3⟩
  · rw [if_neg h0]; exact h
/-- both, in memory that is not older than a world's first blocks; what lies in the blocks of F neither writes. -/
structure PlS (b0 : Nat) (F : Nat → Prop) (w : World) (p x : Nat) (gs hs : List Gn) : Prop where
  ex : ∃ D rv, Gs D w p gs ∧ XG F b0 w x rv hs ∧ (∀ k, D k → b0 ≤ k) ∧ ¬ D x ∧ (∀ k, rv.ownBlock = some k → ¬ D k ∧ k < w.heap.size) ∧ ∀ k, F k → k < w.heap.size ∧ ¬ D k ∧ k ≠ x ∧ rv.ownBlock ≠ some k
  size : b0 ≤ w.heap.size
theorem PlS.gs {b0 : Nat} {F : Nat → Prop} {w : World} {p x : Nat} {gs hs : List Gn} (h : PlS b0 F w p x gs hs) : ∃ D, Gs D w p gs := by
  obtain ⟨⟨D, rv, h1, -⟩, -⟩ := h; exact ⟨D, h1⟩
theorem PlS.xg {b0 : Nat} {F : Nat → Prop} {w : World} {p x : Nat} {gs hs : List Gn} (h : PlS b0 F w p x gs hs) : ∃ rv, XG F b0 w x rv hs := by
  obtain ⟨⟨D, rv, -, h1, -⟩, -⟩ := h; exact ⟨rv, h1⟩
/-- blocks that are made later may be watched, too. -/
theorem PlS.grow {b0 : Nat} {F G : Nat → Prop} {w w' : World} {p x : Nat} {gs hs : List Gn} (h : PlS b0 F w p x gs hs) (hb : Below w.heap.size w w') (hFG : ∀ k, F k → G k) (hG : ∀ k, G k → F k ∨ (w.heap.size ≤ k ∧ k < w'.heap.size)) : PlS b0 G w' p x gs hs := by
  obtain ⟨⟨D, rv, h1, h2, h3, h4, h5, h6⟩, hs⟩ := h
  have hxl := heap_lt h2.box
  refine ⟨⟨D, rv, h1.below hb, (h2.below hb).mono hFG, h3, h4, fun k hk => ⟨(h5 k hk).1, Nat.lt_of_lt_of_le (h5 k hk).2 hb.size⟩, fun k hk => ?_⟩, Nat.le_trans hs hb.size⟩
  rcases hG k hk with y | y
  · obtain ⟨a, b, c, d⟩ := h6 k y
    exact ⟨Nat.lt_of_lt_of_le a hb.size, b, c, d⟩
  · refine ⟨y.2, fun hd => ?_, fun e => ?_, fun e => ?_⟩
    · have := h1.lt k hd; omega
    · omega
    · have := (h5 k e).2; omega
theorem PlS.below {b0 : Nat} {F : Nat → Prop} {w w' : World} {p x : Nat} {gs hs : List Gn} (h : PlS b0 F w p x gs hs) (hb : Below w.heap.size w w') : PlS b0 F w' p x gs hs := h.grow hb (fun _ hk => hk) (fun _ hk => Or.inl hk)
/-- a store into a watched block that holds no members. -/
theorem PlS.kept {b0 : Nat} {F E : Nat → Prop} {w w' : World} {p x : Nat} {gs hs : List Gn} (h : PlS b0 F w p x gs hs) (hk : Kp E w w') (hE : ∀ k, E k → F k) {G : Nat → Prop} (hG : ∀ k, G k → F k ∧ ¬ E k) (hrow : ∀ rv, XG F b0 w x rv hs → XG G b0 w x rv hs) : PlS b0 G w' p x gs hs := by
  obtain ⟨⟨D, rv, h1, h2, h3, h4, h5, h6⟩, hs⟩ := h
  have h2' := hrow rv h2
  refine ⟨⟨D, rv, h1.kp hk (fun k hd he => (h6 k (hE k he)).2.1 hd), ⟨hk.block h2'.box (fun he => (h6 x (hE x he)).2.2.1 rfl), h2'.row.keep hk (fun k hg => (hG k hg).2) (fun k hv he => (h6 k (hE k he)).2.2.2 hv), h2'.lo⟩, h3, h4, fun k hk' => ⟨(h5 k hk').1, Nat.lt_of_lt_of_le (h5 k hk').2 hk.size⟩, fun k hk' => ?_⟩, Nat.le_trans hs hk.size⟩
  obtain ⟨a, b, c, d⟩ := h6 k (hG k hk').1
  exact ⟨Nat.lt_of_lt_of_le a hk.size, b, c, d⟩
theorem pls_seal {b0 : Nat} {F : Nat → Prop} {w : World} {p x : Nat} {gs hs : List Gn} (h : PlS b0 F w p x gs hs) (hl : gs.length ≤ 1000) {l : Gn} (hg : gs[gs.length - 1]? = some l) (index eng : Int) (xo mo : Option Addr) (xn xc m mc : Nat) (old new : List Int) (hno : old.length = xn) (hnn : new.length = m) (hlo : xn ≤ 1000) (hln : m ≤ 1000) (ho : IntsR w xo old) (hw : IntsR w mo new) :
    Calls Tryz.prog 12 #[.pointer (some ⟨p, 0, none⟩), .int .i64 index, .int .i64 eng, .agg #[.slice xo xn xc, .slice mo m mc]] w fun z w' => z = .returned (.int .i64 (sealNo gs l index eng old new)) ∧ PlS b0 F w' p x (sealTo gs l index eng old new) hs ∧ Below b0 w w' ∧ ∀ k, F k → w'.heap[k]? = w.heap[k]? := by
  by_cases h0 : sealNo gs l index eng old new = 0
  · obtain ⟨⟨D, rv, h1, h2, h3, h4, h5, h6⟩, hs⟩ := h
    unfold sealTo
    rw [if_pos h0, h0]
    refine (seal_ok h1 (by omega) hg index eng xo mo xn xc m mc old new hno hnn (by omega) (by omega) ho hw h0).mono ?_
    rintro z w' ⟨rfl, hg', hk⟩
    have hxl := heap_lt h2.box
    refine ⟨rfl, ⟨⟨_, rv, hg', ⟨hk.block h2.box h4, h2.row.keep hk (fun k hf => (h6 k hf).2.1) (fun k hv => (h5 k hv).1), h2.lo⟩, fun k hd => ?_, fun hd => ?_, fun k hv => ⟨fun hd => ?_, Nat.lt_of_lt_of_le (h5 k hv).2 hk.size⟩, fun k hf => ⟨Nat.lt_of_lt_of_le (h6 k hf).1 hk.size, fun hd => ?_, (h6 k hf).2.2.1, (h6 k hf).2.2.2⟩⟩, Nat.le_trans hs hk.size⟩, hk.below h3 hs, fun k hf => hk.2 k (h6 k hf).1 (h6 k hf).2.1⟩
    · rcases hd with y | y
      · exact h3 k y
      · omega
    · rcases hd with y | y
      · exact h4 y
      · omega
    · rcases hd with y | y
      · exact (h5 k hv).1 y
      · have := (h5 k hv).2; omega
    · rcases hd with y | y
      · exact (h6 k hf).2.1 y
      · have := (h6 k hf).1; omega
  · unfold sealTo
    rw [if_neg h0]
    obtain ⟨D, h1⟩ := h.gs
    have hs := h.size
    obtain ⟨⟨D', rv, h1', h2, h3, h4, h5, h6⟩, -⟩ := id h
    refine (seal_no h1 (by omega) hg index eng xo mo xn xc m mc old new hno hnn (by omega) (by omega) ho hw h0).mono ?_
    rintro z w' ⟨rfl, hb⟩
    exact ⟨rfl, h.below hb, hb.mono hs, fun k hf => hb.block k (h6 k hf).1⟩
theorem pls_xseal {b0 : Nat} {F : Nat → Prop} {w : World} {p x : Nat} {gs hs : List Gn} (h : PlS b0 F w p x gs hs) (hl : hs.length ≤ 1000) {l : Gn} (hg : hs[hs.length - 1]? = some l) (index eng : Int) (xo mo : Option Addr) (xn xc m mc : Nat) (old new : List Int) (hno : old.length = xn) (hnn : new.length = m) (hlo : xn ≤ 1000) (hln : m ≤ 1000) (ho : IntsR w xo old) (hw : InF F w mo new) :
    Calls Tryz.prog 13 #[.pointer (some ⟨x, 0, none⟩), .int .i64 index, .int .i64 eng, .agg #[.slice xo xn xc, .slice mo m mc]] w fun z w' => z = .returned (.int .i64 (sealNo hs l index eng old new)) ∧ PlS b0 F w' p x gs (sealTo hs l index eng old new) ∧ Below b0 w w' ∧ ∀ k, F k → w'.heap[k]? = w.heap[k]? := by
  obtain ⟨⟨D, rv, h1, h2, h3, h4, h5, h6⟩, hsz⟩ := id h
  have hFx : ¬ F x := fun hf => (h6 x hf).2.2.1 rfl
  refine (xseal_any h2 hl hg hFx hsz index eng xo mo xn xc m mc old new hno hnn hlo hln ho hw).mono ?_
  rintro z w' ⟨rfl, hA, hB⟩
  refine ⟨rfl, ?_⟩
  by_cases h0 : sealNo hs l index eng old new = 0
  · unfold sealTo
    rw [if_pos h0]
    obtain ⟨rv', hx, hk, hv⟩ := hB h0
    have hlo : ∀ k, k = x → b0 ≤ k := fun k hk' => by rw [hk']; exact h2.lo
    refine ⟨⟨⟨D, rv', h1.kp hk (fun k hd he => h4 (he ▸ hd)), hx, h3, h4, fun k hv' => ⟨fun hd => ?_, ?_⟩, fun k hf => ⟨Nat.lt_of_lt_of_le (h6 k hf).1 hk.size, (h6 k hf).2.1, (h6 k hf).2.2.1, fun e => ?_⟩⟩, Nat.le_trans hsz hk.size⟩, hk.below hlo hsz, fun k hf => hk.2 k (h6 k hf).1 (h6 k hf).2.2.1⟩
    · have := hv k hv'; have := h1.lt k hd; omega
    · obtain ⟨_, cur, fr, hc⟩ := hx.row.tag k hv'
      exact heap_lt hc
    · have := hv k e; have := (h6 k hf).1; omega
  · unfold sealTo
    rw [if_neg h0]
    have hb := hA h0
    exact ⟨h.below hb, hb.mono hsz, fun k hf => hb.block k (h6 k hf).1⟩
end Go.Proofs.YtgllokinadjiaaaGreatDoor
