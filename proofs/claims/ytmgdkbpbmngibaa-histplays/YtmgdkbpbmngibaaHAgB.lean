/- HistAgain: two logs side by side, and a box with a call. -/
import Derived.Test.YtmgdkbpbmngibaaHXPut
import Derived.Test.YtmgdkbpbmngibaaHNear
import Derived.Test.YtmgdkbpbmngibaaHAgainA
import Derived.Test.YtmgdkbpbmngibaaHCall
namespace Go.Proofs.Ytmgdkbpbmngibaa
open Go.RowKit Go.Maps

theorem InF.front {F : Nat → Prop} {w : World} {ao : Option Addr} {ys : List Int} (h : InF F w ao ys) (k : Nat) : InF F w ao (ys.take k) := fun i hi => by
  rw [List.length_take] at hi
  obtain ⟨a, h1, h2, h3⟩ := h i (by omega)
  exact ⟨a, h1, h2, by rw [h3, List.getD_eq_getElem?_getD, List.getD_eq_getElem?_getD, List.getElem?_take_of_lt (by omega)]⟩
/-- a log, the document's own one beside it, and blocks that are neither's. -/
structure Ag (base : Nat) (w0 wr : World) (ph px : Nat) (rs rx : List Rw) (Dh Dx Q : Nat → Prop) : Prop where
  hs : Hs Dh wr ph 0 rs
  xs : Xs base Dx wr px 0 rx
  dh : ∀ k, Dh k → base ≤ k
  ap : ∀ k, Dh k → ¬ Dx k
  lh : rs.length ≤ 64
  lx : rx.length ≤ 64
  bl : Below base w0 wr
  sz : base ≤ wr.heap.size
  fr : ∀ k, Q k → ¬ Dh k ∧ ¬ Dx k
  ql : ∀ k, Q k → k < wr.heap.size
section
variable {base : Nat} {w0 wr wz : World} {ph px : Nat} {rs rx : List Rw} {Dh Dx Q : Nat → Prop}
theorem Ag.kp {T : Nat → Prop} (h : Ag base w0 wr ph px rs rx Dh Dx Q) (hk : Kp T wr wz) (h1 : ∀ k, T k → ¬ Dh k) (h2 : ∀ k, T k → ¬ Dx k) (h3 : ∀ k, T k → base ≤ k) : Ag base w0 wz ph px rs rx Dh Dx Q :=
  ⟨h.hs.kp hk (fun k a b => h1 k b a), h.xs.kp hk (fun k a b => h2 k b a) h3, h.dh, h.ap, h.lh, h.lx, h.bl.trans (hk.below h3 h.sz), Nat.le_trans h.sz hk.size, h.fr, fun k x => Nat.lt_of_lt_of_le (h.ql k x) hk.size⟩
theorem Ag.below (h : Ag base w0 wr ph px rs rx Dh Dx Q) (hb : Below wr.heap.size wr wz) : Ag base w0 wz ph px rs rx Dh Dx Q :=
  h.kp (T := fun _ => False) (Kp.of_below hb) (fun _ x => x.elim) (fun _ x => x.elim) (fun _ x => x.elim)
/-- what is Q's may be written. -/
theorem Ag.own (h : Ag base w0 wr ph px rs rx Dh Dx Q) {T : Nat → Prop} (hk : Kp T wr wz) (ht : ∀ k, T k → Q k) (h3 : ∀ k, T k → base ≤ k) : Ag base w0 wz ph px rs rx Dh Dx Q :=
  h.kp hk (fun k x => (h.fr k (ht k x)).1) (fun k x => (h.fr k (ht k x)).2) h3
theorem Ag.more (h : Ag base w0 wr ph px rs rx Dh Dx Q) {P : Nat → Prop} (hp : ∀ k, P k → Q k ∨ (¬ Dh k ∧ ¬ Dx k ∧ k < wr.heap.size)) : Ag base w0 wr ph px rs rx Dh Dx P :=
  ⟨h.hs, h.xs, h.dh, h.ap, h.lh, h.lx, h.bl, h.sz, fun k x => (hp k x).elim (h.fr k) (fun y => ⟨y.1, y.2.1⟩), fun k x => (hp k x).elim (h.ql k) (fun y => y.2.2)⟩
theorem Ag.hput (h : Ag base w0 wr ph px rs rx Dh Dx Q) {R : List Rw} (hs : Hs (News Dh wr wz) wz ph 0 R) (hk : Kp Dh wr wz) (hl : R.length ≤ 64) : Ag base w0 wz ph px R rx (News Dh wr wz) Dx Q :=
  ⟨hs, h.xs.kp hk (fun k a b => h.ap k b a) h.dh, fun k x => x.elim (h.dh k) (fun y => Nat.le_trans h.sz y.1), fun k x y => x.elim (fun z => h.ap k z y) (fun z => by have := h.xs.lt k y; omega), hl, h.lx, h.bl.trans (hk.below h.dh h.sz), Nat.le_trans h.sz hk.size,
    fun k x => ⟨fun y => y.elim (h.fr k x).1 (fun z => by have := h.ql k x; omega), (h.fr k x).2⟩, fun k x => Nat.lt_of_lt_of_le (h.ql k x) hk.size⟩
theorem Ag.xput (h : Ag base w0 wr ph px rs rx Dh Dx Q) {R : List Rw} (xs : Xs base (News Dx wr wz) wz px 0 R) (hk : Kp Dx wr wz) (hl : R.length ≤ 64) : Ag base w0 wz ph px rs R Dh (News Dx wr wz) Q :=
  ⟨h.hs.kp hk (fun k a b => h.ap k a b), xs, h.dh, fun k x y => y.elim (h.ap k x) (fun z => by have := h.hs.lt k x; omega), h.lh, hl, h.bl.trans (hk.below h.xs.low h.sz), Nat.le_trans h.sz hk.size,
    fun k x => ⟨(h.fr k x).1, fun y => y.elim (h.fr k x).2 (fun z => by have := h.ql k x; omega)⟩, fun k x => Nat.lt_of_lt_of_le (h.ql k x) hk.size⟩
theorem Ag.fith (h : Ag base w0 wr ph px rs rx Dh Dx Q) : Fit 0 rs := ⟨by decide, by decide, by have := h.lh; omega⟩
theorem Ag.fitx (h : Ag base w0 wr ph px rs rx Dh Dx Q) : Fit 0 rx := ⟨by decide, by decide, by have := h.lx; omega⟩
/-- a call's entries, up to some: for either log. -/
theorem ents_for {w : World} {ae : Option Addr} {es : List En} (he : EsA w ae es) (hm : ∀ e ∈ es, e.ms.length ≤ 30) (hb : Below w.heap.size w wr) (K : Nat) (F : Nat → Prop) (hF : ∀ k, k < w.heap.size → F k) :
    EsR F wr ae (es.take K) ∧ XEs F w.heap.size wr ae (es.take K) := by
  have key : ∀ (i : Nat) (e : En), (es.take K)[i]? = some e → ∃ g off mo cap, ae = some ⟨g, off, none⟩ ∧ g < w.heap.size ∧ (∀ (j : Nat) (u : Value), (e.cells (.slice mo e.ms.length cap))[j]? = some u → wr.cell? ⟨g, off + i * 6 + j, none⟩ = some u) ∧ InF (fun k => k < w.heap.size) wr mo e.ms ∧ e.ms.length ≤ 30 := fun i e hi => by
    have hi' : es[i]? = some e := by
      have hlt := (List.getElem?_eq_some_iff.1 hi).1
      rw [List.length_take] at hlt
      rwa [List.getElem?_take_of_lt (by omega)] at hi
    obtain ⟨g, off, mo, cap, h1, h2, h3, _⟩ := he i e hi'
    exact ⟨g, off, mo, cap, h1, blk_lt (h2 0 _ rfl), fun j u hj => by rw [hb.cell (blk_lt (h2 j u hj))]; exact h2 j u hj, h3.inF.below hb, hm e (List.mem_of_getElem? hi')⟩
  refine ⟨fun i e hi => ?_, fun i e hi => ?_⟩
  · obtain ⟨g, off, mo, cap, h1, h2, h3, h4, h5⟩ := key i e hi
    exact ⟨g, off, mo, cap, h1, hF g h2, h3, h4.mono hF, by omega⟩
  · obtain ⟨g, off, mo, cap, h1, h2, h3, h4, h5⟩ := key i e hi
    exact ⟨g, off, mo, cap, h1, hF g h2, h3, h4, by omega⟩
/-- a box with a call, its terms in memory of the walk's own. -/
structure Bx (w0 wr : World) (B b2 : Nat) (put : Bool) (i t : Int) (a3 : Option Addr) (m c3 K : Nat) (ts : List Int) (ae : Option Addr) (ce : Nat) : Prop where
  c : wr.heap[B]? = some (boxC put i t (.slice a3 K c3) (.slice ae K ce))
  t : Ir b2 wr (.slice a3 m c3) ts
  l : ts.length = m
  k : K ≤ m
theorem Bx.kp {T : Nat → Prop} {B b2 : Nat} {put : Bool} {i t : Int} {a3 : Option Addr} {m c3 K : Nat} {ts : List Int} {ae : Option Addr} {ce : Nat} (h : Bx w0 wr B b2 put i t a3 m c3 K ts ae ce) (hk : Kp T wr wz) (h1 : ¬ T B) (h2 : ∀ k, (Value.slice a3 m c3).ownBlock = some k → ¬ T k) : Bx w0 wz B b2 put i t a3 m c3 K ts ae ce :=
  ⟨hk.block h.c h1, h.t.kp hk h2, h.l, h.k⟩
theorem Bx.below {B b2 : Nat} {put : Bool} {i t : Int} {a3 : Option Addr} {m c3 K : Nat} {ts : List Int} {ae : Option Addr} {ce : Nat} (h : Bx w0 wr B b2 put i t a3 m c3 K ts ae ce) (hb : Below wr.heap.size wr wz) : Bx w0 wz B b2 put i t a3 m c3 K ts ae ce :=
  h.kp (T := fun _ => False) (Kp.of_below hb) (fun x => x) (fun _ _ x => x)
/-- the terms, up to some. -/
theorem Bx.terms {B b2 : Nat} {put : Bool} {i t : Int} {a3 : Option Addr} {m c3 K : Nat} {ts : List Int} {ae : Option Addr} {ce : Nat} (h : Bx w0 wr B b2 put i t a3 m c3 K ts ae ce) (J : Nat) (F : Nat → Prop) (hF : ∀ k, (Value.slice a3 m c3).ownBlock = some k → F k) : InF F wr a3 (ts.take J) := (h.t.inF.mono hF).front J
end
end Go.Proofs.Ytmgdkbpbmngibaa
