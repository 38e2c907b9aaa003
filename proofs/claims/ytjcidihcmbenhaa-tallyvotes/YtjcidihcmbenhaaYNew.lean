/- tally's New: a contract. -/
import Derived.Test.YtjcidihcmbenhaaYVote3
namespace Go.Proofs.Ytjcidihcmbenhaa
open Go.RowKit Go.Maps

theorem two_box {y : World} {B : Nat} {a b x0 x1 : Value} {t : TypeId} (hz : y.heap[B]? = some (.cells #[x0, x1] t (0, 0))) : ((y.setCell ⟨B, 0, none⟩ a).setCell ⟨B, 1, none⟩ b).heap[B]? = some (.cells #[a, b] t (0, 0)) := by
  simp [World.setCell, Array.getElem?_modify, hz]
theorem Fr.far {y W : World} {ao : Option Addr} {xs : List Int} (h : Fr y ao xs) {B : Nat} {o1 o2 : Option Addr} {n1 n2 c1 c2 : Nat} {t : TypeId} {fr : Nat × Nat} (hB : y.heap[B]? = some (.cells #[.slice o1 n1 c1, .slice o2 n2 c2] t fr)) (hk : ∀ k, k ≠ B → W.heap[k]? = y.heap[k]?) : Fr W ao xs := by
  refine ⟨fun i hi => ?_, h.2⟩
  obtain ⟨a, e, hc⟩ := h.1 i hi
  refine ⟨a, e, ?_⟩
  obtain ⟨b, off, rfl⟩ := h.2 a e
  rw [Addr.add_lit] at hc ⊢
  rw [← hc]
  refine World.cell?_of_block (hk b ?_)
  rintro rfl
  simp only [World.cell?, hB] at hc
  match off + i, hc with
  | 0, hc => simp at hc
  | 1, hc => simp at hc
  | j + 2, hc => simp at hc

/-- the box that may have been made; the copies that may have been made. -/
def Bx (base : Nat) (o : Option Nat) (w : World) : Prop := ∀ B, o = some B → base ≤ B ∧ w.heap[B]? = some (.cells #[.slice none 0 0, .slice none 0 0] 26 (0, 0))
theorem Bx.below {base : Nat} {o : Option Nat} {w w' : World} (h : Bx base o w) (hb : Below w.heap.size w w') : Bx base o w' := fun B e => ⟨(h B e).1, Below.stay hb (h B e).2⟩
theorem Bx.none (base : Nat) (w : World) : Bx base none w := fun B e => by cases e
theorem Bx.some {base : Nat} {w w' : World} (hw : base ≤ w.heap.size) (hb : Below (w.alloc (.cells #[.slice .none 0 0, .slice .none 0 0] 26)).heap.size (w.alloc (.cells #[.slice .none 0 0, .slice .none 0 0] 26)) w') : Bx base (some w.heap.size) w' := fun B e => by
  cases e; exact ⟨hw, Below.stay hb (box_at _ _)⟩
theorem Bx.lo {base : Nat} {o : Option Nat} {w : World} (h : Bx base o w) : ∀ B, o = .some B → base ≤ B := fun B e => (h B e).1
theorem Bx.c0 {base : Nat} {o : Option Nat} {w : World} (h : Bx base o w) : ∀ B, o = .some B → w.cell? ⟨B, 0, .none⟩ = .some (.slice .none 0 0) := fun B e => (two_cells (h B e).2).1
theorem Bx.c1 {base : Nat} {o : Option Nat} {w : World} (h : Bx base o w) : ∀ B, o = .some B → w.cell? ⟨B, 1, .none⟩ = .some (.slice .none 0 0) := fun B e => (two_cells (h B e).2).2
theorem Bx.g0 {base : Nat} {o : Option Nat} {w : World} (h : Bx base o w) : ∀ B, o = .some B → w.frozen? ⟨B, 0, .none⟩ = false := fun B e => (two_free (h B e).2).1
theorem Bx.g1 {base : Nat} {o : Option Nat} {w : World} (h : Bx base o w) : ∀ B, o = .some B → w.frozen? ⟨B, 1, .none⟩ = false := fun B e => (two_free (h B e).2).2
def Cp (o : Option (Option Addr)) (w : World) (ys : List Int) : Prop := ∀ jo, o = .some jo → Fr w jo ys
theorem Cp.below {o : Option (Option Addr)} {w w' : World} {ys : List Int} (h : Cp o w ys) (hb : Below w.heap.size w w') : Cp o w' ys := fun jo e => (h jo e).below hb
theorem Cp.none (w : World) (ys : List Int) : Cp .none w ys := fun jo e => by cases e
theorem Cp.some {jo : Option Addr} {w : World} {ys : List Int} (h : Fr w jo ys) : Cp (.some jo) w ys := fun j e => by cases e; exact h

set_option maxRecDepth 20000 in
set_option maxHeartbeats 4000000 in
theorem new_any (ao an : Option Addr) (no nn co cn : Nat) (old new : List Int) (hno : old.length = no) (hnn : new.length = nn) (hlo : no ≤ 1000) (hln : nn ≤ 1000) (w : World) (hO : IntsR w ao old) (hN : IntsR w an new) :
    Calls Try.prog 13 #[.agg #[.slice ao no co, .slice an nn cn]] w fun e w' => ∃ p b, e = .returned (.pointer (some ⟨p, 0, none⟩)) ∧ Vt w'.heap.size w' p b old new (fun _ => none) 0 ∧ w.heap.size ≤ b ∧ w.heap.size ≤ p ∧ Below w.heap.size w w' := by
  obtain ⟨W, hW, bW, xW, sW⟩ := boxed w (.slice ao no co) (.slice an nn cn)
  have SX := hide (fun (Y : World) (h : Below W.heap.size W Y) => two_cells (Below.stay h xW))
  have CO := hide (fun (Y : World) (h : Below W.heap.size W Y) => clone_any ao no co old hno (by omega) Y ((hO.below bW).below h))
  have CN := hide (fun (Y : World) (h : Below W.heap.size W Y) => clone_any an nn cn new hnn (by omega) Y ((hN.below bW).below h))
  have HW := hide hW
  have BW := hide bW
  have ENO := hide hno
  have ENN := hide hnn
  have hmm := @run_makeMap Try.prog
  clear hW bW xW sW hO hN hno hnn
  go_enter Try.func13, Try.ntmps13
  go_upto_region 1 with fail
  rw [unhide HW]
  clear HW
  go_cut [3] from 4 to 10 (fun s3 wc => ∃ (B : Nat) (jo : Option Addr) (p1 : Nat) (jn : Option Addr) (p2 : Nat), s3 = .pointer (some ⟨B, 0, none⟩) ∧ wc.heap[B]? = some (.cells #[.slice jo old.length p1, .slice jn new.length p2] 26 (0, 0)) ∧ Fr wc jo old ∧ Fr wc jn new ∧ Below W.heap.size W wc)
  case first =>
    have EZ := hide (Below.refl W.heap.size W).drew
    have XB := hide (Bx.none W.heap.size W.drew)
    have FO := hide (Cp.none W.drew old)
    have FN := hide (Cp.none W.drew new)
    have C0 := (unhide XB).c0
    have C1 := (unhide XB).c1
    have G0 := (unhide XB).g0
    have G1 := (unhide XB).g1
    have hdz : W.drew.heap.size = W.heap.size := rfl
    (go_region_held_law (fun Y => Y.cell? ⟨w.heap.size, 0, none⟩ = some (.slice ao no co) ∧ Y.cell? ⟨w.heap.size, 1, none⟩ = some (.slice an nn cn))
        (first
          | exact unhide SX _ (unhide EZ)
          | exact unhide SX _ ((unhide EZ).alloc (unhide EZ).size _)
          | exact unhide SX _ (((unhide EZ).setCell (p := ⟨_, 0, none⟩) ((unhide XB).lo _ rfl) _).setCell (p := ⟨_, 1, none⟩) ((unhide XB).lo _ rfl) _))
        (first
          | (go_at_call_of 35 (Value.slice ao no co)
             refine (unhide CO _ (unhide EZ)).mono ?_
             rintro e wz ⟨v, rfl, ov, bz⟩
             obtain ⟨jo, p1, rfl, fz, _, _⟩ := ov.slice
             have E0 := hide ((unhide EZ).trans (bz.mono (unhide EZ).size))
             have X1 := hide ((unhide XB).below bz)
             have Y1 := hide ((unhide FN).below bz)
             clear XB FO FN EZ C0 C1 G0 G1
             have XB := X1
             have FN := Y1
             have FO := hide (Cp.some fz)
             have EZ := E0
             have C0 := (unhide XB).c0
             have C1 := (unhide XB).c1
             have G0 := (unhide XB).g0
             have G1 := (unhide XB).g1
             clear X1 Y1 E0 bz ov fz)
          | (go_at_call_of 35 (Value.slice an nn cn)
             refine (unhide CN _ (unhide EZ)).mono ?_
             rintro e wz ⟨v, rfl, ov, bz⟩
             obtain ⟨jn, p2, rfl, fz, _, _⟩ := ov.slice
             have E0 := hide ((unhide EZ).trans (bz.mono (unhide EZ).size))
             have X1 := hide ((unhide XB).below bz)
             have Y1 := hide ((unhide FO).below bz)
             clear XB FO FN EZ C0 C1 G0 G1
             have XB := X1
             have FO := Y1
             have FN := hide (Cp.some fz)
             have EZ := E0
             have C0 := (unhide XB).c0
             have C1 := (unhide XB).c1
             have G0 := (unhide XB).g0
             have G1 := (unhide XB).g1
             clear X1 Y1 E0 bz ov fz)
          | (go_at_call_of 35 (Value.slice ao no co)
             refine (unhide CO _ ((unhide EZ).alloc (unhide EZ).size (.cells #[.slice none 0 0, .slice none 0 0] 26))).mono ?_
             rintro e wz ⟨v, rfl, ov, bz⟩
             obtain ⟨jo, p1, rfl, fz, _, _⟩ := ov.slice
             have E0 := hide (((unhide EZ).alloc (unhide EZ).size (.cells #[.slice none 0 0, .slice none 0 0] 26)).trans (bz.mono ((unhide EZ).alloc (unhide EZ).size (.cells #[.slice none 0 0, .slice none 0 0] 26)).size))
             have X1 := hide (Bx.some (unhide EZ).size bz)
             have Y1 := hide (((unhide FN).below ((Below.refl _ _).alloc (Nat.le_refl _) _)).below bz)
             clear XB FO FN EZ C0 C1 G0 G1
             have XB := X1
             have FN := Y1
             have FO := hide (Cp.some fz)
             have EZ := E0
             have C0 := (unhide XB).c0
             have C1 := (unhide XB).c1
             have G0 := (unhide XB).g0
             have G1 := (unhide XB).g1
             clear X1 Y1 E0 bz ov fz)
          | (go_at_call_of 35 (Value.slice an nn cn)
             refine (unhide CN _ ((unhide EZ).alloc (unhide EZ).size (.cells #[.slice none 0 0, .slice none 0 0] 26))).mono ?_
             rintro e wz ⟨v, rfl, ov, bz⟩
             obtain ⟨jn, p2, rfl, fz, _, _⟩ := ov.slice
             have E0 := hide (((unhide EZ).alloc (unhide EZ).size (.cells #[.slice none 0 0, .slice none 0 0] 26)).trans (bz.mono ((unhide EZ).alloc (unhide EZ).size (.cells #[.slice none 0 0, .slice none 0 0] 26)).size))
             have X1 := hide (Bx.some (unhide EZ).size bz)
             have Y1 := hide (((unhide FO).below ((Below.refl _ _).alloc (Nat.le_refl _) _)).below bz)
             clear XB FO FN EZ C0 C1 G0 G1
             have XB := X1
             have FO := Y1
             have FN := hide (Cp.some fz)
             have EZ := E0
             have C0 := (unhide XB).c0
             have C1 := (unhide XB).c1
             have G0 := (unhide XB).g0
             have G1 := (unhide XB).g1
             clear X1 Y1 E0 bz ov fz)))
    · go_wp2
      go_meet
      have bb : Below wz.heap.size wz (wz.alloc (.cells #[.slice jo old.length p1, .slice jn new.length p2] 26)) := (Below.refl _ wz).alloc (Nat.le_refl _) _
      exact ⟨_, jo, p1, jn, p2, rfl, box_at wz _, ((unhide FO) _ rfl).below bb, ((unhide FN) _ rfl).below bb, (unhide EZ).trans (bb.mono (unhide EZ).size)⟩
    · go_wp2
      go_meet
      have hx := ((unhide XB) _ rfl).2
      obtain ⟨_, _, rb, rk⟩ := two_end (a := .slice jo old.length p1) (b := .slice jn new.length p2) hx ((unhide XB) _ rfl).1 (unhide EZ)
      exact ⟨_, jo, p1, jn, p2, rfl, two_box hx, ((unhide FO) _ rfl).far hx rk, ((unhide FN) _ rfl).far hx rk, rb⟩
    · go_wp2
      go_meet
      have hx := ((unhide XB) _ rfl).2
      obtain ⟨_, _, rb, rk⟩ := two_end (a := .slice jo old.length p1) (b := .slice jn new.length p2) hx ((unhide XB) _ rfl).1 (unhide EZ)
      exact ⟨_, jo, p1, jn, p2, rfl, two_box hx, ((unhide FO) _ rfl).far hx rk, ((unhide FN) _ rfl).far hx rk, rb⟩
  case rest =>
    obtain ⟨B, jo, p1, jn, p2, rfl, xB, fo, fn, bc⟩ := hcut
    obtain ⟨c0, c1⟩ := two_cells xB
    have FO := hide fo
    have FN := hide fn
    have BC := hide ((unhide BW).trans (bc.mono (unhide BW).size))
    clear fo fn bc xB CO CN SX
    go_wp2
    go_ret
    have b1 : Below wc.heap.size wc (wc.alloc (.map #[] 0)) := (Below.refl _ wc).alloc (Nat.le_refl _) _
    have s1 : (wc.alloc (.map #[] 0)).heap.size = wc.heap.size + 1 := World.size_alloc _ _
    have b2 : Below (wc.alloc (.map #[] 0)).heap.size (wc.alloc (.map #[] 0)) ((wc.alloc (.map #[] 0)).alloc (.cells #[.slice jo old.length p1, .slice jn new.length p2, .map (some wc.heap.size)] 68)) := (Below.refl _ _).alloc (Nat.le_refl _) _
    have b12 := b1.trans (b2.mono b1.size)
    have s2 : ((wc.alloc (.map #[] 0)).alloc (.cells #[.slice jo old.length p1, .slice jn new.length p2, .map (some wc.heap.size)] 68)).heap.size = wc.heap.size + 2 := by rw [World.size_alloc, s1]
    have sw := (unhide BC).size
    refine ⟨wc.heap.size + 1, wc.heap.size, rfl, ⟨jo, _, p1, jn, _, p2, ?_, rfl, rfl, (unhide FO).below b12, (unhide FN).below b12, (unhide FO).lo b12.size, (unhide FN).lo b12.size, (Mp.made _ wc).below b2, by omega, by omega⟩, by omega, by omega, (unhide BC).trans (b12.mono sw)⟩
    rw [← s1]; exact box_at _ _
end Go.Proofs.Ytjcidihcmbenhaa
