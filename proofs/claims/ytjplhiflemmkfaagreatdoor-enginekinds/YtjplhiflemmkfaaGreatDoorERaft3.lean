/- raft: what a fresh core saves: contracts. core.unpack of what was packed; bytes.Equal: contracts. -/
import Derived.Test.YtjplhiflemmkfaaGreatDoorERaft
import Derived.Test.YtjplhiflemmkfaaGreatDoorEntA
import Derived.Test.YtjplhiflemmkfaaGreatDoorSame
namespace Go.Proofs.YtjplhiflemmkfaaGreatDoor
open Go.RowKit Go.Maps
attribute [local go_sem ↓] Go.wp_at_zero Go.wp_at_succ

/-- the message as which a fresh raft core lasts. -/
def rsaid (base : Int) (ms : List Int) : Mg := ⟨0, 0, 0, 0, 0, base, -1, base, false, [], [], [], ms⟩
theorem packed_ok {m : Mg} (h1 : m.terms.length ≤ 64) (h2 : m.es = []) (h3 : m.old.length ≤ 9) (h4 : m.new.length ≤ 9) : m.packed.ok :=
  ⟨by show refuse 2 15 = 0; decide, refuse_ok (q := 6) (show (0 : Int) ≤ _ by omega) (show _ ≤ (64 : Int) by simp only [Mg.packed]; omega), by simp only [Mg.packed, h2]; decide, refuse_ok (q := 5) (show (0 : Int) ≤ _ by omega) (show _ ≤ (9 : Int) by simp only [Mg.packed]; omega), refuse_ok (q := 5) (show (0 : Int) ≤ _ by omega) (show _ ≤ (9 : Int) by simp only [Mg.packed]; omega), by simp only [Mg.packed, h2]; simp⟩
theorem hfrom_none {D : Nat → Prop} {w : World} {p : Nat} {b : Int} (h : Hh.Hs D w p b []) (h0 : 0 ≤ b) (h1 : b ≤ 64) (i : Int) :
    Calls Tryz.prog 146 #[.pointer (some ⟨p, 0, none⟩), .int .i64 i] w fun e w' => ∃ tq tc eo ec, e = .returned (.tuple #[.slice tq 0 tc, .slice eo 0 ec]) ∧ Below w.heap.size w w' := by
  refine (Hh.from_any h (fit_nil h0 h1) i).mono ?_
  rintro e w' ⟨tv, ev, N, rfl, k1, k2, k3⟩
  obtain ⟨tq, tc, rfl, _⟩ := Hh.Ir.slice k1
  obtain ⟨eo, ec, rfl, _⟩ := k2.slice
  exact ⟨tq, tc, eo, ec, by simp, k3⟩
theorem EntsAt.none' (w : World) (ao : Option Addr) : EntsAt w ao [] := fun i hi => by simp at hi
set_option maxRecDepth 20000 in
set_option maxHeartbeats 1000000 in
theorem rbytes_fresh {l : Nat} {base : Int} {ms : List Int} (hb0 : 0 ≤ base) (hb1 : base ≤ 64) (hl : ms.length ≤ 9) (w : World) (h : RFresh w l ms base) (hS : Start w) : Calls Tryz.prog 90 #[.pointer (some ⟨l, 0, none⟩)] w fun e w' => ∃ v, e = .returned v ∧ Own w.heap.size w' v (frame (rsaid base ms).packed.bytes) ∧ Below w.heap.size w w' := by
  obtain ⟨ao, cap, q, D, g1, g2, g3, g4, g5, g6⟩ := h
  have SX := hide (fun (Y : World) (hY : Below w.heap.size w Y) => (show Y.cell? ⟨l, 5, none⟩ = some (.pointer (some ⟨q, 0, none⟩)) ∧ Y.cell? ⟨l, 1, none⟩ = some (.int .i64 base) ∧ Y.cell? ⟨l, 0, none⟩ = some (.slice ao ms.length cap) ∧ Y.cell? ⟨l, 2, none⟩ = some (.int .i64 0) ∧ Y.cell? ⟨l, 3, none⟩ = some (.int .i64 (-1)) ∧ Y.cell? ⟨l, 4, none⟩ = some (.int .i64 base) from ⟨(cell_of_block (Below.stay hY g1)).trans rfl, (cell_of_block (Below.stay hY g1)).trans rfl, (cell_of_block (Below.stay hY g1)).trans rfl, (cell_of_block (Below.stay hY g1)).trans rfl, (cell_of_block (Below.stay hY g1)).trans rfl, (cell_of_block (Below.stay hY g1)).trans rfl⟩))
  have CF := hide (fun (Y : World) (hY : Below w.heap.size w Y) => hfrom_none (g6.below hY) hb0 hb1 base)
  have CP := hide (fun (Y : World) (hY : Below w.heap.size w Y) (tq eo : Option Addr) (tc ec : Nat) => pack_any (rsaid base ms) tq eo none ao tc ec 0 cap Y (IntsR.nil _ _) (EntsAt.none' _ _) (IntsR.nil _ _) (g2.below hY).1 (packed_ok (Nat.zero_le _) rfl (Nat.zero_le _) hl) (hS.below hY))
  have EZ := hide (Below.refl w.heap.size w)
  clear g1 g2 g3 g4 g5 g6
  go_enter Tryz.func90, Tryz.ntmps90
  go_upto_region 1 with fail
  go_region_held3 (fun Y => Y.cell? ⟨l, 5, none⟩ = some (.pointer (some ⟨q, 0, none⟩)) ∧ Y.cell? ⟨l, 1, none⟩ = some (.int .i64 base)) (first | with_reducible exact ⟨(unhide SX _ (unhide EZ)).1, (unhide SX _ (unhide EZ)).2.1⟩ | with_reducible exact ⟨(unhide SX _ (unhide EZ).drew).1, (unhide SX _ (unhide EZ).drew).2.1⟩ | fail)
    (first
      | (go_at_call 146
         refine (unhide CF _ (by first | exact unhide EZ | exact (unhide EZ).drew | exact (unhide EZ).alloc (unhide EZ).size _ | exact ((unhide EZ).alloc (unhide EZ).size _).drew | fail)).mono ?_
         rintro e z1 ⟨tq, tc, eo, ec, rfl, bz⟩
         have EN := hide (below_far (by first | exact unhide EZ | exact (unhide EZ).drew | exact (unhide EZ).alloc (unhide EZ).size _ | exact ((unhide EZ).alloc (unhide EZ).size _).drew | fail) bz)
         clear EZ bz
         have EZ := EN
         clear EN)
      | fail)
  go_upto_region 2 with fail
  go_region_held3 (fun Y => Y.cell? ⟨l, 5, none⟩ = some (.pointer (some ⟨q, 0, none⟩)) ∧ Y.cell? ⟨l, 1, none⟩ = some (.int .i64 base) ∧ Y.cell? ⟨l, 0, none⟩ = some (.slice ao ms.length cap) ∧ Y.cell? ⟨l, 2, none⟩ = some (.int .i64 0) ∧ Y.cell? ⟨l, 3, none⟩ = some (.int .i64 (-1)) ∧ Y.cell? ⟨l, 4, none⟩ = some (.int .i64 base)) (first | with_reducible exact unhide SX _ (unhide EZ) | with_reducible exact unhide SX _ (unhide EZ).drew | with_reducible exact unhide SX _ ((unhide EZ).alloc (unhide EZ).size _) | with_reducible exact unhide SX _ ((unhide EZ).alloc (unhide EZ).size _).drew | with_reducible exact unhide SX _ (set6 (unhide EZ) (Nat.le_refl _)) | with_reducible exact unhide SX _ (set6 ((unhide EZ).alloc (unhide EZ).size _) (unhide EZ).size) | with_reducible exact unhide SX _ (set6 ((unhide EZ).alloc (unhide EZ).size _).drew (unhide EZ).size) | with_reducible exact unhide SX _ (set2 (unhide EZ) (Nat.le_refl _)) | go_keep | fail)
    (first
      | (go_at_call 156
         refine (unhide CP _ (by first | exact unhide EZ | exact (unhide EZ).drew | exact (unhide EZ).alloc (unhide EZ).size _ | exact ((unhide EZ).alloc (unhide EZ).size _).drew | fail) tq eo tc ec).mono ?_
         rintro e z2 ⟨v, rfl, oz, bz⟩
         have OZ := hide (oz.rebase (show w.heap.size ≤ _ from (unhide EZ).size))
         clear oz
         have EN := hide (below_far (by first | exact unhide EZ | exact (unhide EZ).drew | exact (unhide EZ).alloc (unhide EZ).size _ | exact ((unhide EZ).alloc (unhide EZ).size _).drew | fail) bz)
         clear EZ bz
         have EZ := EN
         clear EN)
      | fail)
  go_wp2
  go_ret
  exact ⟨_, rfl, unhide OZ, unhide EZ⟩
theorem rsave_fresh {c : Nat} {id base : Int} {ms : List Int} (hb0 : 0 ≤ base) (hb1 : base ≤ 64) (hl : ms.length ≤ 9) (w : World) (h : RNew w c id ms base) (hS : Start w) : Calls Tryz.prog 25 #[.pointer (some ⟨c, 0, none⟩)] w fun e w' => ∃ v, e = .returned v ∧ Own w.heap.size w' v (frame (rsaid base ms).packed.bytes) ∧ Below w.heap.size w w' := by
  obtain ⟨l, k, h1, h2, _⟩ := h
  have c0 : w.cell? ⟨c, 0, none⟩ = some (.pointer (some ⟨l, 0, none⟩)) := (cell_of_block h1).trans rfl
  have CB := hide (rbytes_fresh hb0 hb1 hl w h2 hS)
  clear h1 h2
  go_enter Tryz.func25, Tryz.ntmps25
  go_wp2_with fail
  refine (unhide CB).mono ?_
  rintro e w1 ⟨v, rfl, o1, b1⟩
  have R := hide (And.intro o1 b1)
  clear CB o1 b1
  go_wp2
  go_ret
  exact ⟨_, rfl, (unhide R).1, (unhide R).2⟩
end Go.Proofs.YtjplhiflemmkfaaGreatDoor
namespace Go.Proofs.YtjplhiflemmkfaaGreatDoor
open Go.RowKit Go.Maps

theorem far_of {w : World} {base : Nat} {e : TypeId} {size n c k : Nat} {ao : Option Addr} {xs : List Value} (h : w.ownsRow base e size (.slice ao n c) k xs) : ∀ a, ao = some a → base ≤ a.block := fun a ha => by
  subst ha
  exact (own_tag h a.block rfl).1
/-- members as they lie in a core. -/
structure Mbrs (w : World) (ao : Option Addr) (c : Nat) (ms : List Int) : Prop where
  fr : Fr w ao ms
  le : ms.length ≤ c
  mx : c ≤ maxLen
  nul : ao = none → c = 0
theorem Mbrs.below {w w' : World} {ao : Option Addr} {c : Nat} {ms : List Int} (h : Mbrs w ao c ms) (hb : Below w.heap.size w w') : Mbrs w' ao c ms := ⟨h.fr.below hb, h.le, h.mx, h.nul⟩
theorem row_rooms {w : World} {base : Nat} {e : TypeId} {size n c k : Nat} {ao : Option Addr} {xs : List Value} (h : w.ownsRow base e size (.slice ao n c) k xs) : k ≤ c ∧ c ≤ maxLen ∧ (ao = none → c = 0) ∧ ∀ a, ao = some a → ∃ b off, a = ⟨b, off, none⟩ := by
  rcases h.2 with ⟨e1, e2⟩ | ⟨g, cap, cur, e1, _, _, e3, e4, _⟩
  · cases e1
    exact ⟨by omega, by decide, fun _ => rfl, (fun a ha => by cases ha)⟩
  · cases e1
    exact ⟨e3, e4, (fun h => by cases h), (fun a ha => by cases ha; exact ⟨_, _, rfl⟩)⟩
/-- ParseMsg of a message's own bytes; what it tells lies in memory of its own. -/
theorem parseM_new {m : Mg} (hok : m.ok) (h64 : m.in64) (_he : m.es = []) {w : World} {ao : Option Addr} {n cap : Nat} (hg : Given w ao n cap m.bytes) (hS : Start w) :
    Calls Tryz.prog 227 #[.slice ao n cap] w fun r w' => ∃ aot aoe aoo aon ct ce co cn, r = .returned (.tuple #[.agg #[.int .i64 m.src, .int .i64 m.to, .int .i64 m.gen, .int .i64 m.kind, .int .i64 m.term, .int .i64 m.index, .int .i64 m.last, .int .i64 m.commit, .bool m.yes, .slice aot m.terms.length ct, .slice aoe m.es.length ce, .slice aoo m.old.length co, .slice aon m.new.length cn], .int .i64 0]) ∧ (IntsR w' aot m.terms ∧ ∀ a, aot = some a → w.heap.size ≤ a.block) ∧ (IntsR w' aoo m.old ∧ ∀ a, aoo = some a → w.heap.size ≤ a.block) ∧ (Mbrs w' aon cn m.new ∧ ∀ a, aon = some a → w.heap.size ≤ a.block) ∧ Below w.heap.size w w' := by
  obtain ⟨h1, h2⟩ := whole_told (msgR_reads hok)
  have h1' : rmsg m.bytes (0, 0) = (m.mes, (m.bytes.length, 0)) := h1
  have h2' : (rend n (rmsg m.bytes (0, 0)).2).2 = 0 := by rw [← hg.len]; exact h2
  refine (parseMsg_any ao n cap m.bytes w hg hS).mono ?_
  rintro r w' ⟨cs, rfl, hb, hc, _⟩
  rw [h2'] at hc ⊢
  obtain ⟨v1, v2, v3, v4, vs, rfl, r1, r2, r3, r4, r5⟩ := hc rfl
  rw [h1', mes_self h64] at r1 r2 r3 r4 r5 ⊢
  obtain ⟨aot, ct, rfl, i1⟩ := row_ints (ys := m.terms) r1
  obtain ⟨aoe, ce, rfl, _⟩ := ents_read hok.eachE r2 r3
  obtain ⟨aoo, co, rfl, i3⟩ := row_ints (ys := m.old) r4
  obtain ⟨aon, cn, rfl, i4⟩ := row_ints (ys := m.new) r5
  exact ⟨aot, aoe, aoo, aon, ct, ce, co, cn, rfl, ⟨i1, far_of r1⟩, ⟨i3, far_of r4⟩, ⟨⟨⟨i4, (row_rooms r5).2.2.2⟩, (row_rooms r5).1, (row_rooms r5).2.1, (row_rooms r5).2.2.1⟩, far_of r5⟩, hb⟩
theorem IntsR.kept1 {w w' : World} {B : Nat} {ao : Option Addr} {ys : List Int} (h : IntsR w ao ys) (hk : Kept B (fun k => k = B) w w') (hf : ∀ a, ao = some a → a.block ≠ B) : IntsR w' ao ys := fun i hi => by
  obtain ⟨a, e, hc⟩ := h i hi
  refine ⟨a, e, ?_⟩
  rw [World.cell?_of_block (w := w) (hk.2 (a.add i).block (blk_lt hc) (by rw [add_block]; exact hf a e))]; exact hc

set_option maxRecDepth 20000 in
set_option maxHeartbeats 1000000 in
theorem unpack_any (p : Mg) (hok : p.ok) (h64 : p.in64) (he : p.es = []) (ao : Option Addr) (n cap : Nat) (w : World) (hg : Given w ao n cap (frame p.bytes)) (h256 : ∀ b ∈ p.bytes, b < 256) (hS : Start w) :
    Calls Tryz.prog 158 #[.slice ao n cap] w fun e w' => ∃ aot aoe aoo aon ct ce co cn, e = .returned (.tuple #[.agg #[.int .i64 p.src, .int .i64 p.to, .int .i64 p.gen, .int .i64 p.kind, .int .i64 p.term, .int .i64 p.index, .int .i64 p.last, .int .i64 p.commit, .bool p.yes, .slice aot p.terms.length ct, .slice aoe p.es.length ce, .slice aoo p.old.length co, .slice aon p.new.length cn], .int .i64 0]) ∧ IntsR w' aot p.terms ∧ IntsR w' aoo p.old ∧ Mbrs w' aon cn p.new ∧ Below w.heap.size w w' := by
  have hlen := msg_bytes hok
  have hsp := split_frame h256 (by omega)
  obtain ⟨L, hL⟩ : ∃ L, p.bytes = L := ⟨_, rfl⟩
  have PM := hide (fun (Y : World) (a : Option Addr) (k c : Nat) (hq : Given Y a k c p.bytes) (hs : Start Y) => parseM_new hok h64 he hq hs)
  obtain ⟨B, hB⟩ : ∃ B, w.heap.size = B := ⟨_, rfl⟩
  obtain ⟨W, hW⟩ : ∃ W, w.alloc (.cells #[.int .i64 0, .int .i64 0, .int .i64 0, .int .i64 0, .int .i64 0, .int .i64 0, .int .i64 0, .int .i64 0, .bool false, .slice none 0 0, .slice none 0 0, .slice none 0 0, .slice none 0 0] 50) = W := ⟨_, rfl⟩
  have x1 : W.heap[w.heap.size]? = some (.cells #[.int .i64 0, .int .i64 0, .int .i64 0, .int .i64 0, .int .i64 0, .int .i64 0, .int .i64 0, .int .i64 0, .bool false, .slice none 0 0, .slice none 0 0, .slice none 0 0, .slice none 0 0] 50 (0, 0)) := by rw [← hW]; exact heap_alloc_new _ _
  have bW : Below w.heap.size w W := by rw [← hW]; exact (Below.refl _ w).alloc (Nat.le_refl _) _
  have SP := split_len ao n cap (frame p.bytes) hg.len W (hg.are.below bW) hg.room (by have := hg.len; rw [frame_length] at this; omega) (hS.below bW)
  rw [hsp] at SP
  rw [hL] at SP PM hlen h256
  have SP := hide SP
  have HB := hide hB
  have HW := hide hW
  have X1 := hide (show W.heap[B]? = _ from hB ▸ x1)
  have BW := hide bW
  have HS := hide (hS.below bW)
  have HL := hide (And.intro hlen h256)
  clear hB hW x1 bW hsp hok h64 he hg hS hL hlen h256
  go_enter Tryz.func158, Tryz.ntmps158
  go_upto_region 1 with fail
  rw [unhide HW, unhide HB]
  clear HW
  go_wp2_with fail
  refine (unhide SP).mono ?_
  rintro e w1 ⟨fv, vs, rfl, ro, rs, b1⟩
  have hv1 : vs.length = 1 := rs.1
  obtain ⟨g, capf, rfl, hcell⟩ := row_open ro (by intro h; rw [h] at hv1; cases hv1)
  obtain ⟨v0, hv0⟩ : ∃ v0, vs[0]? = some v0 := ⟨_, List.getElem?_eq_getElem (by omega)⟩
  have o0 := rs.2 0 v0 L hv0 rfl
  obtain ⟨a0, c0, rfl, hr0, hc0, hby0, hn0, -⟩ := o0.slice
  have cg : w1.cell? ⟨g, 0, none⟩ = some (.slice a0 L.length c0) := (hcell 0 (by omega)).trans hv0
  have GV : Given w1 a0 L.length c0 L := ⟨rfl, hr0, hn0, by have := (unhide HL).1; omega, hby0⟩
  have PC := hide (unhide PM w1 a0 L.length c0 GV ((unhide HS).below b1))
  have B1 := hide (below_far (unhide BW) b1)
  have X2 := hide (Below.stay b1 (unhide X1))
  rw [hv1]
  clear PM SP ro rs hcell hv0 o0 hr0 hc0 hby0 hn0 GV b1 hv1 BW X1 HS HL
  go_wp2_with fail
  refine (unhide PC).mono ?_
  rintro e w2 ⟨aot, aoe, aoo, aon, ct, ce, co, cn, rfl, ⟨i1, f1⟩, ⟨i3, f3⟩, ⟨i4, f4⟩, b2⟩
  have X3 := Below.stay b2 (unhide X2)
  obtain ⟨q0, q1, q2, q3, q4, q5, q6, q7, q8, q9, q10, q11, q12⟩ := mbox13 X3
  have fz : ∀ i, w2.frozen? ⟨B, i, none⟩ = false := fun i => free_of_block X3
  have XX := hide X3
  have sB : B < w1.heap.size := heap_lt (unhide X2)
  have IS := hide (And.intro (And.intro i1 (fun (a : Addr) ha => show a.block ≠ B by have := f1 a ha; omega)) (And.intro (And.intro i3 (fun (a : Addr) ha => show a.block ≠ B by have := f3 a ha; omega)) (And.intro i4 (fun (a : Addr) ha => show a.block ≠ B by have := f4 a ha; omega))))
  have B2 := hide (below_far (unhide B1) b2)
  clear PC B1 X2 X3 i1 i3 i4 f1 f3 f4 sB b2 cg
  go_wp2
  obtain ⟨w3, hw3⟩ : ∃ w3, w3 = ((((((((((((w2.setCell ⟨B, 0, none⟩ (.int .i64 p.src)).setCell ⟨B, 1, none⟩ (.int .i64 p.to)).setCell ⟨B, 2, none⟩ (.int .i64 p.gen)).setCell ⟨B, 3, none⟩ (.int .i64 p.kind)).setCell ⟨B, 4, none⟩ (.int .i64 p.term)).setCell ⟨B, 5, none⟩ (.int .i64 p.index)).setCell ⟨B, 6, none⟩ (.int .i64 p.last)).setCell ⟨B, 7, none⟩ (.int .i64 p.commit)).setCell ⟨B, 8, none⟩ (.bool p.yes)).setCell ⟨B, 9, none⟩ (.slice aot p.terms.length ct)).setCell ⟨B, 10, none⟩ (.slice aoe p.es.length ce)).setCell ⟨B, 11, none⟩ (.slice aoo p.old.length co)).setCell ⟨B, 12, none⟩ (.slice aon p.new.length cn) := ⟨_, rfl⟩
  rw [← hw3]
  obtain ⟨x3, k3⟩ := chain13 (unhide XX) hw3
  obtain ⟨r0, r1, r2, r3, r4, r5, r6, r7, r8, r9, r10, r11, r12⟩ := mbox13 x3
  refine bodyPost_ret (v := .tuple #[.agg #[.int .i64 p.src, .int .i64 p.to, .int .i64 p.gen, .int .i64 p.kind, .int .i64 p.term, .int .i64 p.index, .int .i64 p.last, .int .i64 p.commit, .bool p.yes, .slice aot p.terms.length ct, .slice aoe p.es.length ce, .slice aoo p.old.length co, .slice aon p.new.length cn], .int .i64 0]) (by simp [results, Tryz.results158, go_sem, r0, r1, r2, r3, r4, r5, r6, r7, r8, r9, r10, r11, r12]) rfl ?_
  have hbB : w.heap.size ≤ B := by rw [unhide HB]; exact Nat.le_refl _
  exact ⟨aot, aoe, aoo, aon, ct, ce, co, cn, rfl, (unhide IS).1.1.kept1 k3 (unhide IS).1.2, (unhide IS).2.1.1.kept1 k3 (unhide IS).2.1.2, ⟨⟨(unhide IS).2.2.1.fr.1.kept1 k3 (unhide IS).2.2.2, (unhide IS).2.2.1.fr.2⟩, (unhide IS).2.2.1.le, (unhide IS).2.2.1.mx, (unhide IS).2.2.1.nul⟩, (unhide B2).trans (k3.1.mono hbB)⟩
theorem equal_bytes (a b : Option Addr) (n m ca cb : Nat) (xs : List Nat) (hn : xs.length = n) (hm : n = m) (w : World) (ha : Bytes w a xs) (hb : Bytes w b xs) (_hl : n ≤ 1000000000) :
    Calls Tryz.prog 159 #[.slice a n ca, .slice b m cb] w fun e w' => e = .returned (.bool true) ∧ w' = w := by
  subst hm
  have k1 := conv_str (cap := ca) ha hn
  have k2 := conv_str (cap := cb) hb hn
  clear ha hb
  go_enter Tryz.func159, Tryz.ntmps159
  go_wp2
  go_ret
  exact ⟨by simp, rfl⟩
end Go.Proofs.YtjplhiflemmkfaaGreatDoor
