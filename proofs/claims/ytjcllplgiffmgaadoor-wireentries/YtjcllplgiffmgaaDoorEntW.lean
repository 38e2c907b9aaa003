/- The walk of WireEntries. -/
import Derived.Test.YtjcllplgiffmgaaDoorEntB
import Derived.Test.YtjcllplgiffmgaaDoorCutsA
import Derived.Test.YtjcllplgiffmgaaDoorCutsH
import Derived.Deep.RegionHeldLaw
import Derived.Deep.DeepCutAuto
import Derived.Deep.CutBlock
import Derived.Deep.CutRange
namespace Go.Proofs.YtjcllplgiffmgaaDoor
open Go.RowKit

/-- a box that holds an entry whose list lies in w. -/
structure EB (w wr : World) (b : Nat) (e : En) (ao : Option Addr) (cap : Nat) : Prop where
  box : wr.heap[b]? = some (.cells #[.int .i64 e.kind, .int .i64 e.client, .int .i64 e.seq, .string e.text, .slice ao e.ms.length cap, .int .i64 e.«to»] 24 (0, 0))
  ints : IntsAt w ao e.ms.length cap e.ms
  size : e.text.size < 300
  len : e.ms.length < 100
  in64 : e.in64
theorem EB.below {w wr wr' : World} {b : Nat} {e : En} {ao : Option Addr} {cap : Nat} (h : EB w wr b e ao cap) (hb : Below wr.heap.size wr wr') : EB w wr' b e ao cap :=
  ⟨(hb.block _ (blk_lt' h.box)).trans h.box, h.ints, h.size, h.len, h.in64⟩
theorem EB.intsR {w wr : World} {b : Nat} {e : En} {ao : Option Addr} {cap : Nat} (h : EB w wr b e ao cap) {x : World} (hb : Below w.heap.size w x) : IntsR x ao e.ms := (h.ints.below hb).are
theorem mod_in64 {n m : Int} (h1 : 0 < m) (h2 : m ≤ 100) : In64 (n % m) := by
  have a := Int.emod_nonneg n (show m ≠ 0 by omega)
  have b := Int.emod_lt_of_pos n h1
  unfold In64; omega
/-- the entry that Good leaves. -/
def goodEn (e : En) : En := ⟨e.kind % 5, e.client, e.seq, goodT e.text, e.ms.take 9, e.«to» % 3⟩
theorem goodEn_in64 {e : En} (h : e.in64) : (goodEn e).in64 := ⟨mod_in64 (by decide) (by decide), h.client, h.seq, fun y hy => h.ms y (List.mem_of_mem_take hy), mod_in64 (by decide) (by decide)⟩
theorem goodT_lt {t : ByteArray} (h : t.size < 300) : (goodT t).size < 300 := by
  unfold goodT
  split
  · rw [ByteArray.size_extract]; omega
  · exact h
theorem maxLen_of {n : Nat} (h : n < 300) : n ≤ maxLen := by unfold maxLen; omega

set_option maxRecDepth 20000 in
set_option maxHeartbeats 8000000 in
theorem entries_walk (e : En) (ao : Option Addr) (cap : Nat) (o : En) (bo : Option Addr) (cbo : Nat) (w : World) (i1 : IntsAt w ao e.ms.length cap e.ms) (t1 : e.text.size ≤ maxLen) (n1 : e.in64) (i2 : IntsAt w bo o.ms.length cbo o.ms) (t2 : o.text.size ≤ maxLen) (n2 : o.in64) (hS : Start w) :
    Calls Tryd.prog 3 #[.agg #[.int .i64 e.kind, .int .i64 e.client, .int .i64 e.seq, .string e.text, .slice ao e.ms.length cap, .int .i64 e.«to»], .agg #[.int .i64 o.kind, .int .i64 o.client, .int .i64 o.seq, .string o.text, .slice bo o.ms.length cbo, .int .i64 o.«to»]] w fun e w' => e = .returned (.bool true) ∧ Below w.heap.size w w' := by
  obtain ⟨W, hW⟩ : ∃ W, (w.alloc (.cells #[.int .i64 e.kind, .int .i64 e.client, .int .i64 e.seq, .string e.text, .slice ao e.ms.length cap, .int .i64 e.«to»] 24)).alloc (.cells #[.int .i64 o.kind, .int .i64 o.client, .int .i64 o.seq, .string o.text, .slice bo o.ms.length cbo, .int .i64 o.«to»] 24) = W := ⟨_, rfl⟩
  have bW : Below w.heap.size w W := by rw [← hW]; exact ((Below.refl _ w).alloc (Nat.le_refl _) _).alloc (by simp) _
  have he : W.heap[w.heap.size]? = some (.cells #[.int .i64 e.kind, .int .i64 e.client, .int .i64 e.seq, .string e.text, .slice ao e.ms.length cap, .int .i64 e.«to»] 24 (0, 0)) := by rw [← hW]; exact (Below.heap_alloc _ _ _ (by simp)).trans (heap_alloc_new _ _)
  have ho : W.heap[w.heap.size + 1]? = some (.cells #[.int .i64 o.kind, .int .i64 o.client, .int .i64 o.seq, .string o.text, .slice bo o.ms.length cbo, .int .i64 o.«to»] 24 (0, 0)) := by
    rw [← hW]
    have h := heap_alloc_new (w.alloc (.cells #[.int .i64 e.kind, .int .i64 e.client, .int .i64 e.seq, .string e.text, .slice ao e.ms.length cap, .int .i64 e.«to»] 24)) (.cells #[.int .i64 o.kind, .int .i64 o.client, .int .i64 o.seq, .string o.text, .slice bo o.ms.length cbo, .int .i64 o.«to»] 24)
    simpa using h
  have FE := hide (fun w1 => few_is e.kind e.client e.seq e.«to» e.text ao e.ms.length cap (Nat.le_trans i1.room i1.big) t1 w1)
  have FO := hide (fun w1 => few_is o.kind o.client o.seq o.«to» o.text bo o.ms.length cbo (Nat.le_trans i2.room i2.big) t2 w1)
  have HW := hide hW
  have BW := hide bW
  have HE := hide he
  have HO := hide ho
  have HS := hide hS
  have I1 := hide i1
  have I2 := hide i2
  have N1 := hide n1
  have N2 := hide n2
  clear hW bW he ho hS i1 i2 n1 n2 t1 t2
  go_enter Tryd.func3, Tryd.ntmps3
  go_wp2_with fail
  rw [unhide HW]
  clear HW
  refine (known_any W ((unhide HS).below (unhide BW))).mono ?_
  rintro r w1 ⟨rfl, b1⟩
  have E1 := hide ((b1.block _ (blk_lt' (unhide HE))).trans (unhide HE))
  have O1 := hide ((b1.block _ (blk_lt' (unhide HO))).trans (unhide HO))
  have B1 := hide ((unhide BW).trans (b1.mono (unhide BW).size))
  have a0 : w1.cell? ⟨w.heap.size, 0, none⟩ = some (.int .i64 e.kind) := (cell_of_block (unhide E1)).trans rfl
  have a1 : w1.cell? ⟨w.heap.size, 1, none⟩ = some (.int .i64 e.client) := (cell_of_block (unhide E1)).trans rfl
  have a2 : w1.cell? ⟨w.heap.size, 2, none⟩ = some (.int .i64 e.seq) := (cell_of_block (unhide E1)).trans rfl
  have a3 : w1.cell? ⟨w.heap.size, 3, none⟩ = some (.string e.text) := (cell_of_block (unhide E1)).trans rfl
  have a4 : w1.cell? ⟨w.heap.size, 4, none⟩ = some (.slice ao e.ms.length cap) := (cell_of_block (unhide E1)).trans rfl
  have a5 : w1.cell? ⟨w.heap.size, 5, none⟩ = some (.int .i64 e.«to») := (cell_of_block (unhide E1)).trans rfl
  clear b1 BW HE HO
  go_wp2_with fail
  refine ((unhide FE) w1).mono ?_
  rintro r w2 ⟨rfl, b2⟩
  have E2 := hide ((b2.block _ (blk_lt' (unhide E1))).trans (unhide E1))
  have O2 := hide ((b2.block _ (blk_lt' (unhide O1))).trans (unhide O1))
  have B2 := hide ((unhide B1).trans (b2.mono (unhide B1).size))
  clear b2 E1 O1 B1 FE a0 a1 a2 a3 a4 a5
  by_cases hf : ¬ (e.text.size < 300 ∧ e.ms.length < 100)
  · rw [decide_eq_false hf]
    go_wp2
    go_ret
    exact ⟨rfl, unhide B2⟩
  replace hf := Decidable.not_not.1 hf
  rw [decide_eq_true hf]
  have HF := hide hf
  clear hf
  have c0 : w2.cell? ⟨w.heap.size + 1, 0, none⟩ = some (.int .i64 o.kind) := (cell_of_block (unhide O2)).trans rfl
  have c1 : w2.cell? ⟨w.heap.size + 1, 1, none⟩ = some (.int .i64 o.client) := (cell_of_block (unhide O2)).trans rfl
  have c2 : w2.cell? ⟨w.heap.size + 1, 2, none⟩ = some (.int .i64 o.seq) := (cell_of_block (unhide O2)).trans rfl
  have c3 : w2.cell? ⟨w.heap.size + 1, 3, none⟩ = some (.string o.text) := (cell_of_block (unhide O2)).trans rfl
  have c4 : w2.cell? ⟨w.heap.size + 1, 4, none⟩ = some (.slice bo o.ms.length cbo) := (cell_of_block (unhide O2)).trans rfl
  have c5 : w2.cell? ⟨w.heap.size + 1, 5, none⟩ = some (.int .i64 o.«to») := (cell_of_block (unhide O2)).trans rfl
  go_wp2_with fail
  refine ((unhide FO) w2).mono ?_
  rintro r w3 ⟨rfl, b3⟩
  have E3 := hide ((b3.block _ (blk_lt' (unhide E2))).trans (unhide E2))
  have O3 := hide ((b3.block _ (blk_lt' (unhide O2))).trans (unhide O2))
  have B3 := hide ((unhide B2).trans (b3.mono (unhide B2).size))
  clear b3 E2 O2 B2 FO c0 c1 c2 c3 c4 c5
  by_cases hg : ¬ (o.text.size < 300 ∧ o.ms.length < 100)
  · rw [decide_eq_false hg]
    go_wp2
    go_ret
    exact ⟨rfl, unhide B3⟩
  replace hg := Decidable.not_not.1 hg
  rw [decide_eq_true hg]
  have EB0 : Hid (EB w w3 w.heap.size e ao cap) := ⟨unhide E3, unhide I1, (unhide HF).1, (unhide HF).2, unhide N1⟩
  have OB0 : Hid (EB w w3 (w.heap.size + 1) o bo cbo) := ⟨unhide O3, unhide I2, hg.1, hg.2, unhide N2⟩
  clear hg HF E3 O3 I1 I2 N1 N2
  obtain ⟨e0, he0⟩ : ∃ x, x = e := ⟨_, rfl⟩
  go_wp2_with fail
  go_loopg [5] 2 (fun g iv wr => ∃ (j : Nat) (e : En) (ao : Option Addr) (cap : Nat), j + g = 2 ∧ iv = .int .i64 (j : Int) ∧ EB w wr w.heap.size e ao cap ∧ EB w wr (w.heap.size + 1) o bo cbo ∧ Below w.heap.size w wr)
  case atStart => exact ⟨0, e, ao, cap, rfl, rfl, unhide EB0, unhide OB0, unhide B3⟩
  case round =>
    clear EB0 OB0 B3 he0 e0
    obtain ⟨j, e, ao, cap, hj, rfl, hE, hO, br⟩ := hrel
    have HJ := hide hj
    have hj2 : j ≤ 2 := by omega
    have BR := hide br
    have EBR := hide hE
    have OBR := hide hO
    clear hj
    by_cases hlt : ¬ j < 2
    · clear hE hO br
      go_wp2
      go_ret
      exact ⟨rfl, unhide BR⟩
    replace hlt := Decidable.not_not.1 hlt
    have a0 : wr.cell? ⟨w.heap.size, 0, none⟩ = some (.int .i64 e.kind) := (cell_of_block hE.box).trans rfl
    have a1 : wr.cell? ⟨w.heap.size, 1, none⟩ = some (.int .i64 e.client) := (cell_of_block hE.box).trans rfl
    have a2 : wr.cell? ⟨w.heap.size, 2, none⟩ = some (.int .i64 e.seq) := (cell_of_block hE.box).trans rfl
    have a3 : wr.cell? ⟨w.heap.size, 3, none⟩ = some (.string e.text) := (cell_of_block hE.box).trans rfl
    have a4 : wr.cell? ⟨w.heap.size, 4, none⟩ = some (.slice ao e.ms.length cap) := (cell_of_block hE.box).trans rfl
    have a5 : wr.cell? ⟨w.heap.size, 5, none⟩ = some (.int .i64 e.«to») := (cell_of_block hE.box).trans rfl
    have S0 := hide ((unhide HS).below br)
    have CA := hide (encodeEntry_any e.kind e.client e.seq e.«to» e.text (maxLen_of hE.size) ao e.ms.length cap e.ms rfl wr (hE.ints.below br).are (unhide S0))
    obtain ⟨L, hL⟩ : ∃ L, told (putEntry e.kind e.client e.seq e.text e.ms e.«to» ([], 0)) = L := ⟨_, rfl⟩
    obtain ⟨f, hf⟩ : ∃ f, (putEntry e.kind e.client e.seq e.text e.ms e.«to» ([], 0)).2 = f := ⟨_, rfl⟩
    rw [hL, hf] at CA
    have HL := hide hL
    have HF := hide hf
    clear hE hO br hL hf
    go_wp2_with fail
    refine (unhide CA).mono ?_
    rintro r w4 ⟨vA, rfl, oA, b4⟩
    obtain ⟨aA, cA, rfl, rA, qA, yA, nA, _⟩ := oA.slice
    have B4 := hide ((unhide BR).trans (b4.mono (unhide BR).size))
    have EB4 := hide ((unhide EBR).below b4)
    have OB4 := hide ((unhide OBR).below b4)
    have S4 := hide ((unhide S0).below b4)
    have YA := hide yA
    have NA := hide nA
    have RA := hide rA
    clear oA b4 yA nA rA qA CA a0 a1 a2 a3 a4 a5 BR EBR OBR S0
    have a0 : w4.cell? ⟨w.heap.size, 0, none⟩ = some (.int .i64 e.kind) := (cell_of_block (unhide EB4).box).trans rfl
    have a1 : w4.cell? ⟨w.heap.size, 1, none⟩ = some (.int .i64 e.client) := (cell_of_block (unhide EB4).box).trans rfl
    have a2 : w4.cell? ⟨w.heap.size, 2, none⟩ = some (.int .i64 e.seq) := (cell_of_block (unhide EB4).box).trans rfl
    have a3 : w4.cell? ⟨w.heap.size, 3, none⟩ = some (.string e.text) := (cell_of_block (unhide EB4).box).trans rfl
    have a4 : w4.cell? ⟨w.heap.size, 4, none⟩ = some (.slice ao e.ms.length cap) := (cell_of_block (unhide EB4).box).trans rfl
    have a5 : w4.cell? ⟨w.heap.size, 5, none⟩ = some (.int .i64 e.«to») := (cell_of_block (unhide EB4).box).trans rfl
    have CB := hide (rencE_any e.kind e.client e.seq e.«to» e.text (maxLen_of (unhide EB4).size) ao e.ms.length cap (Nat.le_trans (unhide EB4).ints.room (unhide EB4).ints.big) e.ms rfl w4 ((unhide EB4).ints.below (unhide B4)).are)
    rw [unhide HL, unhide HF] at CB
    go_wp2_with fail
    refine (unhide CB).mono ?_
    rintro r w5 ⟨vB, rfl, oB, b5⟩
    obtain ⟨aB, cB, rfl, _, _, yB, _, _⟩ := oB.slice
    have B5 := hide ((unhide B4).trans (b5.mono (unhide B4).size))
    have EB5 := hide ((unhide EB4).below b5)
    have OB5 := hide ((unhide OB4).below b5)
    have S5 := hide ((unhide S4).below b5)
    have YA5 := hide ((unhide YA).below b5)
    obtain ⟨nL, hnL⟩ : ∃ n, L.length = n := ⟨_, rfl⟩
    have va : (convert 27 9 (.slice aA nL cA)).run Tryd.prog w5.drew = .ok (.string (str L)) w5.drew := conv_str ((unhide YA5).below (drew_below w5)) hnL
    have vb : (convert 27 9 (.slice aB nL cB)).run Tryd.prog w5.drew = .ok (.string (str L)) w5.drew := conv_str (yB.below (drew_below w5)) hnL
    obtain ⟨z, hz⟩ : ∃ z, str L = z := ⟨_, rfl⟩
    rw [hz] at va vb
    rw [hnL]
    have HNL := hide hnL
    clear oB b5 yB CB a0 a1 a2 a3 a4 a5 B4 EB4 OB4 S4 YA hnL hz
    obtain ⟨d, hd⟩ : ∃ d, decide (e.kind = o.kind ∧ e.client = o.client ∧ e.seq = o.seq ∧ e.text = o.text ∧ e.ms = o.ms ∧ e.«to» = o.«to») = d := ⟨_, rfl⟩
    have hle : e.ms.length ≤ 1000000000 := by have := (unhide EB5).len; omega
    have SE := hide (fun (x : World) (hb : Below w.heap.size w x) => sameEntry_any e.kind e.client e.seq e.«to» o.kind o.client o.seq o.«to» e.text o.text ao bo e.ms.length o.ms.length cap cbo e.ms o.ms rfl rfl hle x ((unhide EB5).intsR hb) ((unhide OB5).intsR hb))
    have SR := hide (fun (x : World) (hb : Below w.heap.size w x) => rsameEntry_any e.kind e.client e.seq e.«to» o.kind o.client o.seq o.«to» e.text o.text ao bo e.ms.length o.ms.length cap cbo e.ms o.ms rfl rfl hle x ((unhide EB5).intsR hb) ((unhide OB5).intsR hb))
    have SS := hide (fun (x : World) (hb : Below w.heap.size w x) => sameEntry_any e.kind e.client e.seq e.«to» e.kind e.client e.seq e.«to» e.text e.text ao ao e.ms.length e.ms.length cap cap e.ms e.ms rfl rfl hle x ((unhide EB5).intsR hb) ((unhide EB5).intsR hb))
    rw [hd] at SE SR
    rw [decide_eq_true (show e.kind = e.kind ∧ e.client = e.client ∧ e.seq = e.seq ∧ e.text = e.text ∧ e.ms = e.ms ∧ e.«to» = e.«to» from ⟨rfl, rfl, rfl, rfl, rfl, rfl⟩)] at SS
    have SX := hide (fun (x : World) (h1 : x.heap[w.heap.size]? = some (.cells #[.int .i64 e.kind, .int .i64 e.client, .int .i64 e.seq, .string e.text, .slice ao e.ms.length cap, .int .i64 e.«to»] 24 (0, 0))) (h2 : x.heap[w.heap.size + 1]? = some (.cells #[.int .i64 o.kind, .int .i64 o.client, .int .i64 o.seq, .string o.text, .slice bo o.ms.length cbo, .int .i64 o.«to»] 24 (0, 0))) => show x.cell? ⟨w.heap.size, 0, none⟩ = some (.int .i64 e.kind) ∧ x.cell? ⟨w.heap.size, 1, none⟩ = some (.int .i64 e.client) ∧ x.cell? ⟨w.heap.size, 2, none⟩ = some (.int .i64 e.seq) ∧ x.cell? ⟨w.heap.size, 3, none⟩ = some (.string e.text) ∧ x.cell? ⟨w.heap.size, 4, none⟩ = some (.slice ao e.ms.length cap) ∧ x.cell? ⟨w.heap.size, 5, none⟩ = some (.int .i64 e.«to») ∧ x.cell? ⟨w.heap.size + 1, 0, none⟩ = some (.int .i64 o.kind) ∧ x.cell? ⟨w.heap.size + 1, 1, none⟩ = some (.int .i64 o.client) ∧ x.cell? ⟨w.heap.size + 1, 2, none⟩ = some (.int .i64 o.seq) ∧ x.cell? ⟨w.heap.size + 1, 3, none⟩ = some (.string o.text) ∧ x.cell? ⟨w.heap.size + 1, 4, none⟩ = some (.slice bo o.ms.length cbo) ∧ x.cell? ⟨w.heap.size + 1, 5, none⟩ = some (.int .i64 o.«to») from ⟨(cell_of_block h1).trans rfl, (cell_of_block h1).trans rfl, (cell_of_block h1).trans rfl, (cell_of_block h1).trans rfl, (cell_of_block h1).trans rfl, (cell_of_block h1).trans rfl, (cell_of_block h2).trans rfl, (cell_of_block h2).trans rfl, (cell_of_block h2).trans rfl, (cell_of_block h2).trans rfl, (cell_of_block h2).trans rfl, (cell_of_block h2).trans rfl⟩)
    have HLE := hide hle
    clear hd hle
    go_upto_region 10 with fail
    go_cut [60] from 22 to 77 (fun bv wc => bv = .bool false ∧ Below w5.heap.size w5 wc)
    case first =>
      go_region_held_law (fun x => x.cell? ⟨w.heap.size, 0, none⟩ = some (.int .i64 e.kind) ∧ x.cell? ⟨w.heap.size, 1, none⟩ = some (.int .i64 e.client) ∧ x.cell? ⟨w.heap.size, 2, none⟩ = some (.int .i64 e.seq) ∧ x.cell? ⟨w.heap.size, 3, none⟩ = some (.string e.text) ∧ x.cell? ⟨w.heap.size, 4, none⟩ = some (.slice ao e.ms.length cap) ∧ x.cell? ⟨w.heap.size, 5, none⟩ = some (.int .i64 e.«to») ∧ x.cell? ⟨w.heap.size + 1, 0, none⟩ = some (.int .i64 o.kind) ∧ x.cell? ⟨w.heap.size + 1, 1, none⟩ = some (.int .i64 o.client) ∧ x.cell? ⟨w.heap.size + 1, 2, none⟩ = some (.int .i64 o.seq) ∧ x.cell? ⟨w.heap.size + 1, 3, none⟩ = some (.string o.text) ∧ x.cell? ⟨w.heap.size + 1, 4, none⟩ = some (.slice bo o.ms.length cbo) ∧ x.cell? ⟨w.heap.size + 1, 5, none⟩ = some (.int .i64 o.«to»))
        (first | exact (unhide SX) _ (unhide X8) (unhide Y8) | exact (unhide SX) _ (unhide X7) (unhide Y7) | exact (unhide SX) _ (unhide X6) (unhide Y6) | exact (unhide SX) _ (unhide EB5).box (unhide OB5).box)
        (first
          | (go_at_call 12
             refine ((unhide SR) _ (unhide B6)).mono ?_
             rintro r w7 ⟨rfl, b7⟩
             have P7 := hide ((unhide P6).trans (b7.mono (unhide P6).size))
             have B7 := hide ((unhide B6).trans (b7.mono (unhide B6).size))
             have X7 := hide ((b7.block _ (blk_lt' (unhide X6))).trans (unhide X6))
             have Y7 := hide ((b7.block _ (blk_lt' (unhide Y6))).trans (unhide Y6))
             clear b7)
          | (go_at_call_of 11 (Value.agg #[.int .i64 o.kind, .int .i64 o.client, .int .i64 o.seq, .string o.text, .slice bo o.ms.length cbo, .int .i64 o.«to»])
             refine ((unhide SE) _ (unhide B5).drew).mono ?_
             rintro r w6 ⟨rfl, b6⟩
             have P6 := hide ((drew_below w5).trans (b6.mono (Nat.le_refl _)))
             have B6 := hide ((unhide B5).trans ((unhide P6).mono (unhide B5).size))
             have X6 := hide (((unhide P6).block _ (blk_lt' (unhide EB5).box)).trans (unhide EB5).box)
             have Y6 := hide (((unhide P6).block _ (blk_lt' (unhide OB5).box)).trans (unhide OB5).box)
             clear b6)
          | (go_at_call 11
             refine ((unhide SS) _ (unhide B7)).mono ?_
             rintro r w8 ⟨rfl, b8⟩
             have P8 := hide ((unhide P7).trans (b8.mono (unhide P7).size))
             have X8 := hide ((b8.block _ (blk_lt' (unhide X7))).trans (unhide X7))
             have Y8 := hide ((b8.block _ (blk_lt' (unhide Y7))).trans (unhide Y7))
             clear b8))
      all_goals go_wp2_with fail
      all_goals go_meet
      all_goals exact ⟨rfl, unhide P8⟩
    case rest =>
    obtain ⟨rfl, bc⟩ := hcut
    clear va vb SE SR SS SX
    have BC := hide bc
    have B9 := hide ((unhide B5).trans (bc.mono (unhide B5).size))
    have EB9 := hide ((unhide EB5).below bc)
    have OB9 := hide ((unhide OB5).below bc)
    have S9 := hide ((unhide S5).below bc)
    have YA9 := hide ((unhide YA5).below bc)
    clear bc B5 EB5 OB5 S5 YA5
    go_upto_if 62 with fail
    go_cut [] from 22 to 77 (fun wd => Below wc.heap.size wc wd)
    case first =>
      by_cases hz : f = 0
      · have hok : e.ok := put_zero (by rw [unhide HF]; exact hz)
        have hLb : L = e.bytes := by
          rw [← unhide HL]
          have hp : putEntry e.kind e.client e.seq e.text e.ms e.«to» ([], 0) = ([] ++ e.bytes, 0) := putE_ok hok []
          rw [hp]; rfl
        have hlen := putE_len e ([], 0)
        rw [putE_ok hok] at hlen
        simp only [List.nil_append, List.length_nil] at hlen
        have hG : Given wc aA nL cA e.bytes := ⟨by rw [← hLb]; exact unhide HNL, by rw [← unhide HNL]; exact unhide RA, unhide NA, by rw [← unhide HNL, hLb]; omega, by rw [← hLb]; exact unhide YA9⟩
        have PP := hide (parse_self hok (unhide EB9).in64 hG (unhide S9))
        subst hz
        clear hok hLb hlen hG
        go_wp2_with fail
        refine (unhide PP).mono ?_
        rintro r w6 ⟨ax, cx, rfl, hx, b6⟩
        have bN : Below w6.heap.size w6 (w6.alloc (.cells #[.int .i64 e.kind, .int .i64 e.client, .int .i64 e.seq, .string e.text, .slice ax e.ms.length cx, .int .i64 e.«to»] 24)) := (Below.refl _ w6).alloc (Nat.le_refl _) _
        have h6 := (b6.block _ (blk_lt' (unhide EB9).box)).trans (unhide EB9).box
        have h7 := (bN.block _ (blk_lt' h6)).trans h6
        have B7 := (unhide B9).trans ((b6.trans (bN.mono b6.size)).mono (unhide B9).size)
        have RS := hide (rsameEntry_any e.kind e.client e.seq e.«to» e.kind e.client e.seq e.«to» e.text e.text ax ao e.ms.length e.ms.length cx cap e.ms e.ms rfl rfl (unhide HLE) _ (hx.below bN) ((unhide EB9).intsR B7))
        rw [decide_eq_true (show e.kind = e.kind ∧ e.client = e.client ∧ e.seq = e.seq ∧ e.text = e.text ∧ e.ms = e.ms ∧ e.«to» = e.«to» from ⟨rfl, rfl, rfl, rfl, rfl, rfl⟩)] at RS
        have BN := hide (b6.trans (bN.mono b6.size))
        have a0 : (w6.alloc (.cells #[.int .i64 e.kind, .int .i64 e.client, .int .i64 e.seq, .string e.text, .slice ax e.ms.length cx, .int .i64 e.«to»] 24)).cell? ⟨w.heap.size, 0, none⟩ = some (.int .i64 e.kind) := (cell_of_block h7).trans rfl
        have a1 : (w6.alloc (.cells #[.int .i64 e.kind, .int .i64 e.client, .int .i64 e.seq, .string e.text, .slice ax e.ms.length cx, .int .i64 e.«to»] 24)).cell? ⟨w.heap.size, 1, none⟩ = some (.int .i64 e.client) := (cell_of_block h7).trans rfl
        have a2 : (w6.alloc (.cells #[.int .i64 e.kind, .int .i64 e.client, .int .i64 e.seq, .string e.text, .slice ax e.ms.length cx, .int .i64 e.«to»] 24)).cell? ⟨w.heap.size, 2, none⟩ = some (.int .i64 e.seq) := (cell_of_block h7).trans rfl
        have a3 : (w6.alloc (.cells #[.int .i64 e.kind, .int .i64 e.client, .int .i64 e.seq, .string e.text, .slice ax e.ms.length cx, .int .i64 e.«to»] 24)).cell? ⟨w.heap.size, 3, none⟩ = some (.string e.text) := (cell_of_block h7).trans rfl
        have a4 : (w6.alloc (.cells #[.int .i64 e.kind, .int .i64 e.client, .int .i64 e.seq, .string e.text, .slice ax e.ms.length cx, .int .i64 e.«to»] 24)).cell? ⟨w.heap.size, 4, none⟩ = some (.slice ao e.ms.length cap) := (cell_of_block h7).trans rfl
        have a5 : (w6.alloc (.cells #[.int .i64 e.kind, .int .i64 e.client, .int .i64 e.seq, .string e.text, .slice ax e.ms.length cx, .int .i64 e.«to»] 24)).cell? ⟨w.heap.size, 5, none⟩ = some (.int .i64 e.«to») := (cell_of_block h7).trans rfl
        clear hx b6 bN h6 h7 B7 PP
        go_wp2_with fail
        refine (unhide RS).mono ?_
        rintro r w8 ⟨rfl, b8⟩
        have P8 := hide ((unhide BN).trans (b8.mono (unhide BN).size))
        clear b8 RS a0 a1 a2 a3 a4 a5
        go_wp2
        go_meet
        exact unhide P8
      · have hzi : ¬ ((f : Int) = 0) := by omega
        have hzb : ((f : Int) == 0) = false := by rw [beq_eq_false_iff_ne]; exact hzi
        go_wp2
        go_meet
        exact Below.refl _ _
    case rest =>
    have EBd := (unhide EB9).below hcut
    have OBd := (unhide OB9).below hcut
    have Bd := (unhide B9).trans (hcut.mono (unhide B9).size)
    have GG := hide (good_any e.kind e.client e.seq e.«to» e.text ao e.ms.length cap EBd.ints.room EBd.ints.big EBd.ints.nul (maxLen_of EBd.size) wc)
    have EBD := hide EBd
    have OBD := hide OBd
    have BD := hide Bd
    have c0 : wc.cell? ⟨w.heap.size, 0, none⟩ = some (.int .i64 e.kind) := (cell_of_block EBd.box).trans rfl
    have c1 : wc.cell? ⟨w.heap.size, 1, none⟩ = some (.int .i64 e.client) := (cell_of_block EBd.box).trans rfl
    have c2 : wc.cell? ⟨w.heap.size, 2, none⟩ = some (.int .i64 e.seq) := (cell_of_block EBd.box).trans rfl
    have c3 : wc.cell? ⟨w.heap.size, 3, none⟩ = some (.string e.text) := (cell_of_block EBd.box).trans rfl
    have c4 : wc.cell? ⟨w.heap.size, 4, none⟩ = some (.slice ao e.ms.length cap) := (cell_of_block EBd.box).trans rfl
    have c5 : wc.cell? ⟨w.heap.size, 5, none⟩ = some (.int .i64 e.«to») := (cell_of_block EBd.box).trans rfl
    clear EBd OBd Bd hcut EB9 OB9 B9 S9 YA9
    go_wp2_with fail
    refine (unhide GG).mono ?_
    rintro r w9 ⟨rfl, b9⟩
    have EB10 := (unhide EBD).below b9
    have OB10 := (unhide OBD).below b9
    have B10 := hide ((unhide BD).trans (b9.mono (unhide BD).size))
    have g0 : w9.cell? ⟨w.heap.size, 0, none⟩ = some (.int .i64 e.kind) := (cell_of_block EB10.box).trans rfl
    have g1 : w9.cell? ⟨w.heap.size, 1, none⟩ = some (.int .i64 e.client) := (cell_of_block EB10.box).trans rfl
    have g2 : w9.cell? ⟨w.heap.size, 2, none⟩ = some (.int .i64 e.seq) := (cell_of_block EB10.box).trans rfl
    have g3 : w9.cell? ⟨w.heap.size, 3, none⟩ = some (.string e.text) := (cell_of_block EB10.box).trans rfl
    have g4 : w9.cell? ⟨w.heap.size, 4, none⟩ = some (.slice ao e.ms.length cap) := (cell_of_block EB10.box).trans rfl
    have g5 : w9.cell? ⟨w.heap.size, 5, none⟩ = some (.int .i64 e.«to») := (cell_of_block EB10.box).trans rfl
    have fb : ∀ i, w9.frozen? ⟨w.heap.size, i, none⟩ = false := fun i => free_of_block EB10.box
    have EBX := hide EB10
    have OBX := hide OB10
    clear b9 EB10 OB10 GG c0 c1 c2 c3 c4 c5
    go_wp2
    go_roundg (2 - (j + 1))
    case measure => have := unhide HJ; omega
    case rel =>
      obtain ⟨wz, hwz⟩ : ∃ wz, wz = ((((((w9.setCell ⟨w.heap.size, 0, none⟩ (.int .i64 (e.kind % 5))).setCell ⟨w.heap.size, 1, none⟩ (.int .i64 e.client)).setCell ⟨w.heap.size, 2, none⟩ (.int .i64 e.seq)).setCell ⟨w.heap.size, 3, none⟩ (.string (goodT e.text))).setCell ⟨w.heap.size, 4, none⟩ (.slice ao (min e.ms.length 9) cap)).setCell ⟨w.heap.size, 5, none⟩ (.int .i64 (e.«to» % 3))) := ⟨_, rfl⟩
      rw [← hwz]
      obtain ⟨hbx, hkp⟩ := chain6 (unhide EBX).box hwz
      have hl9 : (e.ms.take 9).length = min e.ms.length 9 := by rw [List.length_take, Nat.min_comm]
      have it := (unhide EBX).ints.take 9
      rw [← hl9] at it hbx
      have hl1 := (unhide EBX).len
      refine ⟨j + 1, goodEn e, ao, cap, by omega, by go_num, ⟨hbx, it, goodT_lt (unhide EBX).size, by show (e.ms.take 9).length < 100; omega, goodEn_in64 (unhide EBX).in64⟩, ⟨(hkp.2 _ (blk_lt' (unhide OBX).box) (by omega)).trans (unhide OBX).box, (unhide OBX).ints, (unhide OBX).size, (unhide OBX).len, (unhide OBX).in64⟩, (unhide B10).trans hkp.1⟩
end Go.Proofs.YtjcllplgiffmgaaDoor
