/- chain: reopened, restore, Load of what a fresh core saved: contracts. chain: restore, Load of what a fresh core saved: contracts. -/
import Derived.Test.YtjplhiflemmkfaaGreatDoorEC3
namespace Go.Proofs.YtjplhiflemmkfaaGreatDoor
open Go.RowKit Go.Maps

theorem split_two {x y : List Nat} (hx : ∀ b ∈ x, b < 256) (hy : ∀ b ∈ y, b < 256) (lx : x.length ≤ 65536) (ly : y.length ≤ 65536) : splitOf ((frame x ++ frame y).length + 1) (frame x ++ frame y) = ([x, y], (frame x ++ frame y).length, 0) := by
  have h1 := frameOf_frame hx lx (frame y)
  have h2 := frameOf_frame hy ly []
  rw [List.append_nil] at h2
  have d1 : (frame x ++ frame y).drop (8 + x.length) = frame y := by rw [← frame_length x, List.drop_left]
  have e1 : (frame x ++ frame y).length = (8 + x.length + (7 + y.length)) + 1 := by rw [List.length_append, frame_length, frame_length]; omega
  rw [splitOf_some h1, d1, e1, splitOf_some h2, List.drop_of_length_le (by rw [frame_length]; omega), splitOf_none frameOf_nil (by omega)]
  simp; omega
theorem field_new (Y : World) (ao : Option Addr) (n c : Nat) : (Instr.field 26 (.agg #[.slice none 0 0, .slice ao n c]) 1).run Tryz.prog Y = .ok (.slice ao n c) Y := by kernel_rfl
set_option maxRecDepth 20000 in
set_option maxHeartbeats 2000000 in
theorem creopened {p : Nat} {ao : Option Addr} {cap : Nat} {id base : Int} {ms : List Int} (hch : coreCheck id ms base = 0) (hc : Core0 id base ms) (bo : Option Addr) (n bc : Nat) (w : World) (hg : Given w bo n bc (frame (psaid base ms).packed.bytes)) (h256 : ∀ b ∈ (psaid base ms).packed.bytes, b < 256) (hp : CPst w p ao cap ms base) (hS : Start w) :
    Calls Tryz.prog 154 #[.int .i64 id, .slice bo n bc, .pointer (some ⟨p, 0, none⟩)] w fun e w' => ∃ i pc, e = .returned (.tuple #[.pointer (some ⟨i, 0, none⟩), .nilIface]) ∧ w'.heap[i]? = some (.cells #[.pointer (some ⟨pc, 0, none⟩), .int .i64 1] 101 (0, 0)) ∧ PNew w' pc id ms base ∧ Below w.heap.size w w' := by
  obtain ⟨k, hk⟩ : ∃ k, ms.length = k := ⟨_, rfl⟩
  have hk7 : k ≤ 7 := by rw [← hk]; exact hc.len
  have hb0 := hc.b0
  have hb1 := hc.b1
  have CO := hide (ccount_fresh w hp)
  have CL := hide (fun (Y : World) (hY : Below w.heap.size w Y) => pload_fresh id base ms hch hc bo n bc Y (hg.below hY) h256 (hS.below hY))
  have CM := hide (fun (Y : World) (hY : Below w.heap.size w Y) => cmembers_fresh hk Y (hp.below hY))
  have CE := hide (fun (Y : World) (hY : Below w.heap.size w Y) => cend_fresh hb0 hb1 Y (hp.below hY))
  have CD := hide (fun (Y : World) (hY : Below w.heap.size w Y) => cended_none none 0 Y (hp.below hY))
  have PM := hide (fun (Y : World) (hY : Below w.heap.size w Y) => (hp.below hY).mem.fr.1)
  have HK := hide hk
  clear hg h256 hp hS hk hc hch
  go_enter Tryz.func154, Tryz.ntmps154
  go_wp2_with fail
  refine (unhide CO).mono ?_
  rintro e w1 ⟨rfl, b1⟩
  have B1 := hide b1
  have CL1 := hide (unhide CL w1 b1)
  clear CO CL b1
  go_wp2_with fail
  refine (unhide CL1).mono ?_
  rintro e w2 ⟨pc, rfl, pn, b2⟩
  have PN := hide pn
  have B2 := hide (below_far (unhide B1) b2)
  clear CL1 pn b2 B1
  go_upto_region 6 with fail
  obtain ⟨w3, hw3⟩ : ∃ w3, w2.alloc (.cells #[.pointer (some ⟨pc, 0, none⟩), .int .i64 1] 101) = w3 := ⟨_, rfl⟩
  obtain ⟨i, hi⟩ : ∃ i, w2.heap.size = i := ⟨_, rfl⟩
  have b3 : Below w2.heap.size w2 w3 := by rw [← hw3]; exact (Below.refl _ w2).alloc (Nat.le_refl _) _
  have x3 : w3.heap[i]? = some (.cells #[.pointer (some ⟨pc, 0, none⟩), .int .i64 1] 101 (0, 0)) := by rw [← hi, ← hw3]; exact box_at _ _
  rw [hw3, hi]
  have P3 := hide ((unhide PN).below b3)
  have X3 := hide x3
  have B3 := hide (below_far (unhide B2) b3)
  have i3 : w3.cell? ⟨i, 0, none⟩ = some (.pointer (some ⟨pc, 0, none⟩)) := (cell_of_block x3).trans rfl
  have CF := hide (config_fresh (by rw [unhide HK]; omega) w3 (unhide P3))
  clear hw3 hi b3 x3 PN B2
  go_wp2_with fail
  refine (unhide CF).mono ?_
  rintro e w4 ⟨fo, fc, rfl, i4, b4⟩
  have X4 := hide (Below.stay b4 (unhide X3))
  have P4 := hide ((unhide P3).below b4)
  have B4 := hide (below_far (unhide B3) b4)
  have I4 := hide i4
  have CM4 := hide (unhide CM w4 (unhide B4))
  have FD := field_new w4 fo ms.length fc
  clear CF b4 X3 P3 B3 i4 i3 CM
  go_wp2_with fail
  refine (unhide CM4).mono ?_
  rintro e w5 ⟨rfl, b5⟩
  have X5 := hide (Below.stay b5 (unhide X4))
  have P5 := hide ((unhide P4).below b5)
  have B5 := hide (below_far (unhide B4) b5)
  have EQ := equal_any fo ao ms.length k fc cap ms ms rfl (unhide HK) (by rw [unhide HK]; omega) w5 ((unhide I4).below b5) (unhide PM w5 (unhide B5))
  rw [decide_eq_true rfl] at EQ
  have EQ := hide EQ
  clear CM4 b5 X4 P4 B4 I4 PM FD
  go_wp2_with fail
  refine (unhide EQ).mono ?_
  rintro e w6 ⟨rfl, b6⟩
  have X6 := hide (Below.stay b6 (unhide X5))
  have P6 := hide ((unhide P5).below b6)
  have B6 := hide (below_far (unhide B5) b6)
  have CE6 := hide (unhide CE w6 (unhide B6))
  clear EQ b6 X5 P5 B5
  go_wp2_with fail
  refine (unhide CE6).mono ?_
  rintro e w7 ⟨rfl, b7⟩
  have X7 := hide (Below.stay b7 (unhide X6))
  have P7 := hide ((unhide P6).below b7)
  have B7 := hide (below_far (unhide B6) b7)
  have CB := hide (cbehind_fresh hb0 hb1 w7 (unhide X7) (unhide P7))
  clear CE6 b7 X6 P6 B6
  go_wp2_with fail
  refine (unhide CB).mono ?_
  rintro e w8 ⟨rfl, b8⟩
  have X8 := hide (Below.stay b8 (unhide X7))
  have P8 := hide ((unhide P7).below b8)
  have B8 := hide (below_far (unhide B7) b8)
  have CE8 := hide (unhide CE w8 (unhide B8))
  clear CB b8 X7 P7 B7 CE
  go_wp2_with fail
  refine (unhide CE8).mono ?_
  rintro e w9 ⟨rfl, b9⟩
  have X9 := hide (Below.stay b9 (unhide X8))
  have P9 := hide ((unhide P8).below b9)
  have B9 := hide (below_far (unhide B8) b9)
  have CK := hide (cknown_none hb0 hb1 w9 (unhide X9) (unhide P9))
  clear CE8 b9 X8 P8 B8
  go_wp2_with fail
  refine (unhide CK).mono ?_
  rintro e w10 ⟨rfl, b10⟩
  have X10 := hide (Below.stay b10 (unhide X9))
  have P10 := hide ((unhide P9).below b10)
  have B10 := hide (below_far (unhide B9) b10)
  have CD10 := hide (unhide CD w10 (unhide B10))
  clear CK b10 X9 P9 B9 CD
  go_wp2_with fail
  refine (unhide CD10).mono ?_
  rintro e w11 ⟨rfl, b11⟩
  have R := hide (And.intro (Below.stay b11 (unhide X10)) (And.intro ((unhide P10).below b11) (below_far (unhide B10) b11)))
  clear CD10 b11 X10 P10 B10
  go_wp2
  go_ret2
  exact ⟨i, pc, rfl, (unhide R).1, (unhide R).2.1, (unhide R).2.2⟩
end Go.Proofs.YtjplhiflemmkfaaGreatDoor
namespace Go.Proofs.YtjplhiflemmkfaaGreatDoor
open Go.RowKit Go.Maps

set_option maxRecDepth 20000 in
set_option maxHeartbeats 2000000 in
theorem crestore {id base : Int} {ms : List Int} (hch : coreCheck id ms base = 0) (hc : Core0 id base ms) (a : Addr) (n cap : Nat) (w : World) (hg : Given w (some a) n cap (frame (csaid base ms).packed.bytes ++ frame (psaid base ms).packed.bytes)) (h1 : ∀ b ∈ (csaid base ms).packed.bytes, b < 256) (h2 : ∀ b ∈ (psaid base ms).packed.bytes, b < 256) (hS : Start w) :
    Calls Tryz.prog 84 #[.int .i64 id, .slice (some a) n cap] w fun e w' => ∃ p i pc ao cap, e = .returned (.tuple #[.pointer (some ⟨p, 0, none⟩), .pointer (some ⟨i, 0, none⟩), .nilIface]) ∧ CPst w' p ao cap ms base ∧ w'.heap[i]? = some (.cells #[.pointer (some ⟨pc, 0, none⟩), .int .i64 1] 101 (0, 0)) ∧ PNew w' pc id ms base ∧ Below w.heap.size w w' := by
  have s1 := msg_bytes (said_ok (m := csaid base ms) rfl rfl rfl hc.nine)
  have s2 := msg_bytes (said_ok (m := psaid base ms) rfl rfl rfl hc.nine)
  have hsp := split_two h1 h2 (by omega) (by omega)
  have RC := hide (fun (Y : World) (ao : Option Addr) (k c : Nat) (hq : Given Y ao k c (frame (csaid base ms).packed.bytes)) (hs : Start Y) => restoreC_any (csaid base ms).packed (said_ok rfl rfl rfl hc.nine) (csaid64 hc) rfl id hch (fun w l => ∃ ao cap, CPst w l ao cap ms base) (fun w w' l h hb => by obtain ⟨ao, cap, h⟩ := h; exact ⟨ao, cap, h.below hb⟩)
    (fun Y aot aoe aoo aon ct ce co cn _ _ _ i4 => cremembered base ms aot aoe aoo aon ct ce co cn ms.length rfl Y i4)
    (fun Y l hS h => by obtain ⟨ao, cap, h⟩ := h; exact cbytes_fresh hc.nine Y h hS) ao k c Y hq h1 hs)
  have RO := hide (fun (Y : World) (p : Nat) (ao bo : Option Addr) (cap k c : Nat) (hq : Given Y bo k c (frame (psaid base ms).packed.bytes)) (hp : CPst Y p ao cap ms base) (hs : Start Y) => creopened hch hc bo k c Y hq h2 hp hs)
  have l1 := frame_length (csaid base ms).packed.bytes
  have l2 := frame_length (psaid base ms).packed.bytes
  obtain ⟨L1, hL1⟩ : ∃ L, (csaid base ms).packed.bytes = L := ⟨_, rfl⟩
  obtain ⟨F1, hF1⟩ : ∃ L, frame L1 = L := ⟨_, rfl⟩
  obtain ⟨F2, hF2⟩ : ∃ L, frame (psaid base ms).packed.bytes = L := ⟨_, rfl⟩
  have FA := fun (Y : World) (b : Option Addr) (c : Nat) (hb : Bytes Y b L1) (hc : b = none → c = 0) (hs : Start Y) => frame_any b c L1 Y hb hc (by rw [← hL1]; omega) hs.1 (by have := hs.2.2; omega)
  have SP := split_len (some a) n cap _ hg.len w hg.are hg.room (by have := hg.len; rw [List.length_append] at this; omega) hS
  rw [hsp] at SP
  have hn := hg.len
  rw [List.length_append] at hn
  rw [hL1, hF1] at l1 RC
  rw [hL1] at s1 SP
  rw [hF2] at l2 RO
  rw [hL1, hF1, hF2] at hg hn
  rw [hF1] at FA
  have GV := hide hg
  have HS := hide hS
  have SP := hide SP
  have HN := hide hn
  have FA := hide FA
  have hn1 : F1.length ≤ n := by omega
  have hrm := hg.room
  have LE := hide (And.intro l1 (And.intro l2 (And.intro s1 s2)))
  obtain ⟨m1, hm1⟩ : ∃ m, F1.length = m := ⟨_, rfl⟩
  have q1 : (0 : Int) ≤ (m1 : Int) := by omega
  have q2 : (m1 : Int) ≤ (n : Int) := by omega
  have q3 : (n : Int) ≤ (cap : Int) := by omega
  have q4 : ¬ (cap = m1) := by omega
  have q5 : ¬ (cap = 0) := by omega
  have q6 : cap - m1 ≠ 0 := by omega
  have HM := hide hm1
  clear hg hS hsp h1 h2 hch hc hn hL1 hF1 hF2 s1 s2 l1 l2 hm1 hn1 hrm
  go_enter Tryz.func84, Tryz.ntmps84
  go_wp2_with fail
  refine (unhide SP).mono ?_
  rintro e w1 ⟨fv, vs, rfl, ro, rs, b1⟩
  have hv2 : vs.length = 2 := rs.1
  obtain ⟨g, capf, rfl, hcell⟩ := row_open ro (by intro h; rw [h] at hv2; cases hv2)
  obtain ⟨v0, hv0⟩ : ∃ v0, vs[0]? = some v0 := ⟨_, List.getElem?_eq_getElem (by omega)⟩
  have o0 := rs.2 0 v0 L1 hv0 rfl
  obtain ⟨a0, c0, rfl, hr0, hc0, hby0, hn0, -⟩ := o0.slice
  have cg : w1.cell? ⟨g, 0, none⟩ = some (.slice a0 L1.length c0) := (hcell 0 (by omega)).trans hv0
  have FR := hide (unhide FA w1 a0 c0 hby0 hn0 ((unhide HS).below b1))
  have B1 := hide b1
  rw [hv2]
  clear SP FA ro rs hcell hv0 o0 hr0 hc0 hby0 hn0 b1 hv2
  go_wp2_with fail
  refine (unhide FR).mono ?_
  rintro e w2 ⟨hv, rfl, oh, b2⟩
  obtain ⟨ho, hcap, rfl, _⟩ := own_given oh (by have := (unhide LE).1; have := (unhide LE).2.2.1; omega)
  have B2 := hide (below_far (unhide B1) b2)
  rw [unhide HM]
  have g1 : Given w2 (some a) m1 cap F1 := ⟨unhide HM, by omega, (fun h => by cases h), by have := (unhide GV).big; omega, by
    have := (unhide GV).are.take F1.length
    rw [List.take_left] at this
    exact this.below (unhide B2)⟩
  have CR := hide (unhide RC w2 (some a) m1 cap g1 ((unhide HS).below (unhide B2)))
  clear FR RC oh b2 g1 B1 cg
  go_wp2_with fail
  refine (unhide CR).mono ?_
  rintro e w3 ⟨p, rfl, ⟨ao, cp, hp⟩, b3⟩
  have B3 := hide (below_far (unhide B2) b3)
  have PP := hide hp
  have g2 : Given w3 (some (a.add m1)) (n - m1) (cap - m1) F2 := ⟨by have := unhide HN; have := unhide HM; omega, by omega, (fun h => by cases h), by have := (unhide GV).big; omega, by
    have := (unhide GV).are.drop F1.length
    rw [List.drop_left, unhide HM] at this
    exact this.below (unhide B3)⟩
  have CO := hide (unhide RO w3 p ao (some (a.add m1)) cp (n - m1) (cap - m1) g2 hp ((unhide HS).below (unhide B3)))
  clear CR RO hp b3 B2 g2
  go_wp2_with fail
  refine (unhide CO).mono ?_
  rintro e w4 ⟨i, pc, rfl, xi, pn, b4⟩
  have R := hide (And.intro ((unhide PP).below b4) (And.intro xi (And.intro pn (below_far (unhide B3) b4))))
  clear CO xi pn b4 B3 PP
  go_wp2
  go_ret3
  exact ⟨p, i, pc, ao, cp, rfl, (unhide R).1, (unhide R).2.1, (unhide R).2.2.1, (unhide R).2.2.2⟩
set_option maxRecDepth 20000 in
set_option maxHeartbeats 1000000 in
theorem cload_fresh {id base : Int} {ms : List Int} (hch : coreCheck id ms base = 0) (hc : Core0 id base ms) (a : Addr) (n cap : Nat) (w : World) (hg : Given w (some a) n cap (frame (csaid base ms).packed.bytes ++ frame (psaid base ms).packed.bytes)) (h1 : ∀ b ∈ (csaid base ms).packed.bytes, b < 256) (h2 : ∀ b ∈ (psaid base ms).packed.bytes, b < 256) (hS : Start w) :
    Calls Tryz.prog 22 #[.int .i64 id, .slice (some a) n cap] w fun e w' => ∃ c, e = .returned (.tuple #[.pointer (some ⟨c, 0, none⟩), .int .i64 0]) ∧ CNew w' c id ms base ∧ Below w.heap.size w w' := by
  have CR := hide (crestore hch hc a n cap w hg h1 h2 hS)
  clear hg h1 h2 hS hch hc
  go_enter Tryz.func22, Tryz.ntmps22
  go_wp2_with fail
  refine (unhide CR).mono ?_
  rintro e w1 ⟨p, i, pc, ao, cp, rfl, hp, hi, hn, b1⟩
  have CB := hide (cbegin_fresh w1 hp hi hn)
  have B1 := hide b1
  clear CR hp hi hn b1
  go_wp2_with fail
  refine (unhide CB).mono ?_
  rintro e w2 ⟨c, rfl, h2, b2⟩
  have R := hide (And.intro h2 (below_far (unhide B1) b2))
  clear CB h2 b2 B1
  go_wp2
  go_ret2
  exact ⟨c, rfl, (unhide R).1, (unhide R).2⟩
end Go.Proofs.YtjplhiflemmkfaaGreatDoor
