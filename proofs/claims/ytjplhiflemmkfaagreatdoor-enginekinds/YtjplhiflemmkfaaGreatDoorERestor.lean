/- core.Restore of what was packed: contracts. raft.Load of what a fresh core saved: a contract. -/
import Derived.Test.YtjplhiflemmkfaaGreatDoorEQuiet
namespace Go.Proofs.YtjplhiflemmkfaaGreatDoor
open Go.RowKit Go.Maps

/-- what Own says, as what is handed in. -/
theorem own_given {base : Nat} {w : World} {v : Value} {bs : List Nat} (h : Own base w v bs) (hl : bs.length ≤ 1000000000000) : ∃ ao cap, v = .slice ao bs.length cap ∧ Given w ao bs.length cap bs := by
  obtain ⟨ao, cap, rfl, h1, _, h3, h4, _⟩ := h.slice
  exact ⟨ao, cap, rfl, rfl, h1, h4, hl, h3⟩

set_option maxRecDepth 20000 in
set_option maxHeartbeats 1000000 in
theorem restoreR_any (p : Mg) (hok : p.ok) (h64 : p.in64) (he : p.es = []) (id : Int) (hch : coreCheck id p.new p.index = 0) (R : World → Nat → Prop) (hR : ∀ (w w' : World) (l : Nat), R w l → Below w.heap.size w w' → R w' l)
    (hread : ∀ (Y : World) (aot aoe aoo aon : Option Addr) (ct ce co cn : Nat), Start Y → IntsR Y aot p.terms → IntsR Y aoo p.old → Mbrs Y aon cn p.new → Calls Tryz.prog 89 #[.agg #[.int .i64 p.src, .int .i64 p.to, .int .i64 p.gen, .int .i64 p.kind, .int .i64 p.term, .int .i64 p.index, .int .i64 p.last, .int .i64 p.commit, .bool p.yes, .slice aot p.terms.length ct, .slice aoe p.es.length ce, .slice aoo p.old.length co, .slice aon p.new.length cn]] Y fun e w' => ∃ l, e = .returned (.tuple #[.pointer (some ⟨l, 0, none⟩), .int .i64 0]) ∧ R w' l ∧ Below Y.heap.size Y w')
    (hpack : ∀ (Y : World) (l : Nat), Start Y → R Y l → Calls Tryz.prog 90 #[.pointer (some ⟨l, 0, none⟩)] Y fun e w' => ∃ v, e = .returned v ∧ Own Y.heap.size w' v (frame p.bytes) ∧ Below Y.heap.size Y w')
    (ao : Option Addr) (n cap : Nat) (w : World) (hg : Given w ao n cap (frame p.bytes)) (h256 : ∀ b ∈ p.bytes, b < 256) (hS : Start w) :
    Calls Tryz.prog 88 #[.int .i64 id, .slice ao n cap, .func (.func 89) #[] #[], .func (.func 90) #[] #[]] w fun e w' => ∃ l, e = .returned (.tuple #[.pointer (some ⟨l, 0, none⟩), .nilIface]) ∧ R w' l ∧ Below w.heap.size w w' := by
  have hlen := msg_bytes hok
  have UN := hide (unpack_any p hok h64 he ao n cap w hg h256 hS)
  have hnl : p.new.length ≤ 64 := by have h9 : (p.new.length : Int) ≤ 64 := Int.le_trans (refuse_range hok.new).2 (by decide); omega
  have CC := hide (fun (Y : World) (a : Option Addr) (c : Nat) (hm : IntsR Y a p.new) => coreCheck_any id p.index a p.new.length c p.new rfl (by omega) Y hm)
  rw [hch] at CC
  obtain ⟨L, hL⟩ : ∃ L, frame p.bytes = L := ⟨_, rfl⟩
  have hLl : L.length ≤ 100000 := by rw [← hL, frame_length]; omega
  rw [hL] at hg hpack
  have EQ := hide (fun (Y : World) (a b : Option Addr) (c d m : Nat) (hm : L.length = m) (ha : Bytes Y a L) (hb : Bytes Y b L) => equal_bytes a b m n c d L hm (by rw [← hm]; exact hg.len) Y ha hb (by omega))
  have GV := hide hg
  have HR := hide hread
  have HP := hide hpack
  have HRk := hide hR
  have HS := hide hS
  have LL := hide hLl
  clear hok h64 he hch hread hpack hR hg h256 hS hlen hLl hL
  go_enter Tryz.func88, Tryz.ntmps88
  go_upto_region 2 with fail
  go_wp2_with fail
  refine (unhide UN).mono ?_
  rintro e w1 ⟨aot, aoe, aoo, aon, ct, ce, co, cn, rfl, i1, i3, i4, b1⟩
  have II := hide (And.intro i1 (And.intro i3 i4))
  have B1 := hide b1
  clear i1 i3 i4 b1 UN
  go_upto_region 3 with fail
  obtain ⟨M, hM⟩ : ∃ M, w1.heap.size = M := ⟨_, rfl⟩
  obtain ⟨w2, hw2⟩ : ∃ w2, w1.alloc (.cells #[.int .i64 p.src, .int .i64 p.to, .int .i64 p.gen, .int .i64 p.kind, .int .i64 p.term, .int .i64 p.index, .int .i64 p.last, .int .i64 p.commit, .bool p.yes, .slice aot p.terms.length ct, .slice aoe p.es.length ce, .slice aoo p.old.length co, .slice aon p.new.length cn] 50) = w2 := ⟨_, rfl⟩
  have x2 : w2.heap[M]? = some (.cells #[.int .i64 p.src, .int .i64 p.to, .int .i64 p.gen, .int .i64 p.kind, .int .i64 p.term, .int .i64 p.index, .int .i64 p.last, .int .i64 p.commit, .bool p.yes, .slice aot p.terms.length ct, .slice aoe p.es.length ce, .slice aoo p.old.length co, .slice aon p.new.length cn] 50 (0, 0)) := by rw [← hM, ← hw2]; exact heap_alloc_new _ _
  have b2 : Below w1.heap.size w1 w2 := by rw [← hw2]; exact (Below.refl _ w1).alloc (Nat.le_refl _) _
  rw [hw2, hM]
  have X2 := hide x2
  have B2 := hide (below_far (unhide B1) b2)
  have I2 := hide (And.intro ((unhide II).1.below b2) (And.intro ((unhide II).2.1.below b2) ((unhide II).2.2.below b2)))
  obtain ⟨q0, q1, q2, q3, q4, q5, q6, q7, q8, q9, q10, q11, q12⟩ := mbox13 x2
  have CK := hide (unhide CC w2 aon cn (unhide I2).2.2.fr.1)
  clear hM hw2 x2 b2 B1 II CC
  go_wp2_with fail
  refine (unhide CK).mono ?_
  rintro e w3 ⟨rfl, b3⟩
  have x3 := Below.stay b3 (unhide X2)
  have B3 := hide (below_far (unhide B2) b3)
  have S3 := (unhide HS).below (unhide B3)
  have CR := hide (unhide HR w3 aot aoe aoo aon ct ce co cn S3 ((unhide I2).1.below b3) ((unhide I2).2.1.below b3) ((unhide I2).2.2.below b3))
  clear q0 q1 q2 q3 q4 q5 q6 q7 q8 q9 q10 q11 q12 X2 B2 I2 CK S3 HR b3
  obtain ⟨q0, q1, q2, q3, q4, q5, q6, q7, q8, q9, q10, q11, q12⟩ := mbox13 x3
  clear x3
  go_wp2_with fail
  refine (unhide CR).mono ?_
  rintro e w4 ⟨l, rfl, r4, b4⟩
  have B4 := hide (below_far (unhide B3) b4)
  have R4 := hide r4
  have CP := hide (unhide HP w4 l ((unhide HS).below (unhide B4)) r4)
  clear q0 q1 q2 q3 q4 q5 q6 q7 q8 q9 q10 q11 q12 B3 CR r4 b4 HP
  go_wp2_with fail
  refine (unhide CP).mono ?_
  rintro e w5 ⟨v, rfl, o5, b5⟩
  obtain ⟨av, cv, rfl, gv⟩ := own_given o5 (by have := unhide LL; omega)
  have B5 := hide (below_far (unhide B4) b5)
  have R5 := hide (unhide HRk w4 w5 l (unhide R4) b5)
  have CE := hide (unhide EQ w5 av ao cv cap L.length rfl gv.are ((unhide GV).are.below (unhide B5)))
  clear CP o5 gv b5 B4 R4 EQ HRk HS GV LL
  go_wp2_with fail
  refine (unhide CE).mono ?_
  rintro e w6 ⟨rfl, rfl⟩
  go_wp2
  go_ret2
  exact ⟨l, rfl, unhide R5, unhide B5⟩

set_option maxRecDepth 20000 in
set_option maxHeartbeats 1000000 in
theorem restoreP_any (p : Mg) (hok : p.ok) (h64 : p.in64) (he : p.es = []) (id : Int) (hch : coreCheck id p.new p.index = 0) (R : World → Nat → Prop) (hR : ∀ (w w' : World) (l : Nat), R w l → Below w.heap.size w w' → R w' l)
    (hread : ∀ (Y : World) (aot aoe aoo aon : Option Addr) (ct ce co cn : Nat), Start Y → IntsR Y aot p.terms → IntsR Y aoo p.old → Mbrs Y aon cn p.new → Calls Tryz.prog 269 #[.agg #[.int .i64 p.src, .int .i64 p.to, .int .i64 p.gen, .int .i64 p.kind, .int .i64 p.term, .int .i64 p.index, .int .i64 p.last, .int .i64 p.commit, .bool p.yes, .slice aot p.terms.length ct, .slice aoe p.es.length ce, .slice aoo p.old.length co, .slice aon p.new.length cn]] Y fun e w' => ∃ l, e = .returned (.tuple #[.pointer (some ⟨l, 0, none⟩), .int .i64 0]) ∧ R w' l ∧ Below Y.heap.size Y w')
    (hpack : ∀ (Y : World) (l : Nat), Start Y → R Y l → Calls Tryz.prog 157 #[.pointer (some ⟨l, 0, none⟩)] Y fun e w' => ∃ v, e = .returned v ∧ Own Y.heap.size w' v (frame p.bytes) ∧ Below Y.heap.size Y w')
    (ao : Option Addr) (n cap : Nat) (w : World) (hg : Given w ao n cap (frame p.bytes)) (h256 : ∀ b ∈ p.bytes, b < 256) (hS : Start w) :
    Calls Tryz.prog 268 #[.int .i64 id, .slice ao n cap, .func (.func 269) #[] #[], .func (.func 157) #[] #[]] w fun e w' => ∃ l, e = .returned (.tuple #[.pointer (some ⟨l, 0, none⟩), .nilIface]) ∧ R w' l ∧ Below w.heap.size w w' := by
  have hlen := msg_bytes hok
  have UN := hide (unpack_any p hok h64 he ao n cap w hg h256 hS)
  have hnl : p.new.length ≤ 64 := by have h9 : (p.new.length : Int) ≤ 64 := Int.le_trans (refuse_range hok.new).2 (by decide); omega
  have CC := hide (fun (Y : World) (a : Option Addr) (c : Nat) (hm : IntsR Y a p.new) => coreCheck_any id p.index a p.new.length c p.new rfl (by omega) Y hm)
  rw [hch] at CC
  obtain ⟨L, hL⟩ : ∃ L, frame p.bytes = L := ⟨_, rfl⟩
  have hLl : L.length ≤ 100000 := by rw [← hL, frame_length]; omega
  rw [hL] at hg hpack
  have EQ := hide (fun (Y : World) (a b : Option Addr) (c d m : Nat) (hm : L.length = m) (ha : Bytes Y a L) (hb : Bytes Y b L) => equal_bytes a b m n c d L hm (by rw [← hm]; exact hg.len) Y ha hb (by omega))
  have GV := hide hg
  have HR := hide hread
  have HP := hide hpack
  have HRk := hide hR
  have HS := hide hS
  have LL := hide hLl
  clear hok h64 he hch hread hpack hR hg h256 hS hlen hLl hL
  go_enter Tryz.func268, Tryz.ntmps268
  go_upto_region 2 with fail
  go_wp2_with fail
  refine (unhide UN).mono ?_
  rintro e w1 ⟨aot, aoe, aoo, aon, ct, ce, co, cn, rfl, i1, i3, i4, b1⟩
  have II := hide (And.intro i1 (And.intro i3 i4))
  have B1 := hide b1
  clear i1 i3 i4 b1 UN
  go_upto_region 3 with fail
  obtain ⟨M, hM⟩ : ∃ M, w1.heap.size = M := ⟨_, rfl⟩
  obtain ⟨w2, hw2⟩ : ∃ w2, w1.alloc (.cells #[.int .i64 p.src, .int .i64 p.to, .int .i64 p.gen, .int .i64 p.kind, .int .i64 p.term, .int .i64 p.index, .int .i64 p.last, .int .i64 p.commit, .bool p.yes, .slice aot p.terms.length ct, .slice aoe p.es.length ce, .slice aoo p.old.length co, .slice aon p.new.length cn] 50) = w2 := ⟨_, rfl⟩
  have x2 : w2.heap[M]? = some (.cells #[.int .i64 p.src, .int .i64 p.to, .int .i64 p.gen, .int .i64 p.kind, .int .i64 p.term, .int .i64 p.index, .int .i64 p.last, .int .i64 p.commit, .bool p.yes, .slice aot p.terms.length ct, .slice aoe p.es.length ce, .slice aoo p.old.length co, .slice aon p.new.length cn] 50 (0, 0)) := by rw [← hM, ← hw2]; exact heap_alloc_new _ _
  have b2 : Below w1.heap.size w1 w2 := by rw [← hw2]; exact (Below.refl _ w1).alloc (Nat.le_refl _) _
  rw [hw2, hM]
  have X2 := hide x2
  have B2 := hide (below_far (unhide B1) b2)
  have I2 := hide (And.intro ((unhide II).1.below b2) (And.intro ((unhide II).2.1.below b2) ((unhide II).2.2.below b2)))
  obtain ⟨q0, q1, q2, q3, q4, q5, q6, q7, q8, q9, q10, q11, q12⟩ := mbox13 x2
  have CK := hide (unhide CC w2 aon cn (unhide I2).2.2.fr.1)
  clear hM hw2 x2 b2 B1 II CC
  go_wp2_with fail
  refine (unhide CK).mono ?_
  rintro e w3 ⟨rfl, b3⟩
  have x3 := Below.stay b3 (unhide X2)
  have B3 := hide (below_far (unhide B2) b3)
  have S3 := (unhide HS).below (unhide B3)
  have CR := hide (unhide HR w3 aot aoe aoo aon ct ce co cn S3 ((unhide I2).1.below b3) ((unhide I2).2.1.below b3) ((unhide I2).2.2.below b3))
  clear q0 q1 q2 q3 q4 q5 q6 q7 q8 q9 q10 q11 q12 X2 B2 I2 CK S3 HR b3
  obtain ⟨q0, q1, q2, q3, q4, q5, q6, q7, q8, q9, q10, q11, q12⟩ := mbox13 x3
  clear x3
  go_wp2_with fail
  refine (unhide CR).mono ?_
  rintro e w4 ⟨l, rfl, r4, b4⟩
  have B4 := hide (below_far (unhide B3) b4)
  have R4 := hide r4
  have CP := hide (unhide HP w4 l ((unhide HS).below (unhide B4)) r4)
  clear q0 q1 q2 q3 q4 q5 q6 q7 q8 q9 q10 q11 q12 B3 CR r4 b4 HP
  go_wp2_with fail
  refine (unhide CP).mono ?_
  rintro e w5 ⟨v, rfl, o5, b5⟩
  obtain ⟨av, cv, rfl, gv⟩ := own_given o5 (by have := unhide LL; omega)
  have B5 := hide (below_far (unhide B4) b5)
  have R5 := hide (unhide HRk w4 w5 l (unhide R4) b5)
  have CE := hide (unhide EQ w5 av ao cv cap L.length rfl gv.are ((unhide GV).are.below (unhide B5)))
  clear CP o5 gv b5 B4 R4 EQ HRk HS GV LL
  go_wp2_with fail
  refine (unhide CE).mono ?_
  rintro e w6 ⟨rfl, rfl⟩
  go_wp2
  go_ret2
  exact ⟨l, rfl, unhide R5, unhide B5⟩

set_option maxRecDepth 20000 in
set_option maxHeartbeats 1000000 in
theorem restoreC_any (p : Mg) (hok : p.ok) (h64 : p.in64) (he : p.es = []) (id : Int) (hch : coreCheck id p.new p.index = 0) (R : World → Nat → Prop) (hR : ∀ (w w' : World) (l : Nat), R w l → Below w.heap.size w w' → R w' l)
    (hread : ∀ (Y : World) (aot aoe aoo aon : Option Addr) (ct ce co cn : Nat), Start Y → IntsR Y aot p.terms → IntsR Y aoo p.old → Mbrs Y aon cn p.new → Calls Tryz.prog 153 #[.agg #[.int .i64 p.src, .int .i64 p.to, .int .i64 p.gen, .int .i64 p.kind, .int .i64 p.term, .int .i64 p.index, .int .i64 p.last, .int .i64 p.commit, .bool p.yes, .slice aot p.terms.length ct, .slice aoe p.es.length ce, .slice aoo p.old.length co, .slice aon p.new.length cn]] Y fun e w' => ∃ l, e = .returned (.tuple #[.pointer (some ⟨l, 0, none⟩), .int .i64 0]) ∧ R w' l ∧ Below Y.heap.size Y w')
    (hpack : ∀ (Y : World) (l : Nat), Start Y → R Y l → Calls Tryz.prog 86 #[.pointer (some ⟨l, 0, none⟩)] Y fun e w' => ∃ v, e = .returned v ∧ Own Y.heap.size w' v (frame p.bytes) ∧ Below Y.heap.size Y w')
    (ao : Option Addr) (n cap : Nat) (w : World) (hg : Given w ao n cap (frame p.bytes)) (h256 : ∀ b ∈ p.bytes, b < 256) (hS : Start w) :
    Calls Tryz.prog 152 #[.int .i64 id, .slice ao n cap, .func (.func 153) #[] #[], .func (.func 86) #[] #[]] w fun e w' => ∃ l, e = .returned (.tuple #[.pointer (some ⟨l, 0, none⟩), .nilIface]) ∧ R w' l ∧ Below w.heap.size w w' := by
  have hlen := msg_bytes hok
  have UN := hide (unpack_any p hok h64 he ao n cap w hg h256 hS)
  have hnl : p.new.length ≤ 64 := by have h9 : (p.new.length : Int) ≤ 64 := Int.le_trans (refuse_range hok.new).2 (by decide); omega
  have CC := hide (fun (Y : World) (a : Option Addr) (c : Nat) (hm : IntsR Y a p.new) => coreCheck_any id p.index a p.new.length c p.new rfl (by omega) Y hm)
  rw [hch] at CC
  obtain ⟨L, hL⟩ : ∃ L, frame p.bytes = L := ⟨_, rfl⟩
  have hLl : L.length ≤ 100000 := by rw [← hL, frame_length]; omega
  rw [hL] at hg hpack
  have EQ := hide (fun (Y : World) (a b : Option Addr) (c d m : Nat) (hm : L.length = m) (ha : Bytes Y a L) (hb : Bytes Y b L) => equal_bytes a b m n c d L hm (by rw [← hm]; exact hg.len) Y ha hb (by omega))
  have GV := hide hg
  have HR := hide hread
  have HP := hide hpack
  have HRk := hide hR
  have HS := hide hS
  have LL := hide hLl
  clear hok h64 he hch hread hpack hR hg h256 hS hlen hLl hL
  go_enter Tryz.func152, Tryz.ntmps152
  go_upto_region 2 with fail
  go_wp2_with fail
  refine (unhide UN).mono ?_
  rintro e w1 ⟨aot, aoe, aoo, aon, ct, ce, co, cn, rfl, i1, i3, i4, b1⟩
  have II := hide (And.intro i1 (And.intro i3 i4))
  have B1 := hide b1
  clear i1 i3 i4 b1 UN
  go_upto_region 3 with fail
  obtain ⟨M, hM⟩ : ∃ M, w1.heap.size = M := ⟨_, rfl⟩
  obtain ⟨w2, hw2⟩ : ∃ w2, w1.alloc (.cells #[.int .i64 p.src, .int .i64 p.to, .int .i64 p.gen, .int .i64 p.kind, .int .i64 p.term, .int .i64 p.index, .int .i64 p.last, .int .i64 p.commit, .bool p.yes, .slice aot p.terms.length ct, .slice aoe p.es.length ce, .slice aoo p.old.length co, .slice aon p.new.length cn] 50) = w2 := ⟨_, rfl⟩
  have x2 : w2.heap[M]? = some (.cells #[.int .i64 p.src, .int .i64 p.to, .int .i64 p.gen, .int .i64 p.kind, .int .i64 p.term, .int .i64 p.index, .int .i64 p.last, .int .i64 p.commit, .bool p.yes, .slice aot p.terms.length ct, .slice aoe p.es.length ce, .slice aoo p.old.length co, .slice aon p.new.length cn] 50 (0, 0)) := by rw [← hM, ← hw2]; exact heap_alloc_new _ _
  have b2 : Below w1.heap.size w1 w2 := by rw [← hw2]; exact (Below.refl _ w1).alloc (Nat.le_refl _) _
  rw [hw2, hM]
  have X2 := hide x2
  have B2 := hide (below_far (unhide B1) b2)
  have I2 := hide (And.intro ((unhide II).1.below b2) (And.intro ((unhide II).2.1.below b2) ((unhide II).2.2.below b2)))
  obtain ⟨q0, q1, q2, q3, q4, q5, q6, q7, q8, q9, q10, q11, q12⟩ := mbox13 x2
  have CK := hide (unhide CC w2 aon cn (unhide I2).2.2.fr.1)
  clear hM hw2 x2 b2 B1 II CC
  go_wp2_with fail
  refine (unhide CK).mono ?_
  rintro e w3 ⟨rfl, b3⟩
  have x3 := Below.stay b3 (unhide X2)
  have B3 := hide (below_far (unhide B2) b3)
  have S3 := (unhide HS).below (unhide B3)
  have CR := hide (unhide HR w3 aot aoe aoo aon ct ce co cn S3 ((unhide I2).1.below b3) ((unhide I2).2.1.below b3) ((unhide I2).2.2.below b3))
  clear q0 q1 q2 q3 q4 q5 q6 q7 q8 q9 q10 q11 q12 X2 B2 I2 CK S3 HR b3
  obtain ⟨q0, q1, q2, q3, q4, q5, q6, q7, q8, q9, q10, q11, q12⟩ := mbox13 x3
  clear x3
  go_wp2_with fail
  refine (unhide CR).mono ?_
  rintro e w4 ⟨l, rfl, r4, b4⟩
  have B4 := hide (below_far (unhide B3) b4)
  have R4 := hide r4
  have CP := hide (unhide HP w4 l ((unhide HS).below (unhide B4)) r4)
  clear q0 q1 q2 q3 q4 q5 q6 q7 q8 q9 q10 q11 q12 B3 CR r4 b4 HP
  go_wp2_with fail
  refine (unhide CP).mono ?_
  rintro e w5 ⟨v, rfl, o5, b5⟩
  obtain ⟨av, cv, rfl, gv⟩ := own_given o5 (by have := unhide LL; omega)
  have B5 := hide (below_far (unhide B4) b5)
  have R5 := hide (unhide HRk w4 w5 l (unhide R4) b5)
  have CE := hide (unhide EQ w5 av ao cv cap L.length rfl gv.are ((unhide GV).are.below (unhide B5)))
  clear CP o5 gv b5 B4 R4 EQ HRk HS GV LL
  go_wp2_with fail
  refine (unhide CE).mono ?_
  rintro e w6 ⟨rfl, rfl⟩
  go_wp2
  go_ret2
  exact ⟨l, rfl, unhide R5, unhide B5⟩
end Go.Proofs.YtjplhiflemmkfaaGreatDoor
namespace Go.Proofs.YtjplhiflemmkfaaGreatDoor
open Go.RowKit Go.Maps

/-- what core.Check leaves of a core's beginnings. -/
structure Core0 (id base : Int) (ms : List Int) : Prop where
  b0 : 0 ≤ base
  b1 : base ≤ 64
  ne : ms ≠ []
  len : ms.length ≤ 7
  each : ∀ x ∈ ms, 0 ≤ x ∧ x < 9
theorem Core0.nine {id base : Int} {ms : List Int} (h : Core0 id base ms) : ms.length ≤ 9 := by have := h.len; omega
theorem climb_each : ∀ (ms : List Int) (a : Int), climb a ms = true → ∀ x ∈ ms, a < x ∧ x < 9
  | [], _, _, x, hx => by simp at hx
  | y :: ys, a, h, x, hx => by
    unfold climb at h
    split at h
    · cases h
    · rename_i hn
      have h1 : a < y := by omega
      have h2 : y < 9 := by omega
      simp only [List.mem_cons] at hx
      rcases hx with rfl | hx
      · exact ⟨h1, h2⟩
      · have := climb_each ys y h x hx
        exact ⟨by omega, this.2⟩
theorem core0_of {id base : Int} {ms : List Int} (h : coreCheck id ms base = 0) : Core0 id base ms := by
  unfold coreCheck at h
  split at h
  · rename_i hb
    have hw : wrongOf true ms = 0 := by
      unfold checkOf at h
      split at h
      · exact h
      · rename_i hne; exact absurd h hne
    unfold wrongOf at hw
    split at hw
    · cases hw
    · rename_i h1
      split at hw
      · cases hw
      · rename_i h2
        split at hw
        · rename_i h3
          exact ⟨hb.2.1, hb.2.2, fun e => h1 ⟨rfl, e⟩, by omega, fun x hx => by have := climb_each ms (-1) h3 x hx; omega⟩
        · cases hw
  · cases h
theorem in64_small {x : Int} (h1 : -1000000 ≤ x) (h2 : x ≤ 1000000) : In64 x := ⟨by omega, by omega⟩
theorem ms64 {id base : Int} {ms : List Int} (h : Core0 id base ms) : ∀ y ∈ ms, In64 y := fun y hy => by
  have := h.each y hy
  exact in64_small (by omega) (by omega)
theorem rsaid64 {id base : Int} {ms : List Int} (h : Core0 id base ms) : (rsaid base ms).packed.in64 := by
  have := h.b0
  have := h.b1
  exact ⟨in64_small (x := 0) (by decide) (by decide), in64_small (x := 0) (by decide) (by decide), in64_small (x := 0) (by decide) (by decide), in64_small (x := 15) (by decide) (by decide), in64_small (x := 0) (by decide) (by decide), in64_small (x := base) (by omega) (by omega), in64_small (x := -1) (by decide) (by decide), in64_small (x := base) (by omega) (by omega), (fun y hy => by cases hy), (fun e he => by cases he), (fun y hy => by cases hy), ms64 h⟩

set_option maxRecDepth 20000 in
set_option maxHeartbeats 1000000 in
theorem rload_fresh (id base : Int) (ms : List Int) (hch : coreCheck id ms base = 0) (hc : Core0 id base ms) (ao : Option Addr) (n cap : Nat) (w : World) (hg : Given w ao n cap (frame (rsaid base ms).packed.bytes)) (h256 : ∀ b ∈ (rsaid base ms).packed.bytes, b < 256) (hS : Start w) :
    Calls Tryz.prog 24 #[.int .i64 id, .slice ao n cap] w fun e w' => ∃ c, e = .returned (.tuple #[.pointer (some ⟨c, 0, none⟩), .int .i64 0]) ∧ RNew w' c id ms base ∧ Below w.heap.size w w' := by
  have RS := hide (restoreR_any (rsaid base ms).packed (packed_ok (Nat.zero_le _) rfl (Nat.zero_le _) hc.nine) (rsaid64 hc) rfl id hch (fun w l => RFresh w l ms base) (fun w w' l h hb => h.below hb)
    (fun Y aot aoe aoo aon ct ce co cn hS i1 i3 i4 => rrestored_fresh base ms hc.b0 hc.b1 aot aoe aoo aon ct ce co cn ms.length rfl Y i4)
    (fun Y l hS h => rbytes_fresh hc.b0 hc.b1 hc.nine Y h hS) ao n cap w hg h256 hS)
  clear hg h256 hS
  go_enter Tryz.func24, Tryz.ntmps24
  go_wp2_with fail
  refine (unhide RS).mono ?_
  rintro e w1 ⟨l, rfl, r1, b1⟩
  have BG := hide (rbegin_any id base ms l w1 r1)
  have B1 := hide b1
  clear RS r1 b1
  go_wp2_with fail
  refine (unhide BG).mono ?_
  rintro e w2 ⟨c, rfl, r2, _, b2⟩
  have R := hide (And.intro r2 (below_far (unhide B1) b2))
  clear BG r2 b2 B1
  go_wp2
  go_ret2
  exact ⟨c, rfl, (unhide R).1, (unhide R).2⟩
end Go.Proofs.YtjplhiflemmkfaaGreatDoor
