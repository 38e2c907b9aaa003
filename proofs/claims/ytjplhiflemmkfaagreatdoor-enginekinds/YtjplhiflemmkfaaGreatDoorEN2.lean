/- engine: of either kind: contracts; the law's known. synodallaw16: known; EngineKinds. An argument that is a slice of numbers. -/
import Derived.Test.YtjplhiflemmkfaaGreatDoorEN1
import Derived.Test.YtjplhiflemmkfaaGreatDoorHhKSameC
import Derived.Test.YtjplhiflemmkfaaGreatDoorEntA
namespace Go.Proofs.YtjplhiflemmkfaaGreatDoor
open Go.RowKit Go.Maps

set_option maxRecDepth 20000 in
set_option maxHeartbeats 1000000 in
theorem econfig_r (x c : Nat) (ms : List Int) (w : World) (h : EBox w x 35 c) (hc : ∀ Y, Below w.heap.size w Y → Calls Tryz.prog 43 #[.pointer (some ⟨c, 0, none⟩)] Y fun e w' => ∃ ao co an cn, e = .returned (.agg #[.slice ao 0 co, .slice an ms.length cn]) ∧ Fr w' an ms ∧ Below Y.heap.size Y w') :
    Calls Tryz.prog 36 #[.pointer (some ⟨x, 0, none⟩)] w fun e w' => ∃ ao co an cn, e = .returned (.agg #[.slice ao 0 co, .slice an ms.length cn]) ∧ IntsR w' an ms ∧ Below w.heap.size w w' := by
  obtain ⟨W, hW⟩ : ∃ W, w.alloc (.cells #[.slice none 0 0, .slice none 0 0] 26) = W := ⟨_, rfl⟩
  have bW : Below w.heap.size w W := by rw [← hW]; exact (Below.refl _ w).alloc (Nat.le_refl _) _
  have xW : W.heap[w.heap.size]? = some (.cells #[.slice none 0 0, .slice none 0 0] 26 (0, 0)) := by rw [← hW]; exact box_at _ _
  have x0 : W.cell? ⟨x, 0, none⟩ = some (.iface 35 (.pointer (some ⟨c, 0, none⟩))) := (cell_of_block (h.below bW)).trans rfl
  have CC := hide (hc W bW)
  have XW := hide xW
  have BW := hide bW
  have HW := hide hW
  clear h xW bW hW hc
  go_enter Tryz.func36, Tryz.ntmps36
  go_upto_region 1 with fail
  rw [unhide HW]
  clear HW
  go_wp2_with fail
  refine (unhide CC).mono ?_
  rintro e w1 ⟨ao, co, an, cn, rfl, i1, b1⟩
  have x1 := Below.stay b1 (unhide XW)
  have d0 : w1.cell? ⟨w.heap.size, 0, none⟩ = some (.slice none 0 0) := (cell_of_block x1).trans rfl
  have d1 : w1.cell? ⟨w.heap.size, 1, none⟩ = some (.slice none 0 0) := (cell_of_block x1).trans rfl
  have f0 : ∀ i, w1.frozen? ⟨w.heap.size, i, none⟩ = false := fun i => free_of_block x1
  have R := hide (And.intro i1 (And.intro x1 (below_far (unhide BW) b1)))
  clear CC i1 b1 x1 BW XW
  go_wp2
  obtain ⟨r0, r1, rb, rk⟩ := Hh.two_end (a := .slice ao 0 co) (b := .slice an ms.length cn) (unhide R).2.1 (Nat.le_refl _) (unhide R).2.2
  refine bodyPost_ret (v := .agg #[.slice ao 0 co, .slice an ms.length cn]) (by simp [results, Tryz.results36, go_sem, r0, r1]) rfl ?_
  exact ⟨ao, co, an, cn, rfl, (Hh.fr_box (unhide R).1 (unhide R).2.1 (fun v h => by cases h) (fun v h => by cases h) rk).1, rb⟩
set_option maxRecDepth 20000 in
set_option maxHeartbeats 1000000 in
theorem econfig_c (x c : Nat) (ms : List Int) (w : World) (h : EBox w x 38 c) (hc : ∀ Y, Below w.heap.size w Y → Calls Tryz.prog 37 #[.pointer (some ⟨c, 0, none⟩)] Y fun e w' => ∃ ao co an cn, e = .returned (.agg #[.slice ao 0 co, .slice an ms.length cn]) ∧ Fr w' an ms ∧ Below Y.heap.size Y w') :
    Calls Tryz.prog 36 #[.pointer (some ⟨x, 0, none⟩)] w fun e w' => ∃ ao co an cn, e = .returned (.agg #[.slice ao 0 co, .slice an ms.length cn]) ∧ IntsR w' an ms ∧ Below w.heap.size w w' := by
  obtain ⟨W, hW⟩ : ∃ W, w.alloc (.cells #[.slice none 0 0, .slice none 0 0] 26) = W := ⟨_, rfl⟩
  have bW : Below w.heap.size w W := by rw [← hW]; exact (Below.refl _ w).alloc (Nat.le_refl _) _
  have xW : W.heap[w.heap.size]? = some (.cells #[.slice none 0 0, .slice none 0 0] 26 (0, 0)) := by rw [← hW]; exact box_at _ _
  have x0 : W.cell? ⟨x, 0, none⟩ = some (.iface 38 (.pointer (some ⟨c, 0, none⟩))) := (cell_of_block (h.below bW)).trans rfl
  have CC := hide (hc W bW)
  have XW := hide xW
  have BW := hide bW
  have HW := hide hW
  clear h xW bW hW hc
  go_enter Tryz.func36, Tryz.ntmps36
  go_upto_region 1 with fail
  rw [unhide HW]
  clear HW
  go_wp2_with fail
  refine (unhide CC).mono ?_
  rintro e w1 ⟨ao, co, an, cn, rfl, i1, b1⟩
  have x1 := Below.stay b1 (unhide XW)
  have d0 : w1.cell? ⟨w.heap.size, 0, none⟩ = some (.slice none 0 0) := (cell_of_block x1).trans rfl
  have d1 : w1.cell? ⟨w.heap.size, 1, none⟩ = some (.slice none 0 0) := (cell_of_block x1).trans rfl
  have f0 : ∀ i, w1.frozen? ⟨w.heap.size, i, none⟩ = false := fun i => free_of_block x1
  have R := hide (And.intro i1 (And.intro x1 (below_far (unhide BW) b1)))
  clear CC i1 b1 x1 BW XW
  go_wp2
  obtain ⟨r0, r1, rb, rk⟩ := Hh.two_end (a := .slice ao 0 co) (b := .slice an ms.length cn) (unhide R).2.1 (Nat.le_refl _) (unhide R).2.2
  refine bodyPost_ret (v := .agg #[.slice ao 0 co, .slice an ms.length cn]) (by simp [results, Tryz.results36, go_sem, r0, r1]) rfl ?_
  exact ⟨ao, co, an, cn, rfl, (Hh.fr_box (unhide R).1 (unhide R).2.1 (fun v h => by cases h) (fun v h => by cases h) rk).1, rb⟩
/-- an engine of a kind, fresh. -/
def Eng (k : Int) (w : World) (x : Nat) (id : Int) (ms : List Int) (base : Int) : Prop :=
  (k = 1 ∧ ∃ c, EBox w x 35 c ∧ RNew w c id ms base) ∨ (k = 2 ∧ ∃ c, EBox w x 38 c ∧ CNew w c id ms base)
theorem Eng.below {k : Int} {w w' : World} {x : Nat} {id : Int} {ms : List Int} {base : Int} (h : Eng k w x id ms base) (hb : Below w.heap.size w w') : Eng k w' x id ms base := by
  rcases h with ⟨hk, c, h1, h2⟩ | ⟨hk, c, h1, h2⟩
  · exact Or.inl ⟨hk, c, h1.below hb, h2.below hb⟩
  · exact Or.inr ⟨hk, c, h1.below hb, h2.below hb⟩
/-- what such an engine saves. -/
def engBytes (k : Int) (base : Int) (ms : List Int) : List Nat := if k = 1 then frame (rsaid base ms).packed.bytes else frame (csaid base ms).packed.bytes ++ frame (psaid base ms).packed.bytes
theorem eng_new (k id base : Int) (hk : k = 1 ∨ k = 2) (an : Option Addr) (nn cn : Nat) (ms : List Int) (hn : ms.length = nn) (hl : nn ≤ 1000000) (w : World) (hw : IntsR w an ms) :
    Calls Tryz.prog 7 #[.int .i64 k, .int .i64 id, .slice an nn cn, .int .i64 base] w fun e w' => (coreCheck id ms base ≠ 0 → e = .returned (.tuple #[.pointer none, .int .i64 ((coreCheck id ms base : Nat) : Int)])) ∧ (coreCheck id ms base = 0 → ∃ x, e = .returned (.tuple #[.pointer (some ⟨x, 0, none⟩), .int .i64 0]) ∧ Eng k w' x id ms base) ∧ Below w.heap.size w w' := by
  rcases hk with rfl | rfl
  · exact (enew_r id base an nn cn ms hn hl w hw).mono (by rintro e w' ⟨k1, k2, k3⟩; exact ⟨k1, fun h => by obtain ⟨x, c, h1, h2, h3⟩ := k2 h; exact ⟨x, h1, Or.inl ⟨rfl, c, h2, h3⟩⟩, k3⟩)
  · exact (enew_c id base an nn cn ms hn hl w hw).mono (by rintro e w' ⟨k1, k2, k3⟩; exact ⟨k1, fun h => by obtain ⟨x, c, h1, h2, h3⟩ := k2 h; exact ⟨x, h1, Or.inr ⟨rfl, c, h2, h3⟩⟩, k3⟩)
theorem eng_commit (k : Int) {x : Nat} {id base : Int} {ms : List Int} (hc : Core0 id base ms) (w : World) (h : Eng k w x id ms base) : Calls Tryz.prog 27 #[.pointer (some ⟨x, 0, none⟩)] w fun e w' => e = .returned (.int .i64 base) ∧ Below w.heap.size w w' := by
  rcases h with ⟨_, c, h1, h2⟩ | ⟨_, c, h1, h2⟩
  · exact (ecommit_r x c w h1 (fun v w' => v = .int .i64 base ∧ Below w.heap.size w w') ((rcommit_fresh w h2).mono (by rintro e w' ⟨rfl, rfl⟩; exact ⟨_, rfl, rfl, Below.refl _ _⟩))).mono (by rintro e w' ⟨v, rfl, rfl, k⟩; exact ⟨rfl, k⟩)
  · exact (ecommit_c x c w h1 (fun v w' => v = .int .i64 base ∧ Below w.heap.size w w') ((ccommit_fresh hc.b0 hc.b1 w h2).mono (by rintro e w' ⟨rfl, k⟩; exact ⟨_, rfl, rfl, k⟩))).mono (by rintro e w' ⟨v, rfl, rfl, k⟩; exact ⟨rfl, k⟩)
theorem eng_role (k : Int) {x : Nat} {id base : Int} {ms : List Int} (w : World) (h : Eng k w x id ms base) : Calls Tryz.prog 29 #[.pointer (some ⟨x, 0, none⟩)] w fun e w' => e = .returned (.int .i64 0) ∧ Below w.heap.size w w' := by
  rcases h with ⟨_, c, h1, h2⟩ | ⟨_, c, h1, h2⟩
  · exact (erole_r x c w h1 (fun v w' => v = .int .i64 0 ∧ Below w.heap.size w w') ((rrole_fresh w h2).mono (by rintro e w' ⟨rfl, rfl⟩; exact ⟨_, rfl, rfl, Below.refl _ _⟩))).mono (by rintro e w' ⟨v, rfl, rfl, k⟩; exact ⟨rfl, k⟩)
  · exact (erole_c x c w h1 (fun v w' => v = .int .i64 0 ∧ Below w.heap.size w w') ((crole_fresh w h2).mono (by rintro e w' ⟨rfl, k⟩; exact ⟨_, rfl, rfl, k⟩))).mono (by rintro e w' ⟨v, rfl, rfl, k⟩; exact ⟨rfl, k⟩)
theorem eng_sealed (k : Int) {x : Nat} {id base : Int} {ms : List Int} (hc : Core0 id base ms) (w : World) (h : Eng k w x id ms base) : Calls Tryz.prog 33 #[.pointer (some ⟨x, 0, none⟩)] w fun e w' => e = .returned (.bool false) ∧ Below w.heap.size w w' := by
  rcases h with ⟨_, c, h1, h2⟩ | ⟨_, c, h1, h2⟩
  · exact (esealed_r x c w h1 (fun v w' => v = .bool false ∧ Below w.heap.size w w') ((rsealed_fresh hc.b0 hc.b1 w h2).mono (by rintro e w' ⟨rfl, k⟩; exact ⟨_, rfl, rfl, k⟩))).mono (by rintro e w' ⟨v, rfl, rfl, k⟩; exact ⟨rfl, k⟩)
  · exact (esealed_c x c w h1 (fun v w' => v = .bool false ∧ Below w.heap.size w w') ((csealed_fresh hc.b0 hc.b1 w h2).mono (by rintro e w' ⟨rfl, k⟩; exact ⟨_, rfl, rfl, k⟩))).mono (by rintro e w' ⟨v, rfl, rfl, k⟩; exact ⟨rfl, k⟩)
theorem eng_kind (k : Int) {x : Nat} {id base : Int} {ms : List Int} (w : World) (h : Eng k w x id ms base) : Calls Tryz.prog 45 #[.pointer (some ⟨x, 0, none⟩)] w fun e w' => e = .returned (.int .i64 k) ∧ w' = w := by
  rcases h with ⟨rfl, c, h1, h2⟩ | ⟨rfl, c, h1, h2⟩
  · exact ekind_r x c w h1
  · exact ekind_c x c w h1
theorem eng_config (k : Int) {x : Nat} {id base : Int} {ms : List Int} (hl : ms.length ≤ 1000000) (w : World) (h : Eng k w x id ms base) : Calls Tryz.prog 36 #[.pointer (some ⟨x, 0, none⟩)] w fun e w' => ∃ ao co an cn, e = .returned (.agg #[.slice ao 0 co, .slice an ms.length cn]) ∧ IntsR w' an ms ∧ Below w.heap.size w w' := by
  rcases h with ⟨_, c, h1, h2⟩ | ⟨_, c, h1, h2⟩
  · exact econfig_r x c ms w h1 (fun Y hY => rconfig_fresh hl Y (h2.below hY))
  · exact econfig_c x c ms w h1 (fun Y hY => cconfig_fresh hl Y (h2.below hY))
theorem eng_save (k : Int) {x : Nat} {id base : Int} {ms : List Int} (hc : Core0 id base ms) (w : World) (h : Eng k w x id ms base) (hS : Start w) : Calls Tryz.prog 21 #[.pointer (some ⟨x, 0, none⟩)] w fun e w' => ∃ v, e = .returned v ∧ Own w.heap.size w' v (engBytes k base ms) ∧ Below w.heap.size w w' := by
  rcases h with ⟨rfl, c, h1, h2⟩ | ⟨rfl, c, h1, h2⟩
  · exact esave_r x c w h1 (fun v w' => Own w.heap.size w' v (engBytes 1 base ms) ∧ Below w.heap.size w w') (rsave_fresh hc.b0 hc.b1 hc.nine w h2 hS)
  · exact esave_c x c w h1 (fun v w' => Own w.heap.size w' v (engBytes 2 base ms) ∧ Below w.heap.size w w') (csave_fresh hc.b0 hc.b1 hc.nine w h2 hS)
theorem mem_frame {x : List Nat} {b : Nat} (h : b ∈ x) : b ∈ frame x := by unfold frame; exact List.mem_append_right _ h
theorem eng_load (k : Int) (hk : k = 1 ∨ k = 2) {id base : Int} {ms : List Int} (hch : coreCheck id ms base = 0) (a : Option Addr) (n cap : Nat) (w : World) (hg : Given w a n cap (engBytes k base ms)) (h256 : ∀ b ∈ engBytes k base ms, b < 256) (hS : Start w) :
    Calls Tryz.prog 20 #[.int .i64 k, .int .i64 id, .slice a n cap] w fun e w' => ∃ x, e = .returned (.tuple #[.pointer (some ⟨x, 0, none⟩), .int .i64 0]) ∧ Eng k w' x id ms base ∧ Below w.heap.size w w' := by
  rcases hk with rfl | rfl
  · exact (eload_r id (.slice a n cap) (fun w' c => RNew w' c id ms base) (fun w w' c h hb => h.below hb) w (rload_fresh id base ms hch (core0_of hch) a n cap w hg (fun b hb => h256 b (mem_frame hb)) hS)).mono (by rintro e w' ⟨x, c, h1, h2, h3, h4⟩; exact ⟨x, h1, Or.inl ⟨rfl, c, h2, h3⟩, h4⟩)
  · cases a with
    | none =>
      have h0 := hg.are.none_nil
      have : (engBytes 2 base ms).length = 0 := by rw [h0]; rfl
      simp [engBytes, frame_length] at this
    | some a =>
      exact (eload_c id (.slice (some a) n cap) (fun w' c => CNew w' c id ms base) (fun w w' c h hb => h.below hb) w (cload_fresh hch (core0_of hch) a n cap w hg (fun b hb => h256 b (List.mem_append_left _ (mem_frame hb))) (fun b hb => h256 b (List.mem_append_right _ (mem_frame hb))) hS)).mono (by rintro e w' ⟨x, c, h1, h2, h3, h4⟩; exact ⟨x, h1, Or.inr ⟨rfl, c, h2, h3⟩, h4⟩)
end Go.Proofs.YtjplhiflemmkfaaGreatDoor
namespace Go.Proofs.YtjplhiflemmkfaaGreatDoor
open Go.RowKit Go.Maps

theorem ints_one (w : World) (t : TypeId) (v : Int) : IntsR (w.alloc (.cells #[.int .i64 v] t)) (some ⟨w.heap.size, 0, none⟩) [v] := fun i hi => by
  have h0 : i = 0 := by simp at hi; omega
  subst h0
  exact ⟨_, rfl, (by rw [Addr.add_lit]; exact (cell_of_block (box_at w _)).trans rfl)⟩
theorem same_new (ao an bn : Option Addr) (co cn bc n : Nat) (ms : List Int) (hn : ms.length = n) (hl : n ≤ 1000000) (w : World) (h1 : IntsR w an ms) (h2 : IntsR w bn ms) :
    Calls Tryz.prog 35 #[.agg #[.slice ao 0 co, .slice an n cn], .agg #[.slice none 0 0, .slice bn n bc]] w fun e w' => e = .returned (.bool true) ∧ Below w.heap.size w w' := by
  have := Hh.rsame_any ao an none bn 0 n co cn 0 n 0 bc [] ms [] ms rfl hn rfl hn (by decide) hl w (IntsR.nil _ _) h1 (IntsR.nil _ _) h2
  rwa [show Hh.sameOf [] ms [] ms = true by simp [Hh.sameOf]] at this
theorem same_two (ao an bo bn : Option Addr) (co cn po bc n : Nat) (ms : List Int) (hn : ms.length = n) (hl : n ≤ 1000000) (w : World) (h1 : IntsR w an ms) (h2 : IntsR w bn ms) :
    Calls Tryz.prog 35 #[.agg #[.slice ao 0 co, .slice an n cn], .agg #[.slice bo 0 po, .slice bn n bc]] w fun e w' => e = .returned (.bool true) ∧ Below w.heap.size w w' := by
  have := Hh.rsame_any ao an bo bn 0 n co cn 0 n po bc [] ms [] ms rfl hn rfl hn (by decide) hl w (IntsR.nil _ _) h1 (IntsR.nil _ _) h2
  rwa [show Hh.sameOf [] ms [] ms = true by simp [Hh.sameOf]] at this
set_option maxRecDepth 20000 in
set_option maxHeartbeats 1000000 in
theorem known16 (w : World) : Calls Tryz.prog 5 #[] w fun e w' => e = .returned (.bool true) ∧ Below w.heap.size w w' := by
  obtain ⟨W, hW⟩ : ∃ W, w.alloc (.cells #[.int .i64 0] 3) = W := ⟨_, rfl⟩
  have bW : Below w.heap.size w W := by rw [← hW]; exact (Below.refl _ w).alloc (Nat.le_refl _) _
  have HW := hide hW
  have BW := hide bW
  have NO := hide (fun v : Value => enew_other 3 0 0 v (by decide) (by decide) W)
  clear hW bW
  go_enter Tryz.func5, Tryz.ntmps5
  go_wp2_with fail
  rw [unhide HW]
  refine (unhide NO _).mono ?_
  rintro e w1 ⟨rfl, rfl⟩
  clear HW NO
  go_wp2_with fail
  obtain ⟨W2, hW2⟩ : ∃ W2, w1.alloc (.cells #[.int .i64 0] 3) = W2 := ⟨_, rfl⟩
  have b2 : Below w1.heap.size w1 W2 := by rw [← hW2]; exact (Below.refl _ w1).alloc (Nat.le_refl _) _
  have i2 : IntsR W2 (some ⟨w1.heap.size, 0, none⟩) [0] := by rw [← hW2]; exact ints_one w1 _ 0
  rw [hW2]
  have CN : Hid (Calls Tryz.prog 7 #[.int .i64 2, .int .i64 0, .slice (some ⟨w1.heap.size, 0, none⟩) 1 1, .int .i64 0] W2 fun e w' => ∃ x, e = .returned (.tuple #[.pointer (some ⟨x, 0, none⟩), .int .i64 0]) ∧ Eng 2 w' x 0 [0] 0 ∧ Below W2.heap.size W2 w') := hide ((eng_new 2 0 0 (Or.inr rfl) _ 1 1 [0] rfl (by decide) W2 i2).mono (by rintro e w' ⟨_, k2, k3⟩; obtain ⟨x, h1, h2⟩ := k2 (by decide); exact ⟨x, h1, h2, k3⟩))
  have B2 := hide (below_far (unhide BW) b2)
  clear hW2 b2 i2 BW
  refine (unhide CN).mono ?_
  rintro e w3 ⟨x, rfl, g3, b3⟩
  have CK := hide (eng_kind 2 w3 g3)
  have G3 := hide g3
  have B3 := hide (below_far (unhide B2) b3)
  have CF := hide (eng_config 2 (by decide) w3 g3)
  clear CN g3 b3 B2
  go_wp2_with fail
  refine (unhide CK).mono ?_
  rintro e w4 ⟨rfl, rfl⟩
  go_wp2_with fail
  refine (unhide CF).mono ?_
  rintro e w5 ⟨ao, co, an, cn, rfl, i5, b5⟩
  have I5 := hide i5
  have B5 := hide (below_far (unhide B3) b5)
  clear CK CF i5 b5 B3
  go_wp2_with fail
  obtain ⟨W6, hW6⟩ : ∃ W6, w5.alloc (.cells #[.int .i64 0] 3) = W6 := ⟨_, rfl⟩
  have b6 : Below w5.heap.size w5 W6 := by rw [← hW6]; exact (Below.refl _ w5).alloc (Nat.le_refl _) _
  have i6 : IntsR W6 (some ⟨w5.heap.size, 0, none⟩) [0] := by rw [← hW6]; exact ints_one w5 _ 0
  rw [hW6]
  have CS := hide (same_new ao an (some ⟨w5.heap.size, 0, none⟩) co cn 1 1 [0] rfl (by decide) W6 ((unhide I5).below b6) i6)
  have B6 := hide (below_far (unhide B5) b6)
  clear hW6 b6 i6 I5 B5
  refine (unhide CS).mono ?_
  rintro e w7 ⟨rfl, b7⟩
  have B7 := hide (below_far (unhide B6) b7)
  clear CS b7 B6
  go_wp2
  go_ret
  exact ⟨rfl, unhide B7⟩

theorem kinds_long (kind id base : Int) (ao : Option Addr) (n cap : Nat) (h30 : 30 < n) (_hmx : n ≤ maxLen) (w : World) : Calls Tryz.prog 4 #[.int .i64 kind, .int .i64 id, .slice ao n cap, .int .i64 base] w fun e w' => e = .returned (.bool true) ∧ Below w.heap.size w w' := by
  have KN := hide (known16 w)
  have q : (30 : Int) < (n : Int) := by omega
  clear h30
  go_enter Tryz.func4, Tryz.ntmps4
  go_wp2_with fail
  refine (unhide KN).mono ?_
  rintro e w1 ⟨rfl, b1⟩
  have B1 := hide b1
  clear KN b1
  go_wp2
  go_ret
  exact ⟨rfl, unhide B1⟩
set_option maxRecDepth 20000 in
theorem kinds_other (kind id base : Int) (h1 : kind ≠ 1) (h2 : kind ≠ 2) (ao : Option Addr) (n cap : Nat) (h30 : n ≤ 30) (w : World) : Calls Tryz.prog 4 #[.int .i64 kind, .int .i64 id, .slice ao n cap, .int .i64 base] w fun e w' => e = .returned (.bool true) ∧ Below w.heap.size w w' := by
  have KN := hide (known16 w)
  have q : (n : Int) ≤ 30 := by omega
  have NN := hide (fun Y : World => enew_other kind id base (.slice ao n cap) h1 h2 Y)
  have NL := hide (fun Y : World => eload_other kind id (.slice none 0 0) h1 h2 Y)
  have k1 : (kind != 1) = true := by simpa using h1
  have k2 : (kind != 2) = true := by simpa using h2
  clear h30
  go_enter Tryz.func4, Tryz.ntmps4
  go_wp2_with fail
  refine (unhide KN).mono ?_
  rintro e w1 ⟨rfl, b1⟩
  have B1 := hide b1
  clear KN b1
  go_wp2_with fail
  refine (unhide NN w1).mono ?_
  rintro e w2 ⟨rfl, rfl⟩
  go_wp2_with fail
  refine (unhide NL w2).mono ?_
  rintro e w3 ⟨rfl, rfl⟩
  go_wp2
  go_ret
  exact ⟨rfl, unhide B1⟩
set_option maxRecDepth 20000 in
set_option maxHeartbeats 1000000 in
theorem kinds_no1 (id base : Int) (ao : Option Addr) (n cap : Nat) (ms : List Int) (hn : ms.length = n) (h30 : n ≤ 30) (w : World) (hi : IntsR w ao ms) (hf0 : coreCheck id ms base ≠ 0) : Calls Tryz.prog 4 #[.int .i64 1, .int .i64 id, .slice ao n cap, .int .i64 base] w fun e w' => e = .returned (.bool true) ∧ Below w.heap.size w w' := by
  have KN := hide (known16 w)
  have q : (n : Int) ≤ 30 := by omega
  obtain ⟨f, hf⟩ : ∃ f, coreCheck id ms base = f := ⟨_, rfl⟩
  have NN : Hid (∀ (Y : World) (_hY : Below w.heap.size w Y), Calls Tryz.prog 7 #[.int .i64 1, .int .i64 id, .slice ao n cap, .int .i64 base] Y fun e w' => e = .returned (.tuple #[.pointer none, .int .i64 (f : Int)]) ∧ Below Y.heap.size Y w') := hide (fun Y hY => (eng_new 1 id base (Or.inl rfl) ao n cap ms hn (by omega) Y (hi.below hY)).mono (by rintro e w' ⟨k1, _, k3⟩; rw [hf] at k1; exact ⟨k1 (by rw [← hf]; exact hf0), k3⟩))
  have NR : Hid (∀ (Y : World) (_hY : Below w.heap.size w Y), Calls Tryz.prog 8 #[.int .i64 id, .slice ao n cap, .int .i64 base] Y fun e w' => e = .returned (.tuple #[.pointer none, .int .i64 (f : Int)]) ∧ Below Y.heap.size Y w') := hide (fun Y hY => (rnew_any id base ao n cap ms hn (by omega) Y (hi.below hY)).mono (by rintro e w' ⟨k1, _, k3⟩; rw [hf] at k1; exact ⟨k1 (by rw [← hf]; exact hf0), k3⟩))
  have hz : f ≠ 0 := by rw [← hf]; exact hf0
  have hzi : ¬ ((f : Int) = 0) := by omega
  have hzb : ((f : Int) != 0) = true := by simp; omega
  clear hf0 hf hi hn h30 hz
  go_enter Tryz.func4, Tryz.ntmps4
  go_wp2_with fail
  refine (unhide KN).mono ?_
  rintro e w1 ⟨rfl, b1⟩
  have B1 := hide b1
  have N1 := hide (unhide NN w1 b1)
  clear KN b1 NN
  go_wp2_with fail
  refine (unhide N1).mono ?_
  rintro e w2 ⟨rfl, b2⟩
  have B2 := hide (below_far (unhide B1) b2)
  have N2 := hide (unhide NR w2 (unhide B2))
  clear N1 b2 B1 NR
  go_wp2_with fail
  refine (unhide N2).mono ?_
  rintro e w3 ⟨rfl, b3⟩
  have B3 := hide (below_far (unhide B2) b3)
  clear N2 b3 B2
  go_wp2
  go_ret
  exact ⟨rfl, unhide B3⟩
set_option maxRecDepth 20000 in
set_option maxHeartbeats 4000000 in
theorem kinds_ok1 (id base : Int) (ao : Option Addr) (n cap : Nat) (ms : List Int) (hn : ms.length = n) (h30 : n ≤ 30) (w : World) (hi : IntsR w ao ms) (hS : Start w) (hf0 : coreCheck id ms base = 0) : Calls Tryz.prog 4 #[.int .i64 1, .int .i64 id, .slice ao n cap, .int .i64 base] w fun e w' => e = .returned (.bool true) ∧ Below w.heap.size w w' := by
  have KN := hide (known16 w)
  have q : (n : Int) ≤ 30 := by omega
  have hc := core0_of hf0
  have hb0 := hc.b0
  have hb1 := hc.b1
  have NN : Hid (∀ (Y : World) (_hY : Below w.heap.size w Y), Calls Tryz.prog 7 #[.int .i64 1, .int .i64 id, .slice ao n cap, .int .i64 base] Y fun e w' => ∃ x, e = .returned (.tuple #[.pointer (some ⟨x, 0, none⟩), .int .i64 0]) ∧ Eng 1 w' x id ms base ∧ Below Y.heap.size Y w') := hide (fun Y hY => (eng_new 1 id base (Or.inl rfl) ao n cap ms hn (by omega) Y (hi.below hY)).mono (by rintro e w' ⟨_, k2, k3⟩; obtain ⟨x, h1, h2⟩ := k2 hf0; exact ⟨x, h1, h2, k3⟩))
  have NR : Hid (∀ (Y : World) (_hY : Below w.heap.size w Y), Calls Tryz.prog 8 #[.int .i64 id, .slice ao n cap, .int .i64 base] Y fun e w' => ∃ c, e = .returned (.tuple #[.pointer (some ⟨c, 0, none⟩), .int .i64 0]) ∧ Below Y.heap.size Y w') := hide (fun Y hY => (rnew_any id base ao n cap ms hn (by omega) Y (hi.below hY)).mono (by rintro e w' ⟨_, k2, k3⟩; obtain ⟨c, h1, _⟩ := k2 hf0; exact ⟨c, h1, k3⟩))
  have SV := hide (fun (Y : World) (x : Nat) (h : Eng 1 Y x id ms base) (hs : Start Y) => eng_save 1 hc Y h hs)
  have LD := hide (fun (Y : World) (a : Option Addr) (m c : Nat) (hg : Given Y a m c (engBytes 1 base ms)) (h256 : ∀ b ∈ engBytes 1 base ms, b < 256) (hs : Start Y) => eng_load 1 (Or.inl rfl) hf0 a m c Y hg h256 hs)
  have CM := hide (fun (Y : World) (x : Nat) (h : Eng 1 Y x id ms base) => eng_commit 1 hc Y h)
  have CK := hide (fun (Y : World) (x : Nat) (h : Eng 1 Y x id ms base) => eng_kind 1 Y h)
  have CR := hide (fun (Y : World) (x : Nat) (h : Eng 1 Y x id ms base) => eng_role 1 Y h)
  have CX := hide (fun (Y : World) (x : Nat) (h : Eng 1 Y x id ms base) => eng_sealed 1 hc Y h)
  have CF := hide (fun (Y : World) (x : Nat) (h : Eng 1 Y x id ms base) => eng_config 1 (by rw [hn]; omega) Y h)
  rw [hn] at CF
  have S1 := hide (fun (Y : World) (ao1 an bn : Option Addr) (co cn bc : Nat) (h1 : IntsR Y an ms) (h2 : IntsR Y bn ms) => same_new ao1 an bn co cn bc n ms hn (by omega) Y h1 h2)
  have S2 := hide (fun (Y : World) (ao1 an bo bn : Option Addr) (co cn po bc : Nat) (h1 : IntsR Y an ms) (h2 : IntsR Y bn ms) => same_two ao1 an bo bn co cn po bc n ms hn (by omega) Y h1 h2)
  have hbl : (engBytes 1 base ms).length ≤ 1000000 := by
    have s0 := msg_bytes (said_ok (m := rsaid base ms) rfl rfl rfl hc.nine)
    have s1 := msg_bytes (said_ok (m := csaid base ms) rfl rfl rfl hc.nine)
    have s2 := msg_bytes (said_ok (m := psaid base ms) rfl rfl rfl hc.nine)
    simp [engBytes, frame_length]; omega
  have HL := hide hbl
  have HI := hide hi
  have HS := hide hS
  clear hf0 hi hn h30 hc hS hbl
  go_enter Tryz.func4, Tryz.ntmps4
  go_wp2_with fail
  refine (unhide KN).mono ?_
  rintro e w1 ⟨rfl, b1⟩
  have B1 := hide b1
  have N1 := hide (unhide NN w1 b1)
  clear KN b1 NN
  go_wp2_with fail
  refine (unhide N1).mono ?_
  rintro e w2 ⟨x, rfl, x2, b2⟩
  have X2 := hide x2
  have B2 := hide (below_far (unhide B1) b2)
  have N2 := hide (unhide NR w2 (unhide B2))
  clear N1 b2 B1 NR x2
  go_wp2_with fail
  refine (unhide N2).mono ?_
  rintro e w3 ⟨_, rfl, b3⟩
  have X3 := hide ((unhide X2).below b3)
  have B3 := hide (below_far (unhide B2) b3)
  have N3 := hide (unhide SV w3 x (unhide X3) ((unhide HS).below (unhide B3)))
  clear N2 b3 B2 X2 SV
  go_wp2_with fail
  refine (unhide N3).mono ?_
  rintro e w4 ⟨v, rfl, o4, b4⟩
  have h256 := o4.2
  obtain ⟨sa, sc, rfl, gv⟩ := own_given o4 (by have := unhide HL; omega)
  have X4 := hide ((unhide X3).below b4)
  have B4 := hide (below_far (unhide B3) b4)
  have N4 := hide (unhide LD w4 sa _ sc gv h256 ((unhide HS).below (unhide B4)))
  clear N3 b4 B3 X3 LD o4 gv h256
  go_wp2_with fail
  refine (unhide N4).mono ?_
  rintro e w5 ⟨y, rfl, y5, b5⟩
  have XY := hide (And.intro ((unhide X4).below b5) y5)
  have B5 := hide (below_far (unhide B4) b5)
  have N5 := hide (unhide CM w5 x (unhide XY).1)
  clear N4 b5 B4 X4 y5
  go_wp2_with fail
  refine (unhide N5).mono ?_
  rintro e w6 ⟨rfl, b6⟩
  have XZ := hide (And.intro ((unhide XY).1.below b6) ((unhide XY).2.below b6))
  have B6 := hide (below_far (unhide B5) b6)
  have N6 := hide (unhide CM w6 y (unhide XZ).2)
  clear N5 b6 B5 XY
  go_wp2_with fail
  refine (unhide N6).mono ?_
  rintro e w7 ⟨rfl, b7⟩
  have XY := hide (And.intro ((unhide XZ).1.below b7) ((unhide XZ).2.below b7))
  have B7 := hide (below_far (unhide B6) b7)
  have N7 := hide (unhide CK w7 y (unhide XY).2)
  clear N6 b7 B6 XZ
  go_wp2_with fail
  refine (unhide N7).mono ?_
  rintro e w8 ⟨rfl, rfl⟩
  have N8 := hide (unhide CF w8 x (unhide XY).1)
  clear N7
  go_wp2_with fail
  refine (unhide N8).mono ?_
  rintro e w9 ⟨ao9, co9, an9, cn9, rfl, i9, b9⟩
  have XZ := hide (And.intro ((unhide XY).1.below b9) ((unhide XY).2.below b9))
  have B9 := hide (below_far (unhide B7) b9)
  have N9 := hide (unhide S1 w9 ao9 an9 ao co9 cn9 cap i9 ((unhide HI).below (unhide B9)))
  clear N8 b9 B7 XY i9 S1
  go_wp2_with fail
  refine (unhide N9).mono ?_
  rintro e w10 ⟨rfl, b10⟩
  have XY := hide (And.intro ((unhide XZ).1.below b10) ((unhide XZ).2.below b10))
  have B10 := hide (below_far (unhide B9) b10)
  have N10 := hide (unhide CF w10 y (unhide XY).2)
  clear N9 b10 B9 XZ
  go_wp2_with fail
  refine (unhide N10).mono ?_
  rintro e w11 ⟨ao11, co11, an11, cn11, rfl, i11, b11⟩
  have XZ := hide (And.intro ((unhide XY).1.below b11) ((unhide XY).2.below b11))
  have B11 := hide (below_far (unhide B10) b11)
  have I11 := hide i11
  have N11 := hide (unhide CF w11 x (unhide XZ).1)
  clear N10 b11 B10 XY i11
  go_wp2_with fail
  refine (unhide N11).mono ?_
  rintro e w12 ⟨ao12, co12, an12, cn12, rfl, i12, b12⟩
  have XY := hide (And.intro ((unhide XZ).1.below b12) ((unhide XZ).2.below b12))
  have B12 := hide (below_far (unhide B11) b12)
  have N12 := hide (unhide S2 w12 ao11 an11 ao12 an12 co11 cn11 co12 cn12 ((unhide I11).below b12) i12)
  clear N11 b12 B11 XZ i12 I11 S2
  go_wp2_with fail
  refine (unhide N12).mono ?_
  rintro e w13 ⟨rfl, b13⟩
  have XZ := hide (And.intro ((unhide XY).1.below b13) ((unhide XY).2.below b13))
  have B13 := hide (below_far (unhide B12) b13)
  have N13 := hide (unhide CR w13 x (unhide XZ).1)
  clear N12 b13 B12 XY
  go_wp2_with fail
  refine (unhide N13).mono ?_
  rintro e w14 ⟨rfl, b14⟩
  have XY := hide (And.intro ((unhide XZ).1.below b14) ((unhide XZ).2.below b14))
  have B14 := hide (below_far (unhide B13) b14)
  have N14 := hide (unhide CX w14 x (unhide XY).1)
  clear N13 b14 B13 XZ
  go_wp2_with fail
  refine (unhide N14).mono ?_
  rintro e w15 ⟨rfl, b15⟩
  have B15 := hide (below_far (unhide B14) b15)
  clear N14 b15 B14 XY
  go_wp2
  go_ret
  exact ⟨rfl, unhide B15⟩
set_option maxRecDepth 20000 in
set_option maxHeartbeats 1000000 in
theorem kinds_no2 (id base : Int) (ao : Option Addr) (n cap : Nat) (ms : List Int) (hn : ms.length = n) (h30 : n ≤ 30) (w : World) (hi : IntsR w ao ms) (hf0 : coreCheck id ms base ≠ 0) : Calls Tryz.prog 4 #[.int .i64 2, .int .i64 id, .slice ao n cap, .int .i64 base] w fun e w' => e = .returned (.bool true) ∧ Below w.heap.size w w' := by
  have KN := hide (known16 w)
  have q : (n : Int) ≤ 30 := by omega
  obtain ⟨f, hf⟩ : ∃ f, coreCheck id ms base = f := ⟨_, rfl⟩
  have NN : Hid (∀ (Y : World) (_hY : Below w.heap.size w Y), Calls Tryz.prog 7 #[.int .i64 2, .int .i64 id, .slice ao n cap, .int .i64 base] Y fun e w' => e = .returned (.tuple #[.pointer none, .int .i64 (f : Int)]) ∧ Below Y.heap.size Y w') := hide (fun Y hY => (eng_new 2 id base (Or.inr rfl) ao n cap ms hn (by omega) Y (hi.below hY)).mono (by rintro e w' ⟨k1, _, k3⟩; rw [hf] at k1; exact ⟨k1 (by rw [← hf]; exact hf0), k3⟩))
  have NR : Hid (∀ (Y : World) (_hY : Below w.heap.size w Y), Calls Tryz.prog 8 #[.int .i64 id, .slice ao n cap, .int .i64 base] Y fun e w' => e = .returned (.tuple #[.pointer none, .int .i64 (f : Int)]) ∧ Below Y.heap.size Y w') := hide (fun Y hY => (rnew_any id base ao n cap ms hn (by omega) Y (hi.below hY)).mono (by rintro e w' ⟨k1, _, k3⟩; rw [hf] at k1; exact ⟨k1 (by rw [← hf]; exact hf0), k3⟩))
  have hz : f ≠ 0 := by rw [← hf]; exact hf0
  have hzi : ¬ ((f : Int) = 0) := by omega
  have hzb : ((f : Int) != 0) = true := by simp; omega
  clear hf0 hf hi hn h30 hz
  go_enter Tryz.func4, Tryz.ntmps4
  go_wp2_with fail
  refine (unhide KN).mono ?_
  rintro e w1 ⟨rfl, b1⟩
  have B1 := hide b1
  have N1 := hide (unhide NN w1 b1)
  clear KN b1 NN
  go_wp2_with fail
  refine (unhide N1).mono ?_
  rintro e w2 ⟨rfl, b2⟩
  have B2 := hide (below_far (unhide B1) b2)
  have N2 := hide (unhide NR w2 (unhide B2))
  clear N1 b2 B1 NR
  go_wp2_with fail
  refine (unhide N2).mono ?_
  rintro e w3 ⟨rfl, b3⟩
  have B3 := hide (below_far (unhide B2) b3)
  clear N2 b3 B2
  go_wp2
  go_ret
  exact ⟨rfl, unhide B3⟩
set_option maxRecDepth 20000 in
set_option maxHeartbeats 4000000 in
theorem kinds_ok2 (id base : Int) (ao : Option Addr) (n cap : Nat) (ms : List Int) (hn : ms.length = n) (h30 : n ≤ 30) (w : World) (hi : IntsR w ao ms) (hS : Start w) (hf0 : coreCheck id ms base = 0) : Calls Tryz.prog 4 #[.int .i64 2, .int .i64 id, .slice ao n cap, .int .i64 base] w fun e w' => e = .returned (.bool true) ∧ Below w.heap.size w w' := by
  have KN := hide (known16 w)
  have q : (n : Int) ≤ 30 := by omega
  have hc := core0_of hf0
  have hb0 := hc.b0
  have hb1 := hc.b1
  have NN : Hid (∀ (Y : World) (_hY : Below w.heap.size w Y), Calls Tryz.prog 7 #[.int .i64 2, .int .i64 id, .slice ao n cap, .int .i64 base] Y fun e w' => ∃ x, e = .returned (.tuple #[.pointer (some ⟨x, 0, none⟩), .int .i64 0]) ∧ Eng 2 w' x id ms base ∧ Below Y.heap.size Y w') := hide (fun Y hY => (eng_new 2 id base (Or.inr rfl) ao n cap ms hn (by omega) Y (hi.below hY)).mono (by rintro e w' ⟨_, k2, k3⟩; obtain ⟨x, h1, h2⟩ := k2 hf0; exact ⟨x, h1, h2, k3⟩))
  have NR : Hid (∀ (Y : World) (_hY : Below w.heap.size w Y), Calls Tryz.prog 8 #[.int .i64 id, .slice ao n cap, .int .i64 base] Y fun e w' => ∃ c, e = .returned (.tuple #[.pointer (some ⟨c, 0, none⟩), .int .i64 0]) ∧ Below Y.heap.size Y w') := hide (fun Y hY => (rnew_any id base ao n cap ms hn (by omega) Y (hi.below hY)).mono (by rintro e w' ⟨_, k2, k3⟩; obtain ⟨c, h1, _⟩ := k2 hf0; exact ⟨c, h1, k3⟩))
  have SV := hide (fun (Y : World) (x : Nat) (h : Eng 2 Y x id ms base) (hs : Start Y) => eng_save 2 hc Y h hs)
  have LD := hide (fun (Y : World) (a : Option Addr) (m c : Nat) (hg : Given Y a m c (engBytes 2 base ms)) (h256 : ∀ b ∈ engBytes 2 base ms, b < 256) (hs : Start Y) => eng_load 2 (Or.inr rfl) hf0 a m c Y hg h256 hs)
  have CM := hide (fun (Y : World) (x : Nat) (h : Eng 2 Y x id ms base) => eng_commit 2 hc Y h)
  have CK := hide (fun (Y : World) (x : Nat) (h : Eng 2 Y x id ms base) => eng_kind 2 Y h)
  have CR := hide (fun (Y : World) (x : Nat) (h : Eng 2 Y x id ms base) => eng_role 2 Y h)
  have CX := hide (fun (Y : World) (x : Nat) (h : Eng 2 Y x id ms base) => eng_sealed 2 hc Y h)
  have CF := hide (fun (Y : World) (x : Nat) (h : Eng 2 Y x id ms base) => eng_config 2 (by rw [hn]; omega) Y h)
  rw [hn] at CF
  have S1 := hide (fun (Y : World) (ao1 an bn : Option Addr) (co cn bc : Nat) (h1 : IntsR Y an ms) (h2 : IntsR Y bn ms) => same_new ao1 an bn co cn bc n ms hn (by omega) Y h1 h2)
  have S2 := hide (fun (Y : World) (ao1 an bo bn : Option Addr) (co cn po bc : Nat) (h1 : IntsR Y an ms) (h2 : IntsR Y bn ms) => same_two ao1 an bo bn co cn po bc n ms hn (by omega) Y h1 h2)
  have hbl : (engBytes 2 base ms).length ≤ 1000000 := by
    have s0 := msg_bytes (said_ok (m := rsaid base ms) rfl rfl rfl hc.nine)
    have s1 := msg_bytes (said_ok (m := csaid base ms) rfl rfl rfl hc.nine)
    have s2 := msg_bytes (said_ok (m := psaid base ms) rfl rfl rfl hc.nine)
    simp [engBytes, frame_length]; omega
  have HL := hide hbl
  have HI := hide hi
  have HS := hide hS
  clear hf0 hi hn h30 hc hS hbl
  go_enter Tryz.func4, Tryz.ntmps4
  go_wp2_with fail
  refine (unhide KN).mono ?_
  rintro e w1 ⟨rfl, b1⟩
  have B1 := hide b1
  have N1 := hide (unhide NN w1 b1)
  clear KN b1 NN
  go_wp2_with fail
  refine (unhide N1).mono ?_
  rintro e w2 ⟨x, rfl, x2, b2⟩
  have X2 := hide x2
  have B2 := hide (below_far (unhide B1) b2)
  have N2 := hide (unhide NR w2 (unhide B2))
  clear N1 b2 B1 NR x2
  go_wp2_with fail
  refine (unhide N2).mono ?_
  rintro e w3 ⟨_, rfl, b3⟩
  have X3 := hide ((unhide X2).below b3)
  have B3 := hide (below_far (unhide B2) b3)
  have N3 := hide (unhide SV w3 x (unhide X3) ((unhide HS).below (unhide B3)))
  clear N2 b3 B2 X2 SV
  go_wp2_with fail
  refine (unhide N3).mono ?_
  rintro e w4 ⟨v, rfl, o4, b4⟩
  have h256 := o4.2
  obtain ⟨sa, sc, rfl, gv⟩ := own_given o4 (by have := unhide HL; omega)
  have X4 := hide ((unhide X3).below b4)
  have B4 := hide (below_far (unhide B3) b4)
  have N4 := hide (unhide LD w4 sa _ sc gv h256 ((unhide HS).below (unhide B4)))
  clear N3 b4 B3 X3 LD o4 gv h256
  go_wp2_with fail
  refine (unhide N4).mono ?_
  rintro e w5 ⟨y, rfl, y5, b5⟩
  have XY := hide (And.intro ((unhide X4).below b5) y5)
  have B5 := hide (below_far (unhide B4) b5)
  have N5 := hide (unhide CM w5 x (unhide XY).1)
  clear N4 b5 B4 X4 y5
  go_wp2_with fail
  refine (unhide N5).mono ?_
  rintro e w6 ⟨rfl, b6⟩
  have XZ := hide (And.intro ((unhide XY).1.below b6) ((unhide XY).2.below b6))
  have B6 := hide (below_far (unhide B5) b6)
  have N6 := hide (unhide CM w6 y (unhide XZ).2)
  clear N5 b6 B5 XY
  go_wp2_with fail
  refine (unhide N6).mono ?_
  rintro e w7 ⟨rfl, b7⟩
  have XY := hide (And.intro ((unhide XZ).1.below b7) ((unhide XZ).2.below b7))
  have B7 := hide (below_far (unhide B6) b7)
  have N7 := hide (unhide CK w7 y (unhide XY).2)
  clear N6 b7 B6 XZ
  go_wp2_with fail
  refine (unhide N7).mono ?_
  rintro e w8 ⟨rfl, rfl⟩
  have N8 := hide (unhide CF w8 x (unhide XY).1)
  clear N7
  go_wp2_with fail
  refine (unhide N8).mono ?_
  rintro e w9 ⟨ao9, co9, an9, cn9, rfl, i9, b9⟩
  have XZ := hide (And.intro ((unhide XY).1.below b9) ((unhide XY).2.below b9))
  have B9 := hide (below_far (unhide B7) b9)
  have N9 := hide (unhide S1 w9 ao9 an9 ao co9 cn9 cap i9 ((unhide HI).below (unhide B9)))
  clear N8 b9 B7 XY i9 S1
  go_wp2_with fail
  refine (unhide N9).mono ?_
  rintro e w10 ⟨rfl, b10⟩
  have XY := hide (And.intro ((unhide XZ).1.below b10) ((unhide XZ).2.below b10))
  have B10 := hide (below_far (unhide B9) b10)
  have N10 := hide (unhide CF w10 y (unhide XY).2)
  clear N9 b10 B9 XZ
  go_wp2_with fail
  refine (unhide N10).mono ?_
  rintro e w11 ⟨ao11, co11, an11, cn11, rfl, i11, b11⟩
  have XZ := hide (And.intro ((unhide XY).1.below b11) ((unhide XY).2.below b11))
  have B11 := hide (below_far (unhide B10) b11)
  have I11 := hide i11
  have N11 := hide (unhide CF w11 x (unhide XZ).1)
  clear N10 b11 B10 XY i11
  go_wp2_with fail
  refine (unhide N11).mono ?_
  rintro e w12 ⟨ao12, co12, an12, cn12, rfl, i12, b12⟩
  have XY := hide (And.intro ((unhide XZ).1.below b12) ((unhide XZ).2.below b12))
  have B12 := hide (below_far (unhide B11) b12)
  have N12 := hide (unhide S2 w12 ao11 an11 ao12 an12 co11 cn11 co12 cn12 ((unhide I11).below b12) i12)
  clear N11 b12 B11 XZ i12 I11 S2
  go_wp2_with fail
  refine (unhide N12).mono ?_
  rintro e w13 ⟨rfl, b13⟩
  have XZ := hide (And.intro ((unhide XY).1.below b13) ((unhide XY).2.below b13))
  have B13 := hide (below_far (unhide B12) b13)
  have N13 := hide (unhide CR w13 x (unhide XZ).1)
  clear N12 b13 B12 XY
  go_wp2_with fail
  refine (unhide N13).mono ?_
  rintro e w14 ⟨rfl, b14⟩
  have XY := hide (And.intro ((unhide XZ).1.below b14) ((unhide XZ).2.below b14))
  have B14 := hide (below_far (unhide B13) b14)
  have N14 := hide (unhide CX w14 x (unhide XY).1)
  clear N13 b14 B13 XZ
  go_wp2_with fail
  refine (unhide N14).mono ?_
  rintro e w15 ⟨rfl, b15⟩
  have B15 := hide (below_far (unhide B14) b15)
  clear N14 b15 B14 XY
  go_wp2
  go_ret
  exact ⟨rfl, unhide B15⟩
theorem kinds_walk (kind id base : Int) (ao : Option Addr) (n cap : Nat) (ms : List Int) (hn : ms.length = n) (hmx : n ≤ maxLen) (w : World) (hi : IntsR w ao ms) (hS : Start w) : Calls Tryz.prog 4 #[.int .i64 kind, .int .i64 id, .slice ao n cap, .int .i64 base] w fun e w' => e = .returned (.bool true) ∧ Below w.heap.size w w' := by
  by_cases h30 : n ≤ 30
  · by_cases k1 : kind = 1
    · subst k1
      by_cases hf : coreCheck id ms base = 0
      · exact kinds_ok1 id base ao n cap ms hn h30 w hi hS hf
      · exact kinds_no1 id base ao n cap ms hn h30 w hi hf
    · by_cases k2 : kind = 2
      · subst k2
        by_cases hf : coreCheck id ms base = 0
        · exact kinds_ok2 id base ao n cap ms hn h30 w hi hS hf
        · exact kinds_no2 id base ao n cap ms hn h30 w hi hf
      · exact kinds_other kind id base k1 k2 ao n cap h30 w
  · exact kinds_long kind id base ao n cap (by omega) hmx w
end Go.Proofs.YtjplhiflemmkfaaGreatDoor
namespace Go.Proofs.YtjplhiflemmkfaaGreatDoor
open Go.ChangeShapes Go.WideShapes Go.ChangeAt Go.RowKit

set_option maxRecDepth 100000 in
theorem ints_opened {H : Type} {enc : TypeId × Value → H} {W : World} {base : Nat} {v : Value} {d : DataW H} {p : List MemPlace} (hv : Value.okWide Tryz.prog W .any base 24 v)
    (h : DataW.Trod enc Tryz.prog W 0 (fun _ => true) true 24 v d p) : ∃ ao n cap xs, v = .slice ao n cap ∧ xs.length = n ∧ n ≤ maxLen ∧ IntsR W ao xs := by
  obtain ⟨a0, len, cap, rfl⟩ := okWide_slice Tryz.underlying24 hv
  obtain ⟨fuel, hf⟩ := h
  obtain ⟨ao, n, cap', ys, e, hy, _⟩ := ints_trod' hf
  simp [Value.cells] at e
  obtain ⟨rfl, rfl, rfl⟩ := e
  exact ⟨_, _, _, ys, rfl, hy.len, Nat.le_trans hy.room hy.big, hy.are⟩
end Go.Proofs.YtjplhiflemmkfaaGreatDoor
