/- synodalref13: Prepare: a contract. -/
import Derived.Test.YtijohafalcifpaaVX
namespace Go.Proofs.Ytijohafalcifpaa
open Go.RowKit Go.Maps

set_option maxRecDepth 20000 in
theorem xprepare_no {low base : Nat} {x : Nat} {P : Int} {f : Vf} (w : World) (b frm : Int) (h : Xa low base w x P f) (hn : noOf P b false ≠ 0) :
    Calls Try.prog 15 #[.pointer (some ⟨x, 0, none⟩), .int .i64 b, .int .i64 frm] w fun e w' => e = .returned (.tuple #[.slice none 0 0, .int .i64 (noOf P b false)]) ∧ w' = w := by
  obtain ⟨rv, h1, -⟩ := h.box
  have c0 : w.cell? ⟨x, 0, none⟩ = some (.int .i64 P) := (cell_of_block h1).trans rfl
  clear h h1
  by_cases hb : b < 1
  · have e1 : noOf P b false = 1 := by unfold noOf; rw [if_pos (Or.inl hb)]
    rw [e1]
    clear e1 hn
    go_enter Try.func15, Try.ntmps15
    go_wp2
    go_ret2
    exact ⟨rfl, rfl⟩
  · by_cases hP : b < P
    · have e1 : noOf P b false = 19 := by unfold noOf; rw [if_neg (by simp; omega), if_pos hP]
      rw [e1]
      clear e1 hn
      go_enter Try.func15, Try.ntmps15
      go_wp2
      go_ret2
      exact ⟨rfl, rfl⟩
    · exact absurd (by unfold noOf; rw [if_neg (by simp; omega), if_neg hP]) hn
set_option maxRecDepth 20000 in
set_option maxHeartbeats 4000000 in
theorem xprepare_ok {low base : Nat} {x : Nat} {P : Int} {f : Vf} (w : World) (b frm : Int) (h : Xa low base w x P f) (hlb : low ≤ base) (hbs : base ≤ w.heap.size) (hx : base ≤ x) (hn : noOf P b false = 0) :
    Calls Try.prog 15 #[.pointer (some ⟨x, 0, none⟩), .int .i64 b, .int .i64 frm] w fun e w' => ∃ rv, e = .returned (.tuple #[rv, .int .i64 0]) ∧ VRowL 55 low base w' rv (toldOf f frm) ∧ Xa low base w' x b f ∧ Kp (fun k => k = x) w w' := by
  obtain ⟨hb1, -, hPb⟩ := noOf_zero hn
  obtain ⟨rv, h1, h2⟩ := h.box
  obtain ⟨ao, cap, rfl, hcap, hcm⟩ := h2.row.slice
  obtain ⟨n, hnl⟩ : ∃ n, (allOf f).length = n := ⟨_, rfl⟩
  have hn64 : n ≤ 64 := by rw [← hnl]; exact toldN_len f 1 64
  rw [hnl] at h1 h2
  have c0 : w.cell? ⟨x, 0, none⟩ = some (.int .i64 P) := (cell_of_block h1).trans rfl
  have f0 : w.frozen? ⟨x, 0, none⟩ = false := free_of_block h1
  obtain ⟨W, hW⟩ : ∃ W, w.setCell ⟨x, 0, none⟩ (.int .i64 b) = W := ⟨_, rfl⟩
  have kW : Kp (fun k => k = x) w W := by rw [← hW]; exact Kp.setCell (D := fun k => k = x) (Kp.refl _ _) (p := ⟨x, 0, none⟩) rfl _
  have xW : W.heap[x]? = some (.cells #[.int .i64 b, .slice ao n cap] 29 (0, 0)) := by rw [← hW]; exact setCell_block h1
  have rW : VRowL 55 low base W (.slice ao n cap) (allOf f) := h2.far kW (ts := [3, 55]) (fun k hk _ => ⟨by rw [hk]; omega, fun cur e fr hc => by rw [hk, h1] at hc; cases hc; decide⟩) (by simp)
  have sW : W.heap.size = w.heap.size := by rw [← hW]; simp [World.setCell]
  have b1 : ¬ b < 1 := by omega
  have b2 : ¬ b < P := by omega
  have KW := hide kW
  have XW := hide xW
  have RW := hide rW
  have HW := hide hW
  have HNL := hide hnl
  have HS := hide sW
  have HLB := hide (And.intro hlb hbs)
  clear h h1 h2 hW kW xW rW hcap hcm hnl hn sW hlb hbs hx hb1 hPb
  go_enter Try.func15, Try.ntmps15
  go_upto_region 6 with fail
  rw [unhide HW]
  clear c0 f0
  go_wp2_with fail
  go_loopw [8, 9] (fun ov iv wr => ∃ k : Nat, k ≤ n ∧ iv = .int .i64 (k : Int) ∧ VRowL 55 low W.heap.size wr ov (((allOf f).take k).filter (fun v => decide (frm ≤ v.slot))) ∧ Below W.heap.size W wr) (fun _ iv _ => n - (intOf iv).toNat)
  case atStart => exact ⟨0, Nat.zero_le _, rfl, VRowL.nil _ _ _ _, Below.refl _ _⟩
  case round =>
    obtain ⟨k, hk, rfl, hrow, hbel⟩ := hrel
    have R := hide hrow
    have B := hide hbel
    have cV : wr.cell? ⟨x, 1, none⟩ = some (.slice ao n cap) := (cell_of_block (Below.stay hbel (unhide XW))).trans rfl
    clear hrow hbel
    by_cases hlt : k < n
    · obtain ⟨v, hv⟩ : ∃ v, (allOf f)[k]? = some v := ⟨_, List.getElem?_eq_getElem (by rw [unhide HNL]; exact hlt)⟩
      have VL := (unhide RW).vsL.below (unhide B)
      obtain ⟨g, off, mo, mc, rfl, hcells, hmem, hml⟩ := VL k v hv
      obtain ⟨c0, c1, c2, c3, c4, c5, c6, c7⟩ := Vt.eight hcells
      have hq : (k : Int) < (n : Int) := by omega
      have FT := hide (filter_take (p := fun v => decide (frm ≤ v.slot)) hv)
      have HMEM := hide hmem
      have HML := hide hml
      clear hcells hmem hml hv VL
      by_cases hf : frm ≤ v.slot
      · obtain ⟨W3, hW3⟩ : ∃ W3, wr.alloc (.cells #[.int .i64 v.slot, .int .i64 v.ballot, .int .i64 v.e.kind, .int .i64 v.e.client, .int .i64 v.e.seq, .string v.e.text, .slice mo v.e.ms.length mc, .int .i64 v.e.dest] 55) = W3 := ⟨_, rfl⟩
        have b3 : Below wr.heap.size wr W3 := by rw [← hW3]; exact (Below.refl _ wr).alloc (Nat.le_refl _) _
        have x3 : W3.heap[wr.heap.size]? = some (.cells #[.int .i64 v.slot, .int .i64 v.ballot, .int .i64 v.e.kind, .int .i64 v.e.client, .int .i64 v.e.seq, .string v.e.text, .slice mo v.e.ms.length mc, .int .i64 v.e.dest] 55 (0, 0)) := by rw [← hW3]; exact box_at _ _
        have SRC := hide (VsL.one (v := v) x3 ((unhide HMEM).below b3) (unhide HML))
        have R3 := hide ((unhide R).below b3)
        have B3 := hide (below_far (unhide B) b3)
        have S3 := hide (unhide B3).size
        have LE : Hid ((((allOf f).take k).filter (fun v => decide (frm ≤ v.slot))).length + 1 ≤ 1000000) := hide (by have := List.length_filter_le (fun v : Vt => decide (frm ≤ v.slot)) ((allOf f).take k); rw [List.length_take] at this; omega)
        have LB : Hid (low ≤ W.heap.size) := hide (by rw [unhide HS]; exact Nat.le_trans (unhide HLB).1 (unhide HLB).2)
        clear b3 x3
        subst hW3
        go_wp2_with (refine wpList_appL Try.underlying27 (by decide) Try.infoXV rfl (.tmp 41) (.tmp 49) rfl low W.heap.size (unhide LB) _ _ rfl (unhide R3) (some ⟨wr.heap.size, 0, none⟩) 1 1 [v] rfl rfl (unhide SRC) (unhide LE) (unhide S3) ?_)
        intro v4 w4 r4 g4
        have B4 := hide ((unhide B3).grown g4 (unhide S3) (fun k hk => ((unhide R3).row.tag k hk).1))
        have R4 := hide r4
        clear r4 g4 R3 B3 S3 SRC LE
        go_wp2
        go_roundw
        case rel => exact ⟨k + 1, by omega, by go_num, by rw [unhide FT, if_pos (by simpa using hf)]; exact unhide R4, unhide B4⟩
        case measure => simp [intOf]; omega
      · go_wp2
        go_roundw
        case rel => exact ⟨k + 1, by omega, by go_num, by rw [unhide FT, if_neg (by simpa using hf), List.append_nil]; exact unhide R, unhide B⟩
        case measure => simp [intOf]; omega
    · obtain rfl : k = n := by omega
      go_wp2
      go_ret2
      have e1 : (allOf f).take k = allOf f := List.take_of_length_le (by rw [unhide HNL]; exact Nat.le_refl _)
      have r1 := unhide R
      rw [e1, told_filter] at r1
      refine ⟨_, rfl, r1.mono (by rw [unhide HS]; exact (unhide HLB).2), ⟨_, Below.stay (unhide B) (unhide XW), (unhide RW).below (unhide B)⟩, (unhide KW).far (unhide B)⟩
end Go.Proofs.Ytijohafalcifpaa
