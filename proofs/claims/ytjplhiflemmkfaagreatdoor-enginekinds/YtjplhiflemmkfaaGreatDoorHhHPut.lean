/- hist: Put: a contract. -/
import Derived.Test.YtjplhiflemmkfaaGreatDoorHhHXRef
import Derived.Test.YtjplhiflemmkfaaGreatDoorHhHPlace
namespace Go.Proofs.YtjplhiflemmkfaaGreatDoor.Hh
open Go.RowKit Go.Maps

/-- entries placed one by one, from an index on. -/
def putGo (b : Int) : List Rw → Int → List Int → List En → List Rw
  | rs, _, [], _ => rs
  | rs, _, _ :: _, [] => rs
  | rs, j, t :: ts, e :: es => putGo b (placed b rs j t e) (j + 1) ts es
def putRows (b : Int) (rs : List Rw) (i t : Int) (ts : List Int) (es : List En) : List Rw := if putNo b rs i t ts es.length = 0 then putGo b rs (i + 1) ts es else rs
def putN (b : Int) (rs : List Rw) (i t : Int) (ts : List Int) (n : Nat) : Int := if putNo b rs i t ts n = 0 then i + (n : Int) else 0
theorem placed_len (b : Int) (rs : List Rw) (i t : Int) (e : En) : (placed b rs i t e).length ≤ rs.length + 1 := by
  unfold placed
  split
  · omega
  · rw [List.length_append, List.length_take]; simp; omega
theorem putGo_step {b : Int} {rk : List Rw} {j : Int} {ts : List Int} {es : List En} {k : Nat} {tk : Int} {e : En} (ht : k < ts.length) (hk : ts.getD k 0 = tk) (he : es[k]? = some e) :
    putGo b rk j (ts.drop k) (es.drop k) = putGo b (placed b rk j tk e) (j + 1) (ts.drop (k + 1)) (es.drop (k + 1)) := by
  obtain ⟨h1, h2⟩ := List.getElem?_eq_some_iff.1 he
  rw [drop_getD ht, hk, List.drop_eq_getElem_cons h1, h2]
  rfl
theorem putNo_zero {b : Int} {rs : List Rw} {i t : Int} {ts : List Int} {n : Nat} (h : putNo b rs i t ts n = 0) : ts.length = n ∧ climbsOf t ts = true ∧ b ≤ i ∧ i ≤ b + (rs.length : Int) ∧ (b < i → termOf b rs i = t) ∧ i + (n : Int) ≤ 64 := by
  unfold putNo at h
  split at h
  · rename_i h1
    split at h
    · rename_i h2
      split at h
      · omega
      · split at h
        · omega
        · split at h
          · omega
          · rename_i h5
            split at h
            · refine ⟨h1, h2, by omega, by omega, fun hb => ?_, by omega⟩
              by_cases q : termOf b rs i = t
              · exact q
              · exact absurd ⟨hb, q⟩ h5
            · omega
    · omega
  · omega

set_option maxRecDepth 20000 in
set_option maxHeartbeats 4000000 in
theorem put_any {D F : Nat → Prop} {w : World} {p : Nat} {b : Int} {rs : List Rw} (h : Hs D w p b rs) (hf : Fit b rs) (hr : rs.length ≤ 1000) (i t : Int) (at' : Option Addr) (m ct : Nat) (ts : List Int) (hm : ts.length = m) (hm6 : m ≤ 1000000) (hts : InF F w at' ts)
    (ao : Option Addr) (n cap : Nat) (es : List En) (hn : es.length = n) (hn6 : n ≤ 1000000) (hes : EsR F w ao es) (hFD : ∀ k, F k → ¬ D k) :
    Calls Tryz.prog 160 #[.pointer (some ⟨p, 0, none⟩), .int .i64 i, .int .i64 t, .slice at' m ct, .slice ao n cap] w fun x w' =>
      x = .returned (.tuple #[.int .i64 (putN b rs i t ts n), .int .i64 ((putNo b rs i t ts n : Nat) : Int)]) ∧ Hs (News D w w') w' p b (putRows b rs i t ts es) ∧ Kp D w w' := by
  obtain ⟨R, hR⟩ : ∃ R, putNo b rs i t ts n = R := ⟨_, rfl⟩
  have hN : putN b rs i t ts n = if R = 0 then i + (n : Int) else 0 := by unfold putN; rw [hR]
  have hA : putRows b rs i t ts es = if R = 0 then putGo b rs (i + 1) ts es else rs := by unfold putRows; rw [hn, hR]
  rw [hN, hA, hR]
  have BA := hide (hbarred_any h hf i t at' m ct ts hm hm6 n hn6 hts.ints)
  rw [hR] at BA
  have hz : Hid (R = 0 → m = n ∧ b ≤ i ∧ i + (n : Int) ≤ 64) := fun h0 => by
    rw [h0] at hR
    obtain ⟨q1, _, q3, _, _, q6⟩ := putNo_zero hR
    exact ⟨by omega, q3, q6⟩
  obtain ⟨Z, hZ⟩ : ∃ Z, putGo b rs (i + 1) ts es = Z := ⟨_, rfl⟩
  rw [hZ]
  have HZ := hide hZ
  have HH := hide h
  have HE := hide hes
  have HT := hide hts
  have HF := hide hf
  have FD := hide hFD
  have HN := hide hn
  have HM := hide hm
  have LT := hide h.lt
  clear h hes hts hf hFD hn hm hR hN hA hZ
  go_enter Tryz.func160, Tryz.ntmps160
  go_wp2_with fail
  refine (unhide BA).mono ?_
  rintro x w1 ⟨rfl, b1⟩
  have B1 := hide b1
  clear b1 BA
  by_cases h0 : R = 0
  · obtain ⟨q1, q2, q3⟩ := unhide hz h0
    subst h0
    subst q1
    have hb0 := (unhide HF).b0
    clear hz
    go_wp2_with fail
    go_loopw [27, 13, 14] (fun iv _ _ wr => ∃ (k : Nat) (rk : List Rw), k ≤ m ∧ iv = .int .i64 (k : Int) ∧ rk.length ≤ rs.length + k ∧ putGo b rk (i + 1 + (k : Int)) (ts.drop k) (es.drop k) = Z ∧ Hs (News D w wr) wr p b rk ∧ Kp D w wr) (fun iv _ _ _ => m - (intOf iv).toNat)
    case atStart => exact ⟨0, rs, Nat.zero_le _, rfl, by omega, by rw [List.drop_zero, List.drop_zero, show i + 1 + ((0 : Nat) : Int) = i + 1 by omega]; exact unhide HZ, ((unhide HH).below (unhide B1)).more, Kp.of_below (unhide B1)⟩
    case round =>
      obtain ⟨k, rk, hk, rfl, hrl, hgo, hs, hkp⟩ := hrel
      have HS := hide hs
      have KP := hide hkp
      have GO := hide hgo
      have RL := hide hrl
      clear hs hkp hgo hrl
      by_cases hlt : k < m
      · obtain ⟨e, he⟩ : ∃ e, es[k]? = some e := ⟨_, List.getElem?_eq_getElem (by rw [unhide HN]; exact hlt)⟩
        have hE := (unhide HE).kp (unhide KP) (unhide FD)
        have hT := (unhide HT).kp (unhide KP) (unhide FD)
        obtain ⟨g, off, mo, mc, rfl, c0, c1, c2, c3, c4, c5, him, hml⟩ := hE.at he
        obtain ⟨ta, rfl, hta, ct0⟩ := hT k (by rw [unhide HM]; exact hlt)
        obtain ⟨tk, htk⟩ : ∃ tk, ts.getD k 0 = tk := ⟨_, rfl⟩
        rw [htk] at ct0
        have hq : (k : Int) < (m : Int) := by omega
        have wr1 : IntKind.i64.wrap (i + 1) = i + 1 := IntWalk.i64_in _ (by omega)
        have hgo2 : putGo b (placed b rk (i + 1 + (k : Int)) tk e) (i + 1 + ((k + 1 : Nat) : Int)) (ts.drop (k + 1)) (es.drop (k + 1)) = Z := by
          rw [← unhide GO, putGo_step (by rw [unhide HM]; exact hlt) htk he]
          congr 1; omega
        obtain ⟨W, hW⟩ : ∃ W, wr.alloc (.cells #[.int .i64 e.kind, .int .i64 e.client, .int .i64 e.seq, .string e.text, .slice mo e.ms.length mc, .int .i64 e.dest] 43) = W := ⟨_, rfl⟩
        have bW : Below wr.heap.size wr W := by rw [← hW]; exact (Below.refl _ wr).alloc (Nat.le_refl _) _
        have xW : W.heap[wr.heap.size]? = some (.cells #[.int .i64 e.kind, .int .i64 e.client, .int .i64 e.seq, .string e.text, .slice mo e.ms.length mc, .int .i64 e.dest] 43 (0, 0)) := by rw [← hW]; exact box_at _ _
        obtain ⟨J, hJ⟩ : ∃ J, i + 1 + (k : Int) = J := ⟨_, rfl⟩
        have hFN : ∀ j, (F j ∧ j < w.heap.size) → ¬ News D w wr j := fun j hj x => x.elim (unhide FD j hj.1) (fun y => by omega)
        have him2 : InF (fun j => F j ∧ j < w.heap.size) wr mo e.ms := by
          have q0 := ((unhide HE).at he)
          obtain ⟨g', off', mo', mc', e', _, _, _, _, d4, _, d6, _⟩ := q0
          cases e'
          have d4' := (unhide KP).cell d4 (unhide FD _ (by obtain ⟨_, _, _, _, e'', f'', _⟩ := (unhide HE) k e he; cases e''; exact f''))
          rw [d4'] at c4
          cases c4
          intro j hj
          obtain ⟨a, a1, a2, a3⟩ := d6 j hj
          exact ⟨a, a1, ⟨a2, by have := blk_lt a3; rwa [add_block] at this⟩, (unhide KP).cell a3 (by rw [add_block]; exact unhide FD _ a2)⟩
        have PL := hide (fun Y (hY : Below W.heap.size W Y) => place_any (((unhide HS).below bW).below hY) (by refine ⟨(unhide HF).b0, (unhide HF).b1, ?_⟩; have := unhide RL; omega) J tk e mo mc ((him2.below bW).below hY) hFN hml)
        have P0 := hide (unhide PL W.drew ((Below.refl _ W).drew))
        rw [hJ] at hgo2
        have wr2 : IntKind.i64.wrap (i + 1 + (k : Int)) = J := by rw [IntWalk.i64_in _ (by omega)]; exact hJ
        have a0 : W.drew.cell? ⟨wr.heap.size, 0, none⟩ = some (.int .i64 e.kind) := (cell_of_block (w := W.drew) xW).trans rfl
        have a1 : W.drew.cell? ⟨wr.heap.size, 1, none⟩ = some (.int .i64 e.client) := (cell_of_block (w := W.drew) xW).trans rfl
        have a2 : W.drew.cell? ⟨wr.heap.size, 2, none⟩ = some (.int .i64 e.seq) := (cell_of_block (w := W.drew) xW).trans rfl
        have a3 : W.drew.cell? ⟨wr.heap.size, 3, none⟩ = some (.string e.text) := (cell_of_block (w := W.drew) xW).trans rfl
        have a4 : W.drew.cell? ⟨wr.heap.size, 4, none⟩ = some (.slice mo e.ms.length mc) := (cell_of_block (w := W.drew) xW).trans rfl
        have a5 : W.drew.cell? ⟨wr.heap.size, 5, none⟩ = some (.int .i64 e.dest) := (cell_of_block (w := W.drew) xW).trans rfl
        have t0 : W.drew.cell? (ta.add k) = some (.int .i64 tk) := by show W.cell? _ = _; rw [bW.cell (blk_lt ct0)]; exact ct0
        have BW := hide bW
        have HW := hide hW
        have GO2 := hide hgo2
        have HJ := hide hJ
        clear hE hT him bW xW he hW hta ct0 htk hgo2 hFN him2 PL hJ
        go_upto_region 7 with fail
        rw [unhide HW]
        go_region_with (go_at_call 229; refine (unhide P0).mono ?_; rintro x w6 ⟨rfl, h6, k6⟩; have H6 := hide h6; have K6 := hide k6; clear h6 k6)
        all_goals clear c0 c1 c2 c3 c4 c5 a0 a1 a2 a3 a4 a5 t0
        all_goals go_wp2
        all_goals (
          go_roundw
          case rel =>
            refine ⟨k + 1, _, by omega, by go_num, ?_, unhide GO2, Hs.join (Nat.le_trans (unhide KP).size (unhide BW).size) (Nat.le_trans (unhide BW).size (unhide K6).size) (unhide H6), Kp.join (unhide KP) (unhide BW).drew (unhide K6)⟩
            have := placed_len b rk J tk e
            have := unhide RL
            omega
          case measure => simp [intOf]; omega)
      · obtain rfl : k = m := by omega
        have g1 := unhide GO
        rw [List.drop_of_length_le (by rw [unhide HM]; exact Nat.le_refl _), putGo] at g1
        subst g1
        have wr3 : IntKind.i64.wrap (i + (k : Int)) = i + (k : Int) := IntWalk.i64_in _ (by omega)
        go_wp2
        go_ret2
        exact ⟨rfl, unhide HS, unhide KP⟩
  · have hne : ((R : Int) != 0) = true := by rw [bne_iff_ne]; omega
    clear hz
    go_wp2
    go_ret2
    exact ⟨rfl, ((unhide HH).below (unhide B1)).more, Kp.of_below (unhide B1)⟩
end Go.Proofs.YtjplhiflemmkfaaGreatDoor.Hh
