/- synodallaw10.grown: a contract. -/
import Derived.Test.YthebgkkdkhlbbabHKnown
import Derived.Test.YthebgkkdkhlbbabHWithin
namespace Go.Proofs.Ythebgkkdkhlbbab
open Go.RowKit Go.Maps

/-- rows whose terms rise, none above t. -/
structure Grow (rs : List Rw) (t : Int) : Prop where
  lo : ∀ r ∈ rs, 1 ≤ r.1 ∧ r.1 ≤ t
  up : rs.Pairwise (fun a c => a.1 ≤ c.1)
  t1 : 1 ≤ t
  hi : t ≤ 1 + 2 * (rs.length : Int)
theorem termOf_mem (b : Int) (rs : List Rw) (i : Int) : termOf b rs i = 0 ∨ ∃ r ∈ rs, termOf b rs i = r.1 := by
  unfold termOf rowAt
  split
  · rename_i r h
    split at h
    · exact Or.inr ⟨r, List.mem_of_getElem? h, rfl⟩
    · cases h
  · exact Or.inl rfl
theorem Grow.nil : Grow [] 1 := ⟨fun r hr => by simp at hr, List.Pairwise.nil, by decide, by decide⟩
theorem Grow.snoc {rs : List Rw} {t t' : Int} (h : Grow rs t) (h1 : t ≤ t') (h2 : t' ≤ t + 2) (e : En) : Grow (rs ++ [(t', e)]) t' := by
  refine ⟨fun r hr => ?_, ?_, by have := h.t1; omega, ?_⟩
  · rcases List.mem_append.1 hr with hr | hr
    · have := h.lo r hr; omega
    · simp at hr; subst hr; have := h.t1; exact ⟨by show 1 ≤ t'; omega, Int.le_refl _⟩
  · rw [List.pairwise_append]
    refine ⟨h.up, List.pairwise_singleton _ _, fun a ha c hc => ?_⟩
    simp at hc; subst hc
    have := h.lo a ha
    show a.1 ≤ t'; omega
  · rw [List.length_append, List.length_singleton]; have := h.hi; omega
theorem Grow.term {rs : List Rw} {t : Int} (h : Grow rs t) (b i : Int) : 0 ≤ termOf b rs i ∧ termOf b rs i ≤ t := by
  rcases termOf_mem b rs i with e | ⟨r, hr, e⟩
  · rw [e]; have := h.t1; omega
  · rw [e]; have := h.lo r hr; omega

set_option maxRecDepth 20000 in
set_option maxHeartbeats 4000000 in
theorem grown_any (ao : Option Addr) (n cap : Nat) (ys : List Int) (hn : ys.length = n) (w : World) (hb : IntsR w ao ys) :
    Calls Try.prog 7 #[.slice ao n cap] w fun x w' => ∃ (D : Nat → Prop) (rs : List Rw) (t : Int), x = .returned (.pointer (some ⟨w.heap.size, 0, none⟩)) ∧ Hs D w' w.heap.size 0 rs ∧ (∀ k, D k → w.heap.size ≤ k) ∧ Grow rs t ∧ rs.length = min n 40 ∧ Below w.heap.size w w' := by
  have NE := hide (hnew_any 0 w)
  have HB := hide hb
  have HN := hide hn
  clear hb hn
  go_enter Try.func7, Try.ntmps7
  go_wp2_with fail
  refine (unhide NE).mono ?_
  rintro x w1 ⟨rfl, h1, b1⟩
  have H1 := hide h1
  have B1 := hide b1
  clear h1 b1 NE
  go_wp2_with fail
  go_loopw [5, 4, 6, 7] (fun iv tv _ _ wr => ∃ (k : Nat) (t : Int) (D : Nat → Prop) (rs : List Rw), k ≤ n ∧ k ≤ 40 ∧ iv = .int .i64 (k : Int) ∧ tv = .int .i64 t ∧ Hs D wr w.heap.size 0 rs ∧ (∀ j, D j → w.heap.size ≤ j) ∧ Grow rs t ∧ rs.length = k ∧ Below w.heap.size w wr) (fun iv _ _ _ _ => 40 - (intOf iv).toNat)
  case atStart => exact ⟨0, 1, _, [], Nat.zero_le _, by decide, rfl, rfl, unhide H1, fun j hj => by rw [hj]; exact Nat.le_refl _, Grow.nil, rfl, unhide B1⟩
  case round =>
    obtain ⟨k, t, D, rs, hkn, hk4, rfl, rfl, hs, hd, hg, hl, hbel⟩ := hrel
    have HS := hide hs
    have HD := hide hd
    have HG := hide hg
    have HL := hide hl
    have B := hide hbel
    clear hs hd hg hl hbel
    by_cases hlt : k < n
    · by_cases h40 : k < 40
      · obtain ⟨a1, rfl, c1⟩ := (unhide HB) k (by rw [unhide HN]; exact hlt)
        have c2 : wr.cell? (a1.add k) = some (.int .i64 (ys.getD k 0)) := by rw [(unhide B).cell (blk_lt c1)]; exact c1
        obtain ⟨y, hy⟩ : ∃ y, ys.getD k 0 = y := ⟨_, rfl⟩
        rw [hy] at c2
        have hq : (k : Int) < (n : Int) := by omega
        have hq4 : (k : Int) < 40 := by omega
        have WI := hide (within_any y 3 wr (by decide) (by decide))
        have hm0 := Int.emod_nonneg y (show (3 : Int) ≠ 0 by decide)
        have hm1 := Int.emod_lt_of_pos y (show (0 : Int) < 3 by decide)
        obtain ⟨m, hm⟩ : ∃ m, y % 3 = m := ⟨_, rfl⟩
        rw [hm] at WI hm0 hm1
        have ht1 := (unhide HG).t1
        have ht2 := (unhide HG).hi
        rw [unhide HL] at ht2
        have wr1 : IntKind.i64.wrap (t + m) = t + m := IntWalk.i64_in _ (by omega)
        have wr2 : IntKind.i64.wrap ((k : Int) + 1) = (k : Int) + 1 := IntWalk.i64_in _ (by omega)
        obtain ⟨t', ht'⟩ : ∃ t', t + m = t' := ⟨_, rfl⟩
        rw [ht'] at wr1
        have wr3 : IntKind.i64.wrap (t + m) = t' := by rw [ht']; exact wr1
        have hgr := (unhide HG).snoc (t' := t') (by omega) (by omega) (enOf 1 1 ((k : Int) + 1))
        have hno : appNo 0 rs t' 1 = 0 := by
          unfold appNo
          have := (unhide HG).term 0 (0 + (rs.length : Int))
          rw [if_pos ⟨by omega, by omega⟩, if_pos (by rw [unhide HL]; omega)]
        obtain ⟨W, hW⟩ : ∃ W, wr.alloc (.cells #[.int .i64 1, .int .i64 1, .int .i64 ((k : Int) + 1), .string ⟨#[]⟩, .slice none 0 0, .int .i64 0] 32) = W := ⟨_, rfl⟩
        have bW : Below wr.heap.size wr W := by rw [← hW]; exact (Below.refl _ wr).alloc (Nat.le_refl _) _
        have sW : wr.heap.size < W.heap.size := by rw [← hW]; simp
        have hE : EsR (fun j => j = wr.heap.size) W (some ⟨wr.heap.size, 0, none⟩) [enOf 1 1 ((k : Int) + 1)] := by
          rw [← hW]; exact es_lit wr _ (fun e he => by simp at he; rw [he]; rfl) _ rfl
        have AP := hide (append_any ((unhide HS).below bW) ⟨by decide, by decide, by rw [unhide HL]; omega⟩ t' (some ⟨wr.heap.size, 0, none⟩) 1 1 [enOf 1 1 ((k : Int) + 1)] rfl (by decide) hE (fun j hj x => by have := (unhide HS).lt j x; omega) (fun j hj => by rw [hj]; exact sW))
        have e1 : appN 0 rs t' 1 = (k : Int) + 1 := by unfold appN; rw [if_pos hno, unhide HL]; omega
        have e2 : appRows 0 rs t' [enOf 1 1 ((k : Int) + 1)] = rs ++ [(t', enOf 1 1 ((k : Int) + 1))] := by unfold appRows; rw [if_pos (show appNo 0 rs t' [enOf 1 1 ((k : Int) + 1)].length = 0 from hno)]; rfl
        rw [e1, e2, hno] at AP
        have HW := hide hW
        have BW := hide bW
        have GR := hide hgr
        clear hW bW sW hE e1 e2 hno hgr c1 hy hm ht'
        go_wp2_with fail
        refine (unhide WI).mono ?_
        rintro x w2 ⟨rfl, hw⟩
        replace hw := hw.symm
        subst hw
        clear WI
        go_wp2_with fail
        rw [unhide HW]
        refine (unhide AP).mono ?_
        rintro x w3 ⟨rfl, h3, k3⟩
        have H3 := hide h3
        have B3 := hide ((below_far (unhide B) (unhide BW)).trans (k3.below (unhide HD) (below_far (unhide B) (unhide BW)).size))
        have S3 := hide (Nat.le_trans (unhide B).size (unhide BW).size)
        clear h3 k3 AP c2
        go_wp2
        go_roundw
        case rel => exact ⟨k + 1, t', _, _, by omega, by omega, by go_num, rfl, unhide H3, fun j hj => hj.elim (unhide HD j) (fun y => Nat.le_trans (unhide S3) y.1), unhide GR, by rw [List.length_append, unhide HL]; rfl, unhide B3⟩
        case measure => simp [intOf]; omega
      · obtain rfl : k = 40 := by omega
        have hq : ((40 : Nat) : Int) < (n : Int) := by omega
        go_wp2
        go_ret
        exact ⟨_, _, _, rfl, unhide HS, unhide HD, unhide HG, by rw [unhide HL]; omega, unhide B⟩
    · obtain rfl : k = n := by omega
      go_wp2
      go_ret
      exact ⟨_, _, _, rfl, unhide HS, unhide HD, unhide HG, by rw [unhide HL]; omega, unhide B⟩
end Go.Proofs.Ythebgkkdkhlbbab
