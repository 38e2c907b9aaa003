/- tape.copied, tape.picked; Append, Sync, Replace, Bytes: contracts. -/
import Derived.Test.YtnagfoclbdlenaaGreatDoorTTape
import Derived.Laws.CopyOwn
import Derived.Maps.AppendAt
namespace Go.Proofs.YtnagfoclbdlenaaGreatDoor
open Go.RowKit

theorem Bytes.far {base : Nat} {f : Nat → Prop} {w w' : World} {ao : Option Addr} {bs : List Nat} (h : Bytes w ao bs) (hk : Kept base f w w') (hf : ∀ a, ao = some a → ¬ f a.block) : Bytes w' ao bs :=
  h.kept fun a i u hc ea => by
    have hl := blk_lt hc
    rw [add_block] at hl
    rw [World.cell?_of_block (w := w) (by rw [add_block]; exact hk.2 _ hl (hf a ea))]; exact hc
theorem Tryz.size5 : (Tryz.prog.info? 5).map (·.size) = some 1 := by kernel_rfl
theorem splice_all {α : Type} (L cs : List α) (h : L.length = cs.length) : splice L 0 cs = cs := by
  simp [splice, List.drop_of_length_le (Nat.le_of_eq h)]

set_option maxRecDepth 8000 in
theorem copied_any (ao : Option Addr) (n cap : Nat) (bs : List Nat) (hn : bs.length = n) (w : World) (hb : Bytes w ao bs) (hl : n ≤ 100000000000) :
    Calls Tryz.prog 31 #[.slice ao n cap] w fun e w' => ∃ v, e = .returned v ∧ Own w.heap.size w' v bs ∧ Below w.heap.size w w' := by
  obtain ⟨i0, hi, hz0, hz1, hz2⟩ := info_parts Tryz.info5
  have HB := hide hb
  have HN := hide hn
  clear hb hn
  go_enter Tryz.func31, Tryz.ntmps31
  go_wp2_with (at_make; refine wpList_make_full _ rfl _ _ 38 rfl w.heap.size 5 i0 (.int .u8 0) 1 Tryz.underlying38 hi hz0 hz1 .i64 .i64 _ _ n rfl rfl rfl rfl (by rw [hz2]; omega) (by unfold maxLen; omega) (Nat.le_refl _) ?_)
  intro w1 hown1 hgrow1
  obtain ⟨cur, hg, hcs⟩ : ∃ cur : Array Value, w1.heap[w.heap.size]? = some (.cells cur.toList.toArray 5 (0, 0)) ∧ cur.toList.length = n := by
    rcases hown1.2 with ⟨h, _⟩ | ⟨g, cap, cur, hv, _, hh, _, _, hc, _⟩
    · cases h
    · cases hv
      exact ⟨cur, by simpa using hh, by simpa using hc⟩
  have b1 : Below w.heap.size w w1 := (Below.refl _ _).grown hgrow1 (Nat.le_refl _) (fun k hk => by cases hk)
  have hmin : (u8s bs).length = Nat.min n n := by rw [show Nat.min n n = n from Nat.min_self n]; simp [u8s, unhide HN]
  have hfit : 0 + (u8s bs).length ≤ cur.toList.length := by rw [hcs]; simp [u8s, unhide HN]
  have hpos : 0 < (u8s bs).length → ∃ ad, ao = some ad ∧ ∀ j v, (u8s bs)[j]? = some v → w1.cell? (ad.add j) = some v := by
    intro h0
    cases ao with
    | none => have e := (unhide HB).none_nil; subst e; simp at h0
    | some a => exact ⟨a, rfl, ((unhide HB).below b1).news⟩
  have HG := hide hg
  have HC := hide hcs
  have B1 := hide b1
  have HM := hide hmin
  have HF := hide hfit
  have HPO := hide hpos
  clear hg hcs b1 hown1 hgrow1 hmin hfit hpos
  go_wp2_with (refine wpList_copy_splice rfl (.tmp 7) (.tmp 8) 38 38 rfl 5 Tryz.underlying38 Tryz.size5 _ _ _ _ _ _ rfl rfl w.heap.size 0 cur.toList 5 (unhide HG) (u8s bs) (unhide HM) (fun h0 => ⟨rfl, unhide HPO h0⟩) (unhide HF) (u8s_one bs) w.heap.size w (unhide B1) (Nat.le_refl _) ?_)
  intro w2 hg2 hb2
  have B2 := hide hb2
  clear hb2
  go_wp2
  go_ret
  have hg3 := unhide hg2
  rw [splice_all _ _ (by rw [unhide HC]; simp [u8s, unhide HN])] at hg3
  refine ⟨_, rfl, ⟨⟨by simp [u8s], Or.inr ⟨w.heap.size, n, _, by rw [unhide HN]; rfl, Nat.le_refl _, hg3, by rw [unhide HN]; exact Nat.le_refl _, by unfold maxLen; omega, by simp [u8s, unhide HN], ?_⟩⟩, (unhide HB).1⟩, unhide B2⟩
  rw [Nat.mul_one, List.take_of_length_le (by simp [u8s])]

theorem picked_any (n m : Int) (w : World) (h1 : 0 < m) (h2 : m ≤ 1000000000000) :
    Calls Tryz.prog 32 #[.int .i64 n, .int .i64 m] w fun ev w' => ev = .returned (.int .i64 (n % m)) ∧ w' = w := by
  have hb := Int.emod_nonneg n (show m ≠ 0 by omega)
  have hl := Int.emod_lt_of_pos n h1
  have ht : n.tmod m = n % m ∨ n.tmod m = n % m - m := by
    have h := @Int.tmod_eq_emod n m
    split at h
    · left; simpa using h
    · right; omega
  have hz : (m == 0) = false := by simp; omega
  by_cases hn : n.tmod m < 0
  · have he : n.tmod m + m = n % m := by omega
    have lo : -1000000000000 ≤ n.tmod m := by omega
    have HE := hide he
    clear ht he hb hl
    go_enter Tryz.func32, Tryz.ntmps32
    go_wp2
    go_ret
    refine ⟨ret_int ?_, rfl⟩
    exact unhide HE
  · have he : n.tmod m = n % m := by omega
    have HE := hide he
    clear ht he hb hl
    go_enter Tryz.func32, Tryz.ntmps32
    go_wp2
    go_ret
    refine ⟨ret_int ?_, rfl⟩
    exact unhide HE
theorem bytes_any (base p : Nat) (q : Option Nat) (s : St) (w : World) (h : Tp base w p q s) :
    Calls Tryz.prog 18 #[.pointer (some ⟨p, 0, none⟩)] w fun e w' => ∃ v, e = .returned v ∧ Own w.heap.size w' v s.bs ∧ Below w.heap.size w w' := by
  obtain ⟨room, bs, syn, ops, left, dead⟩ := s
  obtain ⟨v, hv, hbp, hp, hown, hk⟩ := h
  simp only at hp hown hk
  obtain ⟨ao, cap, rfl, hc, _, hby, _⟩ := hown.slice
  have c1 : w.cell? ⟨p, 1, none⟩ = some (.slice ao bs.length cap) := (cell_of_block hp).trans rfl
  have hl : bs.length ≤ 100000000000 := by omega
  have HB := hide hby
  clear hp hown hk hv hby
  go_enter Tryz.func18, Tryz.ntmps18
  go_wp2_with fail
  refine (copied_any ao bs.length cap bs rfl w (unhide HB) hl).mono ?_
  rintro e w1 ⟨v1, rfl, o1, b1⟩
  have O1 := hide o1
  have B1 := hide b1
  clear o1 b1
  go_wp2
  go_ret
  exact ⟨_, rfl, unhide O1, unhide B1⟩

theorem begin_same (s : St) (n : Nat) : (s.begin n).2.bs = s.bs ∧ (s.begin n).2.room = s.room ∧ (s.begin n).2.syn = s.syn := by
  unfold St.begin
  split
  · exact ⟨rfl, rfl, rfl⟩
  split
  · exact ⟨rfl, rfl, rfl⟩
  split
  · exact ⟨rfl, rfl, rfl⟩
  split
  · exact ⟨rfl, rfl, rfl⟩
  · exact ⟨rfl, rfl, rfl⟩
theorem begin_fits (s : St) (n : Nat) (h : (s.begin n).1 = 0 ∨ (s.begin n).1 = 1) : n ≤ s.room := by
  unfold St.begin at h
  split at h
  · simp at h
  split at h
  · simp at h
  · omega

/-- where a row lies behind a call: where it lay, or in a new block. -/
def Fresh (w : World) (q q' : Option Nat) : Prop := ∀ k, q' = some k → q = some k ∨ w.heap.size ≤ k
theorem Fresh.refl (w : World) (q : Option Nat) : Fresh w q q := fun _ h => Or.inl h

def St.sync (s : St) : Nat × St := (numOf (s.begin s.bs.length).1, if (s.begin s.bs.length).1 = 0 then { (s.begin s.bs.length).2 with syn := s.bs.length } else (s.begin s.bs.length).2)

end Go.Proofs.YtnagfoclbdlenaaGreatDoor
