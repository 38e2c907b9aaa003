/- wire's writer: a text, an entry: contracts. -/
import Derived.Test.YtjcllplgiffmgaaDoorWriterL
import Derived.Lib.AppendStr
namespace Go.Proofs.YtjcllplgiffmgaaDoor
open Go.RowKit

def bytesOf (t : ByteArray) : List Nat := t.data.toList.map UInt8.toNat
theorem bytesOf_cells (t : ByteArray) : u8s (bytesOf t) = Lib.strCells t := by simp [u8s, bytesOf, Lib.strCells]
theorem bytesOf_lt (t : ByteArray) : ∀ x ∈ bytesOf t, x < 256 := by
  intro x hx
  simp only [bytesOf, List.mem_map] at hx
  obtain ⟨b, _, rfl⟩ := hx
  exact b.toNat_lt
theorem bytesOf_len (t : ByteArray) : (bytesOf t).length = t.size := by rw [bytesOf, List.length_map]; rfl
def putText (t : ByteArray) (s : List Nat × Nat) : List Nat × Nat :=
  if s.2 = 0 ∧ refuse 4 t.size = 0 then ((putRule 4 t.size s).1 ++ bytesOf t, 0) else putRule 4 t.size s

theorem Wr.below {base : Nat} {w w' : World} {p : Nat} {bs : List Nat} {er : Nat} (h : Wr base w p bs er) (hb : Below w.heap.size w w') : Wr base w' p bs er := by
  obtain ⟨v, ev, hp, hbp, ho, herr⟩ := h
  have k : Only 0 [] w w' := Only.of_below hb (Nat.zero_le _)
  exact ⟨v, ev, k.block hp (by simp), hbp, ho.below hb, herr.only k (by simp)⟩

set_option maxRecDepth 20000 in
set_option maxHeartbeats 1000000 in
theorem text_any (base p : Nat) (s : List Nat × Nat) (t : ByteArray) (hl : s.1.length ≤ 900000000) (_ht : t.size ≤ maxLen) (w : World) (h : Wr base w p s.1 s.2) (hbase : base ≤ w.heap.size) :
    Calls Tryd.prog 60 #[.pointer (some ⟨p, 0, none⟩), .string t] w fun e w' => e = .returned (.tuple #[]) ∧ Wr base w' p (putText t s).1 (putText t s).2 ∧ Only base [5, 105] w w' := by
  obtain ⟨i0, hi, hz0, hz1, hz2⟩ := info_parts Tryd.info5
  have HW := hide h
  clear h
  by_cases hc : s.2 = 0 ∧ refuse 4 t.size = 0
  · have e1 : putText t s = ((putRule 4 t.size s).1 ++ bytesOf t, 0) := by unfold putText; rw [if_pos hc]
    have e2 : (putRule 4 t.size s).2 = 0 := by unfold putRule; rw [if_neg (by simp [hc.1]), if_neg (by simp [hc.2])]
    have hr := (refuse_range hc.2).2
    have hd : decide (s.2 = 0 ∧ refuse 4 t.size = 0) = true := decide_eq_true hc
    have hpl := putRule_len 4 t.size s
    rw [e1]
    have HD := hide hd
    have HE2 := hide e2
    clear e1 e2 hc hd
    go_enter Tryd.func60, Tryd.ntmps60
    go_wp2_with fail
    refine (ruled_any base p 4 (by decide) s t.size (by omega) w (unhide HW) hbase).mono ?_
    rw [unhide HD]
    rintro e w1 ⟨rfl, h1, k1⟩
    rw [unhide HE2] at h1
    obtain ⟨v, ev, hp, hbp, ho, herr⟩ := h1
    have c0 : w1.cell? ⟨p, 0, none⟩ = some v := (cell_of_block hp).trans rfl
    have s1 : base ≤ w1.heap.size := Nat.le_trans hbase k1.size
    have hown := ho.1
    have HP := hide hp
    have HO := hide ho
    have HE := hide herr
    have K1 := hide k1
    clear hp ho herr k1
    go_wp2_with (at_builtin; refine Lib.wpList_append_own_string _ rfl (.tmp 12) (.tmp 13) 27 9 rfl base 5 i0 Tryd.underlying27 Tryd.underlying9 hi hz0 hz1 hz2 _ _ _ rfl hown t rfl (by unfold maxLen; omega) (by omega) s1 ?_)
    intro v2 w2 own2 g2 _
    have k2 : Only base [5] w1 w2 := (Only.refl base [5] w1).own hown g2 s1 (Nat.le_refl _) (by simp)
    have hp2 := k2.block (unhide HP) (by decide)
    have o2 : Own base w2 v2 ((putRule 4 t.size s).1 ++ bytesOf t) := by
      refine ⟨?_, ?_⟩
      · rw [List.length_append, bytesOf_len, show u8s ((putRule 4 t.size s).1 ++ bytesOf t) = u8s (putRule 4 t.size s).1 ++ u8s (bytesOf t) by simp [u8s], bytesOf_cells]; exact own2
      · intro x hx
        rcases List.mem_append.1 hx with h | h
        · exact (unhide HO).2 x h
        · exact bytesOf_lt t x h
    obtain ⟨bb, hbb⟩ : ∃ bb, (putRule 4 t.size s).1 ++ bytesOf t = bb := ⟨_, rfl⟩
    rw [hbb] at o2
    have HBB := hide hbb
    clear hbb
    obtain ⟨ao2, cap2, rfl, _⟩ := o2.slice
    have d0 : w2.cell? ⟨p, 0, none⟩ = some v := (cell_of_block hp2).trans rfl
    have f0 : w2.frozen? ⟨p, 0, none⟩ = false := free_of_block hp2
    have HP2 := hide hp2
    have K2 := hide k2
    have O2 := hide o2
    clear hp2 k2 o2 c0 hown own2 g2
    go_wp2
    go_end0
    have k3 : ∀ u, Only base [105] w2 (w2.setCell ⟨p, 0, none⟩ u) := fun u => (Only.refl _ _ _).setCell (p := ⟨p, 0, none⟩) hbp u (unhide HP2) (by simp)
    refine ⟨rfl, ?_, (unhide K1).trans (((unhide K2).mono (Nat.le_refl _) (by simp)).trans ((k3 _).mono (Nat.le_refl _) (by simp)))⟩
    show Wr base _ p ((putRule 4 t.size s).1 ++ bytesOf t) 0
    rw [unhide HBB]
    exact ⟨_, ev, setCell_block (unhide HP2), hbp, (unhide O2).only (k3 _) (by decide), ((unhide HE).only (unhide K2) (by decide)).only (k3 _) (by decide)⟩
  · have e1 : putText t s = putRule 4 t.size s := by unfold putText; rw [if_neg hc]
    have hd : decide (s.2 = 0 ∧ refuse 4 t.size = 0) = false := decide_eq_false hc
    rw [e1]
    have HD := hide hd
    clear e1 hc hd
    go_enter Tryd.func60, Tryd.ntmps60
    go_wp2_with fail
    refine (ruled_any base p 4 (by decide) s t.size (by omega) w (unhide HW) hbase).mono ?_
    rw [unhide HD]
    rintro e w1 ⟨rfl, h1, k1⟩
    have H1 := hide h1
    have K1 := hide k1
    clear h1 k1
    go_wp2
    go_end0
    exact ⟨rfl, unhide H1, unhide K1⟩
end Go.Proofs.YtjcllplgiffmgaaDoor
