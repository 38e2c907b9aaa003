/- The reference's Members: a contract, and that both tell the same. -/
import Derived.Test.YtjcidihcmbenhaaKRef
namespace Go.Proofs.Ytjcidihcmbenhaa
open Go.RowKit

def memB (old new : List Int) (k : Nat) : Bool := inOf old new (k : Int)
theorem mem_allOf (β : Nat → Bool) (z : Int) : ∀ n, z ∈ allOf β n ↔ ∃ k : Nat, k < n ∧ β k = true ∧ z = (k : Int)
  | 0 => by simp [allOf]
  | n + 1 => by
    have ih := mem_allOf β z n
    by_cases h : β n = true
    · rw [all_yes h, List.mem_append, ih, List.mem_singleton]
      constructor
      · rintro (⟨k, h1, h2, h3⟩ | e)
        · exact ⟨k, by omega, h2, h3⟩
        · exact ⟨n, by omega, h, e⟩
      · rintro ⟨k, h1, h2, h3⟩
        by_cases hk : k < n
        · exact Or.inl ⟨k, hk, h2, h3⟩
        · obtain rfl : k = n := by omega
          exact Or.inr h3
    · have h' : β n = false := by simpa using h
      rw [all_no h', ih]
      constructor
      · rintro ⟨k, h1, h2, h3⟩; exact ⟨k, by omega, h2, h3⟩
      · rintro ⟨k, h1, h2, h3⟩
        by_cases hk : k < n
        · exact ⟨k, hk, h2, h3⟩
        · obtain rfl : k = n := by omega
          exact absurd h2 h
theorem members_same {old new : List Int} (ho : Up old) (hn : Up new) : ris (old ++ new) = allOf (memB old new) 9 := by
  refine up_eq _ _ (ris_sorted _) (all_up _ 9).1 fun z => ?_
  rw [mem_ris, mem_allOf, List.mem_append]
  constructor
  · intro h
    have hz : 0 ≤ z ∧ z < 9 := by
      rcases h with h | h
      · exact ho.2 z h
      · exact hn.2 z h
    refine ⟨z.toNat, by omega, ?_, by omega⟩
    unfold memB inOf
    rw [show ((z.toNat : Nat) : Int) = z by omega, Bool.or_eq_true, List.contains_iff_mem, List.contains_iff_mem]; exact h
  · rintro ⟨k, _, h2, rfl⟩
    unfold memB inOf at h2
    rw [Bool.or_eq_true, List.contains_iff_mem, List.contains_iff_mem] at h2; exact h2

set_option maxHeartbeats 1000000 in
theorem rmembers_any (ao an : Option Addr) (no nn co cn : Nat) (old new : List Int) (hno : old.length = no) (hnn : new.length = nn) (hlo : no ≤ 1000000) (hln : nn ≤ 1000000) (w : World) (ho : IntsR w ao old) (hw : IntsR w an new) :
    Calls Try.prog 20 #[.agg #[.slice ao no co, .slice an nn cn]] w fun e w' => ∃ am m cm, e = .returned (.slice am m cm) ∧ (allOf (memB old new) 9).length = m ∧ Fr w' am (allOf (memB old new) 9) ∧ Below w.heap.size w w' := by
  obtain ⟨W, hW, bW, xW, -⟩ := boxed w (.slice ao no co) (.slice an nn cn)
  have IN := hide (fun (Y : World) (h : Below W.heap.size W Y) (x : Int) => rin_any ao an no nn co cn old new hno hnn hlo hln x Y ((ho.below bW).below h) ((hw.below bW).below h))
  have HW := hide hW
  have BW := hide bW
  have XW := hide xW
  clear hW bW xW ho hw hno hnn
  go_enter Try.func20, Try.ntmps20
  go_upto_region 1 with fail
  rw [unhide HW]
  clear HW
  go_wp2_with fail
  go_loopw [4, 3] (fun i s wr => ∃ (k : Nat), k ≤ 9 ∧ i = .int .i64 k ∧ Ir W.heap.size wr s (allOf (memB old new) k) ∧ Below W.heap.size W wr) (fun i _ _ => 9 - (intOf i).toNat)
  case atStart => exact ⟨0, Nat.zero_le _, rfl, Ir.nil _ _, Below.refl _ _⟩
  case round =>
    obtain ⟨k, hk, rfl, hown, hbel⟩ := hrel
    have hlen := (all_up (memB old new) k).2.2
    obtain ⟨l, hll⟩ : ∃ l, allOf (memB old new) k = l := ⟨_, rfl⟩
    rw [hll] at hown hlen
    have HLL := hide hll
    have HO := hide hown
    have BEL := hide hbel
    clear hown hbel hll
    by_cases hlt : k < 9
    · have q : (k : Int) < 9 := by omega
      have HLN : Hid (l.length + 1 ≤ 1000000000) := by show _ ≤ _; omega
      obtain ⟨c0, c1⟩ := two_cells (Below.stay (unhide BEL) (unhide XW))
      have I1 := hide (unhide IN _ (unhide BEL) (k : Int))
      have YES := hide (all_yes (β := memB old new) (k := k))
      have NO := hide (all_no (β := memB old new) (k := k))
      rw [unhide HLL] at YES NO
      obtain ⟨r, hr⟩ : ∃ r, inOf old new (k : Int) = r := ⟨_, rfl⟩
      have hr' : memB old new k = r := hr
      rw [hr] at I1
      rw [hr'] at YES NO
      clear hr hr' hlen
      go_wp2_with fail
      refine (unhide I1).mono ?_
      rintro e w1 ⟨rfl, b1⟩
      have B1 := hide ((unhide BEL).trans (b1.mono (unhide BEL).size))
      have O1 := hide ((unhide HO).below b1)
      have sz := (unhide B1).size
      clear b1 I1 c0 c1
      cases r
      · have N1 := hide (unhide NO rfl)
        clear YES NO
        go_wp2
        go_roundw
        case rel => exact ⟨k + 1, by omega, by go_num, by rw [unhide N1]; exact unhide O1, unhide B1⟩
        case measure => simp [intOf]; omega
      · have N1 := hide (unhide YES rfl)
        clear YES NO
        go_wp2_with (at_builtin; refine wpList_app rfl (.tmp 12) (.tmp 14) rfl W.heap.size _ l rfl ((unhide O1).below ((Below.refl _ _).alloc (Nat.le_refl _) _)) (some ⟨w1.heap.size, 0, none⟩) 1 1 [(k : Int)] rfl rfl (one_int _ _) (unhide HLN) (by simp; omega) ?_)
        intro v' w' own' g'
        have OWN := hide own'
        have B' := hide (((unhide O1).below ((Below.refl _ _).alloc (Nat.le_refl _) (.cells #[.int .i64 (k : Int)] 3))).grown g' ((unhide B1).alloc sz _) (by simp; omega))
        clear own' g'
        go_wp2
        go_roundw
        case rel => exact ⟨k + 1, by omega, by go_num, by rw [unhide N1]; exact unhide OWN, unhide B'⟩
        case measure => simp [intOf]; omega
    · obtain rfl : k = 9 := by omega
      have hl2 : (allOf (memB old new) 9).length = l.length := by rw [unhide HLL]
      obtain ⟨am, cm, rfl, fm, _, _⟩ := (unhide HO).slice
      have FM := hide fm
      clear hlen fm hl2
      go_wp2
      go_ret
      exact ⟨am, _, cm, rfl, by rw [unhide HLL], by rw [unhide HLL]; exact unhide FM, (unhide BW).trans ((unhide BEL).mono (unhide BW).size)⟩
end Go.Proofs.Ytjcidihcmbenhaa
