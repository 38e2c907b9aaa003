/- synodallaw19.called: a contract. -/
import Derived.Test.YtndpkpkijfplaaaGVRow
namespace Go.Proofs.Ytndpkpkijfplaaa
open Go.RowKit Go.Maps
attribute [local go_sem ↓] Go.wp_at_zero Go.wp_at_succ

/-- a call. -/
def callEv (c s : Nat) : Ev := ⟨1, c, s, 0, askE c s, []⟩
def callsIn (c : Nat) (s : Nat) : List Ev := (List.range s).map fun k => callEv c (k + 1)
def callsTo (c s : Nat) : List Ev := (List.range c).flatMap fun i => callsIn (i + 1) s
theorem callsIn_succ (c k : Nat) : callsIn c (k + 1) = callsIn c k ++ [callEv c (k + 1)] := by simp [callsIn, List.range_succ]
theorem callsTo_succ (c s : Nat) : callsTo (c + 1) s = callsTo c s ++ callsIn (c + 1) s := by simp [callsTo, List.range_succ]
theorem callsIn_len (c s : Nat) : (callsIn c s).length = s := by simp [callsIn]
theorem callsTo_len (c s : Nat) : (callsTo c s).length = c * s := by
  induction c with
  | zero => simp [callsTo]
  | succ c ih => rw [callsTo_succ, List.length_append, ih, callsIn_len, Nat.succ_mul]
set_option maxRecDepth 20000 in
set_option maxHeartbeats 4000000 in
theorem called_any (c s : Nat) (hc : c ≤ 8) (hs : s ≤ 8) (w : World) : Calls Try.prog 17 #[.int .i64 (c : Int), .int .i64 (s : Int)] w fun e w' => ∃ v xs, e = .returned v ∧ VR w.heap.size none w' v xs ∧ xs.map Prod.fst = callsTo c s ∧ Below w.heap.size w w' := by
  go_enter Try.func17, Try.ntmps17
  go_wp2_with fail
  go_loopw [5, 6, 7] (fun v i _ wr => ∃ (k : Nat) (xs : List Evx), k ≤ c ∧ i = .int .i64 ((k : Int) + 1) ∧ VR w.heap.size none wr v xs ∧ xs.map Prod.fst = callsTo k s ∧ Below w.heap.size w wr) (fun _ i _ _ => c + 1 - (intOf i).toNat)
  case atStart => exact ⟨0, [], Nat.zero_le _, rfl, VR.nil _ _ _, rfl, Below.refl _ _⟩
  case round =>
    obtain ⟨k, xs, hk, rfl, hv, hx, hb⟩ := hrel
    have HV := hide hv
    have HX := hide hx
    have HB := hide hb
    clear hv hx hb
    by_cases hlt : k < c
    · have q : (k : Int) + 1 ≤ c := by omega
      go_wp2_with fail
      go_loopw [5, 7] (fun v j wr => ∃ (m : Nat) (xs : List Evx), m ≤ s ∧ j = .int .i64 ((m : Int) + 1) ∧ VR w.heap.size none wr v xs ∧ xs.map Prod.fst = callsTo k s ++ callsIn (k + 1) m ∧ Below w.heap.size w wr) (fun _ j _ => s + 1 - (intOf j).toNat)
      case atStart => exact ⟨0, xs, Nat.zero_le _, rfl, unhide HV, by rw [unhide HX]; simp [callsIn], unhide HB⟩
      case round =>
        clear HV HX HB
        obtain ⟨m, ys, hm, rfl, hv, hx, hb⟩ := hrel
        have HV := hide hv
        have HX := hide hx
        have HB := hide hb
        clear hv hx hb
        by_cases hlt2 : m < s
        · have q2 : (m : Int) + 1 ≤ s := by omega
          have AK := ask_any (k + 1) (m + 1) (by omega) (by omega) wr
          rw [show (((k + 1 : Nat)) : Int) = (k : Int) + 1 by omega, show (((m + 1 : Nat)) : Int) = (m : Int) + 1 by omega] at AK
          obtain ⟨x, hxe⟩ : ∃ x : Evx, (callEv (k + 1) (m + 1), none, 0) = x := ⟨_, rfl⟩
          obtain ⟨e, he⟩ : ∃ e, askE (k + 1) (m + 1) = e := ⟨_, rfl⟩
          have hems : e.ms = [] := by rw [← he]; rfl
          rw [he] at AK
          have AK2 : Calls Try.prog 18 #[.int .i64 ((k : Int) + 1), .int .i64 ((m : Int) + 1)] wr fun z w' => z = .returned (.agg #[.int .i64 e.kind, .int .i64 e.client, .int .i64 e.seq, .string e.text, .slice none 0 0, .int .i64 e.dest]) ∧ Below wr.heap.size wr w' := by
            refine AK.mono fun z w' h => ⟨?_, h.2⟩
            have := h.1
            unfold ev at this
            rw [hems] at this
            exact this
          have AKH := hide AK2
          have XV : Hid ((c11 x).toArray = #[.int .i64 1, .int .i64 ((k : Int) + 1), .int .i64 ((m : Int) + 1), .int .i64 0, .int .i64 e.kind, .int .i64 e.client, .int .i64 e.seq, .string e.text, .slice none 0 0, .int .i64 e.dest, .slice none 0 0]) := by
            show _ = _
            rw [← hxe, ← he]
            simp [c11, callEv]
          have OK : Hid (∀ Y, EvOk w.heap.size none Y x) := fun Y => by
            rw [← hxe]
            exact ⟨rfl, ⟨wf_range (by simp only [callEv]; omega), wf_range (by simp only [callEv]; omega), wf_range (by simp only [callEv]; omega)⟩, EsR.nil _ _ _, fun e he => by simp [callEv] at he, by simp [callEv], by simp [callEv]⟩
          have XE : Hid (x.1 = callEv (k + 1) (m + 1)) := by show _ = _; rw [← hxe]
          have hyl : ys.length ≤ 1000 := by
            have h1 := congrArg List.length (unhide HX)
            rw [List.length_map, List.length_append, callsTo_len, callsIn_len] at h1
            have h2 : k * s ≤ 8 * 8 := Nat.mul_le_mul (by omega) hs
            omega
          have HYL := hide hyl
          clear AK AK2 hxe he hems hyl
          go_wp2_with fail
          refine (unhide AKH).mono ?_
          rintro z w1 ⟨rfl, b1⟩
          obtain ⟨V, hV⟩ : ∃ V, w1.alloc (.cells #[.int .i64 1, .int .i64 ((k : Int) + 1), .int .i64 ((m : Int) + 1), .int .i64 0, .int .i64 e.kind, .int .i64 e.client, .int .i64 e.seq, .string e.text, .slice none 0 0, .int .i64 e.dest, .slice none 0 0] 31) = V := ⟨_, rfl⟩
          have bV : Below w1.heap.size w1 V := by rw [← hV]; exact (Below.refl _ w1).alloc (Nat.le_refl _) _
          have xV : V.heap[w1.heap.size]? = some (.cells (c11 x).toArray 31 (0, 0)) := by rw [unhide XV, ← hV]; exact box_at w1 _
          have bb := below_far b1 bV
          have hwb := (unhide HB).size
          obtain ⟨v', w2, hr2, hv2, hg2, -⟩ := ((unhide HV).below bb).push 22 w1.heap.size x xV (unhide OK V) (by have := unhide HYL; omega) (Nat.le_trans hwb bb.size)
          have FIN : Hid (VR w.heap.size none w2 v' (ys ++ [x]) ∧ (ys ++ [x]).map Prod.fst = callsTo k s ++ callsIn (k + 1) (m + 1) ∧ Below w.heap.size w w2) := by
            refine ⟨hv2, ?_, ((unhide HB).trans (bb.mono hwb)).grown hg2 (Nat.le_trans hwb bb.size) (fun k' hk' => (((unhide HV).below bb).1.lt k' hk').1)⟩
            rw [List.map_append, unhide HX, callsIn_succ]
            simp [unhide XE]
          have HVV := hide hV
          have HR2 := hide hr2
          clear hV bV xV bb hwb hv2 hg2 hr2 b1
          go_wp2_with (rw [unhide HVV]; with_reducible refine wpList_appEn rfl (.tmp 18) (.tmp 25) 22 rfl (by with_unfolding_all rfl) (by with_unfolding_all rfl) (unhide HR2) ?_)
          go_roundw
          case rel => exact ⟨m + 1, _, by omega, by go_num, unhide FIN⟩
          case measure => simp [intOf]; omega
        · have q2 : ¬ (m : Int) + 1 ≤ s := by omega
          obtain rfl : m = s := by omega
          go_wp2_with fail
          go_roundw
          case rel => exact ⟨k + 1, ys, by omega, by go_num, unhide HV, by rw [unhide HX, callsTo_succ], unhide HB⟩
          case measure => simp [intOf]; omega
    · have q : ¬ (k : Int) + 1 ≤ c := by omega
      obtain rfl : k = c := by omega
      go_wp2
      go_ret
      exact ⟨_, rfl, xs, unhide HV, unhide HX, unhide HB⟩
end Go.Proofs.Ytndpkpkijfplaaa
