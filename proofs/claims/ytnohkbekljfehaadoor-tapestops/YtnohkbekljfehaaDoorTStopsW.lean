/- The walk of TapeStops. -/
import Derived.Test.YtnohkbekljfehaaDoorTFrontsW
import Derived.Test.YtnohkbekljfehaaDoorTArgs
namespace Go.Proofs.YtnohkbekljfehaaDoor
open Go.RowKit

/-- what an operation that would be done makes of a tape that is to stop. -/
theorem begin_left (s : St) (size : Nat) (h2 : size ≤ s.room) : s.begin size =
    if s.dead = true then (13, s) else if s.left = 1 then (1, { s with left := 0, dead := true })
    else if 1 < s.left then (0, { s with left := s.left - 1, ops := s.ops + 1 }) else (0, { s with ops := s.ops + 1 }) := by
  unfold St.begin
  by_cases hd : s.dead = true
  · rw [if_pos hd, if_pos hd]
  · rw [if_neg hd, if_neg hd, if_neg (by omega)]

/-- a tape on its way to the stop at operation n, ahead of operation i. -/
structure Way (s : St) (n i : Nat) : Prop where
  room : s.room = 1000
  few : s.bs.length + 1 ≤ i
  syn : s.syn ≤ s.bs.length
  ops : s.ops = min (i - 1) (n - 1)
  dead : s.dead = decide (n < i)
  left : s.left = if n < i then 0 else ((n - i + 1 : Nat) : Int)
  pos : 1 ≤ i

/-- how an operation at place i ends. -/
def codeAt (n i : Nat) : Nat := if i < n then 0 else 13
theorem way_begin {s : St} {n i : Nat} (h : Way s n i) (hi : i ≤ 20) (hn : 1 ≤ n) (size : Nat) (hs : size ≤ i) :
    ((s.begin size).1 = 0 ↔ i < n) ∧ ((s.begin size).1 = 1 ↔ i = n) ∧ ((s.begin size).1 = 13 ↔ n < i) ∧ numOf (s.begin size).1 = codeAt n i ∧ (s.begin size).2.ops = min i (n - 1) ∧ (s.begin size).2.dead = decide (n ≤ i) ∧
    (s.begin size).2.left = (if n ≤ i then 0 else ((n - i : Nat) : Int)) ∧ (s.begin size).2.bs = s.bs ∧ (s.begin size).2.room = 1000 ∧ (s.begin size).2.syn = s.syn := by
  obtain ⟨room, bs, syn, ops, left, dead⟩ := s
  obtain ⟨h1, h2, h3, h4, h5, h6, h7⟩ := h
  simp only at h1 h2 h3 h4 h5 h6
  unfold codeAt numOf
  rcases Nat.lt_trichotomy i n with hlt | heq | hgt
  · rw [if_neg (by omega)] at h6
    rw [decide_eq_false (by omega)] at h5
    subst h1 h4 h5 h6
    have eb : St.begin ⟨1000, bs, syn, min (i - 1) (n - 1), ((n - i + 1 : Nat) : Int), false⟩ size = (0, ⟨1000, bs, syn, min (i - 1) (n - 1) + 1, ((n - i + 1 : Nat) : Int) - 1, false⟩) := by
      rw [begin_left _ _ (by simp only; omega), if_neg (by simp), if_neg (by simp only; omega), if_pos (by simp only; omega)]
    rw [eb, if_pos hlt, if_neg (show ¬ n ≤ i by omega), decide_eq_false (show ¬ n ≤ i by omega)]
    refine ⟨⟨fun _ => hlt, fun _ => rfl⟩, ⟨fun h => by simp at h, fun h => by omega⟩, ⟨fun h => by simp at h, fun h => by omega⟩, by simp, by simp only; omega, rfl, by simp only; omega, rfl, rfl, rfl⟩
  · subst heq
    rw [if_neg (by omega)] at h6
    rw [decide_eq_false (by omega)] at h5
    subst h1 h4 h5 h6
    have eb : St.begin ⟨1000, bs, syn, min (i - 1) (i - 1), ((i - i + 1 : Nat) : Int), false⟩ size = (1, ⟨1000, bs, syn, min (i - 1) (i - 1), 0, true⟩) := by
      rw [begin_left _ _ (by simp only; omega), if_neg (by simp), if_pos (by simp only; omega)]
    rw [eb, if_neg (Nat.lt_irrefl i), if_pos (Nat.le_refl i), decide_eq_true (Nat.le_refl i)]
    refine ⟨⟨fun h => by simp at h, fun h => by omega⟩, ⟨fun _ => rfl, fun _ => rfl⟩, ⟨fun h => by simp at h, fun h => by omega⟩, by simp, by simp only; omega, rfl, rfl, rfl, rfl, rfl⟩
  · rw [if_pos hgt] at h6
    rw [decide_eq_true hgt] at h5
    subst h1 h4 h5 h6
    have eb : St.begin ⟨1000, bs, syn, min (i - 1) (n - 1), 0, true⟩ size = (13, ⟨1000, bs, syn, min (i - 1) (n - 1), 0, true⟩) := by
      rw [begin_left _ _ (by simp only; omega), if_pos rfl]
    rw [eb, if_neg (show ¬ i < n by omega), if_pos (show n ≤ i by omega), decide_eq_true (show n ≤ i by omega)]
    refine ⟨⟨fun h => by simp at h, fun h => by omega⟩, ⟨fun h => by simp at h, fun h => by omega⟩, ⟨fun _ => hgt, fun _ => rfl⟩, by simp, by simp only; omega, rfl, rfl, rfl, rfl, rfl⟩

theorem way_append {s : St} {n i : Nat} (h : Way s n i) (hi : i ≤ 20) (hn : 1 ≤ n) (b : List Nat) (hl : b.length = 1) : (s.append b).1 = codeAt n i ∧ Way (s.append b).2 n (i + 1) := by
  have hb := h.few
  obtain ⟨c0, c1, c13, w1, w2, w3, w4, w5, w6, w7⟩ := way_begin h hi hn (s.bs.length + b.length) (by omega)
  have h3 := h.syn
  refine ⟨w1, ?_⟩
  simp only [St.append]
  split
  · refine ⟨w6, by simp only [List.length_append]; omega, by simp only [List.length_append]; omega, by simp only; omega, by simp only; rw [w3]; simp [Nat.lt_succ_iff], ?_, by omega⟩
    simp only
    rw [w4]
    by_cases hc : n ≤ i
    · rw [if_pos hc, if_pos (by omega)]
    · rw [if_neg hc, if_neg (by omega)]; congr 1; omega
  · refine ⟨w6, by rw [w5]; omega, by rw [w7, w5]; exact h3, by omega, by rw [w3]; simp [Nat.lt_succ_iff], ?_, by omega⟩
    rw [w4]
    by_cases hc : n ≤ i
    · rw [if_pos hc, if_pos (by omega)]
    · rw [if_neg hc, if_neg (by omega)]; congr 1; omega
theorem way_sync {s : St} {n i : Nat} (h : Way s n i) (hi : i ≤ 20) (hn : 1 ≤ n) : (s.sync).1 = codeAt n i ∧ Way (s.sync).2 n (i + 1) := by
  obtain ⟨c0, c1, c13, w1, w2, w3, w4, w5, w6, w7⟩ := way_begin h hi hn s.bs.length (by have := h.few; omega)
  have h3 := h.syn
  have h2 := h.few
  refine ⟨w1, ?_⟩
  simp only [St.sync]
  have hleft : (s.begin s.bs.length).2.left = if n < i + 1 then 0 else ((n - (i + 1) + 1 : Nat) : Int) := by
    rw [w4]
    by_cases hc : n ≤ i
    · rw [if_pos hc, if_pos (by omega)]
    · rw [if_neg hc, if_neg (by omega)]; congr 1; omega
  split
  · exact ⟨w6, by simp only; rw [w5]; omega, by simp only; rw [w5]; exact Nat.le_refl _, by simp only; omega, by simp only; rw [w3]; simp [Nat.lt_succ_iff], hleft, by omega⟩
  · exact ⟨w6, by rw [w5]; omega, by rw [w7, w5]; exact h3, by omega, by rw [w3]; simp [Nat.lt_succ_iff], hleft, by omega⟩
theorem way_replace {s : St} {n i : Nat} (h : Way s n i) (hi : i ≤ 20) (hn : 1 ≤ n) (b : List Nat) (hl : b.length = 1) : (s.replace b).1 = codeAt n i ∧ Way (s.replace b).2 n (i + 1) := by
  have hp := h.pos
  obtain ⟨c0, c1, c13, w1, w2, w3, w4, w5, w6, w7⟩ := way_begin h hi hn b.length (by omega)
  have h3 := h.syn
  have h2 := h.few
  refine ⟨w1, ?_⟩
  simp only [St.replace]
  have hleft : (s.begin b.length).2.left = if n < i + 1 then 0 else ((n - (i + 1) + 1 : Nat) : Int) := by
    rw [w4]
    by_cases hc : n ≤ i
    · rw [if_pos hc, if_pos (by omega)]
    · rw [if_neg hc, if_neg (by omega)]; congr 1; omega
  split
  · exact ⟨w6, by simp only; omega, Nat.le_refl _, by simp only; omega, by simp only; rw [w3]; simp [Nat.lt_succ_iff], hleft, by omega⟩
  · exact ⟨w6, by rw [w5]; omega, by rw [w7, w5]; exact h3, by omega, by rw [w3]; simp [Nat.lt_succ_iff], hleft, by omega⟩

theorem way_end {s : St} {n i : Nat} (h : Way s n i) (hi : i ≤ 21) : ∃ s', s.crash 0 = s' ∧ s'.dead = false ∧ s'.left = 0 ∧ s'.bs.length ≤ 20 ∧ s'.room = 1000 ∧ s'.ops ≤ 20 := by
  have h2 := h.few
  refine ⟨_, rfl, rfl, rfl, ?_, h.room, ?_⟩
  · simp only [St.crash, List.length_take]; omega
  · have := h.ops
    simp only [St.crash]; omega

set_option maxRecDepth 20000 in
set_option maxHeartbeats 4000000 in
theorem stops_walk (nn : Int) (ao : Option Addr) (n cap : Nat) (xs : List Int) (hn : xs.length = n) (a : Addr) (w : World) (hx : Nums w ao xs) (hG : Glob w a) (hz : 1 ≤ w.heap.size) :
    Calls Tryd.prog 5 #[.int .i64 nn, .slice ao n cap] w fun e w' => e = .returned (.bool true) ∧ Below w.heap.size w w' := by
  obtain ⟨r0, er⟩ : ∃ r0 : Nat, nn % 15 = (r0 : Int) := ⟨(nn % 15).toNat, by omega⟩
  have hr0 : r0 < 15 := by omega
  obtain ⟨N, er1⟩ : ∃ N : Nat, 1 + r0 = N := ⟨_, rfl⟩
  have er2 : (1 : Int) + (r0 : Int) = (N : Int) := by omega
  have ER := hide er
  have HN := hide hn
  have HX := hide hx
  have HG := hide hG
  have E2 := hide er2
  have r1 : 1 ≤ N := by omega
  have r2 : N ≤ 15 := by omega
  clear er hn hx hG er1 er2 hr0
  go_enter Tryd.func5, Tryd.ntmps5
  go_wp2_with fail
  refine (known_any a w (unhide HG) hz).mono ?_
  rintro e w1 ⟨rfl, b1⟩
  have B1 := hide b1
  have s1 := b1.size
  clear b1
  go_wp2_with fail
  refine (new_ok 1000 w1 (by decide) (by decide)).mono ?_
  rintro e w2 ⟨rfl, t2, b2⟩
  have T2 := hide t2
  have B2 := hide ((unhide B1).trans (b2.mono s1))
  have s2 := b2.size
  have z1 : 1 ≤ w1.heap.size := Nat.le_trans hz s1
  clear t2 b2
  go_wp2_with fail
  refine (within_nat nn 15 r0 (unhide ER) w2 (by omega) (by omega)).mono ?_
  rintro e w2' ⟨rfl, rfl⟩
  have e2 := unhide E2
  go_wp2_with fail
  refine (stop_any w1.heap.size w1.heap.size none _ (N : Int) w2' (unhide T2)).mono ?_
  rintro e w3 ⟨rfl, t3, k3⟩
  have T3 := hide t3
  have B3 := hide ((unhide B2).trans (k3.1.mono s1))
  have s3 := Nat.le_trans s2 k3.size
  clear t3 k3
  have way0 : Way ⟨1000, [], 0, 0, (N : Int), false⟩ N 1 := ⟨rfl, Nat.le_refl _, Nat.le_refl _, by simp only; omega, by simp only; rw [decide_eq_false (by omega)], by simp only; rw [if_neg (by omega)]; omega, Nat.le_refl _⟩
  have WAY0 := hide way0
  clear way0
  go_wp2_with fail
  go_loopg [7] 20 (fun g iv wr => ∃ (i : Nat) (qb : Option Nat) (s : St), i + g = 21 ∧ 1 ≤ i ∧ iv = .int .i64 (i : Int) ∧ Way s N i ∧ Tp w1.heap.size wr w1.heap.size qb s ∧ Below w.heap.size w wr ∧ w1.heap.size ≤ wr.heap.size)
  case atStart => exact ⟨1, none, _, rfl, Nat.le_refl _, rfl, unhide WAY0, unhide T3, unhide B3, s3⟩
  case round =>
    obtain ⟨i, qb, s, hig, hi1, rfl, hway, tr, br, sr⟩ := hrel
    have TR := hide tr
    have BR := hide br
    have HIG := hide hig
    have WAY := hide hway
    have hi20 : i ≤ 21 := by omega
    have hops : s.ops ≤ 4611686018427387904 := by have := hway.ops; omega
    have hleft : s.left ≤ 9223372036854775807 := by have := hway.left; split at this <;> omega
    have HOPS := hide hops
    have HLEFT := hide hleft
    clear tr br hig hway T3 B3 WAY0 hops hleft
    obtain ⟨M, hM⟩ : ∃ M : Nat, N = M + 1 := ⟨N - 1, by omega⟩
    have hM1 : (N : Int) - 1 = (M : Int) := by omega
    have HM := hide hM
    clear hM
    have hne : wr.heap.size ≠ w1.heap.size := by have := (unhide TR).lt.2.1; omega
    have ba : Below wr.heap.size wr (wr.alloc (.cells #[.int .u8 (i : Int)] 5)) := (Below.refl _ wr).alloc (Nat.le_refl _) _
    have BB := hide ((unhide BR).trans (ba.mono (unhide BR).size))
    have BA := hide ba
    have YA : Hid (Bytes (wr.alloc (.cells #[.int .u8 (i : Int)] 5)) (some ⟨wr.heap.size, 0, none⟩) [i]) := bytes_new wr [i] (by intro x hx; simp at hx; omega) 5 (0, 0)
    clear ba
    by_cases h20 : i ≤ 20
    · by_cases hin : i < n
      · obtain ⟨ad, rfl, hc, _⟩ := unhide HX i (by rw [unhide HN]; exact hin)
        have hcr : wr.cell? (ad.add i) = some (.int .i64 (xs.getD i 0)) := by rw [(unhide BR).cell (blk_lt hc)]; exact hc
        obtain ⟨x, ex⟩ : ∃ x, xs.getD i 0 = x := ⟨_, rfl⟩
        rw [ex] at hcr
        obtain ⟨k, ek⟩ : ∃ k : Nat, x % 3 = (k : Int) := ⟨(x % 3).toNat, by omega⟩
        have hk : k = 0 ∨ k = 1 ∨ k = 2 := by omega
        have EK := hide ek
        clear ek ex hc
        go_wp2_with fail
        refine (within_nat x 3 k (unhide EK) wr (by omega) (by omega)).mono ?_
        rintro e wr' ⟨rfl, rfl⟩
        clear hcr EK
        rcases hk with rfl | rfl | rfl
        · obtain ⟨hcode, hway4⟩ := way_append (unhide WAY) h20 r1 [i] rfl
          obtain ⟨s4, es4⟩ : ∃ s4, (s.append [i]).2 = s4 := ⟨_, rfl⟩
          rw [es4] at hway4
          have HCODE := hide hcode
          have WAY4 := hide hway4
          have ES4 := hide es4
          clear hcode hway4 es4
          go_wp2_with fail
          refine (append_any w1.heap.size w1.heap.size qb s a (some ⟨wr'.heap.size, 0, none⟩) 1 1 [i] rfl _ ((unhide TR).below (unhide BA)) ((unhide HG).kept (unhide BB) hz) z1 (Nat.le_trans sr (unhide BA).size) (unhide HOPS) (unhide HLEFT) (fun w' kk => (unhide YA).far kk (fun x hx => by cases hx; exact hne)) (fun h => by cases h) (by omega)).mono ?_
          rw [unhide HCODE, unhide ES4]
          rintro e w4 ⟨q4, rfl, t4, k4, _⟩
          have T4 := hide t4
          have B4 := hide ((unhide BB).trans (k4.1.mono s1))
          have s4' := Nat.le_trans sr (Nat.le_trans (unhide BA).size k4.size)
          clear t4 k4
          by_cases hiN : i < N
          · rw [show codeAt N i = 0 from if_pos hiN]
            have hd : s4.dead = false := by have := (unhide WAY4).dead; rw [decide_eq_false (by omega)] at this; exact this
            have ho : s4.ops = i := by have := (unhide WAY4).ops; have := unhide HM; omega
            have HD := hide hd
            have HO := hide ho
            clear hd ho
            go_wp2_with fail
            refine (dead_any w1.heap.size w1.heap.size q4 s4 w4 (unhide T4)).mono ?_
            rw [unhide HD]
            rintro e w5 ⟨rfl, rfl⟩
            go_wp2_with fail
            refine (ops_any w1.heap.size w1.heap.size q4 s4 w5 (unhide T4)).mono ?_
            rw [unhide HO]
            rintro e w6 ⟨rfl, rfl⟩
            go_wp2
            go_roundg (21 - (i + 1))
            case measure => have := unhide HIG; omega
            case rel => exact ⟨i + 1, q4, s4, by omega, by omega, by go_num, unhide WAY4, unhide T4, unhide B4, s4'⟩
          · rw [show codeAt N i = 13 from if_neg hiN]
            have hd : s4.dead = true := by have := (unhide WAY4).dead; rw [decide_eq_true (by omega)] at this; exact this
            have ho : s4.ops = M := by have := (unhide WAY4).ops; have := unhide HM; omega
            have HD := hide hd
            have HO := hide ho
            clear hd ho
            go_wp2_with fail
            refine (dead_any w1.heap.size w1.heap.size q4 s4 w4 (unhide T4)).mono ?_
            rw [unhide HD]
            rintro e w5 ⟨rfl, rfl⟩
            go_wp2_with fail
            refine (ops_any w1.heap.size w1.heap.size q4 s4 w5 (unhide T4)).mono ?_
            rw [unhide HO]
            rintro e w6 ⟨rfl, rfl⟩
            go_wp2
            go_roundg (21 - (i + 1))
            case measure => have := unhide HIG; omega
            case rel => exact ⟨i + 1, q4, s4, by omega, by omega, by go_num, unhide WAY4, unhide T4, unhide B4, s4'⟩
        · obtain ⟨hcode, hway4⟩ := way_sync (unhide WAY) h20 r1
          obtain ⟨s4, es4⟩ : ∃ s4, (s.sync).2 = s4 := ⟨_, rfl⟩
          rw [es4] at hway4
          have HCODE := hide hcode
          have WAY4 := hide hway4
          have ES4 := hide es4
          clear hcode hway4 es4
          go_wp2_with fail
          refine (sync_any w1.heap.size w1.heap.size qb s a wr' (unhide TR) ((unhide HG).kept (unhide BR) hz) sr (unhide HOPS) (unhide HLEFT)).mono ?_
          rw [unhide HCODE, unhide ES4]
          rintro e w4 ⟨rfl, t4, k4⟩
          have T4 := hide t4
          have B4 := hide ((unhide BR).trans (k4.1.mono s1))
          have s4' := Nat.le_trans sr k4.size
          clear t4 k4
          by_cases hiN : i < N
          · rw [show codeAt N i = 0 from if_pos hiN]
            have hd : s4.dead = false := by have := (unhide WAY4).dead; rw [decide_eq_false (by omega)] at this; exact this
            have ho : s4.ops = i := by have := (unhide WAY4).ops; have := unhide HM; omega
            have HD := hide hd
            have HO := hide ho
            clear hd ho
            go_wp2_with fail
            refine (dead_any w1.heap.size w1.heap.size qb s4 w4 (unhide T4)).mono ?_
            rw [unhide HD]
            rintro e w5 ⟨rfl, rfl⟩
            go_wp2_with fail
            refine (ops_any w1.heap.size w1.heap.size qb s4 w5 (unhide T4)).mono ?_
            rw [unhide HO]
            rintro e w6 ⟨rfl, rfl⟩
            go_wp2
            go_roundg (21 - (i + 1))
            case measure => have := unhide HIG; omega
            case rel => exact ⟨i + 1, qb, s4, by omega, by omega, by go_num, unhide WAY4, unhide T4, unhide B4, s4'⟩
          · rw [show codeAt N i = 13 from if_neg hiN]
            have hd : s4.dead = true := by have := (unhide WAY4).dead; rw [decide_eq_true (by omega)] at this; exact this
            have ho : s4.ops = M := by have := (unhide WAY4).ops; have := unhide HM; omega
            have HD := hide hd
            have HO := hide ho
            clear hd ho
            go_wp2_with fail
            refine (dead_any w1.heap.size w1.heap.size qb s4 w4 (unhide T4)).mono ?_
            rw [unhide HD]
            rintro e w5 ⟨rfl, rfl⟩
            go_wp2_with fail
            refine (ops_any w1.heap.size w1.heap.size qb s4 w5 (unhide T4)).mono ?_
            rw [unhide HO]
            rintro e w6 ⟨rfl, rfl⟩
            go_wp2
            go_roundg (21 - (i + 1))
            case measure => have := unhide HIG; omega
            case rel => exact ⟨i + 1, qb, s4, by omega, by omega, by go_num, unhide WAY4, unhide T4, unhide B4, s4'⟩
        · obtain ⟨hcode, hway4⟩ := way_replace (unhide WAY) h20 r1 [i] rfl
          obtain ⟨s4, es4⟩ : ∃ s4, (s.replace [i]).2 = s4 := ⟨_, rfl⟩
          rw [es4] at hway4
          have HCODE := hide hcode
          have WAY4 := hide hway4
          have ES4 := hide es4
          clear hcode hway4 es4
          go_wp2_with fail
          refine (replace_any w1.heap.size w1.heap.size qb s a (some ⟨wr'.heap.size, 0, none⟩) 1 1 [i] rfl _ ((unhide TR).below (unhide BA)) ((unhide HG).kept (unhide BB) hz) (Nat.le_trans sr (unhide BA).size) (unhide HOPS) (unhide HLEFT) (fun w' kk => (unhide YA).far kk (fun x hx => by cases hx; exact hne)) (by omega)).mono ?_
          rw [unhide HCODE, unhide ES4]
          rintro e w4 ⟨q4, rfl, t4, k4, _⟩
          have T4 := hide t4
          have B4 := hide ((unhide BB).trans (k4.1.mono s1))
          have s4' := Nat.le_trans sr (Nat.le_trans (unhide BA).size k4.size)
          clear t4 k4
          by_cases hiN : i < N
          · rw [show codeAt N i = 0 from if_pos hiN]
            have hd : s4.dead = false := by have := (unhide WAY4).dead; rw [decide_eq_false (by omega)] at this; exact this
            have ho : s4.ops = i := by have := (unhide WAY4).ops; have := unhide HM; omega
            have HD := hide hd
            have HO := hide ho
            clear hd ho
            go_wp2_with fail
            refine (dead_any w1.heap.size w1.heap.size q4 s4 w4 (unhide T4)).mono ?_
            rw [unhide HD]
            rintro e w5 ⟨rfl, rfl⟩
            go_wp2_with fail
            refine (ops_any w1.heap.size w1.heap.size q4 s4 w5 (unhide T4)).mono ?_
            rw [unhide HO]
            rintro e w6 ⟨rfl, rfl⟩
            go_wp2
            go_roundg (21 - (i + 1))
            case measure => have := unhide HIG; omega
            case rel => exact ⟨i + 1, q4, s4, by omega, by omega, by go_num, unhide WAY4, unhide T4, unhide B4, s4'⟩
          · rw [show codeAt N i = 13 from if_neg hiN]
            have hd : s4.dead = true := by have := (unhide WAY4).dead; rw [decide_eq_true (by omega)] at this; exact this
            have ho : s4.ops = M := by have := (unhide WAY4).ops; have := unhide HM; omega
            have HD := hide hd
            have HO := hide ho
            clear hd ho
            go_wp2_with fail
            refine (dead_any w1.heap.size w1.heap.size q4 s4 w4 (unhide T4)).mono ?_
            rw [unhide HD]
            rintro e w5 ⟨rfl, rfl⟩
            go_wp2_with fail
            refine (ops_any w1.heap.size w1.heap.size q4 s4 w5 (unhide T4)).mono ?_
            rw [unhide HO]
            rintro e w6 ⟨rfl, rfl⟩
            go_wp2
            go_roundg (21 - (i + 1))
            case measure => have := unhide HIG; omega
            case rel => exact ⟨i + 1, q4, s4, by omega, by omega, by go_num, unhide WAY4, unhide T4, unhide B4, s4'⟩
      · obtain ⟨hcode, hway4⟩ := way_append (unhide WAY) h20 r1 [i] rfl
        obtain ⟨s4, es4⟩ : ∃ s4, (s.append [i]).2 = s4 := ⟨_, rfl⟩
        rw [es4] at hway4
        have HCODE := hide hcode
        have WAY4 := hide hway4
        have ES4 := hide es4
        clear hcode hway4 es4
        go_wp2_with fail
        refine (append_any w1.heap.size w1.heap.size qb s a (some ⟨wr.heap.size, 0, none⟩) 1 1 [i] rfl _ ((unhide TR).below (unhide BA)) ((unhide HG).kept (unhide BB) hz) z1 (Nat.le_trans sr (unhide BA).size) (unhide HOPS) (unhide HLEFT) (fun w' kk => (unhide YA).far kk (fun x hx => by cases hx; exact hne)) (fun h => by cases h) (by omega)).mono ?_
        rw [unhide HCODE, unhide ES4]
        rintro e w4 ⟨q4, rfl, t4, k4, _⟩
        have T4 := hide t4
        have B4 := hide ((unhide BB).trans (k4.1.mono s1))
        have s4' := Nat.le_trans sr (Nat.le_trans (unhide BA).size k4.size)
        clear t4 k4
        by_cases hiN : i < N
        · rw [show codeAt N i = 0 from if_pos hiN]
          have hd : s4.dead = false := by have := (unhide WAY4).dead; rw [decide_eq_false (by omega)] at this; exact this
          have ho : s4.ops = i := by have := (unhide WAY4).ops; have := unhide HM; omega
          have HD := hide hd
          have HO := hide ho
          clear hd ho
          go_wp2_with fail
          refine (dead_any w1.heap.size w1.heap.size q4 s4 w4 (unhide T4)).mono ?_
          rw [unhide HD]
          rintro e w5 ⟨rfl, rfl⟩
          go_wp2_with fail
          refine (ops_any w1.heap.size w1.heap.size q4 s4 w5 (unhide T4)).mono ?_
          rw [unhide HO]
          rintro e w6 ⟨rfl, rfl⟩
          go_wp2
          go_roundg (21 - (i + 1))
          case measure => have := unhide HIG; omega
          case rel => exact ⟨i + 1, q4, s4, by omega, by omega, by go_num, unhide WAY4, unhide T4, unhide B4, s4'⟩
        · rw [show codeAt N i = 13 from if_neg hiN]
          have hd : s4.dead = true := by have := (unhide WAY4).dead; rw [decide_eq_true (by omega)] at this; exact this
          have ho : s4.ops = M := by have := (unhide WAY4).ops; have := unhide HM; omega
          have HD := hide hd
          have HO := hide ho
          clear hd ho
          go_wp2_with fail
          refine (dead_any w1.heap.size w1.heap.size q4 s4 w4 (unhide T4)).mono ?_
          rw [unhide HD]
          rintro e w5 ⟨rfl, rfl⟩
          go_wp2_with fail
          refine (ops_any w1.heap.size w1.heap.size q4 s4 w5 (unhide T4)).mono ?_
          rw [unhide HO]
          rintro e w6 ⟨rfl, rfl⟩
          go_wp2
          go_roundg (21 - (i + 1))
          case measure => have := unhide HIG; omega
          case rel => exact ⟨i + 1, q4, s4, by omega, by omega, by go_num, unhide WAY4, unhide T4, unhide B4, s4'⟩
    · have hend := way_end (unhide WAY) hi20
      obtain ⟨s5, e5, q1, q2, q3, q4, q5⟩ := hend
      have E5 := hide e5
      have Q1 := hide q1
      have Q2 := hide q2
      have Q3 := hide q3
      have Q4 := hide q4
      have Q5 := hide q5
      clear e5 q1 q2 q3 q4 q5
      go_wp2_with fail
      refine (crash_any w1.heap.size w1.heap.size qb s 0 wr (unhide TR)).mono ?_
      rw [unhide E5]
      rintro e w4 ⟨rfl, t4, k4⟩
      have T4 := hide t4
      have B4 := hide ((unhide BR).trans (k4.1.mono s1))
      have s4' := Nat.le_trans sr k4.size
      clear t4 k4
      go_wp2_with fail
      refine (dead_any w1.heap.size w1.heap.size qb s5 w4 (unhide T4)).mono ?_
      rw [unhide Q1]
      rintro e w5 ⟨rfl, rfl⟩
      go_wp2_with fail
      refine (append_any w1.heap.size w1.heap.size qb s5 a none 0 0 [] rfl w5 (unhide T4) ((unhide HG).kept (unhide B4) hz) z1 s4' (by have := unhide Q5; omega) (by rw [unhide Q2]; decide) (fun w' kk => ⟨by simp, by simp⟩) (fun _ => rfl) (by omega)).mono ?_
      rw [append_ok s5 [] (unhide Q1) (by rw [unhide Q4]; have := unhide Q3; simp only [List.length_nil]; omega) (by rw [unhide Q2]; decide)]
      rintro e w6 ⟨q6, rfl, t6, k6, _⟩
      have T6 := hide t6
      have B6 := hide ((unhide B4).trans (k6.1.mono s1))
      have s6 := Nat.le_trans s4' k6.size
      clear t6 k6
      go_wp2_with fail
      refine (sync_any w1.heap.size w1.heap.size q6 _ a w6 (unhide T6) ((unhide HG).kept (unhide B6) hz) s6 (by simp only; have := unhide Q5; omega) (by simp only; rw [unhide Q2]; decide)).mono ?_
      rw [sync_ok ⟨s5.room, s5.bs ++ [], s5.syn, s5.ops + 1, s5.left, s5.dead⟩ (unhide Q1) (by simp only [List.append_nil]; rw [unhide Q4]; have := unhide Q3; omega) (by simp only; rw [unhide Q2]; decide)]
      rintro e w7 ⟨rfl, t7, k7⟩
      have B7 := hide ((unhide B6).trans (k7.1.mono s1))
      clear t7 k7
      go_wp2
      go_ret
      exact ⟨rfl, unhide B7⟩
end Go.Proofs.YtnohkbekljfehaaDoor
