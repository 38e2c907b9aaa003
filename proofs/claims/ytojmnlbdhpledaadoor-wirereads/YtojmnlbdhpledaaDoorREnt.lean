/- synodalref2.entry: a contract. synodalref2.EncodeEntry: a contract. -/
import Derived.Test.YtojmnlbdhpledaaDoorRNum
import Derived.Test.YtojmnlbdhpledaaDoorReadPure
import Derived.Deep.DeepCutAuto
namespace Go.Proofs.YtojmnlbdhpledaaDoor
open Go.RowKit

theorem step_on {w : World} {ops : Array Oper} {o : Oper} {a : Act} {K : Act → World → Prop} {Q : Exit → Act → World → Prop} {E : Prop} (hg : o.guard = none) (h : Oper.wp Tryd.prog o a w K Q) :
    if Region.wanted o (yielded ops a.tmps) = true then Oper.wp Tryd.prog o a w K Q else E := by
  have hw : Region.wanted o (yielded ops a.tmps) = true := by simp [Region.wanted, hg]
  rw [if_pos hw]; exact h
theorem step_app {w : World} {ops : Array Oper} {o : Oper} {a : Act} {K : Act → World → Prop} {Q : Exit → Act → World → Prop} {E : Prop} (s x : Operand) (_ho : o.op = .call { callee := .builtin .append, args := #[s, x], argTypes := #[27, 27] }) (hg : o.guard = none) (h : Oper.wp Tryd.prog o a w K Q) :
    if Region.wanted o (yielded ops a.tmps) = true then Oper.wp Tryd.prog o a w K Q else E := step_on hg h
theorem new_cell (x : World) (u : Value) (t : TypeId) : (x.alloc (.cells #[u] t)).cell? ⟨x.heap.size, 0, none⟩ = some u := by
  have := heap_alloc_new x (.cells #[u] t)
  simp only [World.cell?, this]; rfl
theorem ko_new {base : Nat} {v v' : Value} {w w' : World} {u : Value} {t : TypeId} (h : KO base v v' (w.alloc (.cells #[u] t)).drew w') (hv : v.ownBlock ≠ some w.heap.size) : w'.cell? ⟨w.heap.size, 0, none⟩ = some u := by
  have hs : w.heap.size < (w.alloc (.cells #[u] t)).drew.heap.size := by show _ < (w.alloc (.cells #[u] t)).heap.size; simp
  rw [World.cell?_of_block (w := (w.alloc (.cells #[u] t)).drew) (a := ⟨w.heap.size, 0, none⟩) (h.block hs hv)]
  exact new_cell w u t
theorem own_ne {base : Nat} {w : World} {v : Value} {bs : List Nat} {k : Nat} (h : Own base w v bs) (hk : k < base) : v.ownBlock ≠ some k := fun e => by
  have := (own_tag h.1 k e).1
  omega

set_option maxRecDepth 20000 in
set_option maxHeartbeats 4000000 in
theorem rentry_any (base : Nat) (v : Value) (bs : List Nat) (kk tt : Nat) (hk : kk ≤ 4) (htt : tt ≤ 2) (client seq : Int) (t : ByteArray) (ht : t.size ≤ 16) (ao : Option Addr) (n cap : Nat) (ys : List Int) (hn : ys.length = n) (h9 : n ≤ 9) (w : World) (hown : Own base w v bs)
    (hy : ∀ i, i < ys.length → ∃ a, ao = some a ∧ w.cell? (a.add i) = some (.int .i64 (ys.getD i 0)) ∧ a.block < base) (hl : bs.length ≤ 700000000) (hbase : base ≤ w.heap.size) :
    Calls Tryd.prog 34 #[v, .agg #[.int .i64 (kk : Int), .int .i64 client, .int .i64 seq, .string t, .slice ao n cap, .int .i64 (tt : Int)]] w fun e w' => ∃ v', e = .returned v' ∧ Own base w' v' (bs ++ En.bytes ⟨(kk : Int), client, seq, t, ys, (tt : Int)⟩) ∧ Only base [5] w w' := by
  obtain ⟨W, hW⟩ : ∃ W, w.alloc (.cells #[.int .i64 (kk : Int), .int .i64 client, .int .i64 seq, .string t, .slice ao n cap, .int .i64 (tt : Int)] 24) = W := ⟨_, rfl⟩
  have bW : Below w.heap.size w W := by rw [← hW]; exact (Below.refl _ w).alloc (Nat.le_refl _) _
  have x0 : W.heap[w.heap.size]? = some (.cells #[.int .i64 (kk : Int), .int .i64 client, .int .i64 seq, .string t, .slice ao n cap, .int .i64 (tt : Int)] 24 (0, 0)) := by rw [← hW]; exact heap_alloc_new _ _
  have O0 : Hid (Own base W v bs) := ⟨own_below hown.1 bW, hown.2⟩
  have s0 : base ≤ W.heap.size := Nat.le_trans hbase bW.size
  have SX := hide (fun (x : World) (h : x.heap[w.heap.size]? = some (.cells #[.int .i64 (kk : Int), .int .i64 client, .int .i64 seq, .string t, .slice ao n cap, .int .i64 (tt : Int)] 24 (0, 0))) => show x.cell? ⟨w.heap.size, 0, none⟩ = some (.int .i64 (kk : Int)) ∧ x.cell? ⟨w.heap.size, 1, none⟩ = some (.int .i64 client) ∧ x.cell? ⟨w.heap.size, 2, none⟩ = some (.int .i64 seq) from ⟨(cell_of_block h).trans rfl, (cell_of_block h).trans rfl, (cell_of_block h).trans rfl⟩)
  have EB : Hid (En.bytes ⟨(kk : Int), client, seq, t, ys, (tt : Int)⟩ = [kk] ++ (num8 client ++ (num8 seq ++ (([t.size] ++ bytesOf t) ++ (([n] ++ nums ys) ++ ([tt] ++ [])))))) := by
    show _ = _
    simp only [En.bytes, hn, Int.toNat_natCast]
  have HV : Hid (v.ownBlock ≠ some w.heap.size) := fun e => by have := (hown.1.lt _ e).2; omega
  have HW := hide hW
  have BW := hide bW
  have X0 := hide x0
  have XA := hide (fun o => (Below.heap_alloc W o w.heap.size (blk_lt' x0)).trans x0)
  have HZ : Hid (IntKind.u8.wrap (kk : Int) = (kk : Int)) := by show _ = _; rw [IntKind.wrap_u8]; omega
  have HY := hide hy
  have HN := hide hn
  clear hW bW x0 hown hy hn
  go_enter Tryd.func34, Tryd.ntmps34
  go_upto_region 1 with fail
  rw [unhide HW]
  clear HW
  go_region_held_law (fun x => x.cell? ⟨w.heap.size, 0, none⟩ = some (.int .i64 (kk : Int)) ∧ x.cell? ⟨w.heap.size, 1, none⟩ = some (.int .i64 client) ∧ x.cell? ⟨w.heap.size, 2, none⟩ = some (.int .i64 seq))
    (first | exact (unhide SX) _ (unhide X3) | exact (unhide SX) _ (unhide X2) | exact (unhide SX) _ (unhide X1) | exact (unhide SX) _ (unhide X0) | exact (unhide SX) _ (unhide XA _))
    (first
      | (refine step_on rfl ?_
         refine wp_byte (.tmp 5) (.tmp 9) rfl base _ bs rfl ⟨own_below (unhide O0).1 ((Below.refl W.heap.size W).alloc (Nat.le_refl _) _).drew, (unhide O0).2⟩ W.heap.size kk (by omega) _ (unhide HZ) rfl (new_cell W _ _) (by omega) (Nat.le_trans s0 ((Below.refl W.heap.size W).alloc (Nat.le_refl _) _).size) ?_
         intro v1 w1 o1 k1
         have O1 := hide o1
         have K1 := hide (k1.fresh ((Below.refl W.heap.size W).alloc (Nat.le_refl _) _).drew s0)
         have X1 := hide (((unhide K1).block (blk_lt' (unhide X0)) (unhide HV)).trans (unhide X0))
         clear o1 k1)
      | (go_at_call 40
         refine (rnumK base _ _ seq _ (unhide O2) (by simp [num8_len]; omega) (Nat.le_trans s0 ((unhide K2).size))).mono ?_
         rintro e w3 ⟨v3, rfl, o3, k3⟩
         have O3 := hide o3
         have K3 := hide ((unhide K2).trans k3)
         have X3 := hide (((unhide K3).block (blk_lt' (unhide X0)) (unhide HV)).trans (unhide X0))
         clear o3 k3)
      | (go_at_call 40
         refine (rnumK base _ _ client _ (unhide O1) (by simp; omega) (Nat.le_trans s0 ((unhide K1).size))).mono ?_
         rintro e w2 ⟨v2, rfl, o2, k2⟩
         have O2 := hide o2
         have K2 := hide ((unhide K1).trans k2)
         have X2 := hide (((unhide K2).block (blk_lt' (unhide X0)) (unhide HV)).trans (unhide X0))
         clear o2 k2))
  have onl0 : Only base [5] w W := Only.of_below (unhide BW) hbase
  have P3 := hide (onl0.trans ((unhide K3).only (unhide O0)))
  obtain ⟨bb, hbb⟩ : ∃ bb, bs ++ [kk] ++ num8 client ++ num8 seq = bb := ⟨_, rfl⟩
  have lbb : bb.length ≤ 700000100 := by rw [← hbb]; simp [num8_len]; omega
  rw [hbb] at O3
  have HBB := hide hbb
  have s3 : base ≤ w3.heap.size := Nat.le_trans s0 (unhide K3).size
  have XB := hide (fun o => (Below.heap_alloc w3 o w.heap.size (blk_lt' (unhide X3))).trans (unhide X3))
  have HZ2 : Hid (IntKind.u8.wrap ((t.size : Nat) : Int) = ((t.size : Nat) : Int)) := by show _ = _; rw [IntKind.wrap_u8]; omega
  have SX2 := hide (fun (x : World) (h : x.heap[w.heap.size]? = some (.cells #[.int .i64 (kk : Int), .int .i64 client, .int .i64 seq, .string t, .slice ao n cap, .int .i64 (tt : Int)] 24 (0, 0))) => show x.cell? ⟨w.heap.size, 3, none⟩ = some (.string t) from (cell_of_block h).trans rfl)
  clear onl0 hbb K1 K2 O1 O2 X1 X2 SX XA HZ K3 O0 s0
  go_upto_region 2 with fail
  go_region_held_law (fun x => x.cell? ⟨w.heap.size, 3, none⟩ = some (.string t))
    (first | exact (unhide SX2) _ (unhide X5) | exact (unhide SX2) _ (unhide X4) | exact (unhide SX2) _ (unhide X3) | exact (unhide SX2) _ (unhide XB _))
    (first
      | (refine step_on rfl ?_
         refine wp_byte (.tmp 17) (.tmp 22) rfl base _ bb rfl ⟨own_below (unhide O3).1 ((Below.refl w3.heap.size w3).alloc (Nat.le_refl _) _).drew, (unhide O3).2⟩ w3.heap.size t.size (by omega) _ (unhide HZ2) rfl (new_cell w3 _ _) (by omega) (Nat.le_trans s3 ((Below.refl w3.heap.size w3).alloc (Nat.le_refl _) _).size) ?_
         intro v4 w4 o4 k4
         have O4 := hide o4
         have P4 := hide ((k4.fresh ((Below.refl w3.heap.size w3).alloc (Nat.le_refl _) _).drew s3).only (unhide O3))
         have X4 := hide ((unhide P4).block (unhide X3) (by decide))
         clear o4 k4)
      | (refine step_on rfl ?_
         refine wp_str (.tmp 23) (.tmp 25) rfl base _ _ rfl (unhide O4) t rfl (by omega) (by simp; omega) (Nat.le_trans s3 (unhide P4).size) ?_
         intro v5 w5 o5 p5
         have O5 := hide o5
         have P5 := hide ((unhide P3).trans ((unhide P4).trans p5))
         have X5 := hide (p5.block (unhide X4) (by decide))
         clear o5 p5))
  obtain ⟨b2, hb2⟩ : ∃ b2, bb ++ [t.size] ++ bytesOf t = b2 := ⟨_, rfl⟩
  have lb2 : b2.length ≤ 700000200 := by rw [← hb2]; simp [bytesOf_len]; omega
  rw [hb2] at O5
  have HB2 := hide hb2
  have s5 : base ≤ w5.heap.size := Nat.le_trans hbase (unhide P5).size
  have XC := hide (fun o => (Below.heap_alloc w5 o w.heap.size (blk_lt' (unhide X5))).trans (unhide X5))
  have HZ3 : Hid (IntKind.u8.wrap (tt : Int) = (tt : Int)) := by show _ = _; rw [IntKind.wrap_u8]; omega
  have SX3 := hide (fun (x : World) (h : x.heap[w.heap.size]? = some (.cells #[.int .i64 (kk : Int), .int .i64 client, .int .i64 seq, .string t, .slice ao n cap, .int .i64 (tt : Int)] 24 (0, 0))) => show x.cell? ⟨w.heap.size, 4, none⟩ = some (.slice ao n cap) ∧ x.cell? ⟨w.heap.size, 5, none⟩ = some (.int .i64 (tt : Int)) from ⟨(cell_of_block h).trans rfl, (cell_of_block h).trans rfl⟩)
  have HV5 : Hid ((v5 : Value).ownBlock ≠ some w5.heap.size) := fun e => by have := ((unhide O5).1.lt _ e).2; omega
  have HYW := hide (fun (x : World) (hb : Below base w x) (i : Nat) (hi : i < ys.length) => show ∃ a, ao = some a ∧ x.cell? (a.add i) = some (.int .i64 (ys.getD i 0)) ∧ v5.ownBlock ≠ some a.block from by
    obtain ⟨a, e, c, l⟩ := (unhide HY) i hi
    refine ⟨a, e, ?_, own_ne (unhide O5) l⟩
    rw [hb.cell (by rw [add_block]; exact l)]; exact c)
  clear hb2 P3 P4 O3 O4 X3 X4 SX2 XB HZ2 s3 HY HV
  go_upto_region 3 with fail
  go_region_held_law (fun x => x.cell? ⟨w.heap.size, 4, none⟩ = some (.slice ao n cap) ∧ x.cell? ⟨w.heap.size, 5, none⟩ = some (.int .i64 (tt : Int)))
    (first | exact (unhide SX3) _ (unhide X7) | exact (unhide SX3) _ (unhide X6) | exact (unhide SX3) _ (unhide X5) | exact (unhide SX3) _ (unhide XC _) | exact (unhide SX3) _ (unhide XD _))
    (first
      | (go_at_call 41
         refine (rlistK base _ b2 ao n cap ys (unhide HN) (by omega) _ ⟨own_below (unhide O5).1 (by first | exact (Below.refl _ w5).drew | exact ((Below.refl _ w5).alloc (Nat.le_refl _) _).drew), (unhide O5).2⟩ ((unhide HYW) _ (by first | exact (unhide P5).below.drew | exact ((unhide P5).below.alloc s5 _).drew)) (by omega) (by first | exact s5 | exact Nat.le_trans s5 ((Below.refl w5.heap.size w5).alloc (Nat.le_refl _) _).size)).mono ?_
         rintro e w6 ⟨v6, rfl, o6, k6⟩
         have O6 := hide o6
         have KX := hide k6
         have K6 : Hid (KO base v5 v6 w5 w6) := by first | exact k6.fresh (Below.refl _ w5).drew s5 | exact k6.fresh ((Below.refl _ w5).alloc (Nat.le_refl _) _).drew s5
         have P6 := hide ((unhide P5).trans ((unhide K6).only (unhide O5)))
         have X6 := hide (((unhide K6).only (unhide O5)).block (unhide X5) (by decide))
         have s6 : base ≤ w6.heap.size := Nat.le_trans s5 (unhide K6).size
         have XD := hide (fun o => (Below.heap_alloc w6 o w.heap.size (blk_lt' (unhide X6))).trans (unhide X6))
         clear o6 k6)
      | (refine step_app (.tmp 30) (.tmp 34) rfl rfl ?_
         refine wp_byte (.tmp 30) (.tmp 34) rfl base _ _ rfl (unhide O6) w5.heap.size tt (by omega) _ (unhide HZ3) rfl (ko_new (unhide KX) (unhide HV5)) (by simp [nums_len]; have := unhide HN; omega) s6 ?_
         intro v7 w7 o7 k7
         have O7 := hide o7
         have P7 := hide ((unhide P6).trans (k7.only (unhide O6)))
         have X7 := hide ((k7.only (unhide O6)).block (unhide X6) (by decide))
         clear o7 k7)
      | (refine step_app (.tmp 30) (.tmp 34) rfl rfl ?_
         refine wp_byte (.tmp 30) (.tmp 34) rfl base _ _ rfl ⟨(unhide O6).1.alloc _, (unhide O6).2⟩ w6.heap.size tt (by omega) _ (unhide HZ3) rfl (new_cell w6 _ _) (by simp [nums_len]; have := unhide HN; omega) (Nat.le_trans s6 ((Below.refl w6.heap.size w6).alloc (Nat.le_refl _) _).size) ?_
         intro v7 w7 o7 k7
         have O7 := hide o7
         have q7 := (k7.fresh ((Below.refl w6.heap.size w6).alloc (Nat.le_refl _) _) s6).only (unhide O6)
         have P7 := hide ((unhide P6).trans q7)
         have X7 := hide (q7.block (unhide X6) (by decide))
         clear o7 k7 q7))
  all_goals go_wp2
  all_goals go_ret
  all_goals
    refine ⟨v7, by simp, ?_, unhide P7⟩
    rw [unhide EB]
    have h7 := unhide O7
    rw [← unhide HB2, ← unhide HBB] at h7
    simpa only [List.append_assoc, List.append_nil, List.cons_append, List.nil_append] using h7
end Go.Proofs.YtojmnlbdhpledaaDoor
namespace Go.Proofs.YtojmnlbdhpledaaDoor
open Go.RowKit

theorem wrong_ne {kind : Int} {ts n : Nat} {to' : Int} (h : ¬ (0 ≤ kind ∧ kind ≤ 4 ∧ ts ≤ 16 ∧ n ≤ 9 ∧ 0 ≤ to' ∧ to' ≤ 2)) : wrongE kind ts n to' ≠ 0 := by
  by_cases h1 : 0 ≤ kind ∧ kind ≤ 4
  · by_cases h2 : ts ≤ 16
    · by_cases h3 : n ≤ 9
      · rw [wrong_to h1.1 h1.2 h2 h3 (by omega)]; decide
      · rw [wrong_many h1.1 h1.2 h2 (by omega)]; decide
    · rw [wrong_long h1.1 h1.2 (by omega)]; decide
  · rw [wrong_kind (by omega)]; decide

set_option maxRecDepth 20000 in
set_option maxHeartbeats 1000000 in
theorem rencE_any (kind client seq to' : Int) (t : ByteArray) (ht : t.size ≤ maxLen) (ao : Option Addr) (n cap : Nat) (hnm : n ≤ maxLen) (ys : List Int) (hn : ys.length = n) (w : World) (hy : ∀ i, i < ys.length → ∃ a, ao = some a ∧ w.cell? (a.add i) = some (.int .i64 (ys.getD i 0))) :
    Calls Tryd.prog 10 #[.agg #[.int .i64 kind, .int .i64 client, .int .i64 seq, .string t, .slice ao n cap, .int .i64 to']] w fun e w' =>
      ∃ v, e = .returned (.tuple #[v, .int .i64 (((putEntry kind client seq t ys to' ([], 0)).2 : Nat) : Int)]) ∧ Own w.heap.size w' v (told (putEntry kind client seq t ys to' ([], 0))) ∧ Below w.heap.size w w' := by
  obtain ⟨W, hW⟩ : ∃ W, w.alloc (.cells #[.int .i64 kind, .int .i64 client, .int .i64 seq, .string t, .slice ao n cap, .int .i64 to'] 24) = W := ⟨_, rfl⟩
  have bW : Below w.heap.size w W := by rw [← hW]; exact (Below.refl _ w).alloc (Nat.le_refl _) _
  have x0 : W.heap[w.heap.size]? = some (.cells #[.int .i64 kind, .int .i64 client, .int .i64 seq, .string t, .slice ao n cap, .int .i64 to'] 24 (0, 0)) := by rw [← hW]; exact heap_alloc_new _ _
  have RW := hide (fun w1 => rwrong_any kind client seq to' t ht ao n cap hnm w1)
  have HW := hide hW
  have BW := hide bW
  have X0 := hide x0
  have a0 : W.cell? ⟨w.heap.size, 0, none⟩ = some (.int .i64 kind) := (cell_of_block x0).trans rfl
  have a1 : W.cell? ⟨w.heap.size, 1, none⟩ = some (.int .i64 client) := (cell_of_block x0).trans rfl
  have a2 : W.cell? ⟨w.heap.size, 2, none⟩ = some (.int .i64 seq) := (cell_of_block x0).trans rfl
  have a3 : W.cell? ⟨w.heap.size, 3, none⟩ = some (.string t) := (cell_of_block x0).trans rfl
  have a4 : W.cell? ⟨w.heap.size, 4, none⟩ = some (.slice ao n cap) := (cell_of_block x0).trans rfl
  have a5 : W.cell? ⟨w.heap.size, 5, none⟩ = some (.int .i64 to') := (cell_of_block x0).trans rfl
  have two := wrong_put kind client seq t ys to'
  rw [hn] at two
  by_cases hok : 0 ≤ kind ∧ kind ≤ 4 ∧ t.size ≤ 16 ∧ n ≤ 9 ∧ 0 ≤ to' ∧ to' ≤ 2
  · obtain ⟨k1, k2, k3, k4, k5, k6⟩ := hok
    obtain ⟨kk, rfl⟩ : ∃ kk : Nat, kind = (kk : Int) := ⟨kind.toNat, by omega⟩
    obtain ⟨tt, rfl⟩ : ∃ tt : Nat, to' = (tt : Int) := ⟨to'.toNat, by omega⟩
    have hw0 : wrongE (kk : Int) t.size n (tt : Int) = 0 := wrong_ok k1 k2 k3 k4 k5 k6
    have hput : putEntry (kk : Int) client seq t ys (tt : Int) ([], 0) = (En.bytes ⟨(kk : Int), client, seq, t, ys, (tt : Int)⟩, 0) := by
      have hE : En.ok ⟨(kk : Int), client, seq, t, ys, (tt : Int)⟩ := by
        refine ⟨?_, ?_, ?_, ?_⟩
        · unfold refuse; rw [if_neg (by show ¬ ((kk : Int) < (0 : Int) ∨ (4 : Int) < (kk : Int)); omega)]
        · unfold refuse; rw [if_neg (by show ¬ ((t.size : Int) < (0 : Int) ∨ (16 : Int) < (t.size : Int)); omega)]
        · unfold refuse; rw [if_neg (by show ¬ ((ys.length : Int) < (0 : Int) ∨ (9 : Int) < (ys.length : Int)); omega)]
        · unfold refuse; rw [if_neg (by show ¬ ((tt : Int) < (0 : Int) ∨ (2 : Int) < (tt : Int)); omega)]
      exact putE_ok hE []
    rw [hput]
    rw [hw0] at RW
    have RE := hide (fun w1 (b1 : Below w.heap.size w w1) => rentry_any w1.heap.size (.slice none 0 0) [] kk tt (by omega) (by omega) client seq t k3 ao n cap ys hn k4 w1 (Own.nil _ _) (fun i hi => by
      obtain ⟨a, e, c⟩ := hy i hi
      have hlt := blk_lt c
      refine ⟨a, e, by rw [b1.cell hlt]; exact c, ?_⟩
      rw [add_block] at hlt
      exact Nat.lt_of_lt_of_le hlt b1.size) (by simp) (Nat.le_refl _))
    clear two hput hw0 hW bW x0 hy hn ht hnm k1 k2 k3 k4 k5 k6
    go_enter Tryd.func10, Tryd.ntmps10
    go_wp2_with fail
    rw [unhide HW]
    refine ((unhide RW) W).mono ?_
    rintro e w1 ⟨rfl, b1⟩
    have x1 := (b1.block _ (blk_lt' (unhide X0))).trans (unhide X0)
    have c0 : w1.cell? ⟨w.heap.size, 0, none⟩ = some (.int .i64 (kk : Int)) := (cell_of_block x1).trans rfl
    have c1 : w1.cell? ⟨w.heap.size, 1, none⟩ = some (.int .i64 client) := (cell_of_block x1).trans rfl
    have c2 : w1.cell? ⟨w.heap.size, 2, none⟩ = some (.int .i64 seq) := (cell_of_block x1).trans rfl
    have c3 : w1.cell? ⟨w.heap.size, 3, none⟩ = some (.string t) := (cell_of_block x1).trans rfl
    have c4 : w1.cell? ⟨w.heap.size, 4, none⟩ = some (.slice ao n cap) := (cell_of_block x1).trans rfl
    have c5 : w1.cell? ⟨w.heap.size, 5, none⟩ = some (.int .i64 (tt : Int)) := (cell_of_block x1).trans rfl
    have B1 := hide ((unhide BW).trans (b1.mono (unhide BW).size))
    have CE := hide ((unhide RE) w1 (unhide B1))
    clear b1 x1 RE RW a0 a1 a2 a3 a4 a5 HW
    go_wp2_with fail
    refine (unhide CE).mono ?_
    rintro e w2 ⟨v2, rfl, o2, p2⟩
    have O2 := hide (o2.rebase (unhide B1).size)
    have B2 := hide ((unhide B1).trans (p2.below.mono (unhide B1).size))
    clear o2 p2 CE c0 c1 c2 c3 c4 c5
    go_wp2
    go_ret2
    refine ⟨v2, rfl, ?_, unhide B2⟩
    have h2 := unhide O2
    rw [List.nil_append] at h2
    exact h2
  · have hne := wrong_ne hok
    obtain ⟨q, hq⟩ : ∃ q, wrongE kind t.size n to' = q := ⟨_, rfl⟩
    rw [hq] at hne two RW
    have htold : told (putEntry kind client seq t ys to' ([], 0)) = [] := by unfold told; rw [two, if_neg hne]
    rw [htold, two]
    have hqi : ¬ ((q : Int) = 0) := by omega
    have hqb : ((q : Int) != 0) = true := by rw [bne_iff_ne]; exact hqi
    clear two htold hq hW bW x0 hy hn ht hnm hok hne
    go_enter Tryd.func10, Tryd.ntmps10
    go_wp2_with fail
    rw [unhide HW]
    refine ((unhide RW) W).mono ?_
    rintro e w1 ⟨rfl, b1⟩
    have x1 := (b1.block _ (blk_lt' (unhide X0))).trans (unhide X0)
    have c0 : w1.cell? ⟨w.heap.size, 0, none⟩ = some (.int .i64 kind) := (cell_of_block x1).trans rfl
    have c1 : w1.cell? ⟨w.heap.size, 1, none⟩ = some (.int .i64 client) := (cell_of_block x1).trans rfl
    have c2 : w1.cell? ⟨w.heap.size, 2, none⟩ = some (.int .i64 seq) := (cell_of_block x1).trans rfl
    have c3 : w1.cell? ⟨w.heap.size, 3, none⟩ = some (.string t) := (cell_of_block x1).trans rfl
    have c4 : w1.cell? ⟨w.heap.size, 4, none⟩ = some (.slice ao n cap) := (cell_of_block x1).trans rfl
    have c5 : w1.cell? ⟨w.heap.size, 5, none⟩ = some (.int .i64 to') := (cell_of_block x1).trans rfl
    have B1 := hide ((unhide BW).trans (b1.mono (unhide BW).size))
    clear b1 x1 a0 a1 a2 a3 a4 a5 HW
    go_wp2_with fail
    refine ((unhide RW) w1).mono ?_
    rintro e w2 ⟨rfl, b2⟩
    have B2 := hide ((unhide B1).trans (b2.mono (unhide B1).size))
    clear b2 c0 c1 c2 c3 c4 c5
    go_wp2
    go_ret2
    exact ⟨_, rfl, Own.nil _ _, unhide B2⟩
end Go.Proofs.YtojmnlbdhpledaaDoor
