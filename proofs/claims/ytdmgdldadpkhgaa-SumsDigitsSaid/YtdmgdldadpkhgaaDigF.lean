/-
  SumsDigits returns true: the walk without the bit.
-/
import Derived.Test.YtdmgdldadpkhgaaDigV
import Derived.Test.YtdmgdldadpkhgaaPlanA
set_option linter.unusedSimpArgs false
set_option linter.unusedVariables false
namespace Go.Proofs.Ytdmgdldadpkhgaa
open Go.RowKit


set_option maxRecDepth 100000 in
set_option maxHeartbeats 8000000 in
theorem dig_false (m n : Int) (X Y A B : BitVec 8) (n1 v1 z1 SC n2 v2 z2 DC : Bool) (P Q : Int) (h1 : ¬ m < 0) (h2 : ¬ 99 < m) (h3 : ¬ n < 0) (h4 : ¬ 99 < n)
    (hX : X = BitVec.ofInt 8 (bcd m)) (hY : Y = BitVec.ofInt 8 (bcd n)) (hA : A = BitVec.ofInt 8 (bcd P)) (hB : B = BitVec.ofInt 8 (bcd Q))
    (eS : decide (100 ≤ m + n) = SC) (eD : decide (0 ≤ m - n - 1) = DC) (eP : (m + n) % 100 = P) (eQ : (m - n - 1 + 100) % 100 = Q)
    (hs : ∀ w, Calls Try.prog 12 #[TB X 0#8, TB Y 0#8, TBit false false, TBit true false] w fun e w' => e = .returned (.agg #[B8 A, B8 0#8, .bool n1, .bool false, .bool v1, .bool false, .bool z1, .bool false, .bool SC, .bool false]) ∧ Below w.heap.size w w')
    (hd : ∀ w, Calls Try.prog 15 #[TB X 0#8, TB Y 0#8, TBit false false, TBit true false] w fun e w' => e = .returned (.agg #[B8 B, B8 0#8, .bool n2, .bool false, .bool v2, .bool false, .bool z2, .bool false, .bool DC, .bool false]) ∧ Below w.heap.size w w')
    (w : World) : Calls Try.prog 8 #[.int .i64 m, .int .i64 n, .bool false] w (LawEnd w) := by
  have eD2 : decide (1 ≤ m - n) = DC := by rw [← eD]; exact dec_eq (by omega)
  have HS := Lib.hid hs
  have HD := Lib.hid hd
  have HX := Lib.hid hX
  have HY := Lib.hid hY
  have HA := Lib.hid hA
  have HB := Lib.hid hB
  clear hs hd hX hY hA hB
  have p1 : 0 ≤ P ∧ P ≤ 99 := by rw [← eP]; exact mod_b _
  have p2 : 0 ≤ Q ∧ Q ≤ 99 := by rw [← eQ]; exact mod_b _
  have T := Lib.hid (And.intro (pk P p1.1 p1.2) (pk Q p2.1 p2.2))
  have g1 : 0 ≤ m + n := by omega
  have g2 : 0 ≤ m - n - 1 + 100 := by omega
  have m5 : (m + n).tmod 100 = P := (tmd _ _ g1).trans eP
  have m6 : (m - n - 1 + 100).tmod 100 = Q := (tmd _ _ g2).trans eQ
  have M5 := Lib.hid m5
  have M6 := Lib.hid m6
  obtain ⟨p1, p1'⟩ := p1
  obtain ⟨p2, p2'⟩ := p2
  clear eP eQ g1 g2 m5 m6
  have q1 : 0 ≤ m := by omega
  have q2 : 0 ≤ n := by omega
  have q3 := pk m q1 (by omega)
  have q4 := pk n q2 (by omega)
  obtain ⟨m1, m2, m3, m4, m5⟩ := q3
  obtain ⟨n1', n2', n3, n4, n5⟩ := q4
  have b1 := bcd_hi m q1 (by omega)
  have b2 := bcd_hi n q2 (by omega)
  obtain ⟨b1, b1'⟩ := b1
  obtain ⟨b2, b2'⟩ := b2
  have m6 : m / 10 * 16 + m % 10 = bcd m := rfl
  have n6 : n / 10 * 16 + n % 10 = bcd n := rfl
  have k2 := u8_beq
  go_enter Try.func8, Try.ntmps8
  go_wp2_with fail
  ((with_reducible refine (ofX_c (bcd m) X HX.out _).mono ?_); rintro _ w1 ⟨rfl, hb⟩)
  have hz := hb.size
  (try simp only [World.size_alloc, World.size_setCell, World.size_drew] at hz)
  have hB' : Below w.heap.size w w1 := by
      refine kb ?_ hb
      go_grown
  clear hb hz
  have hB := hB'; clear hB'
  have hsz := hB.size
  go_wp2_with fail
  ((with_reducible refine (ofX_c (bcd n) Y HY.out _).mono ?_); rintro _ w2 ⟨rfl, hb⟩)
  have T : w2.cell? ⟨w1.heap.size, 0, none⟩ = some (B8 X) ∧ w2.cell? ⟨w1.heap.size, 1, none⟩ = some (B8 0#8) := by
      refine ⟨?_, ?_⟩ <;> refine kc hb ?_ <;> (go_simp; first | done | rfl)
  have hz := hb.size
  (try simp only [World.size_alloc, World.size_setCell, World.size_drew] at hz)
  have hla' : w1.heap.size < w2.heap.size := by omega
  have hB' : Below w.heap.size w w2 := by
      refine kb ?_ hb
      go_grown
  clear hB hsz
  clear hb hz
  obtain ⟨ha_0, ha_1⟩ := T
  have hla := hla'; clear hla'
  have hna0 : ¬ (w1.heap.size = w2.heap.size) := by omega
  have hna1 : ¬ (w1.heap.size = w2.heap.size + 1) := by omega
  have hka1 : w1.heap.size < w2.heap.size + 1 := by omega
  have hna2 : ¬ (w1.heap.size = w2.heap.size + 1 + 1) := by omega
  have hka2 : w1.heap.size < w2.heap.size + 1 + 1 := by omega
  have hB := hB'; clear hB'
  have hsz := hB.size
  go_wp2_with fail
  refine wp_region_planA 7 6 9 #[.int .u8 0, .int .u8 0, .bool false, .bool false, .bool false, .bool false, .bool false, .bool false, .bool false, .bool false] 30 (fun w' => w'.cell? ⟨w1.heap.size, 0, none⟩ = some (B8 X) ∧ w'.cell? ⟨w1.heap.size, 1, none⟩ = some (B8 0#8) ∧ w'.cell? ⟨w2.heap.size, 0, none⟩ = some (B8 Y) ∧ w'.cell? ⟨w2.heap.size, 1, none⟩ = some (B8 0#8) ∧ Below w.heap.size w w') (fun bs w' => w'.cell? ⟨bs, 0, none⟩ = some (.int .u8 0) ∧ w'.frozen? ⟨bs, 0, none⟩ = false ∧ w'.cell? ⟨bs, 1, none⟩ = some (.int .u8 0) ∧ w'.frozen? ⟨bs, 1, none⟩ = false ∧ w'.cell? ⟨bs, 2, none⟩ = some (.bool false) ∧ w'.frozen? ⟨bs, 2, none⟩ = false ∧ w'.cell? ⟨bs, 3, none⟩ = some (.bool false) ∧ w'.frozen? ⟨bs, 3, none⟩ = false ∧ w'.cell? ⟨bs, 4, none⟩ = some (.bool false) ∧ w'.frozen? ⟨bs, 4, none⟩ = false ∧ w'.cell? ⟨bs, 5, none⟩ = some (.bool false) ∧ w'.frozen? ⟨bs, 5, none⟩ = false ∧ w'.cell? ⟨bs, 6, none⟩ = some (.bool false) ∧ w'.frozen? ⟨bs, 6, none⟩ = false ∧ w'.cell? ⟨bs, 7, none⟩ = some (.bool false) ∧ w'.frozen? ⟨bs, 7, none⟩ = false ∧ w'.cell? ⟨bs, 8, none⟩ = some (.bool false) ∧ w'.frozen? ⟨bs, 8, none⟩ = false ∧ w'.cell? ⟨bs, 9, none⟩ = some (.bool false) ∧ w'.frozen? ⟨bs, 9, none⟩ = false ∧ w.heap.size ≤ bs ∧ w1.heap.size < bs ∧ w2.heap.size < bs) (by kernel_rfl) (by kernel_rfl) (by kernel_rfl) (by kernel_rfl) (by kernel_rfl) ?_ (fun W w1 hSw hb => ⟨kc hb hSw.1, kc hb hSw.2.1, kc hb hSw.2.2.1, kc hb hSw.2.2.2.1, kb hSw.2.2.2.2 hb⟩) (fun bs W w1 hEw hb => ⟨kc hb hEw.1, kfz hb (klt hEw.1) hEw.2.1, kc hb hEw.2.2.1, kfz hb (klt hEw.2.2.1) hEw.2.2.2.1, kc hb hEw.2.2.2.2.1, kfz hb (klt hEw.2.2.2.2.1) hEw.2.2.2.2.2.1, kc hb hEw.2.2.2.2.2.2.1, kfz hb (klt hEw.2.2.2.2.2.2.1) hEw.2.2.2.2.2.2.2.1, kc hb hEw.2.2.2.2.2.2.2.2.1, kfz hb (klt hEw.2.2.2.2.2.2.2.2.1) hEw.2.2.2.2.2.2.2.2.2.1, kc hb hEw.2.2.2.2.2.2.2.2.2.2.1, kfz hb (klt hEw.2.2.2.2.2.2.2.2.2.2.1) hEw.2.2.2.2.2.2.2.2.2.2.2.1, kc hb hEw.2.2.2.2.2.2.2.2.2.2.2.2.1, kfz hb (klt hEw.2.2.2.2.2.2.2.2.2.2.2.2.1) hEw.2.2.2.2.2.2.2.2.2.2.2.2.2.1, kc hb hEw.2.2.2.2.2.2.2.2.2.2.2.2.2.2.1, kfz hb (klt hEw.2.2.2.2.2.2.2.2.2.2.2.2.2.2.1) hEw.2.2.2.2.2.2.2.2.2.2.2.2.2.2.2.1, kc hb hEw.2.2.2.2.2.2.2.2.2.2.2.2.2.2.2.2.1, kfz hb (klt hEw.2.2.2.2.2.2.2.2.2.2.2.2.2.2.2.2.1) hEw.2.2.2.2.2.2.2.2.2.2.2.2.2.2.2.2.2.1, kc hb hEw.2.2.2.2.2.2.2.2.2.2.2.2.2.2.2.2.2.2.1, kfz hb (klt hEw.2.2.2.2.2.2.2.2.2.2.2.2.2.2.2.2.2.2.1) hEw.2.2.2.2.2.2.2.2.2.2.2.2.2.2.2.2.2.2.2.1, hEw.2.2.2.2.2.2.2.2.2.2.2.2.2.2.2.2.2.2.2.2⟩) ?_ ?_ ?_
  · intro a W; show (execOp _ _).run _ _ = _; first | rfl | kernel_rfl
  · intro W hSw
    have hzW := (hSw.2.2.2.2).size
    have hkW0 := klt (hSw.1)
    have hkW2 := klt (hSw.2.2.1)
    refine ⟨?_, ?_, ?_, ?_, ?_, ?_, ?_, ?_, ?_, ?_, ?_, ?_, ?_, ?_, ?_, ?_, ?_, ?_, ?_, ?_, ?_, ?_, ?_⟩ <;> first | (go_simp; done) | omega | (dsimp only; omega)
  · (try dsimp only)
    refine ⟨?_, ?_, ?_, ?_, ?_⟩ <;> first | (go_simp; done) | (simp [*]; done) | go_grown
  (try simp only [List.append_eq, List.cons_append, List.nil_append, List.toList_toArray, List.take_succ_cons, List.take_zero, List.drop_succ_cons, List.drop_zero])
  repeat (first
    | (refine PlanA.skip (by decide) ?_)
    | (refine PlanA.val (v := ?_) (by decide) ?_ ?_ ?_; rotate_left; (· rfl); (· (intro W hSw; (try dsimp only at hSw); go_simp; all_goals (first | (with_reducible rfl) | (constructor <;> (with_reducible rfl))))); (try simp only [Act.put, List.setIfInBounds_toArray, List.set_cons_zero, List.set_cons_succ]))
    | (refine PlanA.no (by decide) ?_ ?_; (· rfl); (try simp only [Act.put, List.setIfInBounds_toArray, List.set_cons_zero, List.set_cons_succ]))
    | (refine PlanA.call (v := ?_) (f := ?_) (args := ?_) (by decide) ?_ ?_ ?_ ?_; rotate_left 3; (· rfl); (· (intro W hSw; (try dsimp only at hSw); go_simp; all_goals (first | (with_reducible rfl) | (constructor <;> (with_reducible rfl))))); (· (intro W hSw; (try dsimp only at hSw); first | (go_at_call 26; ((with_reducible refine (yes_c _).mono ?_); rintro _ wz ⟨rfl, hb⟩; (refine ⟨?_, hb⟩; with_reducible rfl))) | (go_at_call 12; ((with_reducible refine (HS.out _).mono ?_); rintro _ wz ⟨rfl, hb⟩; (refine ⟨?_, hb⟩; with_reducible rfl))))); (try simp only [Act.put, List.setIfInBounds_toArray, List.set_cons_zero, List.set_cons_succ])))
  refine PlanA.done ?_
  intro bs w3 T E
  (try dsimp only at T E)
  (try simp only [Act.put, List.setIfInBounds_toArray, List.set_cons_zero, List.set_cons_succ])
  clear ha_0 ha_1 hla hna0 hna1 hka1 hna2 hka2 hB hsz
  obtain ⟨ha_0, ha_1, hb_0, hb_1, hB⟩ := T
  obtain ⟨hs_0, fs_0, hs_1, fs_1, hs_2, fs_2, hs_3, fs_3, hs_4, fs_4, hs_5, fs_5, hs_6, fs_6, hs_7, fs_7, hs_8, fs_8, hs_9, fs_9, hg_bs, hq_bs_a, hq_bs_b⟩ := E
  have hr_bs_a : ¬ w1.heap.size = bs := by omega
  have hs_bs_a : ¬ bs = w1.heap.size := by omega
  have hr_bs_b : ¬ w2.heap.size = bs := by omega
  have hs_bs_b : ¬ bs = w2.heap.size := by omega
  have hsz := hB.size
  have hla := klt ha_0
  have hlb := klt hb_0
  have hls := klt hs_0
  have hna0 : ¬ (w1.heap.size = w3.heap.size) := by omega
  have hna1 : ¬ (w1.heap.size = w3.heap.size + 1) := by omega
  have hka1 : w1.heap.size < w3.heap.size + 1 := by omega
  have hna2 : ¬ (w1.heap.size = w3.heap.size + 1 + 1) := by omega
  have hka2 : w1.heap.size < w3.heap.size + 1 + 1 := by omega
  have hnb0 : ¬ (w2.heap.size = w3.heap.size) := by omega
  have hnb1 : ¬ (w2.heap.size = w3.heap.size + 1) := by omega
  have hkb1 : w2.heap.size < w3.heap.size + 1 := by omega
  have hnb2 : ¬ (w2.heap.size = w3.heap.size + 1 + 1) := by omega
  have hkb2 : w2.heap.size < w3.heap.size + 1 + 1 := by omega
  have hns0 : ¬ (bs = w3.heap.size) := by omega
  have hns1 : ¬ (bs = w3.heap.size + 1) := by omega
  have hks1 : bs < w3.heap.size + 1 := by omega
  have hns2 : ¬ (bs = w3.heap.size + 1 + 1) := by omega
  have hks2 : bs < w3.heap.size + 1 + 1 := by omega
  go_wp2_with fail
  refine wp_region_planA 7 6 10 #[.int .u8 0, .int .u8 0, .bool false, .bool false, .bool false, .bool false, .bool false, .bool false, .bool false, .bool false] 30 (fun w' => w'.cell? ⟨w1.heap.size, 0, none⟩ = some (B8 X) ∧ w'.cell? ⟨w1.heap.size, 1, none⟩ = some (B8 0#8) ∧ w'.cell? ⟨w2.heap.size, 0, none⟩ = some (B8 Y) ∧ w'.cell? ⟨w2.heap.size, 1, none⟩ = some (B8 0#8) ∧ w'.cell? ⟨bs, 0, none⟩ = some (B8 A) ∧ w'.cell? ⟨bs, 1, none⟩ = some (B8 0#8) ∧ w'.cell? ⟨bs, 2, none⟩ = some (.bool n1) ∧ w'.cell? ⟨bs, 3, none⟩ = some (.bool false) ∧ w'.cell? ⟨bs, 4, none⟩ = some (.bool v1) ∧ w'.cell? ⟨bs, 5, none⟩ = some (.bool false) ∧ w'.cell? ⟨bs, 6, none⟩ = some (.bool z1) ∧ w'.cell? ⟨bs, 7, none⟩ = some (.bool false) ∧ w'.cell? ⟨bs, 8, none⟩ = some (.bool SC) ∧ w'.cell? ⟨bs, 9, none⟩ = some (.bool false) ∧ Below w.heap.size w w') (fun bd w' => w'.cell? ⟨bd, 0, none⟩ = some (.int .u8 0) ∧ w'.frozen? ⟨bd, 0, none⟩ = false ∧ w'.cell? ⟨bd, 1, none⟩ = some (.int .u8 0) ∧ w'.frozen? ⟨bd, 1, none⟩ = false ∧ w'.cell? ⟨bd, 2, none⟩ = some (.bool false) ∧ w'.frozen? ⟨bd, 2, none⟩ = false ∧ w'.cell? ⟨bd, 3, none⟩ = some (.bool false) ∧ w'.frozen? ⟨bd, 3, none⟩ = false ∧ w'.cell? ⟨bd, 4, none⟩ = some (.bool false) ∧ w'.frozen? ⟨bd, 4, none⟩ = false ∧ w'.cell? ⟨bd, 5, none⟩ = some (.bool false) ∧ w'.frozen? ⟨bd, 5, none⟩ = false ∧ w'.cell? ⟨bd, 6, none⟩ = some (.bool false) ∧ w'.frozen? ⟨bd, 6, none⟩ = false ∧ w'.cell? ⟨bd, 7, none⟩ = some (.bool false) ∧ w'.frozen? ⟨bd, 7, none⟩ = false ∧ w'.cell? ⟨bd, 8, none⟩ = some (.bool false) ∧ w'.frozen? ⟨bd, 8, none⟩ = false ∧ w'.cell? ⟨bd, 9, none⟩ = some (.bool false) ∧ w'.frozen? ⟨bd, 9, none⟩ = false ∧ w.heap.size ≤ bd ∧ w1.heap.size < bd ∧ w2.heap.size < bd ∧ bs < bd) (by kernel_rfl) (by kernel_rfl) (by kernel_rfl) (by kernel_rfl) (by kernel_rfl) ?_ (fun W w1 hSw hb => ⟨kc hb hSw.1, kc hb hSw.2.1, kc hb hSw.2.2.1, kc hb hSw.2.2.2.1, kc hb hSw.2.2.2.2.1, kc hb hSw.2.2.2.2.2.1, kc hb hSw.2.2.2.2.2.2.1, kc hb hSw.2.2.2.2.2.2.2.1, kc hb hSw.2.2.2.2.2.2.2.2.1, kc hb hSw.2.2.2.2.2.2.2.2.2.1, kc hb hSw.2.2.2.2.2.2.2.2.2.2.1, kc hb hSw.2.2.2.2.2.2.2.2.2.2.2.1, kc hb hSw.2.2.2.2.2.2.2.2.2.2.2.2.1, kc hb hSw.2.2.2.2.2.2.2.2.2.2.2.2.2.1, kb hSw.2.2.2.2.2.2.2.2.2.2.2.2.2.2 hb⟩) (fun bd W w1 hEw hb => ⟨kc hb hEw.1, kfz hb (klt hEw.1) hEw.2.1, kc hb hEw.2.2.1, kfz hb (klt hEw.2.2.1) hEw.2.2.2.1, kc hb hEw.2.2.2.2.1, kfz hb (klt hEw.2.2.2.2.1) hEw.2.2.2.2.2.1, kc hb hEw.2.2.2.2.2.2.1, kfz hb (klt hEw.2.2.2.2.2.2.1) hEw.2.2.2.2.2.2.2.1, kc hb hEw.2.2.2.2.2.2.2.2.1, kfz hb (klt hEw.2.2.2.2.2.2.2.2.1) hEw.2.2.2.2.2.2.2.2.2.1, kc hb hEw.2.2.2.2.2.2.2.2.2.2.1, kfz hb (klt hEw.2.2.2.2.2.2.2.2.2.2.1) hEw.2.2.2.2.2.2.2.2.2.2.2.1, kc hb hEw.2.2.2.2.2.2.2.2.2.2.2.2.1, kfz hb (klt hEw.2.2.2.2.2.2.2.2.2.2.2.2.1) hEw.2.2.2.2.2.2.2.2.2.2.2.2.2.1, kc hb hEw.2.2.2.2.2.2.2.2.2.2.2.2.2.2.1, kfz hb (klt hEw.2.2.2.2.2.2.2.2.2.2.2.2.2.2.1) hEw.2.2.2.2.2.2.2.2.2.2.2.2.2.2.2.1, kc hb hEw.2.2.2.2.2.2.2.2.2.2.2.2.2.2.2.2.1, kfz hb (klt hEw.2.2.2.2.2.2.2.2.2.2.2.2.2.2.2.2.1) hEw.2.2.2.2.2.2.2.2.2.2.2.2.2.2.2.2.2.1, kc hb hEw.2.2.2.2.2.2.2.2.2.2.2.2.2.2.2.2.2.2.1, kfz hb (klt hEw.2.2.2.2.2.2.2.2.2.2.2.2.2.2.2.2.2.2.1) hEw.2.2.2.2.2.2.2.2.2.2.2.2.2.2.2.2.2.2.2.1, hEw.2.2.2.2.2.2.2.2.2.2.2.2.2.2.2.2.2.2.2.2⟩) ?_ ?_ ?_
  · intro a W; show (execOp _ _).run _ _ = _; first | rfl | kernel_rfl
  · intro W hSw
    have hzW := (hSw.2.2.2.2.2.2.2.2.2.2.2.2.2.2).size
    have hkW0 := klt (hSw.1)
    have hkW2 := klt (hSw.2.2.1)
    have hkW4 := klt (hSw.2.2.2.2.1)
    refine ⟨?_, ?_, ?_, ?_, ?_, ?_, ?_, ?_, ?_, ?_, ?_, ?_, ?_, ?_, ?_, ?_, ?_, ?_, ?_, ?_, ?_, ?_, ?_, ?_⟩ <;> first | (go_simp; done) | omega | (dsimp only; omega)
  · (try dsimp only)
    refine ⟨?_, ?_, ?_, ?_, ?_, ?_, ?_, ?_, ?_, ?_, ?_, ?_, ?_, ?_, ?_⟩ <;> first | (go_simp; done) | (simp [*]; done) | go_grown
  (try simp only [List.append_eq, List.cons_append, List.nil_append, List.toList_toArray, List.take_succ_cons, List.take_zero, List.drop_succ_cons, List.drop_zero])
  repeat (first
    | (refine PlanA.skip (by decide) ?_)
    | (refine PlanA.val (v := ?_) (by decide) ?_ ?_ ?_; rotate_left; (· rfl); (· (intro W hSw; (try dsimp only at hSw); go_simp; all_goals (first | (with_reducible rfl) | (constructor <;> (with_reducible rfl))))); (try simp only [Act.put, List.setIfInBounds_toArray, List.set_cons_zero, List.set_cons_succ]))
    | (refine PlanA.no (by decide) ?_ ?_; (· rfl); (try simp only [Act.put, List.setIfInBounds_toArray, List.set_cons_zero, List.set_cons_succ]))
    | (refine PlanA.call (v := ?_) (f := ?_) (args := ?_) (by decide) ?_ ?_ ?_ ?_; rotate_left 3; (· rfl); (· (intro W hSw; (try dsimp only at hSw); go_simp; all_goals (first | (with_reducible rfl) | (constructor <;> (with_reducible rfl))))); (· (intro W hSw; (try dsimp only at hSw); first | (go_at_call 26; ((with_reducible refine (yes_c _).mono ?_); rintro _ wz ⟨rfl, hb⟩; (refine ⟨?_, hb⟩; with_reducible rfl))) | (go_at_call 15; ((with_reducible refine (HD.out _).mono ?_); rintro _ wz ⟨rfl, hb⟩; (refine ⟨?_, hb⟩; with_reducible rfl))))); (try simp only [Act.put, List.setIfInBounds_toArray, List.set_cons_zero, List.set_cons_succ])))
  refine PlanA.done ?_
  intro bd w4 T E
  (try dsimp only at T E)
  (try simp only [Act.put, List.setIfInBounds_toArray, List.set_cons_zero, List.set_cons_succ])
  clear ha_0 ha_1 hb_0 hb_1 hs_0 fs_0 hs_1 fs_1 hs_2 fs_2 hs_3 fs_3 hs_4 fs_4 hs_5 fs_5 hs_6 fs_6 hs_7 fs_7 hs_8 fs_8 hs_9 fs_9 hB hsz hla hlb hls hna0 hna1 hka1 hna2 hka2 hnb0 hnb1 hkb1 hnb2 hkb2 hns0 hns1 hks1 hns2 hks2
  obtain ⟨ha_0, ha_1, hb_0, hb_1, hsv_0, hsv_1, hsv_2, hsv_3, hsv_4, hsv_5, hsv_6, hsv_7, hsv_8, hsv_9, hB⟩ := T
  obtain ⟨hd_0, fd_0, hd_1, fd_1, hd_2, fd_2, hd_3, fd_3, hd_4, fd_4, hd_5, fd_5, hd_6, fd_6, hd_7, fd_7, hd_8, fd_8, hd_9, fd_9, hg_bd, hq_bd_a, hq_bd_b, hq_bd_sv⟩ := E
  have hr_bd_a : ¬ w1.heap.size = bd := by omega
  have hs_bd_a : ¬ bd = w1.heap.size := by omega
  have hr_bd_b : ¬ w2.heap.size = bd := by omega
  have hs_bd_b : ¬ bd = w2.heap.size := by omega
  have hr_bd_sv : ¬ bs = bd := by omega
  have hs_bd_sv : ¬ bd = bs := by omega
  have hsz := hB.size
  have hla := klt ha_0
  have hlb := klt hb_0
  have hlsv := klt hsv_0
  have hld := klt hd_0
  have hna0 : ¬ (w1.heap.size = w4.heap.size) := by omega
  have hna1 : ¬ (w1.heap.size = w4.heap.size + 1) := by omega
  have hka1 : w1.heap.size < w4.heap.size + 1 := by omega
  have hna2 : ¬ (w1.heap.size = w4.heap.size + 1 + 1) := by omega
  have hka2 : w1.heap.size < w4.heap.size + 1 + 1 := by omega
  have hnb0 : ¬ (w2.heap.size = w4.heap.size) := by omega
  have hnb1 : ¬ (w2.heap.size = w4.heap.size + 1) := by omega
  have hkb1 : w2.heap.size < w4.heap.size + 1 := by omega
  have hnb2 : ¬ (w2.heap.size = w4.heap.size + 1 + 1) := by omega
  have hkb2 : w2.heap.size < w4.heap.size + 1 + 1 := by omega
  have hnsv0 : ¬ (bs = w4.heap.size) := by omega
  have hnsv1 : ¬ (bs = w4.heap.size + 1) := by omega
  have hksv1 : bs < w4.heap.size + 1 := by omega
  have hnsv2 : ¬ (bs = w4.heap.size + 1 + 1) := by omega
  have hksv2 : bs < w4.heap.size + 1 + 1 := by omega
  have hnd0 : ¬ (bd = w4.heap.size) := by omega
  have hnd1 : ¬ (bd = w4.heap.size + 1) := by omega
  have hkd1 : bd < w4.heap.size + 1 := by omega
  have hnd2 : ¬ (bd = w4.heap.size + 1 + 1) := by omega
  have hkd2 : bd < w4.heap.size + 1 + 1 := by omega
  have m5' := M5.out
  have m6' := M6.out
  clear m1 m2 m3 m4 m5 m6 n1' n2' n3 n4 n5 n6
  go_upto_region 16 with fail
  obtain ⟨⟨t1, t2, t3, t4, t5⟩, ⟨r1, r2, r3, r4, r5⟩⟩ := T.out
  refine wp_region_plan (fun w' => w'.cell? ⟨bs, 0, none⟩ = some (B8 A) ∧ w'.cell? ⟨bs, 1, none⟩ = some (B8 0#8) ∧ w'.cell? ⟨bs, 2, none⟩ = some (.bool n1) ∧ w'.cell? ⟨bs, 3, none⟩ = some (.bool false) ∧ w'.cell? ⟨bs, 4, none⟩ = some (.bool v1) ∧ w'.cell? ⟨bs, 5, none⟩ = some (.bool false) ∧ w'.cell? ⟨bs, 6, none⟩ = some (.bool z1) ∧ w'.cell? ⟨bs, 7, none⟩ = some (.bool false) ∧ w'.cell? ⟨bs, 8, none⟩ = some (.bool SC) ∧ w'.cell? ⟨bs, 9, none⟩ = some (.bool false) ∧ w'.cell? ⟨bd, 0, none⟩ = some (B8 B) ∧ w'.cell? ⟨bd, 1, none⟩ = some (B8 0#8) ∧ w'.cell? ⟨bd, 2, none⟩ = some (.bool n2) ∧ w'.cell? ⟨bd, 3, none⟩ = some (.bool false) ∧ w'.cell? ⟨bd, 4, none⟩ = some (.bool v2) ∧ w'.cell? ⟨bd, 5, none⟩ = some (.bool false) ∧ w'.cell? ⟨bd, 6, none⟩ = some (.bool z2) ∧ w'.cell? ⟨bd, 7, none⟩ = some (.bool false) ∧ w'.cell? ⟨bd, 8, none⟩ = some (.bool DC) ∧ w'.cell? ⟨bd, 9, none⟩ = some (.bool false) ∧ Below w.heap.size w w') (by kernel_rfl) (by kernel_rfl) (by kernel_rfl) ?_ ?_
  · (try dsimp only)
    refine ⟨?_, ?_, ?_, ?_, ?_, ?_, ?_, ?_, ?_, ?_, ?_, ?_, ?_, ?_, ?_, ?_, ?_, ?_, ?_, ?_, ?_⟩ <;> first | (go_simp; done) | (simp [*]; done) | go_grown
  repeat (first
    | (refine Plan.val (v := ?_) ?_ ?_ ?_; rotate_left; (· rfl); (· (intro W hSw; (try dsimp only at hSw); go_simp; all_goals (first | (with_reducible rfl) | (constructor <;> (with_reducible rfl))))); (try simp only [Act.put, List.setIfInBounds_toArray, List.set_cons_zero, List.set_cons_succ]))
    | (refine Plan.no ?_ ?_; (· rfl); (try simp only [Act.put, List.setIfInBounds_toArray, List.set_cons_zero, List.set_cons_succ]))
    | (refine Plan.call (v := ?_) (f := ?_) (args := ?_) ?_ ?_ ?_ ?_; rotate_left 3; (· rfl); (· (intro W hSw; (try dsimp only at hSw); go_simp; all_goals (first | (with_reducible rfl) | (constructor <;> (with_reducible rfl))))); (· (intro W hSw; (try dsimp only at hSw); first | (go_at_call 25; ((with_reducible refine (ofX_c (bcd P) A HA.out _).mono ?_); rintro _ wz ⟨rfl, hb⟩; (refine ⟨?_, ?_⟩; (· with_reducible rfl); exact ⟨kc hb hSw.1, kc hb hSw.2.1, kc hb hSw.2.2.1, kc hb hSw.2.2.2.1, kc hb hSw.2.2.2.2.1, kc hb hSw.2.2.2.2.2.1, kc hb hSw.2.2.2.2.2.2.1, kc hb hSw.2.2.2.2.2.2.2.1, kc hb hSw.2.2.2.2.2.2.2.2.1, kc hb hSw.2.2.2.2.2.2.2.2.2.1, kc hb hSw.2.2.2.2.2.2.2.2.2.2.1, kc hb hSw.2.2.2.2.2.2.2.2.2.2.2.1, kc hb hSw.2.2.2.2.2.2.2.2.2.2.2.2.1, kc hb hSw.2.2.2.2.2.2.2.2.2.2.2.2.2.1, kc hb hSw.2.2.2.2.2.2.2.2.2.2.2.2.2.2.1, kc hb hSw.2.2.2.2.2.2.2.2.2.2.2.2.2.2.2.1, kc hb hSw.2.2.2.2.2.2.2.2.2.2.2.2.2.2.2.2.1, kc hb hSw.2.2.2.2.2.2.2.2.2.2.2.2.2.2.2.2.2.1, kc hb hSw.2.2.2.2.2.2.2.2.2.2.2.2.2.2.2.2.2.2.1, kc hb hSw.2.2.2.2.2.2.2.2.2.2.2.2.2.2.2.2.2.2.2.1, kb hSw.2.2.2.2.2.2.2.2.2.2.2.2.2.2.2.2.2.2.2.2 hb⟩))) | (go_at_call 25; ((with_reducible refine (ofX_c (bcd Q) B HB.out _).mono ?_); rintro _ wz ⟨rfl, hb⟩; (refine ⟨?_, ?_⟩; (· with_reducible rfl); exact ⟨kc hb hSw.1, kc hb hSw.2.1, kc hb hSw.2.2.1, kc hb hSw.2.2.2.1, kc hb hSw.2.2.2.2.1, kc hb hSw.2.2.2.2.2.1, kc hb hSw.2.2.2.2.2.2.1, kc hb hSw.2.2.2.2.2.2.2.1, kc hb hSw.2.2.2.2.2.2.2.2.1, kc hb hSw.2.2.2.2.2.2.2.2.2.1, kc hb hSw.2.2.2.2.2.2.2.2.2.2.1, kc hb hSw.2.2.2.2.2.2.2.2.2.2.2.1, kc hb hSw.2.2.2.2.2.2.2.2.2.2.2.2.1, kc hb hSw.2.2.2.2.2.2.2.2.2.2.2.2.2.1, kc hb hSw.2.2.2.2.2.2.2.2.2.2.2.2.2.2.1, kc hb hSw.2.2.2.2.2.2.2.2.2.2.2.2.2.2.2.1, kc hb hSw.2.2.2.2.2.2.2.2.2.2.2.2.2.2.2.2.1, kc hb hSw.2.2.2.2.2.2.2.2.2.2.2.2.2.2.2.2.2.1, kc hb hSw.2.2.2.2.2.2.2.2.2.2.2.2.2.2.2.2.2.2.1, kc hb hSw.2.2.2.2.2.2.2.2.2.2.2.2.2.2.2.2.2.2.2.1, kb hSw.2.2.2.2.2.2.2.2.2.2.2.2.2.2.2.2.2.2.2.2 hb⟩))) | (go_at_call 14; ((with_reducible refine (awake_c _).mono ?_); rintro _ wz ⟨rfl, hb⟩; (refine ⟨?_, ?_⟩; (· with_reducible rfl); exact ⟨kc hb hSw.1, kc hb hSw.2.1, kc hb hSw.2.2.1, kc hb hSw.2.2.2.1, kc hb hSw.2.2.2.2.1, kc hb hSw.2.2.2.2.2.1, kc hb hSw.2.2.2.2.2.2.1, kc hb hSw.2.2.2.2.2.2.2.1, kc hb hSw.2.2.2.2.2.2.2.2.1, kc hb hSw.2.2.2.2.2.2.2.2.2.1, kc hb hSw.2.2.2.2.2.2.2.2.2.2.1, kc hb hSw.2.2.2.2.2.2.2.2.2.2.2.1, kc hb hSw.2.2.2.2.2.2.2.2.2.2.2.2.1, kc hb hSw.2.2.2.2.2.2.2.2.2.2.2.2.2.1, kc hb hSw.2.2.2.2.2.2.2.2.2.2.2.2.2.2.1, kc hb hSw.2.2.2.2.2.2.2.2.2.2.2.2.2.2.2.1, kc hb hSw.2.2.2.2.2.2.2.2.2.2.2.2.2.2.2.2.1, kc hb hSw.2.2.2.2.2.2.2.2.2.2.2.2.2.2.2.2.2.1, kc hb hSw.2.2.2.2.2.2.2.2.2.2.2.2.2.2.2.2.2.2.1, kc hb hSw.2.2.2.2.2.2.2.2.2.2.2.2.2.2.2.2.2.2.2.1, kb hSw.2.2.2.2.2.2.2.2.2.2.2.2.2.2.2.2.2.2.2.2 hb⟩))))); (try simp only [Act.put, List.setIfInBounds_toArray, List.set_cons_zero, List.set_cons_succ])))
  refine Plan.done ?_
  intro wz T
  (try dsimp only at T)
  have hBe := T.2.2.2.2.2.2.2.2.2.2.2.2.2.2.2.2.2.2.2.2
  go_wp2
  go_ret
  exact ⟨rfl, hBe⟩
end Go.Proofs.Ytdmgdldadpkhgaa
