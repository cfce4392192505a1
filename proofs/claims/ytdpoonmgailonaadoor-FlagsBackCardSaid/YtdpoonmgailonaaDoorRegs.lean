/-
  A register's bits: got, put in, told by a byte; what goes on the stack; the program's and the document's, call by call.
-/
import Derived.Test.YtdpoonmgailonaaDoorRef7
import Derived.Test.YtdpoonmgailonaaDoorRef3
import Derived.Test.YtdpoonmgailonaaDoorPlanA
set_option linter.unusedSimpArgs false
set_option linter.unusedVariables false
namespace Go.Proofs.YtdpoonmgailonaaDoor
open Go.RowKit

/-- The bit at a place, and a byte with a bit put in there: none, and the byte, where there is no such place. -/
def getI (x : BitVec 8) (i : Int) : Bool := if 0 ≤ i ∧ i < 8 then bitAt x i.toNat else false
def setI (x : BitVec 8) (i : Int) (v : Bool) : BitVec 8 := if 0 ≤ i ∧ i < 8 then setB x i.toNat v else x
theorem dec_eq {p q : Prop} [Decidable p] [Decidable q] (h : p ↔ q) : decide p = decide q := by simp only [h]
theorem place (i : Int) : (∃ n : Nat, i = n ∧ n < 8) ∨ (i < 0 ∨ 7 < i) := by
  by_cases h : 0 ≤ i ∧ i < 8
  · exact .inl ⟨i.toNat, by omega, by omega⟩
  · exact .inr (by omega)
theorem getI_nat (x : BitVec 8) (n : Nat) (h : n < 8) : getI x n = bitAt x n := by
  unfold getI; rw [if_pos (by omega)]; rfl
theorem setI_nat (x : BitVec 8) (n : Nat) (v : Bool) (h : n < 8) : setI x n v = setB x n v := by
  unfold setI; rw [if_pos (by omega)]; rfl
theorem getI_out (x : BitVec 8) (i : Int) (h : i < 0 ∨ 7 < i) : getI x i = false := by
  unfold getI; rw [if_neg (by omega)]
theorem setI_out (x : BitVec 8) (i : Int) (v : Bool) (h : i < 0 ∨ 7 < i) : setI x i v = x := by
  unfold setI; rw [if_neg (by omega)]

theorem bit_i (x t : BitVec 8) (i : Int) (w : World) : Calls Tryd.prog 24 #[TB x t, .int .i64 i] w fun e w' => e = .returned (TBit (getI x i) (getI t i)) ∧ Below w.heap.size w w' := by
  rcases place i with ⟨n, rfl, h⟩ | h
  · rw [getI_nat x n h, getI_nat t n h]; exact bit_in x t n h w
  · rw [getI_out x i h, getI_out t i h]; exact bit_out x t i h w
theorem put_i (x t : BitVec 8) (i : Int) (v s : Bool) (w : World) : Calls Tryd.prog 26 #[TB x t, .int .i64 i, TBit v s] w fun e w' => e = .returned (TB (setI x i v) (setI t i s)) ∧ Below w.heap.size w w' := by
  rcases place i with ⟨n, rfl, h⟩ | h
  · rw [setI_nat x n v h, setI_nat t n s h]; exact put_in x t n v s h w
  · rw [setI_out x i v h, setI_out t i s h]; exact put_out x t i v s h w
theorem rbit_i (x t : BitVec 8) (i : Int) (w : World) : Calls Tryd.prog 9 #[TB x t, .int .i64 i] w fun e w' => e = .returned (TBit (getI x i) (getI t i)) ∧ Below w.heap.size w w' := by
  rcases place i with ⟨n, rfl, h⟩ | h
  · rw [getI_nat x n h, getI_nat t n h]; exact rbit_in x t n h w
  · rw [getI_out x i h, getI_out t i h]; exact rbit_out x t i h w
theorem rput_i (x t : BitVec 8) (i : Int) (v s : Bool) (w : World) : Calls Tryd.prog 11 #[TB x t, .int .i64 i, TBit v s] w fun e w' => e = .returned (TB (setI x i v) (setI t i s)) ∧ Below w.heap.size w w' := by
  rcases place i with ⟨n, rfl, h⟩ | h
  · rw [setI_nat x n v h, setI_nat t n s h]; exact put_ri x t n v s h w
  · rw [setI_out x i v h, setI_out t i s h]
    rcases h with h | h
    · exact put_rl x t i h v s w
    · exact put_rh x t i h v s w

set_option maxHeartbeats 400000 in
theorem get_i (x t : BitVec 8) (i : Int) (w : World) : Calls Tryd.prog 8 #[TB x t, .int .i64 i] w fun e w' => e = .returned (TBit (getI x i) (getI t i)) ∧ Below w.heap.size w w' := by
  go_enter Tryd.func8, Tryd.ntmps8
  go_wp2_with fail
  ((with_reducible refine (bit_i x t i _).mono ?_); rintro _ w1 ⟨rfl, hb⟩)
  have T : w1.cell? ⟨w.heap.size + 1, 0, none⟩ = some (.bool false) ∧ w1.frozen? ⟨w.heap.size + 1, 0, none⟩ = false ∧ w1.cell? ⟨w.heap.size + 1, 1, none⟩ = some (.bool false) ∧ w1.frozen? ⟨w.heap.size + 1, 1, none⟩ = false := by
      refine ⟨?_, ?_, ?_, ?_⟩ <;> first | (refine kc hb ?_ <;> (go_simp; first | done | rfl)) | (refine kfz hb ?_ ?_ <;> first | (go_size; done) | (go_simp; done))
  have hz := hb.size
  (try simp only [World.size_alloc, World.size_setCell, World.size_drew] at hz)
  have hlr' : w.heap.size + 1 < w1.heap.size := by omega
  have hB' : Below w.heap.size w w1 := by
      refine kb ?_ hb
      go_grown
  clear hb hz
  obtain ⟨hr_0, fr_0, hr_1, fr_1⟩ := T
  have hlr := hlr'; clear hlr'
  have hnr0 : ¬ (w.heap.size + 1 = w1.heap.size) := by omega
  have hnr1 : ¬ (w.heap.size = w1.heap.size) := by omega
  have hkr1 : w.heap.size < w1.heap.size := by omega
  have hnr2 : ¬ (w.heap.size = w1.heap.size + 1) := by omega
  have hkr2 : w.heap.size < w1.heap.size + 1 := by omega
  have hB := hB'; clear hB'
  have hsz := hB.size
  go_wp2
  refine bodyPost_ret (v := TBit _ _) (by simp [results, Tryd.results8, go_sem, hr_0, hr_1] <;> first | done | rfl | exact dec_eq Iff.rfl) rfl ⟨rfl, by go_grown⟩
set_option maxHeartbeats 400000 in
theorem set_i (x t : BitVec 8) (i : Int) (v s : Bool) (w : World) : Calls Tryd.prog 10 #[TB x t, .int .i64 i, TBit v s] w fun e w' => e = .returned (TB (setI x i v) (setI t i s)) ∧ Below w.heap.size w w' := by
  go_enter Tryd.func10, Tryd.ntmps10
  go_wp2_with fail
  ((with_reducible refine (put_i x t i v s _).mono ?_); rintro _ w1 ⟨rfl, hb⟩)
  have T : w1.cell? ⟨w.heap.size + 1 + 1, 0, none⟩ = some (.int .u8 0) ∧ w1.frozen? ⟨w.heap.size + 1 + 1, 0, none⟩ = false ∧ w1.cell? ⟨w.heap.size + 1 + 1, 1, none⟩ = some (.int .u8 0) ∧ w1.frozen? ⟨w.heap.size + 1 + 1, 1, none⟩ = false := by
      refine ⟨?_, ?_, ?_, ?_⟩ <;> first | (refine kc hb ?_ <;> (go_simp; first | done | rfl)) | (refine kfz hb ?_ ?_ <;> first | (go_size; done) | (go_simp; done))
  have hz := hb.size
  (try simp only [World.size_alloc, World.size_setCell, World.size_drew] at hz)
  have hlr' : w.heap.size + 1 + 1 < w1.heap.size := by omega
  have hB' : Below w.heap.size w w1 := by
      refine kb ?_ hb
      go_grown
  clear hb hz
  obtain ⟨hr_0, fr_0, hr_1, fr_1⟩ := T
  have hlr := hlr'; clear hlr'
  have hnr0 : ¬ (w.heap.size + 1 + 1 = w1.heap.size) := by omega
  have hnr1 : ¬ (w.heap.size + 1 = w1.heap.size) := by omega
  have hkr1 : w.heap.size + 1 < w1.heap.size := by omega
  have hnr2 : ¬ (w.heap.size = w1.heap.size) := by omega
  have hkr2 : w.heap.size < w1.heap.size := by omega
  have hB := hB'; clear hB'
  have hsz := hB.size
  go_wp2
  refine bodyPost_ret (v := TB _ _) (by simp [results, Tryd.results10, go_sem, hr_0, hr_1] <;> first | done | rfl | exact dec_eq Iff.rfl) rfl ⟨rfl, by go_grown⟩

/-- A register told by a byte; one that goes on the stack. -/
def toldV (x y : BitVec 8) : BitVec 8 := setI (setI x 7 (getI y 7)) 1 (y == 0#8)
def toldT (t y s : BitVec 8) : BitVec 8 := setI (setI t 7 (getI s 7)) 1 (zT y s)
def pushV (x : BitVec 8) (b : Bool) : BitVec 8 := setI (setI x 5 true) 4 b
def pushT (t : BitVec 8) : BitVec 8 := setI (setI t 5 false) 4 false

set_option maxHeartbeats 1000000 in
set_option maxRecDepth 100000 in
theorem told_c (x t y s : BitVec 8) (w : World) : Calls Tryd.prog 12 #[TB x t, TB y s] w fun e w' => e = .returned (TB (toldV x y) (toldT t y s)) ∧ Below w.heap.size w w' := by
  go_enter Tryd.func12, Tryd.ntmps12
  go_wp2_with fail
  refine wp_region_planT 7 (fun w' => w'.cell? ⟨w.heap.size, 0, none⟩ = some (B8 x) ∧ w'.cell? ⟨w.heap.size, 1, none⟩ = some (B8 t) ∧ w'.cell? ⟨w.heap.size + 1, 0, none⟩ = some (B8 y) ∧ w'.cell? ⟨w.heap.size + 1, 1, none⟩ = some (B8 s) ∧ w'.cell? ⟨w.heap.size + 1 + 1, 0, none⟩ = some (.int .u8 0) ∧ w'.frozen? ⟨w.heap.size + 1 + 1, 0, none⟩ = false ∧ w'.cell? ⟨w.heap.size + 1 + 1, 1, none⟩ = some (.int .u8 0) ∧ w'.frozen? ⟨w.heap.size + 1 + 1, 1, none⟩ = false ∧ Below w.heap.size w w') (by kernel_rfl) (by kernel_rfl) (by kernel_rfl) (by kernel_rfl) ?_ ?_
  · (try dsimp only)
    refine ⟨?_, ?_, ?_, ?_, ?_, ?_, ?_, ?_, ?_⟩ <;> first | (go_simp; done) | (simp [*]; done) | go_grown
  (try simp only [List.append_eq, List.cons_append, List.nil_append, List.toList_toArray, List.take_succ_cons, List.take_zero, List.drop_succ_cons, List.drop_zero])
  repeat (first
    | (refine Plan.val (v := ?_) ?_ ?_ ?_; rotate_left; (· rfl); (· (intro W hSw; (try dsimp only at hSw); go_simp; all_goals (first | (with_reducible rfl) | (constructor <;> (with_reducible rfl))))); (try simp only [Act.put, List.setIfInBounds_toArray, List.set_cons_zero, List.set_cons_succ]))
    | (refine Plan.no ?_ ?_; (· rfl); (try simp only [Act.put, List.setIfInBounds_toArray, List.set_cons_zero, List.set_cons_succ]))
    | (refine Plan.call (v := ?_) (f := ?_) (args := ?_) ?_ ?_ ?_ ?_; rotate_left 3; (· rfl); (· (intro W hSw; (try dsimp only at hSw); go_simp; all_goals (first | (with_reducible rfl) | (constructor <;> (with_reducible rfl))))); (· (intro W hSw; (try dsimp only at hSw); first | (go_at_call 24; ((with_reducible refine (bit_i y s 7 _).mono ?_); rintro _ wz ⟨rfl, hb⟩; (refine ⟨?_, ?_⟩; (· with_reducible rfl); exact ⟨kc hb hSw.1, kc hb hSw.2.1, kc hb hSw.2.2.1, kc hb hSw.2.2.2.1, kc hb hSw.2.2.2.2.1, kfz hb (klt hSw.2.2.2.2.1) hSw.2.2.2.2.2.1, kc hb hSw.2.2.2.2.2.2.1, kfz hb (klt hSw.2.2.2.2.2.2.1) hSw.2.2.2.2.2.2.2.1, kb hSw.2.2.2.2.2.2.2.2 hb⟩))) | (go_at_call 29; ((with_reducible refine (zero_n y s _).mono ?_); rintro _ wz ⟨rfl, hb⟩; (refine ⟨?_, ?_⟩; (· with_reducible rfl); exact ⟨kc hb hSw.1, kc hb hSw.2.1, kc hb hSw.2.2.1, kc hb hSw.2.2.2.1, kc hb hSw.2.2.2.2.1, kfz hb (klt hSw.2.2.2.2.1) hSw.2.2.2.2.2.1, kc hb hSw.2.2.2.2.2.2.1, kfz hb (klt hSw.2.2.2.2.2.2.1) hSw.2.2.2.2.2.2.2.1, kb hSw.2.2.2.2.2.2.2.2 hb⟩))) | (go_at_call 10; ((with_reducible refine (set_i x t 7 (getI y 7) (getI s 7) _).mono ?_); rintro _ wz ⟨rfl, hb⟩; (refine ⟨?_, ?_⟩; (· with_reducible rfl); exact ⟨kc hb hSw.1, kc hb hSw.2.1, kc hb hSw.2.2.1, kc hb hSw.2.2.2.1, kc hb hSw.2.2.2.2.1, kfz hb (klt hSw.2.2.2.2.1) hSw.2.2.2.2.2.1, kc hb hSw.2.2.2.2.2.2.1, kfz hb (klt hSw.2.2.2.2.2.2.1) hSw.2.2.2.2.2.2.2.1, kb hSw.2.2.2.2.2.2.2.2 hb⟩))) | (go_at_call 10; ((with_reducible refine (set_i _ _ 1 _ _ _).mono ?_); rintro _ wz ⟨rfl, hb⟩; (refine ⟨?_, ?_⟩; (· with_reducible rfl); exact ⟨kc hb hSw.1, kc hb hSw.2.1, kc hb hSw.2.2.1, kc hb hSw.2.2.2.1, kc hb hSw.2.2.2.2.1, kfz hb (klt hSw.2.2.2.2.1) hSw.2.2.2.2.2.1, kc hb hSw.2.2.2.2.2.2.1, kfz hb (klt hSw.2.2.2.2.2.2.1) hSw.2.2.2.2.2.2.2.1, kb hSw.2.2.2.2.2.2.2.2 hb⟩))))); (try simp only [Act.put, List.setIfInBounds_toArray, List.set_cons_zero, List.set_cons_succ])))
  refine Plan.done ?_
  intro w1 T
  (try dsimp only at T)
  obtain ⟨ha_0, ha_1, hb_0, hb_1, hr_0, fr_0, hr_1, fr_1, hB⟩ := T
  have hsz := hB.size
  have hla := klt ha_0
  have hlb := klt hb_0
  have hlr := klt hr_0
  have hna0 : ¬ (w.heap.size = w1.heap.size) := by omega
  have hna1 : ¬ (w.heap.size = w1.heap.size + 1) := by omega
  have hka1 : w.heap.size < w1.heap.size + 1 := by omega
  have hna2 : ¬ (w.heap.size = w1.heap.size + 1 + 1) := by omega
  have hka2 : w.heap.size < w1.heap.size + 1 + 1 := by omega
  have hnb0 : ¬ (w.heap.size + 1 = w1.heap.size) := by omega
  have hkb1 : w.heap.size < w1.heap.size := by omega
  have hnr0 : ¬ (w.heap.size + 1 + 1 = w1.heap.size) := by omega
  have hkr1 : w.heap.size + 1 < w1.heap.size := by omega
  go_wp2
  refine bodyPost_ret (v := TB _ _) (by simp [results, Tryd.results12, go_sem, hr_0, hr_1, toldV, toldT] <;> first | done | rfl | exact dec_eq Iff.rfl) rfl ⟨rfl, by go_grown⟩
set_option maxHeartbeats 1000000 in
set_option maxRecDepth 100000 in
theorem rtold_c (x t y s : BitVec 8) (w : World) : Calls Tryd.prog 13 #[TB x t, TB y s] w fun e w' => e = .returned (TB (toldV x y) (toldT t y s)) ∧ Below w.heap.size w w' := by
  go_enter Tryd.func13, Tryd.ntmps13
  go_wp2_with fail
  refine wp_region_planT 4 (fun w' => w'.cell? ⟨w.heap.size, 0, none⟩ = some (B8 x) ∧ w'.frozen? ⟨w.heap.size, 0, none⟩ = false ∧ w'.cell? ⟨w.heap.size, 1, none⟩ = some (B8 t) ∧ w'.frozen? ⟨w.heap.size, 1, none⟩ = false ∧ w'.cell? ⟨w.heap.size + 1, 0, none⟩ = some (B8 y) ∧ w'.cell? ⟨w.heap.size + 1, 1, none⟩ = some (B8 s) ∧ w'.cell? ⟨w.heap.size + 1 + 1, 0, none⟩ = some (.int .u8 0) ∧ w'.frozen? ⟨w.heap.size + 1 + 1, 0, none⟩ = false ∧ w'.cell? ⟨w.heap.size + 1 + 1, 1, none⟩ = some (.int .u8 0) ∧ w'.frozen? ⟨w.heap.size + 1 + 1, 1, none⟩ = false ∧ Below w.heap.size w w') (by kernel_rfl) (by kernel_rfl) (by kernel_rfl) (by kernel_rfl) ?_ ?_
  · (try dsimp only)
    refine ⟨?_, ?_, ?_, ?_, ?_, ?_, ?_, ?_, ?_, ?_, ?_⟩ <;> first | (go_simp; done) | (simp [*]; done) | go_grown
  (try simp only [List.append_eq, List.cons_append, List.nil_append, List.toList_toArray, List.take_succ_cons, List.take_zero, List.drop_succ_cons, List.drop_zero])
  repeat (first
    | (refine Plan.val (v := ?_) ?_ ?_ ?_; rotate_left; (· rfl); (· (intro W hSw; (try dsimp only at hSw); go_simp; all_goals (first | (with_reducible rfl) | (constructor <;> (with_reducible rfl))))); (try simp only [Act.put, List.setIfInBounds_toArray, List.set_cons_zero, List.set_cons_succ]))
    | (refine Plan.no ?_ ?_; (· rfl); (try simp only [Act.put, List.setIfInBounds_toArray, List.set_cons_zero, List.set_cons_succ]))
    | (refine Plan.call (v := ?_) (f := ?_) (args := ?_) ?_ ?_ ?_ ?_; rotate_left 3; (· rfl); (· (intro W hSw; (try dsimp only at hSw); go_simp; all_goals (first | (with_reducible rfl) | (constructor <;> (with_reducible rfl))))); (· (intro W hSw; (try dsimp only at hSw); first | (go_at_call 9; ((with_reducible refine (rbit_i y s 7 _).mono ?_); rintro _ wz ⟨rfl, hb⟩; (refine ⟨?_, ?_⟩; (· with_reducible rfl); exact ⟨kc hb hSw.1, kfz hb (klt hSw.1) hSw.2.1, kc hb hSw.2.2.1, kfz hb (klt hSw.2.2.1) hSw.2.2.2.1, kc hb hSw.2.2.2.2.1, kc hb hSw.2.2.2.2.2.1, kc hb hSw.2.2.2.2.2.2.1, kfz hb (klt hSw.2.2.2.2.2.2.1) hSw.2.2.2.2.2.2.2.1, kc hb hSw.2.2.2.2.2.2.2.2.1, kfz hb (klt hSw.2.2.2.2.2.2.2.2.1) hSw.2.2.2.2.2.2.2.2.2.1, kb hSw.2.2.2.2.2.2.2.2.2.2 hb⟩))) | (go_at_call 11; ((with_reducible refine (rput_i x t 7 (getI y 7) (getI s 7) _).mono ?_); rintro _ wz ⟨rfl, hb⟩; (refine ⟨?_, ?_⟩; (· with_reducible rfl); exact ⟨kc hb hSw.1, kfz hb (klt hSw.1) hSw.2.1, kc hb hSw.2.2.1, kfz hb (klt hSw.2.2.1) hSw.2.2.2.1, kc hb hSw.2.2.2.2.1, kc hb hSw.2.2.2.2.2.1, kc hb hSw.2.2.2.2.2.2.1, kfz hb (klt hSw.2.2.2.2.2.2.1) hSw.2.2.2.2.2.2.2.1, kc hb hSw.2.2.2.2.2.2.2.2.1, kfz hb (klt hSw.2.2.2.2.2.2.2.2.1) hSw.2.2.2.2.2.2.2.2.2.1, kb hSw.2.2.2.2.2.2.2.2.2.2 hb⟩))))); (try simp only [Act.put, List.setIfInBounds_toArray, List.set_cons_zero, List.set_cons_succ])))
  refine Plan.done ?_
  intro w1 T
  (try dsimp only at T)
  obtain ⟨ha_0, fa_0, ha_1, fa_1, hb_0, hb_1, hr_0, fr_0, hr_1, fr_1, hB⟩ := T
  have hsz := hB.size
  have hla := klt ha_0
  have hlb := klt hb_0
  have hlr := klt hr_0
  have hna0 : ¬ (w.heap.size = w1.heap.size) := by omega
  have hna1 : ¬ (w.heap.size = w1.heap.size + 1) := by omega
  have hka1 : w.heap.size < w1.heap.size + 1 := by omega
  have hna2 : ¬ (w.heap.size = w1.heap.size + 1 + 1) := by omega
  have hka2 : w.heap.size < w1.heap.size + 1 + 1 := by omega
  have hnb0 : ¬ (w.heap.size + 1 = w1.heap.size) := by omega
  have hkb1 : w.heap.size < w1.heap.size := by omega
  have hnr0 : ¬ (w.heap.size + 1 + 1 = w1.heap.size) := by omega
  have hkr1 : w.heap.size + 1 < w1.heap.size := by omega
  go_wp2_with fail
  refine wp_region_planT 4 (fun w' => w'.cell? ⟨w.heap.size, 0, none⟩ = some (B8 (setI x 7 (getI y 7))) ∧ w'.frozen? ⟨w.heap.size, 0, none⟩ = false ∧ w'.cell? ⟨w.heap.size, 1, none⟩ = some (B8 (setI t 7 (getI s 7))) ∧ w'.frozen? ⟨w.heap.size, 1, none⟩ = false ∧ w'.cell? ⟨w.heap.size + 1, 0, none⟩ = some (B8 y) ∧ w'.cell? ⟨w.heap.size + 1, 1, none⟩ = some (B8 s) ∧ w'.cell? ⟨w.heap.size + 1 + 1, 0, none⟩ = some (.int .u8 0) ∧ w'.frozen? ⟨w.heap.size + 1 + 1, 0, none⟩ = false ∧ w'.cell? ⟨w.heap.size + 1 + 1, 1, none⟩ = some (.int .u8 0) ∧ w'.frozen? ⟨w.heap.size + 1 + 1, 1, none⟩ = false ∧ Below w.heap.size w w') (by kernel_rfl) (by kernel_rfl) (by kernel_rfl) (by kernel_rfl) ?_ ?_
  · (try dsimp only)
    refine ⟨?_, ?_, ?_, ?_, ?_, ?_, ?_, ?_, ?_, ?_, ?_⟩ <;> first | (go_simp; done) | (simp [*]; done) | go_grown
  (try simp only [List.append_eq, List.cons_append, List.nil_append, List.toList_toArray, List.take_succ_cons, List.take_zero, List.drop_succ_cons, List.drop_zero])
  repeat (first
    | (refine Plan.val (v := ?_) ?_ ?_ ?_; rotate_left; (· rfl); (· (intro W hSw; (try dsimp only at hSw); go_simp; all_goals (first | (with_reducible rfl) | (constructor <;> (with_reducible rfl))))); (try simp only [Act.put, List.setIfInBounds_toArray, List.set_cons_zero, List.set_cons_succ]))
    | (refine Plan.no ?_ ?_; (· rfl); (try simp only [Act.put, List.setIfInBounds_toArray, List.set_cons_zero, List.set_cons_succ]))
    | (refine Plan.call (v := ?_) (f := ?_) (args := ?_) ?_ ?_ ?_ ?_; rotate_left 3; (· rfl); (· (intro W hSw; (try dsimp only at hSw); go_simp; all_goals (first | (with_reducible rfl) | (constructor <;> (with_reducible rfl))))); (· (intro W hSw; (try dsimp only at hSw); first | (go_at_call 30; ((with_reducible refine (zero_r y s _).mono ?_); rintro _ wz ⟨rfl, hb⟩; (refine ⟨?_, ?_⟩; (· with_reducible rfl); exact ⟨kc hb hSw.1, kfz hb (klt hSw.1) hSw.2.1, kc hb hSw.2.2.1, kfz hb (klt hSw.2.2.1) hSw.2.2.2.1, kc hb hSw.2.2.2.2.1, kc hb hSw.2.2.2.2.2.1, kc hb hSw.2.2.2.2.2.2.1, kfz hb (klt hSw.2.2.2.2.2.2.1) hSw.2.2.2.2.2.2.2.1, kc hb hSw.2.2.2.2.2.2.2.2.1, kfz hb (klt hSw.2.2.2.2.2.2.2.2.1) hSw.2.2.2.2.2.2.2.2.2.1, kb hSw.2.2.2.2.2.2.2.2.2.2 hb⟩))) | (go_at_call 11; ((with_reducible refine (rput_i _ _ 1 _ _ _).mono ?_); rintro _ wz ⟨rfl, hb⟩; (refine ⟨?_, ?_⟩; (· with_reducible rfl); exact ⟨kc hb hSw.1, kfz hb (klt hSw.1) hSw.2.1, kc hb hSw.2.2.1, kfz hb (klt hSw.2.2.1) hSw.2.2.2.1, kc hb hSw.2.2.2.2.1, kc hb hSw.2.2.2.2.2.1, kc hb hSw.2.2.2.2.2.2.1, kfz hb (klt hSw.2.2.2.2.2.2.1) hSw.2.2.2.2.2.2.2.1, kc hb hSw.2.2.2.2.2.2.2.2.1, kfz hb (klt hSw.2.2.2.2.2.2.2.2.1) hSw.2.2.2.2.2.2.2.2.2.1, kb hSw.2.2.2.2.2.2.2.2.2.2 hb⟩))))); (try simp only [Act.put, List.setIfInBounds_toArray, List.set_cons_zero, List.set_cons_succ])))
  refine Plan.done ?_
  intro w2 T
  (try dsimp only at T)
  clear ha_0 fa_0 ha_1 fa_1 hb_0 hb_1 hr_0 fr_0 hr_1 fr_1 hB hsz hla hlb hlr hna0 hna1 hka1 hna2 hka2 hnb0 hkb1 hnr0 hkr1
  obtain ⟨hc_0, fc_0, hc_1, fc_1, hb_0, hb_1, hr_0, fr_0, hr_1, fr_1, hB⟩ := T
  have hsz := hB.size
  have hlc := klt hc_0
  have hlb := klt hb_0
  have hlr := klt hr_0
  have hnc0 : ¬ (w.heap.size = w2.heap.size) := by omega
  have hnc1 : ¬ (w.heap.size = w2.heap.size + 1) := by omega
  have hkc1 : w.heap.size < w2.heap.size + 1 := by omega
  have hnc2 : ¬ (w.heap.size = w2.heap.size + 1 + 1) := by omega
  have hkc2 : w.heap.size < w2.heap.size + 1 + 1 := by omega
  have hnb0 : ¬ (w.heap.size + 1 = w2.heap.size) := by omega
  have hkb1 : w.heap.size < w2.heap.size := by omega
  have hnr0 : ¬ (w.heap.size + 1 + 1 = w2.heap.size) := by omega
  have hkr1 : w.heap.size + 1 < w2.heap.size := by omega
  go_wp2
  refine bodyPost_ret (v := TB _ _) (by simp [results, Tryd.results13, go_sem, hr_0, hr_1, toldV, toldT] <;> first | done | rfl | exact dec_eq Iff.rfl) rfl ⟨rfl, by go_grown⟩
set_option maxHeartbeats 1000000 in
theorem pushed_c (x t : BitVec 8) (b : Bool) (w : World) : Calls Tryd.prog 14 #[TB x t, .bool b] w fun e w' => e = .returned (TB (pushV x b) (pushT t)) ∧ Below w.heap.size w w' := by
  go_enter Tryd.func14, Tryd.ntmps14
  go_wp2_with fail
  ((with_reducible refine (set_i x t 5 true false _).mono ?_); rintro _ w1 ⟨rfl, hb⟩)
  have T : w1.cell? ⟨w.heap.size + 1, 0, none⟩ = some (.int .u8 0) ∧ w1.frozen? ⟨w.heap.size + 1, 0, none⟩ = false ∧ w1.cell? ⟨w.heap.size + 1, 1, none⟩ = some (.int .u8 0) ∧ w1.frozen? ⟨w.heap.size + 1, 1, none⟩ = false := by
      refine ⟨?_, ?_, ?_, ?_⟩ <;> first | (refine kc hb ?_ <;> (go_simp; first | done | rfl)) | (refine kfz hb ?_ ?_ <;> first | (go_size; done) | (go_simp; done))
  have hz := hb.size
  (try simp only [World.size_alloc, World.size_setCell, World.size_drew] at hz)
  have hlr' : w.heap.size + 1 < w1.heap.size := by omega
  have hB' : Below w.heap.size w w1 := by
      refine kb ?_ hb
      go_grown
  clear hb hz
  obtain ⟨hr_0, fr_0, hr_1, fr_1⟩ := T
  have hlr := hlr'; clear hlr'
  have hnr0 : ¬ (w.heap.size + 1 = w1.heap.size) := by omega
  have hnr1 : ¬ (w.heap.size = w1.heap.size) := by omega
  have hkr1 : w.heap.size < w1.heap.size := by omega
  have hnr2 : ¬ (w.heap.size = w1.heap.size + 1) := by omega
  have hkr2 : w.heap.size < w1.heap.size + 1 := by omega
  have hB := hB'; clear hB'
  have hsz := hB.size
  go_wp2_with fail
  ((with_reducible refine (set_i _ _ 4 b false _).mono ?_); rintro _ w2 ⟨rfl, hb⟩)
  have T : w2.cell? ⟨w.heap.size + 1, 0, none⟩ = some (.int .u8 0) ∧ w2.frozen? ⟨w.heap.size + 1, 0, none⟩ = false ∧ w2.cell? ⟨w.heap.size + 1, 1, none⟩ = some (.int .u8 0) ∧ w2.frozen? ⟨w.heap.size + 1, 1, none⟩ = false := by
      refine ⟨?_, ?_, ?_, ?_⟩ <;> first | (refine kc hb ?_ <;> (go_simp; first | done | rfl)) | (refine kfz hb ?_ ?_ <;> first | (go_size; done) | (go_simp; done))
  have hz := hb.size
  (try simp only [World.size_alloc, World.size_setCell, World.size_drew] at hz)
  have hlr' : w.heap.size + 1 < w2.heap.size := by omega
  have hB' : Below w.heap.size w w2 := by
      refine kb ?_ hb
      go_grown
  clear hr_0 fr_0 hr_1 fr_1 hlr hnr0 hnr1 hkr1 hnr2 hkr2 hB hsz
  clear hb hz
  obtain ⟨hr_0, fr_0, hr_1, fr_1⟩ := T
  have hlr := hlr'; clear hlr'
  have hnr0 : ¬ (w.heap.size + 1 = w2.heap.size) := by omega
  have hnr1 : ¬ (w.heap.size = w2.heap.size) := by omega
  have hkr1 : w.heap.size < w2.heap.size := by omega
  have hnr2 : ¬ (w.heap.size = w2.heap.size + 1) := by omega
  have hkr2 : w.heap.size < w2.heap.size + 1 := by omega
  have hB := hB'; clear hB'
  have hsz := hB.size
  go_wp2
  refine bodyPost_ret (v := TB _ _) (by simp [results, Tryd.results14, go_sem, hr_0, hr_1, pushV, pushT] <;> first | done | rfl | exact dec_eq Iff.rfl) rfl ⟨rfl, by go_grown⟩
set_option maxHeartbeats 1000000 in
theorem rpushed_c (x t : BitVec 8) (b : Bool) (w : World) : Calls Tryd.prog 15 #[TB x t, .bool b] w fun e w' => e = .returned (TB (pushV x b) (pushT t)) ∧ Below w.heap.size w w' := by
  go_enter Tryd.func15, Tryd.ntmps15
  go_wp2_with fail
  ((with_reducible refine (rput_i x t 5 true false _).mono ?_); rintro _ w1 ⟨rfl, hb⟩)
  have T : w1.cell? ⟨w.heap.size, 0, none⟩ = some (B8 x) ∧ w1.frozen? ⟨w.heap.size, 0, none⟩ = false ∧ w1.cell? ⟨w.heap.size, 1, none⟩ = some (B8 t) ∧ w1.frozen? ⟨w.heap.size, 1, none⟩ = false ∧ w1.cell? ⟨w.heap.size + 1, 0, none⟩ = some (.int .u8 0) ∧ w1.frozen? ⟨w.heap.size + 1, 0, none⟩ = false ∧ w1.cell? ⟨w.heap.size + 1, 1, none⟩ = some (.int .u8 0) ∧ w1.frozen? ⟨w.heap.size + 1, 1, none⟩ = false := by
      refine ⟨?_, ?_, ?_, ?_, ?_, ?_, ?_, ?_⟩ <;> first | (refine kc hb ?_ <;> (go_simp; first | done | rfl)) | (refine kfz hb ?_ ?_ <;> first | (go_size; done) | (go_simp; done))
  have hz := hb.size
  (try simp only [World.size_alloc, World.size_setCell, World.size_drew] at hz)
  have hla' : w.heap.size < w1.heap.size := by omega
  have hlr' : w.heap.size + 1 < w1.heap.size := by omega
  have hB' : Below w.heap.size w w1 := by
      refine kb ?_ hb
      go_grown
  clear hb hz
  obtain ⟨ha_0, fa_0, ha_1, fa_1, hr_0, fr_0, hr_1, fr_1⟩ := T
  have hla := hla'; clear hla'
  have hlr := hlr'; clear hlr'
  have hna0 : ¬ (w.heap.size = w1.heap.size) := by omega
  have hna1 : ¬ (w.heap.size = w1.heap.size + 1) := by omega
  have hka1 : w.heap.size < w1.heap.size + 1 := by omega
  have hna2 : ¬ (w.heap.size = w1.heap.size + 1 + 1) := by omega
  have hka2 : w.heap.size < w1.heap.size + 1 + 1 := by omega
  have hnr0 : ¬ (w.heap.size + 1 = w1.heap.size) := by omega
  have hkr1 : w.heap.size < w1.heap.size := by omega
  have hB := hB'; clear hB'
  have hsz := hB.size
  go_wp2_with fail
  ((with_reducible refine (rput_i _ _ 4 b false _).mono ?_); rintro _ w2 ⟨rfl, hb⟩)
  have T : w2.cell? ⟨w.heap.size + 1, 0, none⟩ = some (.int .u8 0) ∧ w2.frozen? ⟨w.heap.size + 1, 0, none⟩ = false ∧ w2.cell? ⟨w.heap.size + 1, 1, none⟩ = some (.int .u8 0) ∧ w2.frozen? ⟨w.heap.size + 1, 1, none⟩ = false := by
      refine ⟨?_, ?_, ?_, ?_⟩ <;> first | (refine kc hb ?_ <;> (go_simp; first | done | rfl)) | (refine kfz hb ?_ ?_ <;> first | (go_size; done) | (go_simp; done))
  have hz := hb.size
  (try simp only [World.size_alloc, World.size_setCell, World.size_drew] at hz)
  have hlr' : w.heap.size + 1 < w2.heap.size := by omega
  have hB' : Below w.heap.size w w2 := by
      refine kb ?_ hb
      go_grown
  clear ha_0 fa_0 ha_1 fa_1 hr_0 fr_0 hr_1 fr_1 hla hlr hna0 hna1 hka1 hna2 hka2 hnr0 hkr1 hB hsz
  clear hb hz
  obtain ⟨hr_0, fr_0, hr_1, fr_1⟩ := T
  have hlr := hlr'; clear hlr'
  have hnr0 : ¬ (w.heap.size + 1 = w2.heap.size) := by omega
  have hnr1 : ¬ (w.heap.size = w2.heap.size) := by omega
  have hkr1 : w.heap.size < w2.heap.size := by omega
  have hnr2 : ¬ (w.heap.size = w2.heap.size + 1) := by omega
  have hkr2 : w.heap.size < w2.heap.size + 1 := by omega
  have hB := hB'; clear hB'
  have hsz := hB.size
  go_wp2
  refine bodyPost_ret (v := TB _ _) (by simp [results, Tryd.results15, go_sem, hr_0, hr_1, pushV, pushT] <;> first | done | rfl | exact dec_eq Iff.rfl) rfl ⟨rfl, by go_grown⟩
set_option maxHeartbeats 1000000 in
theorem pulled_c (x t : BitVec 8) (w : World) : Calls Tryd.prog 16 #[TB x t] w fun e w' => e = .returned (TB (pushV x false) (pushT t)) ∧ Below w.heap.size w w' := by
  go_enter Tryd.func16, Tryd.ntmps16
  go_wp2_with fail
  ((with_reducible refine (pushed_c x t false _).mono ?_); rintro _ w1 ⟨rfl, hb⟩)
  have T : w1.cell? ⟨w.heap.size + 1, 0, none⟩ = some (.int .u8 0) ∧ w1.frozen? ⟨w.heap.size + 1, 0, none⟩ = false ∧ w1.cell? ⟨w.heap.size + 1, 1, none⟩ = some (.int .u8 0) ∧ w1.frozen? ⟨w.heap.size + 1, 1, none⟩ = false := by
      refine ⟨?_, ?_, ?_, ?_⟩ <;> first | (refine kc hb ?_ <;> (go_simp; first | done | rfl)) | (refine kfz hb ?_ ?_ <;> first | (go_size; done) | (go_simp; done))
  have hz := hb.size
  (try simp only [World.size_alloc, World.size_setCell, World.size_drew] at hz)
  have hlr' : w.heap.size + 1 < w1.heap.size := by omega
  have hB' : Below w.heap.size w w1 := by
      refine kb ?_ hb
      go_grown
  clear hb hz
  obtain ⟨hr_0, fr_0, hr_1, fr_1⟩ := T
  have hlr := hlr'; clear hlr'
  have hnr0 : ¬ (w.heap.size + 1 = w1.heap.size) := by omega
  have hnr1 : ¬ (w.heap.size = w1.heap.size) := by omega
  have hkr1 : w.heap.size < w1.heap.size := by omega
  have hnr2 : ¬ (w.heap.size = w1.heap.size + 1) := by omega
  have hkr2 : w.heap.size < w1.heap.size + 1 := by omega
  have hB := hB'; clear hB'
  have hsz := hB.size
  go_wp2
  refine bodyPost_ret (v := TB _ _) (by simp [results, Tryd.results16, go_sem, hr_0, hr_1, pushV, pushT] <;> first | done | rfl | exact dec_eq Iff.rfl) rfl ⟨rfl, by go_grown⟩

/-- The letter that stands for a bit whose great letter is g. -/
def letR (g : Int) (v t : Bool) : Int := if t then 63 else if v then g else g + 32
theorem lower_c (g : Int) (h : 65 ≤ g) (h' : g ≤ 90) (w : World) : Calls Tryd.prog 37 #[.int .i32 g] w fun e w' => e = .returned (.int .i32 (g + 32)) ∧ w = w' := by
  go_enter Tryd.func37, Tryd.ntmps37
  go_wp2
  go_ret
  exact ⟨by first | rfl | (congr 2; omega), rfl⟩
theorem letter_c (g : Int) (v t : Bool) (h : 65 ≤ g) (h' : g ≤ 90) (w : World) : Calls Tryd.prog 31 #[.int .i32 g, TBit v t] w fun e w' => e = .returned (.int .i32 (letR g v t)) ∧ Below w.heap.size w w' := by
  cases t <;> cases v
  all_goals
    go_enter Tryd.func31, Tryd.ntmps31
    go_wp2_with (go_at_call 37; refine (lower_c g h h' _).mono ?_; rintro _ _ ⟨rfl, rfl⟩)
    go_ret
    exact ⟨rfl, by go_grown⟩
end Go.Proofs.YtdpoonmgailonaaDoor
