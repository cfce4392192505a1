/-
  What the closure of sums.hider comes to, as a deferred call of a frame that returns.
-/
import Derived.Test.YtdmgdldadpkhgaaHide
import Derived.Defers
import Derived.Recover
set_option linter.unusedSimpArgs false
set_option linter.unusedVariables false
namespace Go.Proofs.Ytdmgdldadpkhgaa
open Go.RowKit

/-- What the closure finds, and what it leaves of the sum. -/
structure Hides (s : SV) (sec : BitVec 8) (dv dt : Bool) (sb bp bs bd : Nat) (w : World) : Prop where
  l1 : sb < bp
  l2 : bp < bs
  l3 : bs < bd
  s0 : w.cell? ⟨sb, 0, none⟩ = some (B8 s.a)
  s1 : w.cell? ⟨sb, 1, none⟩ = some (B8 0#8)
  s2 : w.cell? ⟨sb, 2, none⟩ = some (.bool s.n)
  s3 : w.cell? ⟨sb, 3, none⟩ = some (.bool false)
  s4 : w.cell? ⟨sb, 4, none⟩ = some (.bool s.v)
  s5 : w.cell? ⟨sb, 5, none⟩ = some (.bool false)
  s6 : w.cell? ⟨sb, 6, none⟩ = some (.bool s.z)
  s7 : w.cell? ⟨sb, 7, none⟩ = some (.bool false)
  s8 : w.cell? ⟨sb, 8, none⟩ = some (.bool s.c)
  s9 : w.cell? ⟨sb, 9, none⟩ = some (.bool false)
  z0 : w.frozen? ⟨sb, 0, none⟩ = false
  z1 : w.frozen? ⟨sb, 1, none⟩ = false
  z2 : w.frozen? ⟨sb, 2, none⟩ = false
  z3 : w.frozen? ⟨sb, 3, none⟩ = false
  z4 : w.frozen? ⟨sb, 4, none⟩ = false
  z5 : w.frozen? ⟨sb, 5, none⟩ = false
  z6 : w.frozen? ⟨sb, 6, none⟩ = false
  z7 : w.frozen? ⟨sb, 7, none⟩ = false
  z8 : w.frozen? ⟨sb, 8, none⟩ = false
  z9 : w.frozen? ⟨sb, 9, none⟩ = false
  p : w.cell? ⟨bp, 0, none⟩ = some (.pointer (some ⟨sb, 0, none⟩))
  t : w.cell? ⟨bs, 0, none⟩ = some (B8 sec)
  d0 : w.cell? ⟨bd, 0, none⟩ = some (.bool dv)
  d1 : w.cell? ⟨bd, 1, none⟩ = some (.bool dt)
structure Hidden (s : SV) (t : ST) (sb : Nat) (w w' : World) : Prop where
  s0 : w'.cell? ⟨sb, 0, none⟩ = some (B8 s.a)
  s1 : w'.cell? ⟨sb, 1, none⟩ = some (B8 t.t)
  s2 : w'.cell? ⟨sb, 2, none⟩ = some (.bool s.n)
  s3 : w'.cell? ⟨sb, 3, none⟩ = some (.bool t.n)
  s4 : w'.cell? ⟨sb, 4, none⟩ = some (.bool s.v)
  s5 : w'.cell? ⟨sb, 5, none⟩ = some (.bool t.v)
  s6 : w'.cell? ⟨sb, 6, none⟩ = some (.bool s.z)
  s7 : w'.cell? ⟨sb, 7, none⟩ = some (.bool t.z)
  s8 : w'.cell? ⟨sb, 8, none⟩ = some (.bool s.c)
  s9 : w'.cell? ⟨sb, 9, none⟩ = some (.bool t.c)
  old : Below sb w w'

theorem fld_bt (v t : Bool) (w : World) : (Instr.field 25 (TBit v t) 1).run Try.prog w = .ok (.bool t) w := by kernel_rfl
set_option maxRecDepth 100000 in
set_option maxHeartbeats 2000000 in
theorem hider1_none (s : SV) (sec : BitVec 8) (dv dt : Bool) (sb bp bs bd : Nat) (w : World) (h : Hides s sec dv dt sb bp bs bd w) (hs : sec = 0#8) (hd : dt = false) :
    CallsD Try.prog 43 #[.pointer (some ⟨bs, 0, none⟩), .pointer (some ⟨bd, 0, none⟩), .pointer (some ⟨bp, 0, none⟩)] .returning w
      fun e u' w' => u' = .returning ∧ (e = .returned (.tuple #[]) ∧ Hidden s ⟨0#8, false, false, false, false⟩ sb w w') := by
  subst hs; subst hd
  obtain ⟨l1, l2, l3, hs_0, hs_1, hs_2, hs_3, hs_4, hs_5, hs_6, hs_7, hs_8, hs_9, fs_0, fs_1, fs_2, fs_3, fs_4, fs_5, fs_6, fs_7, fs_8, fs_9, hp_0, ht_0, hd_0, hd_1⟩ := h
  have u0 : (u8 0#8 == 0) = true := rfl
  go_enter_d Try.func43, Try.ntmps43
  go_wp2
  refine bodyPost_ret (results_none rfl _ _ _) rfl ?_
  exact ⟨rfl, ⟨hs_0, hs_1, hs_2, hs_3, hs_4, hs_5, hs_6, hs_7, hs_8, hs_9, Below.refl _ _⟩⟩

set_option maxRecDepth 100000 in
set_option maxHeartbeats 2000000 in
theorem hider1_all (s : SV) (sec : BitVec 8) (dv dt : Bool) (sb bp bs bd : Nat) (w : World) (h : Hides s sec dv dt sb bp bs bd w) (hs : ¬ (sec = 0#8 ∧ dt = false)) (hd : (dv || dt) = true) :
    CallsD Try.prog 43 #[.pointer (some ⟨bs, 0, none⟩), .pointer (some ⟨bd, 0, none⟩), .pointer (some ⟨bp, 0, none⟩)] .returning w
      fun e u' w' => u' = .returning ∧ (e = .returned (.tuple #[]) ∧ Hidden s ⟨255#8, true, true, true, true⟩ sb w w') := by
  obtain ⟨l1, l2, l3, hs_0, hs_1, hs_2, hs_3, hs_4, hs_5, hs_6, hs_7, hs_8, hs_9, fs_0, fs_1, fs_2, fs_3, fs_4, fs_5, fs_6, fs_7, fs_8, fs_9, hp_0, ht_0, hd_0, hd_1⟩ := h
  have hbase : sb ≤ w.heap.size := Nat.le_of_lt (klt hs_0)
  have hbb := klt hd_0
  have n1 : ¬ sb = bp := by omega
  have n2 : ¬ sb = bs := by omega
  have n3 : ¬ sb = bd := by omega
  have hu := u8_beq0
  have key : (sec == 0#8) = false ∧ dv = true ∧ dt = false ∨ (sec == 0#8) = false ∧ dv = true ∧ dt = true ∨ (sec == 0#8) = false ∧ dv = false ∧ dt = true ∨ (sec == 0#8) = true ∧ dv = true ∧ dt = true ∨ (sec == 0#8) = true ∧ dv = false ∧ dt = true := by
    cases hz : (sec == 0#8) <;> cases dv <;> cases dt <;> simp_all
  clear hs hd
  rcases key with ⟨hz, rfl, rfl⟩ | ⟨hz, rfl, rfl⟩ | ⟨hz, rfl, rfl⟩ | ⟨hz, rfl, rfl⟩ | ⟨hz, rfl, rfl⟩
  all_goals
    go_enter_d Try.func43, Try.ntmps43
    go_wp2_with fail
    rw [← u8_ones]
    refine wp_region_planT 12 (fun w' => w'.cell? ⟨bp, 0, none⟩ = some (.pointer (some ⟨sb, 0, none⟩)) ∧ w'.cell? ⟨sb, 0, none⟩ = some (B8 s.a) ∧ w'.frozen? ⟨sb, 0, none⟩ = false ∧ w'.cell? ⟨sb, 1, none⟩ = some (B8 255#8) ∧ w'.frozen? ⟨sb, 1, none⟩ = false ∧ w'.cell? ⟨sb, 2, none⟩ = some (.bool s.n) ∧ w'.frozen? ⟨sb, 2, none⟩ = false ∧ w'.cell? ⟨sb, 3, none⟩ = some (.bool false) ∧ w'.frozen? ⟨sb, 3, none⟩ = false ∧ w'.cell? ⟨sb, 4, none⟩ = some (.bool s.v) ∧ w'.frozen? ⟨sb, 4, none⟩ = false ∧ w'.cell? ⟨sb, 5, none⟩ = some (.bool false) ∧ w'.frozen? ⟨sb, 5, none⟩ = false ∧ w'.cell? ⟨sb, 6, none⟩ = some (.bool s.z) ∧ w'.frozen? ⟨sb, 6, none⟩ = false ∧ w'.cell? ⟨sb, 7, none⟩ = some (.bool false) ∧ w'.frozen? ⟨sb, 7, none⟩ = false ∧ w'.cell? ⟨sb, 8, none⟩ = some (.bool s.c) ∧ w'.frozen? ⟨sb, 8, none⟩ = false ∧ w'.cell? ⟨sb, 9, none⟩ = some (.bool false) ∧ w'.frozen? ⟨sb, 9, none⟩ = false ∧ Below sb w w') (by kernel_rfl) (by kernel_rfl) (by kernel_rfl) (by kernel_rfl) ?_ ?_
    · (try dsimp only)
      refine ⟨?_, ?_, ?_, ?_, ?_, ?_, ?_, ?_, ?_, ?_, ?_, ?_, ?_, ?_, ?_, ?_, ?_, ?_, ?_, ?_, ?_, ?_⟩ <;> first | (go_simp; done) | (simp [*]; done) | go_grown
    (try simp only [List.append_eq, List.cons_append, List.nil_append, List.toList_toArray, List.take_succ_cons, List.take_zero, List.drop_succ_cons, List.drop_zero])
    repeat (first
      | (refine Plan.val (v := ?_) ?_ ?_ ?_; rotate_left; (· rfl); (· (intro W hSw; (try dsimp only at hSw); go_simp; all_goals (first | (with_reducible rfl) | (constructor <;> (with_reducible rfl))))); (try simp only [Act.put, List.setIfInBounds_toArray, List.set_cons_zero, List.set_cons_succ]))
      | (refine Plan.no ?_ ?_; (· rfl); (try simp only [Act.put, List.setIfInBounds_toArray, List.set_cons_zero, List.set_cons_succ])))
    refine Plan.done ?_
    intro u1 T
    (try dsimp only at T)
    obtain ⟨hp_0, hs_0, fs_0, hs_1, fs_1, hs_2, fs_2, hs_3, fs_3, hs_4, fs_4, hs_5, fs_5, hs_6, fs_6, hs_7, fs_7, hs_8, fs_8, hs_9, fs_9, hB⟩ := T
    have hsz := hB.size
    have hlp := klt hp_0
    have hls := klt hs_0
    have hnp0 : ¬ (bp = u1.heap.size) := by omega
    have hnp1 : ¬ (bp = u1.heap.size + 1) := by omega
    have hkp1 : bp < u1.heap.size + 1 := by omega
    have hnp2 : ¬ (bp = u1.heap.size + 1 + 1) := by omega
    have hkp2 : bp < u1.heap.size + 1 + 1 := by omega
    have hns0 : ¬ (sb = u1.heap.size) := by omega
    have hns1 : ¬ (sb = u1.heap.size + 1) := by omega
    have hks1 : sb < u1.heap.size + 1 := by omega
    have hns2 : ¬ (sb = u1.heap.size + 1 + 1) := by omega
    have hks2 : sb < u1.heap.size + 1 + 1 := by omega
    go_wp2_with (go_at_call 44; refine (hide4_c u1.heap.size sb false false false false _ (by omega) ?_ ?_ ?_ ?_ ?_ ?_ ?_ ?_ ?_ ?_ ?_ ?_).mono ?_ <;> first | (go_simp; done) | skip)
    rintro _ _ ⟨rfl, rfl⟩
    go_wp2
    go_end0
    exact ⟨rfl, ⟨by go_simp, by go_simp, by go_simp, by go_simp, by go_simp, by go_simp, by go_simp, by go_simp, by go_simp, by go_simp, by go_grown⟩⟩

set_option maxRecDepth 100000 in
set_option maxHeartbeats 2000000 in
theorem hider1_some (s : SV) (sec : BitVec 8) (dv dt : Bool) (sb bp bs bd : Nat) (w : World) (h : Hides s sec dv dt sb bp bs bd w) (hs : (sec == 0#8) = false) (hv : dv = false) (hd : dt = false) (hzz : s.z = (s.a == 0#8)) :
    CallsD Try.prog 43 #[.pointer (some ⟨bs, 0, none⟩), .pointer (some ⟨bd, 0, none⟩), .pointer (some ⟨bp, 0, none⟩)] .returning w
      fun e u' w' => u' = .returning ∧ (e = .returned (.tuple #[]) ∧ Hidden s ⟨spr sec, bitAt (spr sec) 7, true, zT s.a (spr sec), true⟩ sb w w') := by
  obtain ⟨l1, l2, l3, hs_0, hs_1, hs_2, hs_3, hs_4, hs_5, hs_6, hs_7, hs_8, hs_9, fs_0, fs_1, fs_2, fs_3, fs_4, fs_5, fs_6, fs_7, fs_8, fs_9, hp_0, ht_0, hd_0, hd_1⟩ := h
  have hbase : sb ≤ w.heap.size := Nat.le_of_lt (klt hs_0)
  have hbb := klt hd_0
  have n1 : ¬ sb = bp := by omega
  have n2 : ¬ sb = bs := by omega
  have n3 : ¬ sb = bd := by omega
  subst hv; subst hd
  have hu := u8_beq0
  have fb := fld_bt
  go_enter_d Try.func43, Try.ntmps43
  go_wp2_with fail
  refine wp_region_planT 6 (fun w' => w'.cell? ⟨bp, 0, none⟩ = some (.pointer (some ⟨sb, 0, none⟩)) ∧ w'.cell? ⟨bs, 0, none⟩ = some (B8 sec) ∧ w'.cell? ⟨sb, 0, none⟩ = some (B8 s.a) ∧ w'.frozen? ⟨sb, 0, none⟩ = false ∧ w'.cell? ⟨sb, 1, none⟩ = some (B8 0#8) ∧ w'.frozen? ⟨sb, 1, none⟩ = false ∧ w'.cell? ⟨sb, 2, none⟩ = some (.bool s.n) ∧ w'.frozen? ⟨sb, 2, none⟩ = false ∧ w'.cell? ⟨sb, 3, none⟩ = some (.bool false) ∧ w'.frozen? ⟨sb, 3, none⟩ = false ∧ w'.cell? ⟨sb, 4, none⟩ = some (.bool s.v) ∧ w'.frozen? ⟨sb, 4, none⟩ = false ∧ w'.cell? ⟨sb, 5, none⟩ = some (.bool false) ∧ w'.frozen? ⟨sb, 5, none⟩ = false ∧ w'.cell? ⟨sb, 6, none⟩ = some (.bool s.z) ∧ w'.frozen? ⟨sb, 6, none⟩ = false ∧ w'.cell? ⟨sb, 7, none⟩ = some (.bool false) ∧ w'.frozen? ⟨sb, 7, none⟩ = false ∧ w'.cell? ⟨sb, 8, none⟩ = some (.bool s.c) ∧ w'.frozen? ⟨sb, 8, none⟩ = false ∧ w'.cell? ⟨sb, 9, none⟩ = some (.bool false) ∧ w'.frozen? ⟨sb, 9, none⟩ = false ∧ Below sb w w') (by kernel_rfl) (by kernel_rfl) (by kernel_rfl) (by kernel_rfl) ?_ ?_
  · (try dsimp only)
    refine ⟨?_, ?_, ?_, ?_, ?_, ?_, ?_, ?_, ?_, ?_, ?_, ?_, ?_, ?_, ?_, ?_, ?_, ?_, ?_, ?_, ?_, ?_, ?_⟩ <;> first | (go_simp; done) | (simp [*]; done) | go_grown
  (try simp only [List.append_eq, List.cons_append, List.nil_append, List.toList_toArray, List.take_succ_cons, List.take_zero, List.drop_succ_cons, List.drop_zero])
  repeat (first
    | (refine Plan.val (v := ?_) ?_ ?_ ?_; rotate_left; (· rfl); (· (intro W hSw; (try dsimp only at hSw); go_simp; all_goals (first | (with_reducible rfl) | (constructor <;> (with_reducible rfl))))); (try simp only [Act.put, List.setIfInBounds_toArray, List.set_cons_zero, List.set_cons_succ]))
    | (refine Plan.no ?_ ?_; (· rfl); (try simp only [Act.put, List.setIfInBounds_toArray, List.set_cons_zero, List.set_cons_succ]))
    | (refine Plan.call (v := ?_) (f := ?_) (args := ?_) ?_ ?_ ?_ ?_; rotate_left 3; (· rfl); (· (intro W hSw; (try dsimp only at hSw); go_simp; all_goals (first | (with_reducible rfl) | (constructor <;> (with_reducible rfl))))); (· (intro W hSw; (try dsimp only at hSw); first | (go_at_call 39; ((with_reducible refine (spread_n _ _).mono ?_); rintro _ wz ⟨rfl, hb⟩; (refine ⟨?_, ?_⟩; (· with_reducible rfl); exact ⟨kc hb hSw.1, kc hb hSw.2.1, kc hb hSw.2.2.1, kfz hb (klt hSw.2.2.1) hSw.2.2.2.1, kc hb hSw.2.2.2.2.1, kfz hb (klt hSw.2.2.2.2.1) hSw.2.2.2.2.2.1, kc hb hSw.2.2.2.2.2.2.1, kfz hb (klt hSw.2.2.2.2.2.2.1) hSw.2.2.2.2.2.2.2.1, kc hb hSw.2.2.2.2.2.2.2.2.1, kfz hb (klt hSw.2.2.2.2.2.2.2.2.1) hSw.2.2.2.2.2.2.2.2.2.1, kc hb hSw.2.2.2.2.2.2.2.2.2.2.1, kfz hb (klt hSw.2.2.2.2.2.2.2.2.2.2.1) hSw.2.2.2.2.2.2.2.2.2.2.2.1, kc hb hSw.2.2.2.2.2.2.2.2.2.2.2.2.1, kfz hb (klt hSw.2.2.2.2.2.2.2.2.2.2.2.2.1) hSw.2.2.2.2.2.2.2.2.2.2.2.2.2.1, kc hb hSw.2.2.2.2.2.2.2.2.2.2.2.2.2.2.1, kfz hb (klt hSw.2.2.2.2.2.2.2.2.2.2.2.2.2.2.1) hSw.2.2.2.2.2.2.2.2.2.2.2.2.2.2.2.1, kc hb hSw.2.2.2.2.2.2.2.2.2.2.2.2.2.2.2.2.1, kfz hb (klt hSw.2.2.2.2.2.2.2.2.2.2.2.2.2.2.2.2.1) hSw.2.2.2.2.2.2.2.2.2.2.2.2.2.2.2.2.2.1, kc hb hSw.2.2.2.2.2.2.2.2.2.2.2.2.2.2.2.2.2.2.1, kfz hb (klt hSw.2.2.2.2.2.2.2.2.2.2.2.2.2.2.2.2.2.2.1) hSw.2.2.2.2.2.2.2.2.2.2.2.2.2.2.2.2.2.2.2.1, kc hb hSw.2.2.2.2.2.2.2.2.2.2.2.2.2.2.2.2.2.2.2.2.1, kfz hb (klt hSw.2.2.2.2.2.2.2.2.2.2.2.2.2.2.2.2.2.2.2.2.1) hSw.2.2.2.2.2.2.2.2.2.2.2.2.2.2.2.2.2.2.2.2.2.1, kbn hbase hSw.2.2.2.2.2.2.2.2.2.2.2.2.2.2.2.2.2.2.2.2.2.2 hb⟩))))); (try simp only [Act.put, List.setIfInBounds_toArray, List.set_cons_zero, List.set_cons_succ])))
  refine Plan.done ?_
  intro u1 T
  (try dsimp only at T)
  obtain ⟨hp_0, ht_0, hs_0, fs_0, hs_1, fs_1, hs_2, fs_2, hs_3, fs_3, hs_4, fs_4, hs_5, fs_5, hs_6, fs_6, hs_7, fs_7, hs_8, fs_8, hs_9, fs_9, hB⟩ := T
  have hsz := hB.size
  have hlp := klt hp_0
  have hlt := klt ht_0
  have hls := klt hs_0
  have hnp0 : ¬ (bp = u1.heap.size) := by omega
  have hnp1 : ¬ (bp = u1.heap.size + 1) := by omega
  have hkp1 : bp < u1.heap.size + 1 := by omega
  have hnp2 : ¬ (bp = u1.heap.size + 1 + 1) := by omega
  have hkp2 : bp < u1.heap.size + 1 + 1 := by omega
  have hnt0 : ¬ (bs = u1.heap.size) := by omega
  have hnt1 : ¬ (bs = u1.heap.size + 1) := by omega
  have hkt1 : bs < u1.heap.size + 1 := by omega
  have hnt2 : ¬ (bs = u1.heap.size + 1 + 1) := by omega
  have hkt2 : bs < u1.heap.size + 1 + 1 := by omega
  have hns0 : ¬ (sb = u1.heap.size) := by omega
  have hns1 : ¬ (sb = u1.heap.size + 1) := by omega
  have hks1 : sb < u1.heap.size + 1 := by omega
  have hns2 : ¬ (sb = u1.heap.size + 1 + 1) := by omega
  have hks2 : sb < u1.heap.size + 1 + 1 := by omega
  go_wp2_with fail
  refine wp_region_planT 10 (fun w' => w'.cell? ⟨bp, 0, none⟩ = some (.pointer (some ⟨sb, 0, none⟩)) ∧ w'.cell? ⟨sb, 0, none⟩ = some (B8 s.a) ∧ w'.frozen? ⟨sb, 0, none⟩ = false ∧ w'.cell? ⟨sb, 1, none⟩ = some (B8 (spr sec)) ∧ w'.frozen? ⟨sb, 1, none⟩ = false ∧ w'.cell? ⟨sb, 2, none⟩ = some (.bool s.n) ∧ w'.frozen? ⟨sb, 2, none⟩ = false ∧ w'.cell? ⟨sb, 3, none⟩ = some (.bool false) ∧ w'.frozen? ⟨sb, 3, none⟩ = false ∧ w'.cell? ⟨sb, 4, none⟩ = some (.bool s.v) ∧ w'.frozen? ⟨sb, 4, none⟩ = false ∧ w'.cell? ⟨sb, 5, none⟩ = some (.bool false) ∧ w'.frozen? ⟨sb, 5, none⟩ = false ∧ w'.cell? ⟨sb, 6, none⟩ = some (.bool s.z) ∧ w'.frozen? ⟨sb, 6, none⟩ = false ∧ w'.cell? ⟨sb, 7, none⟩ = some (.bool false) ∧ w'.frozen? ⟨sb, 7, none⟩ = false ∧ w'.cell? ⟨sb, 8, none⟩ = some (.bool s.c) ∧ w'.frozen? ⟨sb, 8, none⟩ = false ∧ w'.cell? ⟨sb, 9, none⟩ = some (.bool false) ∧ w'.frozen? ⟨sb, 9, none⟩ = false ∧ Below sb w w') (by kernel_rfl) (by kernel_rfl) (by kernel_rfl) (by kernel_rfl) ?_ ?_
  · (try dsimp only)
    refine ⟨?_, ?_, ?_, ?_, ?_, ?_, ?_, ?_, ?_, ?_, ?_, ?_, ?_, ?_, ?_, ?_, ?_, ?_, ?_, ?_, ?_, ?_⟩ <;> first | (go_simp; done) | (simp [*]; done) | go_grown
  (try simp only [List.append_eq, List.cons_append, List.nil_append, List.toList_toArray, List.take_succ_cons, List.take_zero, List.drop_succ_cons, List.drop_zero])
  repeat (first
    | (refine Plan.val (v := ?_) ?_ ?_ ?_; rotate_left; (· rfl); (· (intro W hSw; (try dsimp only at hSw); go_simp; all_goals (first | (with_reducible rfl) | (constructor <;> (with_reducible rfl))))); (try simp only [Act.put, List.setIfInBounds_toArray, List.set_cons_zero, List.set_cons_succ]))
    | (refine Plan.no ?_ ?_; (· rfl); (try simp only [Act.put, List.setIfInBounds_toArray, List.set_cons_zero, List.set_cons_succ]))
    | (refine Plan.call (v := ?_) (f := ?_) (args := ?_) ?_ ?_ ?_ ?_; rotate_left 3; (· rfl); (· (intro W hSw; (try dsimp only at hSw); go_simp; all_goals (first | (with_reducible rfl) | (constructor <;> (with_reducible rfl))))); (· (intro W hSw; (try dsimp only at hSw); first | (go_at_call 45; ((with_reducible refine (bit7_c _ _ _).mono ?_); rintro _ wz ⟨rfl, hb⟩; (refine ⟨?_, ?_⟩; (· with_reducible rfl); exact ⟨kc hb hSw.1, kc hb hSw.2.1, kfz hb (klt hSw.2.1) hSw.2.2.1, kc hb hSw.2.2.2.1, kfz hb (klt hSw.2.2.2.1) hSw.2.2.2.2.1, kc hb hSw.2.2.2.2.2.1, kfz hb (klt hSw.2.2.2.2.2.1) hSw.2.2.2.2.2.2.1, kc hb hSw.2.2.2.2.2.2.2.1, kfz hb (klt hSw.2.2.2.2.2.2.2.1) hSw.2.2.2.2.2.2.2.2.1, kc hb hSw.2.2.2.2.2.2.2.2.2.1, kfz hb (klt hSw.2.2.2.2.2.2.2.2.2.1) hSw.2.2.2.2.2.2.2.2.2.2.1, kc hb hSw.2.2.2.2.2.2.2.2.2.2.2.1, kfz hb (klt hSw.2.2.2.2.2.2.2.2.2.2.2.1) hSw.2.2.2.2.2.2.2.2.2.2.2.2.1, kc hb hSw.2.2.2.2.2.2.2.2.2.2.2.2.2.1, kfz hb (klt hSw.2.2.2.2.2.2.2.2.2.2.2.2.2.1) hSw.2.2.2.2.2.2.2.2.2.2.2.2.2.2.1, kc hb hSw.2.2.2.2.2.2.2.2.2.2.2.2.2.2.2.1, kfz hb (klt hSw.2.2.2.2.2.2.2.2.2.2.2.2.2.2.2.1) hSw.2.2.2.2.2.2.2.2.2.2.2.2.2.2.2.2.1, kc hb hSw.2.2.2.2.2.2.2.2.2.2.2.2.2.2.2.2.2.1, kfz hb (klt hSw.2.2.2.2.2.2.2.2.2.2.2.2.2.2.2.2.2.1) hSw.2.2.2.2.2.2.2.2.2.2.2.2.2.2.2.2.2.2.1, kc hb hSw.2.2.2.2.2.2.2.2.2.2.2.2.2.2.2.2.2.2.2.1, kfz hb (klt hSw.2.2.2.2.2.2.2.2.2.2.2.2.2.2.2.2.2.2.2.1) hSw.2.2.2.2.2.2.2.2.2.2.2.2.2.2.2.2.2.2.2.2.1, kbn hbase hSw.2.2.2.2.2.2.2.2.2.2.2.2.2.2.2.2.2.2.2.2.2 hb⟩))))); (try simp only [Act.put, List.setIfInBounds_toArray, List.set_cons_zero, List.set_cons_succ])))
  refine Plan.done ?_
  intro u2 T
  (try dsimp only at T)
  clear hp_0 ht_0 hs_0 fs_0 hs_1 fs_1 hs_2 fs_2 hs_3 fs_3 hs_4 fs_4 hs_5 fs_5 hs_6 fs_6 hs_7 fs_7 hs_8 fs_8 hs_9 fs_9 hB hsz hlp hlt hls hnp0 hnp1 hkp1 hnp2 hkp2 hnt0 hnt1 hkt1 hnt2 hkt2 hns0 hns1 hks1 hns2 hks2
  obtain ⟨hp_0, hs1_0, fs1_0, hs1_1, fs1_1, hs1_2, fs1_2, hs1_3, fs1_3, hs1_4, fs1_4, hs1_5, fs1_5, hs1_6, fs1_6, hs1_7, fs1_7, hs1_8, fs1_8, hs1_9, fs1_9, hB⟩ := T
  have hsz := hB.size
  have hlp := klt hp_0
  have hls1 := klt hs1_0
  have hnp0 : ¬ (bp = u2.heap.size) := by omega
  have hnp1 : ¬ (bp = u2.heap.size + 1) := by omega
  have hkp1 : bp < u2.heap.size + 1 := by omega
  have hnp2 : ¬ (bp = u2.heap.size + 1 + 1) := by omega
  have hkp2 : bp < u2.heap.size + 1 + 1 := by omega
  have hns10 : ¬ (sb = u2.heap.size) := by omega
  have hns11 : ¬ (sb = u2.heap.size + 1) := by omega
  have hks11 : sb < u2.heap.size + 1 := by omega
  have hns12 : ¬ (sb = u2.heap.size + 1 + 1) := by omega
  have hks12 : sb < u2.heap.size + 1 + 1 := by omega
  go_wp2_with fail
  refine wp_region_planT 8 (fun w' => w'.cell? ⟨bp, 0, none⟩ = some (.pointer (some ⟨sb, 0, none⟩)) ∧ w'.cell? ⟨sb, 0, none⟩ = some (B8 s.a) ∧ w'.frozen? ⟨sb, 0, none⟩ = false ∧ w'.cell? ⟨sb, 1, none⟩ = some (B8 (spr sec)) ∧ w'.frozen? ⟨sb, 1, none⟩ = false ∧ w'.cell? ⟨sb, 2, none⟩ = some (.bool s.n) ∧ w'.frozen? ⟨sb, 2, none⟩ = false ∧ w'.cell? ⟨sb, 3, none⟩ = some (.bool (bitAt (spr sec) 7)) ∧ w'.frozen? ⟨sb, 3, none⟩ = false ∧ w'.cell? ⟨sb, 4, none⟩ = some (.bool s.v) ∧ w'.frozen? ⟨sb, 4, none⟩ = false ∧ w'.cell? ⟨sb, 5, none⟩ = some (.bool false) ∧ w'.frozen? ⟨sb, 5, none⟩ = false ∧ w'.cell? ⟨sb, 6, none⟩ = some (.bool s.z) ∧ w'.frozen? ⟨sb, 6, none⟩ = false ∧ w'.cell? ⟨sb, 7, none⟩ = some (.bool false) ∧ w'.frozen? ⟨sb, 7, none⟩ = false ∧ w'.cell? ⟨sb, 8, none⟩ = some (.bool s.c) ∧ w'.frozen? ⟨sb, 8, none⟩ = false ∧ w'.cell? ⟨sb, 9, none⟩ = some (.bool false) ∧ w'.frozen? ⟨sb, 9, none⟩ = false ∧ Below sb w w') (by kernel_rfl) (by kernel_rfl) (by kernel_rfl) (by kernel_rfl) ?_ ?_
  · (try dsimp only)
    refine ⟨?_, ?_, ?_, ?_, ?_, ?_, ?_, ?_, ?_, ?_, ?_, ?_, ?_, ?_, ?_, ?_, ?_, ?_, ?_, ?_, ?_, ?_⟩ <;> first | (go_simp; done) | (simp [*]; done) | go_grown
  (try simp only [List.append_eq, List.cons_append, List.nil_append, List.toList_toArray, List.take_succ_cons, List.take_zero, List.drop_succ_cons, List.drop_zero])
  repeat (first
    | (refine Plan.val (v := ?_) ?_ ?_ ?_; rotate_left; (· rfl); (· (intro W hSw; (try dsimp only at hSw); go_simp; all_goals (first | (with_reducible rfl) | (constructor <;> (with_reducible rfl))))); (try simp only [Act.put, List.setIfInBounds_toArray, List.set_cons_zero, List.set_cons_succ]))
    | (refine Plan.no ?_ ?_; (· rfl); (try simp only [Act.put, List.setIfInBounds_toArray, List.set_cons_zero, List.set_cons_succ]))
    | (refine Plan.call (v := ?_) (f := ?_) (args := ?_) ?_ ?_ ?_ ?_; rotate_left 3; (· rfl); (· (intro W hSw; (try dsimp only at hSw); go_simp; all_goals (first | (with_reducible rfl) | (constructor <;> (with_reducible rfl))))); (· (intro W hSw; (try dsimp only at hSw); first | (go_at_call 46; ((with_reducible refine (zero_n _ _ _).mono ?_); rintro _ wz ⟨rfl, hb⟩; (refine ⟨?_, ?_⟩; (· with_reducible rfl); exact ⟨kc hb hSw.1, kc hb hSw.2.1, kfz hb (klt hSw.2.1) hSw.2.2.1, kc hb hSw.2.2.2.1, kfz hb (klt hSw.2.2.2.1) hSw.2.2.2.2.1, kc hb hSw.2.2.2.2.2.1, kfz hb (klt hSw.2.2.2.2.2.1) hSw.2.2.2.2.2.2.1, kc hb hSw.2.2.2.2.2.2.2.1, kfz hb (klt hSw.2.2.2.2.2.2.2.1) hSw.2.2.2.2.2.2.2.2.1, kc hb hSw.2.2.2.2.2.2.2.2.2.1, kfz hb (klt hSw.2.2.2.2.2.2.2.2.2.1) hSw.2.2.2.2.2.2.2.2.2.2.1, kc hb hSw.2.2.2.2.2.2.2.2.2.2.2.1, kfz hb (klt hSw.2.2.2.2.2.2.2.2.2.2.2.1) hSw.2.2.2.2.2.2.2.2.2.2.2.2.1, kc hb hSw.2.2.2.2.2.2.2.2.2.2.2.2.2.1, kfz hb (klt hSw.2.2.2.2.2.2.2.2.2.2.2.2.2.1) hSw.2.2.2.2.2.2.2.2.2.2.2.2.2.2.1, kc hb hSw.2.2.2.2.2.2.2.2.2.2.2.2.2.2.2.1, kfz hb (klt hSw.2.2.2.2.2.2.2.2.2.2.2.2.2.2.2.1) hSw.2.2.2.2.2.2.2.2.2.2.2.2.2.2.2.2.1, kc hb hSw.2.2.2.2.2.2.2.2.2.2.2.2.2.2.2.2.2.1, kfz hb (klt hSw.2.2.2.2.2.2.2.2.2.2.2.2.2.2.2.2.2.1) hSw.2.2.2.2.2.2.2.2.2.2.2.2.2.2.2.2.2.2.1, kc hb hSw.2.2.2.2.2.2.2.2.2.2.2.2.2.2.2.2.2.2.2.1, kfz hb (klt hSw.2.2.2.2.2.2.2.2.2.2.2.2.2.2.2.2.2.2.2.1) hSw.2.2.2.2.2.2.2.2.2.2.2.2.2.2.2.2.2.2.2.2.1, kbn hbase hSw.2.2.2.2.2.2.2.2.2.2.2.2.2.2.2.2.2.2.2.2.2 hb⟩))))); (try simp only [Act.put, List.setIfInBounds_toArray, List.set_cons_zero, List.set_cons_succ])))
  refine Plan.done ?_
  intro u3 T
  (try dsimp only at T)
  clear hp_0 hs1_0 fs1_0 hs1_1 fs1_1 hs1_2 fs1_2 hs1_3 fs1_3 hs1_4 fs1_4 hs1_5 fs1_5 hs1_6 fs1_6 hs1_7 fs1_7 hs1_8 fs1_8 hs1_9 fs1_9 hB hsz hlp hls1 hnp0 hnp1 hkp1 hnp2 hkp2 hns10 hns11 hks11 hns12 hks12
  obtain ⟨hp_0, hs2_0, fs2_0, hs2_1, fs2_1, hs2_2, fs2_2, hs2_3, fs2_3, hs2_4, fs2_4, hs2_5, fs2_5, hs2_6, fs2_6, hs2_7, fs2_7, hs2_8, fs2_8, hs2_9, fs2_9, hB⟩ := T
  have hsz := hB.size
  have hlp := klt hp_0
  have hls2 := klt hs2_0
  have hnp0 : ¬ (bp = u3.heap.size) := by omega
  have hnp1 : ¬ (bp = u3.heap.size + 1) := by omega
  have hkp1 : bp < u3.heap.size + 1 := by omega
  have hnp2 : ¬ (bp = u3.heap.size + 1 + 1) := by omega
  have hkp2 : bp < u3.heap.size + 1 + 1 := by omega
  have hns20 : ¬ (sb = u3.heap.size) := by omega
  have hns21 : ¬ (sb = u3.heap.size + 1) := by omega
  have hks21 : sb < u3.heap.size + 1 := by omega
  have hns22 : ¬ (sb = u3.heap.size + 1 + 1) := by omega
  have hks22 : sb < u3.heap.size + 1 + 1 := by omega
  rw [← hzz]
  go_wp2_with fail
  refine wp_region_planT 6 (fun w' => w'.cell? ⟨bp, 0, none⟩ = some (.pointer (some ⟨sb, 0, none⟩)) ∧ w'.cell? ⟨sb, 0, none⟩ = some (B8 s.a) ∧ w'.frozen? ⟨sb, 0, none⟩ = false ∧ w'.cell? ⟨sb, 1, none⟩ = some (B8 (spr sec)) ∧ w'.frozen? ⟨sb, 1, none⟩ = false ∧ w'.cell? ⟨sb, 2, none⟩ = some (.bool s.n) ∧ w'.frozen? ⟨sb, 2, none⟩ = false ∧ w'.cell? ⟨sb, 3, none⟩ = some (.bool (bitAt (spr sec) 7)) ∧ w'.frozen? ⟨sb, 3, none⟩ = false ∧ w'.cell? ⟨sb, 4, none⟩ = some (.bool s.v) ∧ w'.frozen? ⟨sb, 4, none⟩ = false ∧ w'.cell? ⟨sb, 5, none⟩ = some (.bool false) ∧ w'.frozen? ⟨sb, 5, none⟩ = false ∧ w'.cell? ⟨sb, 6, none⟩ = some (.bool s.z) ∧ w'.frozen? ⟨sb, 6, none⟩ = false ∧ w'.cell? ⟨sb, 7, none⟩ = some (.bool (zT s.a (spr sec))) ∧ w'.frozen? ⟨sb, 7, none⟩ = false ∧ w'.cell? ⟨sb, 8, none⟩ = some (.bool s.c) ∧ w'.frozen? ⟨sb, 8, none⟩ = false ∧ w'.cell? ⟨sb, 9, none⟩ = some (.bool false) ∧ w'.frozen? ⟨sb, 9, none⟩ = false ∧ Below sb w w') (by kernel_rfl) (by kernel_rfl) (by kernel_rfl) (by kernel_rfl) ?_ ?_
  · (try dsimp only)
    refine ⟨?_, ?_, ?_, ?_, ?_, ?_, ?_, ?_, ?_, ?_, ?_, ?_, ?_, ?_, ?_, ?_, ?_, ?_, ?_, ?_, ?_, ?_⟩ <;> first | (go_simp; done) | (simp [*]; done) | go_grown
  (try simp only [List.append_eq, List.cons_append, List.nil_append, List.toList_toArray, List.take_succ_cons, List.take_zero, List.drop_succ_cons, List.drop_zero])
  repeat (first
    | (refine Plan.val (v := ?_) ?_ ?_ ?_; rotate_left; (· rfl); (· (intro W hSw; (try dsimp only at hSw); go_simp; all_goals (first | (with_reducible rfl) | (constructor <;> (with_reducible rfl))))); (try simp only [Act.put, List.setIfInBounds_toArray, List.set_cons_zero, List.set_cons_succ]))
    | (refine Plan.no ?_ ?_; (· rfl); (try simp only [Act.put, List.setIfInBounds_toArray, List.set_cons_zero, List.set_cons_succ])))
  refine Plan.done ?_
  intro u4 T
  (try dsimp only at T)
  clear hp_0 hs2_0 fs2_0 hs2_1 fs2_1 hs2_2 fs2_2 hs2_3 fs2_3 hs2_4 fs2_4 hs2_5 fs2_5 hs2_6 fs2_6 hs2_7 fs2_7 hs2_8 fs2_8 hs2_9 fs2_9 hB hsz hlp hls2 hnp0 hnp1 hkp1 hnp2 hkp2 hns20 hns21 hks21 hns22 hks22
  obtain ⟨hp_0, hs3_0, fs3_0, hs3_1, fs3_1, hs3_2, fs3_2, hs3_3, fs3_3, hs3_4, fs3_4, hs3_5, fs3_5, hs3_6, fs3_6, hs3_7, fs3_7, hs3_8, fs3_8, hs3_9, fs3_9, hB⟩ := T
  have hsz := hB.size
  have hlp := klt hp_0
  have hls3 := klt hs3_0
  have hnp0 : ¬ (bp = u4.heap.size) := by omega
  have hnp1 : ¬ (bp = u4.heap.size + 1) := by omega
  have hkp1 : bp < u4.heap.size + 1 := by omega
  have hnp2 : ¬ (bp = u4.heap.size + 1 + 1) := by omega
  have hkp2 : bp < u4.heap.size + 1 + 1 := by omega
  have hns30 : ¬ (sb = u4.heap.size) := by omega
  have hns31 : ¬ (sb = u4.heap.size + 1) := by omega
  have hks31 : sb < u4.heap.size + 1 := by omega
  have hns32 : ¬ (sb = u4.heap.size + 1 + 1) := by omega
  have hks32 : sb < u4.heap.size + 1 + 1 := by omega
  go_wp2_with (go_at_call 44; refine (hide2_c u4.heap.size sb false false _ (by omega) ?_ ?_ ?_ ?_ ?_ ?_).mono ?_ <;> first | (go_simp; done) | skip)
  rintro _ _ ⟨rfl, rfl⟩
  go_wp2
  go_end0
  exact ⟨rfl, ⟨by go_simp, by go_simp, by go_simp, by go_simp, by go_simp, by go_simp, by go_simp, by go_simp, by go_simp, by go_simp, by go_grown⟩⟩

theorem hider1_c (s : SV) (sec : BitVec 8) (dv dt : Bool) (sb bp bs bd : Nat) (w : World) (h : Hides s sec dv dt sb bp bs bd w) (hz : dv = false → s.z = (s.a == 0#8)) :
    CallsD Try.prog 43 #[.pointer (some ⟨bs, 0, none⟩), .pointer (some ⟨bd, 0, none⟩), .pointer (some ⟨bp, 0, none⟩)] .returning w
      fun e u' w' => u' = .returning ∧ (e = .returned (.tuple #[]) ∧ Hidden s (hidT sec s.a dv dt) sb w w') := by
  unfold hidT
  by_cases h1 : sec = 0#8 ∧ dt = false
  · have e : (sec == 0#8 && !dt) = true := by rw [h1.1, h1.2]; rfl
    rw [if_pos e]
    exact hider1_none s sec dv dt sb bp bs bd w h h1.1 h1.2
  · have e : ¬ (sec == 0#8 && !dt) = true := by
      intro e
      rw [Bool.and_eq_true, beq_iff_eq, Bool.not_eq_true'] at e
      exact h1 e
    rw [if_neg e]
    by_cases h2 : (dv || dt) = true
    · rw [if_pos h2]
      exact hider1_all s sec dv dt sb bp bs bd w h h1 h2
    · rw [if_neg h2]
      have h3 : dv = false ∧ dt = false := by cases dv <;> cases dt <;> simp_all
      have h4 : (sec == 0#8) = false := by
        cases hq : (sec == 0#8)
        · rfl
        · exact absurd ⟨by simpa using hq, h3.2⟩ h1
      exact hider1_some s sec dv dt sb bp bs bd w h h4 h3.1 h3.2 (hz h3.1)

set_option maxRecDepth 100000 in
set_option maxHeartbeats 1000000 in
theorem hider_c (sb : Nat) (x : BitVec 8) (c ct d dt : Bool) (w : World) :
    Calls Try.prog 28 #[.pointer (some ⟨sb, 0, none⟩), B8 x, TBit c ct, TBit d dt] w fun e w' =>
      e = .returned (.func (.func 43) #[] #[.pointer (some ⟨w.heap.size + 1, 0, none⟩), .pointer (some ⟨w.heap.size + 1 + 1 + 1, 0, none⟩), .pointer (some ⟨w.heap.size, 0, none⟩)]) ∧ Below w.heap.size w w' ∧
      w'.cell? ⟨w.heap.size, 0, none⟩ = some (.pointer (some ⟨sb, 0, none⟩)) ∧ w'.cell? ⟨w.heap.size + 1, 0, none⟩ = some (B8 (if ct then x ||| 1#8 else x)) ∧
      w'.cell? ⟨w.heap.size + 1 + 1 + 1, 0, none⟩ = some (.bool d) ∧ w'.cell? ⟨w.heap.size + 1 + 1 + 1, 1, none⟩ = some (.bool dt) := by
  have hmf : ∀ (fn : Fn) (first cap : Array Value) (w : World), (Instr.makeFunc fn first cap).run Try.prog w = .ok (.func fn first cap) w := fun _ _ _ _ => rfl
  have h1 : bits .or .u8 (u8 x) 1 = u8 (x ||| 1#8) := by rw [← u8_one, u8_or]
  cases ct
  all_goals
    go_enter Try.func28, Try.ntmps28
    go_wp2
    go_ret
    exact ⟨rfl, by go_grown, by go_simp, by go_simp, by go_simp, by go_simp⟩
theorem hider_s (sb : Nat) (t s : BitVec 8) (c ct d dt : Bool) (w : World) :
    Calls Try.prog 28 #[.pointer (some ⟨sb, 0, none⟩), B8 (t ||| s), TBit c ct, TBit d dt] w fun e w' =>
      e = .returned (.func (.func 43) #[] #[.pointer (some ⟨w.heap.size + 1, 0, none⟩), .pointer (some ⟨w.heap.size + 1 + 1 + 1, 0, none⟩), .pointer (some ⟨w.heap.size, 0, none⟩)]) ∧ Below w.heap.size w w' ∧
      w'.cell? ⟨w.heap.size, 0, none⟩ = some (.pointer (some ⟨sb, 0, none⟩)) ∧ w'.cell? ⟨w.heap.size + 1, 0, none⟩ = some (B8 (secT t s ct)) ∧
      w'.cell? ⟨w.heap.size + 1 + 1 + 1, 0, none⟩ = some (.bool d) ∧ w'.cell? ⟨w.heap.size + 1 + 1 + 1, 1, none⟩ = some (.bool dt) :=
  hider_c sb (t ||| s) c ct d dt w
end Go.Proofs.Ytdmgdldadpkhgaa
