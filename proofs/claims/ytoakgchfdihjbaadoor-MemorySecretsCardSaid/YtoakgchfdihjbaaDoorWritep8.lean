/-
  The program: Write.
-/
import Derived.Test.YtoakgchfdihjbaaDoorReadp8
set_option linter.unusedSimpArgs false
set_option linter.unusedVariables false
namespace Go.Proofs.YtoakgchfdihjbaaDoor
open Go.RowKit Go.PlainAid

def writeM (M : Int → Int × Int) (a v t : Int) : Int × (Int → Int × Int) := if kindI a a = 0 then (10, M) else if kindI a a = 2 then (15, M) else if kindI a a = 1 then (0, setM M a (v, t)) else (0, M)
set_option maxRecDepth 100000 in
theorem writen_c (a v t : Int) (w : World) : Calls Tryd.prog 18 #[.pointer none, .int .i64 a, .agg #[.int .u8 v, .int .u8 t]] w fun e w' => e = .returned (.int .i64 2) ∧ Below w.heap.size w w' := by
  go_enter Tryd.func18, Tryd.ntmps18
  go_wp2
  go_ret
  exact ⟨rfl, by go_grown⟩
set_option maxRecDepth 100000 in
set_option maxHeartbeats 2000000 in
theorem writep_c (M : Int → Int × Int) (a bv bt : Int) (mb bb : Nat) (w : World) (hP : Pm mb bb w M) (hL : Laid w) :
    Calls Tryd.prog 18 #[.pointer (some ⟨mb, 0, none⟩), .int .i64 a, .agg #[.int .u8 bv, .int .u8 bt]] w (MemEnd mb bb w (writeM M a bv bt).1 (writeM M a bv bt).2) := by
  have HK := Lib.hid (fun W (hb : Below w.heap.size w W) => kindp_c a a W (hL.below hb))
  have HC := Lib.hid (kindI_cases a a)
  obtain ⟨R, hR⟩ : ∃ R, writeM M a bv bt = R := ⟨_, rfl⟩
  rw [hR]
  have HR := Lib.hid hR
  clear hR
  unfold writeM at HR
  have HP := Lib.hid hP
  generalize kindI a a = K at *
  have hm_0 := hP.c0
  have hmw : mb < w.heap.size := klt hm_0
  have hbw := hP.lt
  clear hP
  rcases HC.out with ⟨rfl, h1, _⟩ | ⟨rfl, h1, _⟩ | ⟨rfl, h1, _⟩ | ⟨rfl, h1, _⟩ | ⟨rfl, _⟩
  · have HF := Lib.hid (show R = (0, setM M a (bv, bt)) from HR.out.symm)
    have ha : 0 ≤ a ∧ a < 65536 := by unfold ramB at h1; simp only [Bool.and_eq_true, decide_eq_true_eq] at h1; omega
    obtain ⟨k, rfl⟩ : ∃ k : Nat, a = (k : Int) := ⟨a.toNat, by omega⟩
    have hk : k < 65536 := by omega
    have y0 := HP.out.at0 k hk
    have y1 := HP.out.at1 k hk
    have z0 := HP.out.free (k * 2)
    have z1 := HP.out.free (k * 2 + 1)
    clear HR HC h1
    have hin : (0 : Int) ≤ (k : Int) ∧ (k : Int) < 65536 := by omega
    go_enter Tryd.func18, Tryd.ntmps18
    go_wp2_with fail
    ((with_reducible refine (HK.out _ (by go_grown)).mono ?_); rintro _ u1 ⟨rfl, hb⟩)
    have T : u1.cell? ⟨mb, 0, none⟩ = some (.pointer (some ⟨bb, 0, none⟩)) ∧ CC u1 w.heap.size 0 1 (.int .u8 bv) (.int .u8 bt) := by
        refine ⟨?_, ⟨?_, ?_⟩⟩ <;> refine kc hb ?_ <;> (go_simp; first | done | rfl)
    have hz := hb.size
    (try simp only [World.size_alloc, World.size_setCell, World.size_drew] at hz)
    have L : mb < u1.heap.size ∧ w.heap.size < u1.heap.size := by omega
    have hB' : Below w.heap.size w u1 := by
        refine kb ?_ hb
        go_grown
    clear hb hz
    obtain ⟨hm_0, ⟨hb_0, hb_1⟩⟩ := T
    obtain ⟨hlm, hlb⟩ := L
    obtain ⟨hnm0, hnm1, hkm1, hnm2, hkm2⟩ := ap0 hlm
    obtain ⟨hnb0, hnb1, hkb1, hnb2, hkb2⟩ := ap0 hlb
    have hB := hB'; clear hB'
    have hsz := hB.size
    go_wp2_with fail
    refine wp_region_planT 8 (fun w' => w'.cell? ⟨mb, 0, none⟩ = some (.pointer (some ⟨bb, 0, none⟩)) ∧ w'.cell? ⟨w.heap.size, 0, none⟩ = some (.int .u8 bv) ∧ w'.cell? ⟨w.heap.size, 1, none⟩ = some (.int .u8 bt) ∧ Below w.heap.size w w') (by kernel_rfl) (by kernel_rfl) (by kernel_rfl) (by kernel_rfl) ?_ ?_
    · (try dsimp only)
      refine ⟨?_, ?_, ?_, ?_⟩ <;> first | (go_simp; done) | (simp [*]; done) | go_grown
    (try simp only [List.append_eq, List.cons_append, List.nil_append, List.toList_toArray, List.take_succ_cons, List.take_zero, List.drop_succ_cons, List.drop_zero])
    repeat (first
      | (refine Plan.val (v := ?_) ?_ ?_ ?_; rotate_left; (· rfl); (· (intro W hSw; (try dsimp only at hSw); go_simp; all_goals (first | (with_reducible rfl) | (constructor <;> (with_reducible rfl)) | (rw [if_neg (by omega)]; done) | (rw [if_neg (by omega)]; with_reducible rfl)))); (try simp only [Act.put, List.setIfInBounds_toArray, List.set_cons_zero, List.set_cons_succ]))
      | (refine Plan.no ?_ ?_; (· rfl); (try simp only [Act.put, List.setIfInBounds_toArray, List.set_cons_zero, List.set_cons_succ])))
    refine Plan.done ?_
    intro u2 T
    (try dsimp only at T)
    clear hm_0 hb_0 hb_1 hlm hlb hnm0 hnm1 hkm1 hnm2 hkm2 hnb0 hnb1 hkb1 hnb2 hkb2 hB hsz
    obtain ⟨hm_0, hb_0, hb_1, hB⟩ := T
    have hsz := hB.size
    have hlm := klt hm_0
    have hlb := klt hb_0
    obtain ⟨hnm0, hnm1, hkm1, hnm2, hkm2⟩ := ap0 hlm
    obtain ⟨hnb0, hnb1, hkb1, hnb2, hkb2⟩ := ap0 hlb
    have yb0 := kc hB y0
    have yb1 := kc hB y1
    have zb0 := kfz hB hbw z0
    have zb1 := kfz hB hbw z1
    have HB := Lib.hid hB
    go_wp2
    go_ret
    have hf := HF.out
    subst hf
    exact ⟨rfl, grown_set (grown_set (grown_below HB.out)), (HP.out.below HB.out).set k hk bv bt⟩
  · have HF := Lib.hid (show R = (15, M) from HR.out.symm)
    go_enter Tryd.func18, Tryd.ntmps18
    go_wp2_with fail
    ((with_reducible refine (HK.out _ (by go_grown)).mono ?_); rintro _ u1 ⟨rfl, hb⟩)
    have T : u1.cell? ⟨mb, 0, none⟩ = some (.pointer (some ⟨bb, 0, none⟩)) ∧ CC u1 w.heap.size 0 1 (.int .u8 bv) (.int .u8 bt) := by
        refine ⟨?_, ⟨?_, ?_⟩⟩ <;> refine kc hb ?_ <;> (go_simp; first | done | rfl)
    have hz := hb.size
    (try simp only [World.size_alloc, World.size_setCell, World.size_drew] at hz)
    have L : mb < u1.heap.size ∧ w.heap.size < u1.heap.size := by omega
    have hB' : Below w.heap.size w u1 := by
        refine kb ?_ hb
        go_grown
    clear hb hz
    obtain ⟨hm_0, ⟨hb_0, hb_1⟩⟩ := T
    obtain ⟨hlm, hlb⟩ := L
    obtain ⟨hnm0, hnm1, hkm1, hnm2, hkm2⟩ := ap0 hlm
    obtain ⟨hnb0, hnb1, hkb1, hnb2, hkb2⟩ := ap0 hlb
    have hB := hB'; clear hB'
    have hsz := hB.size
    go_wp2
    go_ret
    exact memEnd_same HF.out HP.out (by go_grown)
  · have HF := Lib.hid (show R = (0, M) from HR.out.symm)
    go_enter Tryd.func18, Tryd.ntmps18
    go_wp2_with fail
    ((with_reducible refine (HK.out _ (by go_grown)).mono ?_); rintro _ u1 ⟨rfl, hb⟩)
    have T : u1.cell? ⟨mb, 0, none⟩ = some (.pointer (some ⟨bb, 0, none⟩)) ∧ CC u1 w.heap.size 0 1 (.int .u8 bv) (.int .u8 bt) := by
        refine ⟨?_, ⟨?_, ?_⟩⟩ <;> refine kc hb ?_ <;> (go_simp; first | done | rfl)
    have hz := hb.size
    (try simp only [World.size_alloc, World.size_setCell, World.size_drew] at hz)
    have L : mb < u1.heap.size ∧ w.heap.size < u1.heap.size := by omega
    have hB' : Below w.heap.size w u1 := by
        refine kb ?_ hb
        go_grown
    clear hb hz
    obtain ⟨hm_0, ⟨hb_0, hb_1⟩⟩ := T
    obtain ⟨hlm, hlb⟩ := L
    obtain ⟨hnm0, hnm1, hkm1, hnm2, hkm2⟩ := ap0 hlm
    obtain ⟨hnb0, hnb1, hkb1, hnb2, hkb2⟩ := ap0 hlb
    have hB := hB'; clear hB'
    have hsz := hB.size
    go_wp2
    go_ret
    exact memEnd_same HF.out HP.out (by go_grown)
  · have HF := Lib.hid (show R = (0, M) from HR.out.symm)
    go_enter Tryd.func18, Tryd.ntmps18
    go_wp2_with fail
    ((with_reducible refine (HK.out _ (by go_grown)).mono ?_); rintro _ u1 ⟨rfl, hb⟩)
    have T : u1.cell? ⟨mb, 0, none⟩ = some (.pointer (some ⟨bb, 0, none⟩)) ∧ CC u1 w.heap.size 0 1 (.int .u8 bv) (.int .u8 bt) := by
        refine ⟨?_, ⟨?_, ?_⟩⟩ <;> refine kc hb ?_ <;> (go_simp; first | done | rfl)
    have hz := hb.size
    (try simp only [World.size_alloc, World.size_setCell, World.size_drew] at hz)
    have L : mb < u1.heap.size ∧ w.heap.size < u1.heap.size := by omega
    have hB' : Below w.heap.size w u1 := by
        refine kb ?_ hb
        go_grown
    clear hb hz
    obtain ⟨hm_0, ⟨hb_0, hb_1⟩⟩ := T
    obtain ⟨hlm, hlb⟩ := L
    obtain ⟨hnm0, hnm1, hkm1, hnm2, hkm2⟩ := ap0 hlm
    obtain ⟨hnb0, hnb1, hkb1, hnb2, hkb2⟩ := ap0 hlb
    have hB := hB'; clear hB'
    have hsz := hB.size
    go_wp2
    go_ret
    exact memEnd_same HF.out HP.out (by go_grown)
  · have HF := Lib.hid (show R = (10, M) from HR.out.symm)
    go_enter Tryd.func18, Tryd.ntmps18
    go_wp2_with fail
    ((with_reducible refine (HK.out _ (by go_grown)).mono ?_); rintro _ u1 ⟨rfl, hb⟩)
    have T : u1.cell? ⟨mb, 0, none⟩ = some (.pointer (some ⟨bb, 0, none⟩)) ∧ CC u1 w.heap.size 0 1 (.int .u8 bv) (.int .u8 bt) := by
        refine ⟨?_, ⟨?_, ?_⟩⟩ <;> refine kc hb ?_ <;> (go_simp; first | done | rfl)
    have hz := hb.size
    (try simp only [World.size_alloc, World.size_setCell, World.size_drew] at hz)
    have L : mb < u1.heap.size ∧ w.heap.size < u1.heap.size := by omega
    have hB' : Below w.heap.size w u1 := by
        refine kb ?_ hb
        go_grown
    clear hb hz
    obtain ⟨hm_0, ⟨hb_0, hb_1⟩⟩ := T
    obtain ⟨hlm, hlb⟩ := L
    obtain ⟨hnm0, hnm1, hkm1, hnm2, hkm2⟩ := ap0 hlm
    obtain ⟨hnb0, hnb1, hkb1, hnb2, hkb2⟩ := ap0 hlb
    have hB := hB'; clear hB'
    have hsz := hB.size
    go_wp2
    go_ret
    exact memEnd_same HF.out HP.out (by go_grown)
end Go.Proofs.YtoakgchfdihjbaaDoor
