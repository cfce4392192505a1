/-
  The program: Of, Read, Write.
-/
import Derived.Test.YtoakgchfdihjbaaDoorMem8
set_option linter.unusedSimpArgs false
set_option linter.unusedVariables false
namespace Go.Proofs.YtoakgchfdihjbaaDoor
open Go.RowKit Go.PlainAid

set_option maxRecDepth 100000 in
theorem of_c (n : Int) (w : World) : Calls Tryd.prog 24 #[.int .i64 n] w fun e w' => e = .returned (.agg #[.int .u8 (IntKind.u8.wrap n), .int .u8 0]) ∧ Below w.heap.size w w' := by
  obtain ⟨R, hR⟩ : ∃ R, IntKind.u8.wrap n = R := ⟨_, rfl⟩
  rw [hR]
  go_enter Tryd.func24, Tryd.ntmps24
  go_wp2
  refine bodyPost_ret (v := .agg #[.int .u8 R, .int .u8 0]) (by simp [results, Tryd.results24, go_sem, hR] <;> first | done | rfl) rfl ⟨rfl, by go_grown⟩
def prM (M : Int → Int × Int) (a : Int) : RdO := if kindI a a = 0 then ⟨0, 0, 10⟩ else if kindI a a = 2 then ⟨0, 0, 15⟩ else if kindI a a = 3 then ⟨255, 0, 0⟩ else ⟨(M a).1, (M a).2, 0⟩
set_option maxRecDepth 100000 in
theorem readn_c (a : Int) (w : World) : Calls Tryd.prog 12 #[.pointer none, .int .i64 a] w fun e w' => e = .returned (.tuple #[.agg #[.int .u8 0, .int .u8 0], .int .i64 2]) ∧ Below w.heap.size w w' := by
  go_enter Tryd.func12, Tryd.ntmps12
  go_wp2
  refine bodyPost_ret (v := .tuple #[.agg #[.int .u8 0, .int .u8 0], .int .i64 2]) (by simp [results, Tryd.results12, go_sem] <;> first | done | rfl) rfl ⟨rfl, by go_grown⟩
set_option maxRecDepth 100000 in
set_option maxHeartbeats 2000000 in
theorem readp_c (M : Int → Int × Int) (a : Int) (mb bb : Nat) (w : World) (hP : Pm mb bb w M) (hL : Laid w) :
    Calls Tryd.prog 12 #[.pointer (some ⟨mb, 0, none⟩), .int .i64 a] w fun e w' => e = .returned (.tuple #[.agg #[.int .u8 (prM M a).v, .int .u8 (prM M a).t], .int .i64 (prM M a).e]) ∧ Below w.heap.size w w' := by
  have HK := Lib.hid (fun W (hb : Below w.heap.size w W) => kindp_c a a W (hL.below hb))
  have HO := Lib.hid (fun W => of_c 255 W)
  have HC := Lib.hid (kindI_cases a a)
  obtain ⟨R, hR⟩ : ∃ R, prM M a = R := ⟨_, rfl⟩
  rw [hR]
  have HR := Lib.hid hR
  clear hR
  unfold prM at HR
  have HP := Lib.hid hP
  generalize kindI a a = K at *
  have hm_0 := hP.c0
  have hmw : mb < w.heap.size := klt hm_0
  have hbw := hP.lt
  clear hP
  rcases HC.out with ⟨rfl, h1, _⟩ | ⟨rfl, h1, _⟩ | ⟨rfl, h1, _⟩ | ⟨rfl, h1, _⟩ | ⟨rfl, _⟩
  · have HF := Lib.hid (show R = ⟨(M a).1, (M a).2, 0⟩ from HR.out.symm)
    have ha : 0 ≤ a ∧ a < 65536 := by unfold ramB at h1; simp only [Bool.and_eq_true, decide_eq_true_eq] at h1; omega
    obtain ⟨k, rfl⟩ : ∃ k : Nat, a = (k : Int) := ⟨a.toNat, by omega⟩
    have hk : k < 65536 := by omega
    have y0 := HP.out.at0 k hk
    have y1 := HP.out.at1 k hk
    obtain ⟨⟨bv, bt⟩, hb⟩ : ∃ B, M (k : Int) = B := ⟨_, rfl⟩
    rw [hb] at HF y0 y1
    dsimp only at HF y0 y1
    clear HR HC h1 hb
    have hin : (0 : Int) ≤ (k : Int) ∧ (k : Int) < 65536 := by omega
    go_enter Tryd.func12, Tryd.ntmps12
    go_wp2_with fail
    ((with_reducible refine (HK.out _ (by go_grown)).mono ?_); rintro _ u1 ⟨rfl, hb⟩)
    have T : u1.cell? ⟨mb, 0, none⟩ = some (.pointer (some ⟨bb, 0, none⟩)) ∧ CF u1 w.heap.size 0 (.int .u8 0) ∧ CF u1 w.heap.size 1 (.int .u8 0) := by
        refine ⟨?_, ⟨?_, ?_⟩, ⟨?_, ?_⟩⟩ <;> first | (refine kc hb ?_ <;> (go_simp; first | done | rfl)) | (refine kfz hb ?_ ?_ <;> first | (go_size; done) | (go_simp; done))
    have hz := hb.size
    (try simp only [World.size_alloc, World.size_setCell, World.size_drew] at hz)
    have L : mb < u1.heap.size ∧ w.heap.size < u1.heap.size := by omega
    have hB' : Below w.heap.size w u1 := by
        refine kb ?_ hb
        go_grown
    clear hb hz
    obtain ⟨hm_0, ⟨hz_0, fz_0⟩, ⟨hz_1, fz_1⟩⟩ := T
    obtain ⟨hlm, hlz⟩ := L
    obtain ⟨hnm0, hnm1, hkm1, hnm2, hkm2⟩ := ap0 hlm
    obtain ⟨hnz0, hnz1, hkz1, hnz2, hkz2⟩ := ap0 hlz
    have hB := hB'; clear hB'
    have hsz := hB.size
    have yb0 := kc hB y0
    have yb1 := kc hB y1
    go_wp2
    refine bodyPost_ret (v := .tuple #[.agg #[.int .u8 bv, .int .u8 bt], .int .i64 0]) (by simp [results, Tryd.results12, go_sem, hz_0, hz_1] <;> first | done | rfl) rfl (rdO_ret HF.out (by go_grown))
  · have HF := Lib.hid (show R = ⟨0, 0, 15⟩ from HR.out.symm)
    go_enter Tryd.func12, Tryd.ntmps12
    go_wp2_with fail
    ((with_reducible refine (HK.out _ (by go_grown)).mono ?_); rintro _ u1 ⟨rfl, hb⟩)
    have T : u1.cell? ⟨mb, 0, none⟩ = some (.pointer (some ⟨bb, 0, none⟩)) ∧ CF u1 w.heap.size 0 (.int .u8 0) ∧ CF u1 w.heap.size 1 (.int .u8 0) := by
        refine ⟨?_, ⟨?_, ?_⟩, ⟨?_, ?_⟩⟩ <;> first | (refine kc hb ?_ <;> (go_simp; first | done | rfl)) | (refine kfz hb ?_ ?_ <;> first | (go_size; done) | (go_simp; done))
    have hz := hb.size
    (try simp only [World.size_alloc, World.size_setCell, World.size_drew] at hz)
    have L : mb < u1.heap.size ∧ w.heap.size < u1.heap.size := by omega
    have hB' : Below w.heap.size w u1 := by
        refine kb ?_ hb
        go_grown
    clear hb hz
    obtain ⟨hm_0, ⟨hz_0, fz_0⟩, ⟨hz_1, fz_1⟩⟩ := T
    obtain ⟨hlm, hlz⟩ := L
    obtain ⟨hnm0, hnm1, hkm1, hnm2, hkm2⟩ := ap0 hlm
    obtain ⟨hnz0, hnz1, hkz1, hnz2, hkz2⟩ := ap0 hlz
    have hB := hB'; clear hB'
    have hsz := hB.size
    go_wp2
    refine bodyPost_ret (v := .tuple #[.agg #[.int .u8 0, .int .u8 0], .int .i64 15]) (by simp [results, Tryd.results12, go_sem, hz_0, hz_1] <;> first | done | rfl) rfl (rdO_ret HF.out (by go_grown))
  · have HF := Lib.hid (show R = ⟨255, 0, 0⟩ from HR.out.symm)
    go_enter Tryd.func12, Tryd.ntmps12
    go_wp2_with fail
    ((with_reducible refine (HK.out _ (by go_grown)).mono ?_); rintro _ u1 ⟨rfl, hb⟩)
    have T : u1.cell? ⟨mb, 0, none⟩ = some (.pointer (some ⟨bb, 0, none⟩)) ∧ CF u1 w.heap.size 0 (.int .u8 0) ∧ CF u1 w.heap.size 1 (.int .u8 0) := by
        refine ⟨?_, ⟨?_, ?_⟩, ⟨?_, ?_⟩⟩ <;> first | (refine kc hb ?_ <;> (go_simp; first | done | rfl)) | (refine kfz hb ?_ ?_ <;> first | (go_size; done) | (go_simp; done))
    have hz := hb.size
    (try simp only [World.size_alloc, World.size_setCell, World.size_drew] at hz)
    have L : mb < u1.heap.size ∧ w.heap.size < u1.heap.size := by omega
    have hB' : Below w.heap.size w u1 := by
        refine kb ?_ hb
        go_grown
    clear hb hz
    obtain ⟨hm_0, ⟨hz_0, fz_0⟩, ⟨hz_1, fz_1⟩⟩ := T
    obtain ⟨hlm, hlz⟩ := L
    obtain ⟨hnm0, hnm1, hkm1, hnm2, hkm2⟩ := ap0 hlm
    obtain ⟨hnz0, hnz1, hkz1, hnz2, hkz2⟩ := ap0 hlz
    have hB := hB'; clear hB'
    have hsz := hB.size
    go_wp2_with fail
    ((with_reducible refine (HO.out _).mono ?_); rintro _ u2 ⟨rfl, hb⟩)
    have T : u2.cell? ⟨mb, 0, none⟩ = some (.pointer (some ⟨bb, 0, none⟩)) ∧ CF u2 w.heap.size 0 (.int .u8 0) ∧ CF u2 w.heap.size 1 (.int .u8 0) := by
        refine ⟨?_, ⟨?_, ?_⟩, ⟨?_, ?_⟩⟩ <;> first | (refine kc hb ?_ <;> (go_simp; first | done | rfl)) | (refine kfz hb ?_ ?_ <;> first | (go_size; done) | (go_simp; done))
    have hz := hb.size
    (try simp only [World.size_alloc, World.size_setCell, World.size_drew] at hz)
    have L : mb < u2.heap.size ∧ w.heap.size < u2.heap.size := by omega
    have hB' : Below w.heap.size w u2 := by
        refine kb ?_ hb
        go_grown
    clear hm_0 hz_0 fz_0 hz_1 fz_1 hlm hlz hnm0 hnm1 hkm1 hnm2 hkm2 hnz0 hnz1 hkz1 hnz2 hkz2 hB hsz
    clear hb hz
    obtain ⟨hm_0, ⟨hz_0, fz_0⟩, ⟨hz_1, fz_1⟩⟩ := T
    obtain ⟨hlm, hlz⟩ := L
    obtain ⟨hnm0, hnm1, hkm1, hnm2, hkm2⟩ := ap0 hlm
    obtain ⟨hnz0, hnz1, hkz1, hnz2, hkz2⟩ := ap0 hlz
    have hB := hB'; clear hB'
    have hsz := hB.size
    go_wp2
    refine bodyPost_ret (v := .tuple #[.agg #[.int .u8 255, .int .u8 0], .int .i64 0]) (by simp [results, Tryd.results12, go_sem, hz_0, hz_1] <;> first | done | rfl) rfl (rdO_ret HF.out (by go_grown))
  · have HF := Lib.hid (show R = ⟨(M a).1, (M a).2, 0⟩ from HR.out.symm)
    have ha : 0 ≤ a ∧ a < 65536 := by unfold romB at h1; simp only [Bool.and_eq_true, decide_eq_true_eq] at h1; omega
    obtain ⟨k, rfl⟩ : ∃ k : Nat, a = (k : Int) := ⟨a.toNat, by omega⟩
    have hk : k < 65536 := by omega
    have y0 := HP.out.at0 k hk
    have y1 := HP.out.at1 k hk
    obtain ⟨⟨bv, bt⟩, hb⟩ : ∃ B, M (k : Int) = B := ⟨_, rfl⟩
    rw [hb] at HF y0 y1
    dsimp only at HF y0 y1
    clear HR HC h1 hb
    have hin : (0 : Int) ≤ (k : Int) ∧ (k : Int) < 65536 := by omega
    go_enter Tryd.func12, Tryd.ntmps12
    go_wp2_with fail
    ((with_reducible refine (HK.out _ (by go_grown)).mono ?_); rintro _ u1 ⟨rfl, hb⟩)
    have T : u1.cell? ⟨mb, 0, none⟩ = some (.pointer (some ⟨bb, 0, none⟩)) ∧ CF u1 w.heap.size 0 (.int .u8 0) ∧ CF u1 w.heap.size 1 (.int .u8 0) := by
        refine ⟨?_, ⟨?_, ?_⟩, ⟨?_, ?_⟩⟩ <;> first | (refine kc hb ?_ <;> (go_simp; first | done | rfl)) | (refine kfz hb ?_ ?_ <;> first | (go_size; done) | (go_simp; done))
    have hz := hb.size
    (try simp only [World.size_alloc, World.size_setCell, World.size_drew] at hz)
    have L : mb < u1.heap.size ∧ w.heap.size < u1.heap.size := by omega
    have hB' : Below w.heap.size w u1 := by
        refine kb ?_ hb
        go_grown
    clear hb hz
    obtain ⟨hm_0, ⟨hz_0, fz_0⟩, ⟨hz_1, fz_1⟩⟩ := T
    obtain ⟨hlm, hlz⟩ := L
    obtain ⟨hnm0, hnm1, hkm1, hnm2, hkm2⟩ := ap0 hlm
    obtain ⟨hnz0, hnz1, hkz1, hnz2, hkz2⟩ := ap0 hlz
    have hB := hB'; clear hB'
    have hsz := hB.size
    have yb0 := kc hB y0
    have yb1 := kc hB y1
    go_wp2
    refine bodyPost_ret (v := .tuple #[.agg #[.int .u8 bv, .int .u8 bt], .int .i64 0]) (by simp [results, Tryd.results12, go_sem, hz_0, hz_1] <;> first | done | rfl) rfl (rdO_ret HF.out (by go_grown))
  · have HF := Lib.hid (show R = ⟨0, 0, 10⟩ from HR.out.symm)
    go_enter Tryd.func12, Tryd.ntmps12
    go_wp2_with fail
    ((with_reducible refine (HK.out _ (by go_grown)).mono ?_); rintro _ u1 ⟨rfl, hb⟩)
    have T : u1.cell? ⟨mb, 0, none⟩ = some (.pointer (some ⟨bb, 0, none⟩)) ∧ CF u1 w.heap.size 0 (.int .u8 0) ∧ CF u1 w.heap.size 1 (.int .u8 0) := by
        refine ⟨?_, ⟨?_, ?_⟩, ⟨?_, ?_⟩⟩ <;> first | (refine kc hb ?_ <;> (go_simp; first | done | rfl)) | (refine kfz hb ?_ ?_ <;> first | (go_size; done) | (go_simp; done))
    have hz := hb.size
    (try simp only [World.size_alloc, World.size_setCell, World.size_drew] at hz)
    have L : mb < u1.heap.size ∧ w.heap.size < u1.heap.size := by omega
    have hB' : Below w.heap.size w u1 := by
        refine kb ?_ hb
        go_grown
    clear hb hz
    obtain ⟨hm_0, ⟨hz_0, fz_0⟩, ⟨hz_1, fz_1⟩⟩ := T
    obtain ⟨hlm, hlz⟩ := L
    obtain ⟨hnm0, hnm1, hkm1, hnm2, hkm2⟩ := ap0 hlm
    obtain ⟨hnz0, hnz1, hkz1, hnz2, hkz2⟩ := ap0 hlz
    have hB := hB'; clear hB'
    have hsz := hB.size
    go_wp2
    refine bodyPost_ret (v := .tuple #[.agg #[.int .u8 0, .int .u8 0], .int .i64 10]) (by simp [results, Tryd.results12, go_sem, hz_0, hz_1] <;> first | done | rfl) rfl (rdO_ret HF.out (by go_grown))
end Go.Proofs.YtoakgchfdihjbaaDoor
