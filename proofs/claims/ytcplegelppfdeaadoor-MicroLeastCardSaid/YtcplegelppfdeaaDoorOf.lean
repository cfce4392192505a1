/-
  What a byte is by the program: Of.
-/
import Derived.Test.YtcplegelppfdeaaDoorKindp
import Derived.Test.YtcplegelppfdeaaDoorBase
import Derived.Deep.Cut
import Derived.Test.YtcplegelppfdeaaDoorHeld
set_option linter.unusedSimpArgs false
set_option linter.unusedVariables false
namespace Go.Proofs.YtcplegelppfdeaaDoor
open Go.RowKit Go.PlainAid

theorem odec_eq {p q : Prop} [Decidable p] [Decidable q] (h : p ↔ q) : decide p = decide q := by simp only [h]
/-- Of's answers: the opcode's value and the error's number. -/
def isOp (b : Nat) : Bool := (placeL.getD b none).isSome
def opC (b : Nat) : Array Value := if isOp b then #[.string ⟨(nm b).toArray⟩, .int .i64 (md b), .int .i64 (kindP (nm b) (md b))] else #[.string ⟨#[]⟩, .int .i64 0, .int .i64 0]
def errOf (b : Nat) : Int := if isOp b then 0 else 13
def ofV (b : Nat) : Value := .tuple #[.agg (opC b), .int .i64 (errOf b)]
theorem nm_empty : ∀ b : Fin 256, ((nm b.val == []) = !(isOp b.val)) := by decide +kernel
theorem toList_mk (l : List UInt8) : (ByteArray.mk l.toArray).toList = l := by rw [ByteArray.toList_eq]
set_option maxRecDepth 100000 in
set_option maxHeartbeats 1000000 in
theorem oof_c (b : Nat) (hb : b < 256) (w : World) : Calls Tryd.prog 17 #[.int .u8 b] w fun e w' => e = .returned (ofV b) ∧ Below w.heap.size w w' := by
  have HE := Lib.hid (fun w => ent_c b hb w)
  have HK := Lib.hid (fun w => okindp_c ⟨(nm b).toArray⟩ (md b) w)
  have hne : ((ByteArray.mk (nm b).toArray).toList == []) = !(isOp b) := by rw [toList_mk]; exact nm_empty ⟨b, hb⟩
  have HV := Lib.hid (show ofV b = .tuple #[.agg (if isOp b then #[.string ⟨(nm b).toArray⟩, .int .i64 (md b), .int .i64 (kindP (nm b) (md b))] else #[.string ⟨#[]⟩, .int .i64 0, .int .i64 0]), .int .i64 (if isOp b then 0 else 13)] from rfl)
  have hkl : (ByteArray.mk (nm b).toArray).data.toList = nm b := by simp
  rw [hkl] at HK
  unfold entV entC at HE
  generalize ofV b = V at *
  generalize kindP (nm b) (md b) = K at *
  generalize ByteArray.mk (nm b).toArray = S at *
  generalize md b = M at *
  clear hkl
  cases ho : isOp b
  · rw [ho] at hne HV
    have hv : V = .tuple #[.agg #[.string ⟨#[]⟩, .int .i64 0, .int .i64 0], .int .i64 13] := by rw [HV.out]; rfl
    clear HV
    subst hv
    go_enter Tryd.func17, Tryd.ntmps17
    go_wp2_with fail
    ((with_reducible refine (HE.out _).mono ?_); rintro _ u ⟨rfl, hb⟩)
    have T : CF u w.heap.size 0 (.string ⟨#[]⟩) ∧ CF u w.heap.size 1 (.int .i64 0) ∧ CF u w.heap.size 2 (.int .i64 0) := by
        refine ⟨⟨?_, ?_⟩, ⟨?_, ?_⟩, ⟨?_, ?_⟩⟩ <;> first | (refine kc hb ?_ <;> (go_simp; first | done | rfl)) | (refine kfz hb ?_ ?_ <;> first | (go_size; done) | (go_simp; done))
    have hz := hb.size
    (try simp only [World.size_alloc, World.size_setCell, World.size_drew] at hz)
    have L : w.heap.size < u.heap.size := by omega
    have hB' : Below w.heap.size w u := by
        refine kb ?_ hb
        go_grown
    clear hb hz
    obtain ⟨⟨hr_0, fr_0⟩, ⟨hr_1, fr_1⟩, ⟨hr_2, fr_2⟩⟩ := T
    have hlr := L; clear L
    obtain ⟨hnr0, hnr1, hkr1, hnr2, hkr2⟩ := ap0 hlr
    have hB := hB'; clear hB'
    have hsz := hB.size
    go_upto_region 3 with fail
    refine wp_pin (fun w' => w'.cell? ⟨w.heap.size, 0, none⟩ = some (.string ⟨#[]⟩) ∧ w'.frozen? ⟨w.heap.size, 0, none⟩ = false ∧ w'.cell? ⟨w.heap.size, 1, none⟩ = some (.int .i64 0) ∧ w'.frozen? ⟨w.heap.size, 1, none⟩ = false ∧ w'.cell? ⟨w.heap.size, 2, none⟩ = some (.int .i64 0) ∧ w'.frozen? ⟨w.heap.size, 2, none⟩ = false ∧ w'.cell? ⟨u.heap.size, 0, none⟩ = some (.string S) ∧ w'.frozen? ⟨u.heap.size, 0, none⟩ = false ∧ w'.cell? ⟨u.heap.size, 1, none⟩ = some (.int .i64 M) ∧ w'.frozen? ⟨u.heap.size, 1, none⟩ = false ∧ Below w.heap.size w w') ?_ ?_
    · (try dsimp only)
      refine ⟨?_, ?_, ?_, ?_, ?_, ?_, ?_, ?_, ?_, ?_, ?_⟩ <;> first | (go_simp; done) | (simp [*]; done) | go_grown
    intro u2 T
    (try dsimp only at T)
    clear hr_0 fr_0 hr_1 fr_1 hr_2 fr_2 hlr hnr0 hnr1 hkr1 hnr2 hkr2 hB hsz
    obtain ⟨hr_0, fr_0, hr_1, fr_1, hr_2, fr_2, hx_0, fx_0, hx_1, fx_1, hB⟩ := T
    have hsz := hB.size
    have hlr := klt hr_0
    have hlx := klt hx_0
    obtain ⟨hnr0, hnr1, hkr1, hnr2, hkr2⟩ := ap0 hlr
    obtain ⟨hnx0, hnx1, hkx1, hnx2, hkx2⟩ := ap0 hlx
    go_wp2
    refine bodyPost_ret (v := _) (by simp [results, Tryd.results17, go_sem, hr_0, hr_1, hr_2] <;> first | done | rfl | exact dec_eq Iff.rfl | exact odec_eq Iff.rfl) rfl ⟨rfl, by go_grown⟩
  · rw [ho] at hne HV
    have hv : V = .tuple #[.agg #[.string S, .int .i64 M, .int .i64 K], .int .i64 0] := by rw [HV.out]; rfl
    clear HV
    subst hv
    go_enter Tryd.func17, Tryd.ntmps17
    go_wp2_with fail
    ((with_reducible refine (HE.out _).mono ?_); rintro _ u ⟨rfl, hb⟩)
    have T : CF u w.heap.size 0 (.string ⟨#[]⟩) ∧ CF u w.heap.size 1 (.int .i64 0) ∧ CF u w.heap.size 2 (.int .i64 0) := by
        refine ⟨⟨?_, ?_⟩, ⟨?_, ?_⟩, ⟨?_, ?_⟩⟩ <;> first | (refine kc hb ?_ <;> (go_simp; first | done | rfl)) | (refine kfz hb ?_ ?_ <;> first | (go_size; done) | (go_simp; done))
    have hz := hb.size
    (try simp only [World.size_alloc, World.size_setCell, World.size_drew] at hz)
    have L : w.heap.size < u.heap.size := by omega
    have hB' : Below w.heap.size w u := by
        refine kb ?_ hb
        go_grown
    clear hb hz
    obtain ⟨⟨hr_0, fr_0⟩, ⟨hr_1, fr_1⟩, ⟨hr_2, fr_2⟩⟩ := T
    have hlr := L; clear L
    obtain ⟨hnr0, hnr1, hkr1, hnr2, hkr2⟩ := ap0 hlr
    have hB := hB'; clear hB'
    have hsz := hB.size
    go_wp2_with fail
    refine wp_region_planT 7 (fun w' => w'.cell? ⟨w.heap.size, 0, none⟩ = some (.string ⟨#[]⟩) ∧ w'.frozen? ⟨w.heap.size, 0, none⟩ = false ∧ w'.cell? ⟨w.heap.size, 1, none⟩ = some (.int .i64 0) ∧ w'.frozen? ⟨w.heap.size, 1, none⟩ = false ∧ w'.cell? ⟨w.heap.size, 2, none⟩ = some (.int .i64 0) ∧ w'.frozen? ⟨w.heap.size, 2, none⟩ = false ∧ w'.cell? ⟨u.heap.size, 0, none⟩ = some (.string S) ∧ w'.frozen? ⟨u.heap.size, 0, none⟩ = false ∧ w'.cell? ⟨u.heap.size, 1, none⟩ = some (.int .i64 M) ∧ w'.frozen? ⟨u.heap.size, 1, none⟩ = false ∧ Below w.heap.size w w') (by kernel_rfl) (by kernel_rfl) (by kernel_rfl) (by kernel_rfl) ?_ ?_
    · (try dsimp only)
      refine ⟨?_, ?_, ?_, ?_, ?_, ?_, ?_, ?_, ?_, ?_, ?_⟩ <;> first | (go_simp; done) | (simp [*]; done) | go_grown
    (try simp only [List.append_eq, List.cons_append, List.nil_append, List.toList_toArray, List.take_succ_cons, List.take_zero, List.drop_succ_cons, List.drop_zero])
    repeat (first
      | (refine Plan.val (v := ?_) ?_ ?_ ?_; rotate_left; (· rfl); (· (intro W hSw; (try dsimp only at hSw); go_simp; all_goals (first | (with_reducible rfl) | (constructor <;> (with_reducible rfl)) | (rw [if_neg (by omega)]; done) | (rw [if_neg (by omega)]; with_reducible rfl)))); (try simp only [Act.put, List.setIfInBounds_toArray, List.set_cons_zero, List.set_cons_succ]))
      | (refine Plan.no ?_ ?_; (· rfl); (try simp only [Act.put, List.setIfInBounds_toArray, List.set_cons_zero, List.set_cons_succ]))
      | (refine Plan.call (v := ?_) (f := ?_) (args := ?_) ?_ ?_ ?_ ?_; rotate_left 3; (· rfl); (· (intro W hSw; (try dsimp only at hSw); go_simp; all_goals (first | (with_reducible rfl) | (constructor <;> (with_reducible rfl)) | (rw [if_neg (by omega)]; done) | (rw [if_neg (by omega)]; with_reducible rfl)))); (· (intro W hSw; (try dsimp only at hSw); first | (go_at_call 28; ((with_reducible refine (HK.out _).mono ?_); rintro _ wz ⟨rfl, hb⟩; (refine ⟨?_, ?_⟩; (· with_reducible rfl); exact ⟨kc hb hSw.1, kfz hb (klt hSw.1) hSw.2.1, kc hb hSw.2.2.1, kfz hb (klt hSw.2.2.1) hSw.2.2.2.1, kc hb hSw.2.2.2.2.1, kfz hb (klt hSw.2.2.2.2.1) hSw.2.2.2.2.2.1, kc hb hSw.2.2.2.2.2.2.1, kfz hb (klt hSw.2.2.2.2.2.2.1) hSw.2.2.2.2.2.2.2.1, kc hb hSw.2.2.2.2.2.2.2.2.1, kfz hb (klt hSw.2.2.2.2.2.2.2.2.1) hSw.2.2.2.2.2.2.2.2.2.1, kb hSw.2.2.2.2.2.2.2.2.2.2 hb⟩))))); (try simp only [Act.put, List.setIfInBounds_toArray, List.set_cons_zero, List.set_cons_succ])))
    refine Plan.done ?_
    intro u2 T
    (try dsimp only at T)
    clear hr_0 fr_0 hr_1 fr_1 hr_2 fr_2 hlr hnr0 hnr1 hkr1 hnr2 hkr2 hB hsz
    obtain ⟨hr_0, fr_0, hr_1, fr_1, hr_2, fr_2, hx_0, fx_0, hx_1, fx_1, hB⟩ := T
    have hsz := hB.size
    have hlr := klt hr_0
    have hlx := klt hx_0
    obtain ⟨hnr0, hnr1, hkr1, hnr2, hkr2⟩ := ap0 hlr
    obtain ⟨hnx0, hnx1, hkx1, hnx2, hkx2⟩ := ap0 hlx
    go_wp2
    refine bodyPost_ret (v := _) (by simp [results, Tryd.results17, go_sem, hr_0, hr_1, hr_2] <;> first | done | rfl | exact dec_eq Iff.rfl | exact odec_eq Iff.rfl) rfl ⟨rfl, by go_grown⟩
end Go.Proofs.YtcplegelppfdeaaDoor
