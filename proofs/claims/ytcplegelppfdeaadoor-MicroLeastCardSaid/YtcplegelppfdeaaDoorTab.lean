/-
  The document's table of layer 4, and its answers off it, call by call.
-/
import Derived.Test.YtcplegelppfdeaaDoorRows
import Derived.Test.YtcplegelppfdeaaDoorLawKit
import Derived.Test.YtcplegelppfdeaaDoorPlanA
import Derived.WalkKit
import Derived.WalkSpells
import Derived.IntWalk
import Derived.Handy
import Derived.PlainAid
import Derived.Lib.Hide
set_option linter.unusedSimpArgs false
set_option linter.unusedVariables false
namespace Go.Proofs.YtcplegelppfdeaaDoor
open Go.RowKit Go.PlainAid

/-- The table: the text that Name cuts its names out of. -/
def sliced : Code → ByteArray
  | .seq _ (.seq (.region _ ops _) _) => match (ops[5]?).map (fun (o : Oper) => o.op) with
    | some (Op.slice _ (.const (.string s)) _ _ _) => s
    | _ => .empty
  | _ => .empty
noncomputable def tab : ByteArray := match Tryd.f21.body with
  | some c => sliced c
  | none => .empty
theorem tab_size : tab.size = 2408 := by kernel_rfl
/-- A hexadecimal digit; the byte of a row, and a mode; a row's name. -/
def dg (b : Int) : Int := if 97 ≤ b then b - 87 else (b - 48) % 256
noncomputable def atD (r m : Nat) : Int := if bt tab (43 * r + 4 + 3 * m) = 46 then -1 else 16 * dg (bt tab (43 * r + 4 + 3 * m)) + dg (bt tab (43 * r + 4 + 3 * m + 1))
noncomputable def nameD (r : Nat) : ByteArray := tab.extract (43 * r) (43 * r + 3)

theorem ret_i64T {a b : Int} (h : a = b) : Ending.returned (.int .i64 a) = .returned (.int .i64 b) := by rw [h]
theorem ret_boolT {a b : Bool} (h : a = b) : Ending.returned (.bool a) = .returned (.bool b) := by rw [h]
theorem modes (m : Int) : (m = 0 ∨ m = 1 ∨ m = 2 ∨ m = 3 ∨ m = 4 ∨ m = 5 ∨ m = 6 ∨ m = 7 ∨ m = 8 ∨ m = 9 ∨ m = 10 ∨ m = 11 ∨ m = 12) ∨ (m < 0 ∨ 12 < m) := by omega
theorem digit_c (b : Int) (h0 : 0 ≤ b) (h1 : b ≤ 255) (w : World) : Calls Tryd.prog 29 #[.int .u8 b] w fun e w' => e = .returned (.int .i64 (dg b)) ∧ w = w' := by
  by_cases h : 97 ≤ b
  · have e1 : IntKind.u8.wrap (b - 97) = b - 97 := by rw [IntKind.wrap_u8]; omega
    have e2 : IntKind.i64.wrap (b - 97) = b - 97 := IntWalk.i64_in _ (by omega)
    go_enter Tryd.func29, Tryd.ntmps29
    go_wp2
    go_ret
    exact ⟨ret_i64T (by unfold dg; rw [if_pos h]; omega), rfl⟩
  · have e1 : IntKind.u8.wrap (b - 48) = (b - 48) % 256 := IntKind.wrap_u8 _
    have e2 : IntKind.i64.wrap ((b - 48) % 256) = (b - 48) % 256 := IntWalk.i64_in _ (by omega)
    go_enter Tryd.func29, Tryd.ntmps29
    go_wp2
    go_ret
    exact ⟨ret_i64T (by unfold dg; rw [if_neg (by omega)]), rfl⟩

/-- What At comes to off whatever table. -/
noncomputable def atT (T : ByteArray) (r m : Nat) : Int := if bt T (43 * r + 4 + 3 * m) = 46 then -1 else 16 * dg (bt T (43 * r + 4 + 3 * m)) + dg (bt T (43 * r + 4 + 3 * m + 1))
theorem dg_hi (b : Int) (h0 : 0 ≤ b) (h1 : b ≤ 255) : dg b ≤ 255 := by unfold dg; split <;> omega
theorem dg_lo (b : Int) (h0 : 0 ≤ b) (h1 : b ≤ 255) : 0 ≤ dg b := by unfold dg; split <;> omega

theorem ix_at (T : ByteArray) (n : Nat) (h : n < T.size) (i : Int) (hi : i = (n : Int)) (W : World) : (Instr.index 9 (.string T) (.int .i64 i)).run Tryd.prog W = .ok (.int .u8 (bt T n)) W := by
  subst hi
  rw [run_index_string _ _ _ _ _ Tryd.underlying9, dif_pos (by omega), ← get_bt T n h]
  simp
theorem digit_b (b : Int) (h0 : 0 ≤ b) (h1 : b ≤ 255) (w : World) : Calls Tryd.prog 29 #[.int .u8 b] w fun e w' => e = .returned (.int .i64 (dg b)) ∧ Below w.heap.size w w' :=
  (digit_c b h0 h1 w).mono fun _ _ ⟨h1, h2⟩ => ⟨h1, by subst h2; exact Below.refl _ _⟩

set_option maxRecDepth 100000 in
set_option maxHeartbeats 1000000 in
theorem at_c (r m : Nat) (hr : r < 56) (hm : m < 13) (w : World) : Calls Tryd.prog 20 #[.int .i64 r, .int .i64 m] w fun e w' => e = .returned (.int .i64 (atD r m)) ∧ Below w.heap.size w w' := by
  have hz : ∀ T, T = tab → T.size = 2408 := fun T h => by rw [h]; exact tab_size
  have hd : ∀ T, T = tab → atD r m = atT T r m := fun T h => by rw [h]; rfl
  generalize atD r m = V at *
  go_enter Tryd.func20, Tryd.ntmps20
  generalize hT : ByteArray.mk (List.toArray (List.append _ _)) = T
  have hT' : T = tab := by rw [← hT]; kernel_rfl
  have hz' := hz T hT'
  have HD := Lib.hid (hd T hT')
  clear hT hz hd hT'
  have b0 := bt_nonneg T (43 * r + 4 + 3 * m)
  have b1 := bt_le T (43 * r + 4 + 3 * m)
  have c0 := bt_nonneg T (43 * r + 4 + 3 * m + 1)
  have c1 := bt_le T (43 * r + 4 + 3 * m + 1)
  have d0 := dg_lo _ b0 b1
  have d1 := dg_hi _ b0 b1
  have d2 := dg_lo _ c0 c1
  have d3 := dg_hi _ c0 c1
  have q1 := ix_at T (43 * r + 4 + 3 * m) (by omega) (43 * (r : Int) + 4 + 3 * (m : Int)) (by omega)
  have q2 := ix_at T (43 * r + 4 + 3 * m + 1) (by omega) (43 * (r : Int) + 4 + 3 * (m : Int) + 1) (by omega)
  have s0 : IntKind.i64.wrap (43 * (r : Int) + 4 + 3 * (m : Int) + 1) = 43 * (r : Int) + 4 + 3 * (m : Int) + 1 := IntWalk.i64_in _ (by omega)
  have s1 : IntKind.i64.wrap (16 * dg (bt T (43 * r + 4 + 3 * m))) = 16 * dg (bt T (43 * r + 4 + 3 * m)) := IntWalk.i64_in _ (by omega)
  have s2 : IntKind.i64.wrap (16 * dg (bt T (43 * r + 4 + 3 * m)) + dg (bt T (43 * r + 4 + 3 * m + 1))) = 16 * dg (bt T (43 * r + 4 + 3 * m)) + dg (bt T (43 * r + 4 + 3 * m + 1)) := IntWalk.i64_in _ (by omega)
  cases hb : (bt T (43 * r + 4 + 3 * m) == 46)
  · go_wp2_with fail
    refine wp_region_plan (fun w' => Below w.heap.size w w') (by kernel_rfl) (by kernel_rfl) (by kernel_rfl) ?_ ?_
    · (try dsimp only)
      go_grown
    repeat (first
      | (refine Plan.val (v := ?_) ?_ ?_ ?_; rotate_left; (· rfl); (· (intro W hSw; (try dsimp only at hSw); go_simp; all_goals (first | (with_reducible rfl) | (constructor <;> (with_reducible rfl)) | (rw [if_neg (by omega)]; done) | (rw [if_neg (by omega)]; with_reducible rfl)))); (try simp only [Act.put, List.setIfInBounds_toArray, List.set_cons_zero, List.set_cons_succ]))
      | (refine Plan.no ?_ ?_; (· rfl); (try simp only [Act.put, List.setIfInBounds_toArray, List.set_cons_zero, List.set_cons_succ]))
      | (refine Plan.call (v := ?_) (f := ?_) (args := ?_) ?_ ?_ ?_ ?_; rotate_left 3; (· rfl); (· (intro W hSw; (try dsimp only at hSw); go_simp; all_goals (first | (with_reducible rfl) | (constructor <;> (with_reducible rfl)) | (rw [if_neg (by omega)]; done) | (rw [if_neg (by omega)]; with_reducible rfl)))); (· (intro W hSw; (try dsimp only at hSw); first | (go_at_call 29; ((with_reducible refine (digit_b _ (bt_nonneg _ _) (bt_le _ _) _).mono ?_); rintro _ wz ⟨rfl, hb⟩; (refine ⟨?_, ?_⟩; (· with_reducible rfl); exact kb hSw hb))))); (try simp only [Act.put, List.setIfInBounds_toArray, List.set_cons_zero, List.set_cons_succ])))
    refine Plan.done ?_
    intro wz T
    (try dsimp only at T)
    have hBe := T
    go_wp2
    go_ret
    refine ⟨ret_i64T ?_, hBe⟩
    rw [HD.out]
    unfold atT
    rw [if_neg (by simpa using hb)]
  · go_wp2
    go_ret
    refine ⟨ret_i64T ?_, Below.refl _ _⟩
    rw [HD.out]
    unfold atT
    rw [if_pos (by simpa using hb)]

set_option maxRecDepth 100000 in
set_option maxHeartbeats 1000000 in
theorem name_c (r : Nat) (hr : r < 56) (w : World) : Calls Tryd.prog 21 #[.int .i64 r] w fun e w' => e = .returned (.string (nameD r)) ∧ Below w.heap.size w w' := by
  have hz : ∀ T, T = tab → T.size = 2408 := fun T h => by rw [h]; exact tab_size
  have hd : ∀ T, T = tab → nameD r = T.extract (43 * r) (43 * r + 3) := fun T h => by rw [h]; rfl
  generalize nameD r = V at *
  go_enter Tryd.func21, Tryd.ntmps21
  generalize hT : ByteArray.mk (List.toArray (List.append _ _)) = T
  have hT' : T = tab := by rw [← hT]; kernel_rfl
  have hz' := hz T hT'
  have HD := Lib.hid (hd T hT')
  clear hT hz hd hT'
  have q : ∀ W, (Instr.slice 9 (.string T) (some (.int .i64 (43 * (r : Int)))) (some (.int .i64 (43 * (r : Int) + 3))) none).run Tryd.prog W = .ok (.string V) W := fun W => by
    rw [run_slice_string _ _ _ _ _ _ _ Tryd.underlying9 (by omega) (by omega) (by omega), HD.out]
    have e1 : (43 * (r : Int)).toNat = 43 * r := by omega
    have e2 : (43 * (r : Int) + 3).toNat = 43 * r + 3 := by omega
    rw [e1, e2]
  go_wp2
  go_ret
  exact ⟨rfl, Below.refl _ _⟩
end Go.Proofs.YtcplegelppfdeaaDoor
