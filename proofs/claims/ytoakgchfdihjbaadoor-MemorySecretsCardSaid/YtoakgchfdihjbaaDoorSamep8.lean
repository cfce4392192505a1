/-
  The program: Same, of bytes and of memories.
-/
import Derived.Test.YtoakgchfdihjbaaDoorNewp8
set_option linter.unusedSimpArgs false
set_option linter.unusedVariables false
namespace Go.Proofs.YtoakgchfdihjbaaDoor
open Go.RowKit Go.PlainAid

section
variable {P : Program} {ops : Array Oper} {S : World → Prop} {K : Act → Prop} {o : Oper} {r : List Oper} {a : Act}
theorem run_load_op {ty : TypeId} {x : Operand} (p : Value) {v : Value} {w : World} (ho : o.op = .load ty x) (hx : a.eval x = p) (hr : (Instr.loadAt ty p).run P w = .ok v w) : (execOp a.eval o).run P w = .ok (.value v) w := by
  unfold execOp
  simp only [ho, hx, Sem.run_bind, hr, Result.andThen_ok, Sem.run_pure]
theorem run_eql_op {ty t2 : TypeId} {x y : Operand} (A B : Array Value) {v : Value} {w : World} (ho : o.op = .binOp .eql ty x y t2) (hx : a.eval x = .agg A) (hy : a.eval y = .agg B) (hm : P.eqGuardType P.depth ty = false)
    (hr : (binOp .eql ty (.agg A) (.agg B)).run P w = .ok v w) : (execOp a.eval o).run P w = .ok (.value v) w := by
  unfold execOp
  simp only [ho, hx, hy, Sem.run_bind, run_eqGuard_agg w .eql ty x y A B hm, hr, Result.andThen_ok, Sem.run_pure]
theorem Plan.loadBig {ty : TypeId} {x : Operand} (p v : Value) (hw : Region.wanted o (yielded ops a.tmps) = true) (ho : o.op = .load ty x) (hx : a.eval x = p) (hr : ∀ w, S w → (Instr.loadAt ty p).run P w = .ok v w)
    (h : Plan P ops S K r (a.put o.dst v)) : Plan P ops S K (o :: r) a := Plan.val hw (fun w hS => run_load_op p ho hx (hr w hS)) h
theorem Plan.eqlBig {ty t2 : TypeId} {x y : Operand} (A B : Array Value) (v : Value) (hw : Region.wanted o (yielded ops a.tmps) = true) (ho : o.op = .binOp .eql ty x y t2) (hx : a.eval x = .agg A) (hy : a.eval y = .agg B) (hm : P.eqGuardType P.depth ty = false)
    (hr : ∀ w, S w → (binOp .eql ty (.agg A) (.agg B)).run P w = .ok v w) (h : Plan P ops S K r (a.put o.dst v)) : Plan P ops S K (o :: r) a := Plan.val hw (fun w hS => run_eql_op A B ho hx hy hm (hr w hS)) h
end
def sameI (a b : Int × Int) : Bool := (a.2 == b.2) && (bits .andNot .u8 a.1 a.2 == bits .andNot .u8 b.1 b.2)
theorem sameI_refl (a : Int × Int) : sameI a a = true := by unfold sameI; simp
set_option maxRecDepth 100000 in
theorem taints_c (v t v' t' : Int) (w : World) : Calls Tryd.prog 20 #[.agg #[.int .u8 v, .int .u8 t], .agg #[.int .u8 v', .int .u8 t']] w fun e w' => e = .returned (.bool (sameI (v, t) (v', t'))) ∧ Below w.heap.size w w' := by
  unfold sameI
  dsimp only
  cases d1 : (t == t')
  · go_enter Tryd.func20, Tryd.ntmps20
    go_wp2
    go_ret
    exact ⟨rfl, by go_grown⟩
  · go_enter Tryd.func20, Tryd.ntmps20
    go_wp2
    go_ret
    exact ⟨by simp, by go_grown⟩
def sameM (M N : Int → Int × Int) : Bool := (List.range 65536).all fun k => sameI (M k) (N k)
theorem sameM_iff (M N : Int → Int × Int) : sameM M N = true ↔ ∀ k : Nat, k < 65536 → sameI (M k) (N k) = true := by
  unfold sameM
  rw [List.all_eq_true]
  exact ⟨fun h k hk => h k (List.mem_range.2 hk), fun h k hk => h k (List.mem_range.1 hk)⟩
theorem sameM_refl (M : Int → Int × Int) : sameM M M = true := (sameM_iff M M).2 fun k _ => sameI_refl _
theorem eq_same {M N : Int → Int × Int} (h : eqM M N = true) : sameM M N = true := (sameM_iff M N).2 fun k hk => by rw [(eqM_iff M N).1 h k hk]; exact sameI_refl _
theorem guard_arr : Tryd.prog.eqGuardType Tryd.prog.depth 58 = false := by kernel_rfl
set_option maxRecDepth 100000 in
theorem samenn_c (w : World) : Calls Tryd.prog 16 #[.pointer none, .pointer none] w fun e w' => e = .returned (.bool true) ∧ Below w.heap.size w w' := by
  go_enter Tryd.func16, Tryd.ntmps16
  go_wp2
  go_ret
  exact ⟨rfl, by go_grown⟩
set_option maxRecDepth 100000 in
theorem samenp_c (p : Addr) (w : World) : Calls Tryd.prog 16 #[.pointer none, .pointer (some p)] w fun e w' => e = .returned (.bool false) ∧ Below w.heap.size w w' := by
  go_enter Tryd.func16, Tryd.ntmps16
  go_wp2
  go_ret
  exact ⟨rfl, by go_grown⟩
set_option maxRecDepth 100000 in
theorem samepn_c (p : Addr) (w : World) : Calls Tryd.prog 16 #[.pointer (some p), .pointer none] w fun e w' => e = .returned (.bool false) ∧ Below w.heap.size w w' := by
  go_enter Tryd.func16, Tryd.ntmps16
  go_wp2
  go_ret
  exact ⟨rfl, by go_grown⟩
set_option maxRecDepth 100000 in
set_option maxHeartbeats 4000000 in
theorem samep_c (M N : Int → Int × Int) (mb bb nb nbb : Nat) (w : World) (hP : Pm mb bb w M) (hQ : Pm nb nbb w N) :
    Calls Tryd.prog 16 #[.pointer (some ⟨mb, 0, none⟩), .pointer (some ⟨nb, 0, none⟩)] w fun e w' => e = .returned (.bool (sameM M N)) ∧ Below w.heap.size w w' := by
  obtain ⟨R, hR⟩ : ∃ R, sameM M N = R := ⟨_, rfl⟩
  rw [hR]
  have HR := Lib.hid hR
  clear hR
  have HP := Lib.hid hP
  have HQ := Lib.hid hQ
  have hm_0 := hP.c0
  have hn_0 := hQ.c0
  have hmw : mb < w.heap.size := klt hm_0
  have hnw : nb < w.heap.size := klt hn_0
  obtain ⟨A, tA, hrA, hA⟩ := hP.row
  obtain ⟨B, tB, hrB, hB2⟩ := hQ.row
  have HrA := Lib.hid (fun (W : World) (h : Below w.heap.size w W) => load_arr ((h.block bb hP.lt).trans hrA) hA.sz)
  have HrB := Lib.hid (fun (W : World) (h : Below w.heap.size w W) => load_arr ((h.block nbb hQ.lt).trans hrB) hB2.sz)
  have HE := Lib.hid (fun W => eql_arr hA hB2 W)
  have HES := Lib.hid (fun h : eqM M N = true => eq_same h)
  have hbw := hP.lt
  have hnbw := hQ.lt
  clear hP hQ hrA hrB hA hB2
  generalize eqM M N = E at *
  go_enter Tryd.func16, Tryd.ntmps16
  go_upto_region 3 with fail
  refine wp_region_plan (fun w' => w'.cell? ⟨mb, 0, none⟩ = some (.pointer (some ⟨bb, 0, none⟩)) ∧ w'.cell? ⟨nb, 0, none⟩ = some (.pointer (some ⟨nbb, 0, none⟩)) ∧ Below w.heap.size w w') (by kernel_rfl) (by kernel_rfl) (by kernel_rfl) ?_ ?_
  · (try dsimp only)
    refine ⟨?_, ?_, ?_⟩ <;> first | (go_simp; done) | (simp [*]; done) | go_grown
  repeat (first
    | ((refine Plan.loadBig (.pointer (some ⟨bb, 0, none⟩)) (.agg A) rfl rfl rfl (fun W hSw => HrA.out W hSw.2.2) ?_); (try simp only [Act.put, List.setIfInBounds_toArray, List.set_cons_zero, List.set_cons_succ]))
    | ((refine Plan.loadBig (.pointer (some ⟨nbb, 0, none⟩)) (.agg B) rfl rfl rfl (fun W hSw => HrB.out W hSw.2.2) ?_); (try simp only [Act.put, List.setIfInBounds_toArray, List.set_cons_zero, List.set_cons_succ]))
    | ((refine Plan.eqlBig A B (.bool E) rfl rfl rfl rfl guard_arr (fun W _ => HE.out W) ?_); (try simp only [Act.put, List.setIfInBounds_toArray, List.set_cons_zero, List.set_cons_succ]))
    | (refine Plan.val (v := ?_) ?_ ?_ ?_; rotate_left; (· rfl); (· (intro W hSw; (try dsimp only at hSw); go_simp; all_goals (first | (with_reducible rfl) | (constructor <;> (with_reducible rfl)) | (rw [if_neg (by omega)]; done) | (rw [if_neg (by omega)]; with_reducible rfl)))); (try simp only [Act.put, List.setIfInBounds_toArray, List.set_cons_zero, List.set_cons_succ]))
    | (refine Plan.no ?_ ?_; (· rfl); (try simp only [Act.put, List.setIfInBounds_toArray, List.set_cons_zero, List.set_cons_succ])))
  refine Plan.done ?_
  intro u1 T
  (try dsimp only at T)
  obtain ⟨hm_0, hn_0, hB⟩ := T
  have hsz := hB.size
  have hlm := klt hm_0
  have hln := klt hn_0
  obtain ⟨hnm0, hnm1, hkm1, hnm2, hkm2⟩ := ap0 hlm
  obtain ⟨hnn0, hnn1, hkn1, hnn2, hkn2⟩ := ap0 hln
  obtain ⟨G, hG⟩ : ∃ G : Nat, 65536 = G := ⟨_, rfl⟩
  have HG := Lib.hid hG
  clear hG
  cases E
  · go_wp2_with fail
    go_loopw [36] (fun s36 wr => ∃ k : Nat, k ≤ G ∧ s36 = .int .i64 k ∧ Hid (∀ j : Nat, j < k → sameI (M j) (N j) = true) ∧ Below w.heap.size w wr) (fun i _ => G - (intOf i).toNat)
    case atStart => exact ⟨0, Nat.zero_le _, rfl, Lib.hid (fun j h => absurd h (by omega)), hB⟩
    case round =>
      obtain ⟨k, hkG, rfl, HK, hBr⟩ := hrel
      have HKG := Lib.hid hkG
      clear hkG
      clear hB hsz hlm hln hm_0 hn_0
      by_cases hlt : k < 65536
      · have hd : decide ((k : Int) < 65536) = true := decide_eq_true (by omega)
        have hw1 : IntKind.i64.wrap ((k : Int) + 1) = (k : Int) + 1 := IntWalk.i64_in _ (by omega)
        have hin : (0 : Int) ≤ (k : Int) ∧ (k : Int) < 65536 := by omega
        have hPr := HP.out.below hBr
        have hQr := HQ.out.below hBr
        have hB := hBr
        have hsz := hBr.size
        have hm_0 := hPr.c0
        have hn_0 := hQr.c0
        have x0 := hPr.at0 k hlt
        have x1 := hPr.at1 k hlt
        have y0 := hQr.at0 k hlt
        have y1 := hQr.at1 k hlt
        have hlb := hPr.lt
        have hlbb := hQr.lt
        have hlm := klt hPr.c0
        have hln := klt hn_0
        have HC := Lib.hid (fun W => taints_c (M (k : Int)).1 (M (k : Int)).2 (N (k : Int)).1 (N (k : Int)).2 W)
        have HKK := Lib.hid (show sameI ((M (k : Int)).1, (M (k : Int)).2) ((N (k : Int)).1, (N (k : Int)).2) = true → ∀ j : Nat, j < k + 1 → sameI (M j) (N j) = true from fun h j hj => by
          by_cases e : j = k
          · subst e; exact h
          · exact HK.out j (by omega))
        have HKN := Lib.hid (show sameI ((M (k : Int)).1, (M (k : Int)).2) ((N (k : Int)).1, (N (k : Int)).2) = false → R = false from fun h => by
          rw [← HR.out]
          cases e : sameM M N
          · rfl
          · have := (sameM_iff M N).1 e k hlt
            have h2 : sameI (M (k : Int)) (N (k : Int)) = false := h
            rw [h2] at this
            cases this)
        generalize sameI ((M (k : Int)).1, (M (k : Int)).2) ((N (k : Int)).1, (N (k : Int)).2) = C at *
        generalize (M (k : Int)).1 = m0 at *
        generalize (M (k : Int)).2 = m1 at *
        generalize (N (k : Int)).1 = n0 at *
        generalize (N (k : Int)).2 = n1 at *
        clear hPr hQr
        go_wp2_with fail
        go_region
        go_wp2_with fail
        refine wp_region_plan (fun w' => w'.cell? ⟨wr.heap.size, 0, none⟩ = some (.int .u8 m0) ∧ w'.cell? ⟨wr.heap.size, 1, none⟩ = some (.int .u8 m1) ∧ w'.cell? ⟨nbb, k * 2, none⟩ = some (.int .u8 n0) ∧ w'.cell? ⟨nbb, k * 2 + 1, none⟩ = some (.int .u8 n1) ∧ w'.cell? ⟨nb, 0, none⟩ = some (.pointer (some ⟨nbb, 0, none⟩)) ∧ Below w.heap.size w w') (by kernel_rfl) (by kernel_rfl) (by kernel_rfl) ?_ ?_
        · (try dsimp only)
          refine ⟨?_, ?_, ?_, ?_, ?_, ?_⟩ <;> first | (go_simp; done) | (simp [*]; done) | go_grown
        repeat (first
          | (refine Plan.val (v := ?_) ?_ ?_ ?_; rotate_left; (· rfl); (· (intro W hSw; (try dsimp only at hSw); go_simp; all_goals (first | (with_reducible rfl) | (constructor <;> (with_reducible rfl)) | (rw [if_neg (by omega)]; done) | (rw [if_neg (by omega)]; with_reducible rfl)))); (try simp only [Act.put, List.setIfInBounds_toArray, List.set_cons_zero, List.set_cons_succ]))
          | (refine Plan.no ?_ ?_; (· rfl); (try simp only [Act.put, List.setIfInBounds_toArray, List.set_cons_zero, List.set_cons_succ]))
          | (refine Plan.call (v := ?_) (f := ?_) (args := ?_) ?_ ?_ ?_ ?_; rotate_left 3; (· rfl); (· (intro W hSw; (try dsimp only at hSw); go_simp; all_goals (first | (with_reducible rfl) | (constructor <;> (with_reducible rfl)) | (rw [if_neg (by omega)]; done) | (rw [if_neg (by omega)]; with_reducible rfl)))); (· (intro W hSw; (try dsimp only at hSw); first | (go_at_call 20; ((with_reducible refine (HC.out _).mono ?_); rintro _ wz ⟨rfl, hb⟩; (refine ⟨?_, ?_⟩; (· with_reducible rfl); exact ⟨kc hb hSw.1, kc hb hSw.2.1, kc hb hSw.2.2.1, kc hb hSw.2.2.2.1, kc hb hSw.2.2.2.2.1, kb hSw.2.2.2.2.2 hb⟩))))); (try simp only [Act.put, List.setIfInBounds_toArray, List.set_cons_zero, List.set_cons_succ])))
        refine Plan.done ?_
        intro u3 T
        (try dsimp only at T)
        clear hm_0 hn_0 hB hsz hlm hln hnm0 hnm1 hkm1 hnm2 hkm2 hnn0 hnn1 hkn1 hnn2 hkn2
        obtain ⟨hx_0, hx_1, hy_0, hy_1, hn_0, hB⟩ := T
        have hsz := hB.size
        have hlx := klt hx_0
        have hly := klt hy_0
        have hln := klt hn_0
        obtain ⟨hnx0, hnx1, hkx1, hnx2, hkx2⟩ := ap0 hlx
        obtain ⟨hny0, hny1, hky1, hny2, hky2⟩ := ap0 hly
        obtain ⟨hnn0, hnn1, hkn1, hnn2, hkn2⟩ := ap0 hln
        clear hd hin
        cases C
        · have HF := Lib.hid (show R = false from HKN.out rfl)
          go_wp2
          go_ret
          exact ⟨ret_bool HF.out.symm, hB⟩
        · have HF := Lib.hid (HKK.out rfl)
          go_wp2
          go_roundw
          case rel => exact ⟨k + 1, by have := HG.out; omega, by go_num, HF, hB⟩
          case measure => have := HG.out; simp [intOf] <;> omega
      · have hd : decide ((k : Int) < 65536) = false := decide_eq_false (by omega)
        have HF := Lib.hid (show R = true from by
          rw [← HR.out]
          exact (sameM_iff M N).2 fun j hj => HK.out j (by have := HG.out; have := HKG.out; omega))
        go_wp2
        go_ret
        exact ⟨ret_bool HF.out.symm, hBr⟩
  · have HF := Lib.hid (show R = true from by rw [← HR.out]; exact HES.out rfl)
    go_wp2
    go_ret
    exact ⟨ret_bool HF.out.symm, hB⟩
end Go.Proofs.YtoakgchfdihjbaaDoor
