/-
  Layer 5's document: which line a text is, or what is wrong with it.
-/
import Derived.Test.YtpjpoopgafcedaaGreatDoorWrit
import Derived.Test.YtpjpoopgafcedaaGreatDoorHeld
import Derived.Deep.Cut
set_option linter.unusedSimpArgs false
set_option linter.unusedVariables false
namespace Go.Proofs.YtpjpoopgafcedaaGreatDoor
open Go.RowKit Go.PlainAid

theorem dec_eqs {p q : Prop} [Decidable p] [Decidable q] (h : p ↔ q) : decide p = decide q := by simp only [h]
/-- Whether a mode is the line's: it is written so, there is such a name, and it has that mode. -/
def hitM (wn at' : Nat → Int) (r : Int) (m : Nat) : Bool := decide (0 ≤ wn m) && (decide (0 ≤ r) && decide (0 ≤ at' m))
def someM (wn : Nat → Int) (k : Nat) : Bool := (List.range k).any fun m => decide (0 ≤ wn m)
theorem someM_succ (wn : Nat → Int) (k : Nat) : someM wn (k + 1) = (someM wn k || decide (0 ≤ wn k)) := by
  unfold someM; rw [List.range_succ, List.any_append]; simp
def scanO (wn at' : Nat → Int) (r : Int) : Option Nat := (List.range 13).find? (hitM wn at' r)
def scanOp (wn at' : Nat → Int) (r : Int) : Int := match scanO wn at' r with | some m => at' m | none => 0
def scanN (wn at' : Nat → Int) (r : Int) : Int := match scanO wn at' r with | some m => wn m | none => 0
def scanE (wn at' : Nat → Int) (r : Int) : Int := match scanO wn at' r with | some _ => 0 | none => if someM wn 13 then (if r < 0 then 14 else 15) else 11
theorem scan_some {wn at' : Nat → Int} {r : Int} {k : Nat} (hk : k < 13) (h : hitM wn at' r k = true) (hn : ∀ n, n < k → hitM wn at' r n = false) : scanOp wn at' r = at' k ∧ scanN wn at' r = wn k ∧ scanE wn at' r = 0 := by
  have : scanO wn at' r = some k := by
    unfold scanO
    rw [List.find?_range_eq_some]
    exact ⟨h, List.mem_range.2 hk, fun n hlt => by rw [hn n hlt]; rfl⟩
  unfold scanOp scanN scanE
  rw [this]
  exact ⟨rfl, rfl, rfl⟩
theorem scan_none {wn at' : Nat → Int} {r : Int} (hn : ∀ n, n < 13 → hitM wn at' r n = false) : scanOp wn at' r = 0 ∧ scanN wn at' r = 0 ∧ scanE wn at' r = if someM wn 13 then (if r < 0 then 14 else 15) else 11 := by
  have : scanO wn at' r = none := by
    unfold scanO
    rw [List.find?_range_eq_none]
    intro n hlt
    rw [hn n hlt]; rfl
  unfold scanOp scanN scanE
  rw [this]
  exact ⟨rfl, rfl, rfl⟩
set_option maxRecDepth 100000 in
set_option maxHeartbeats 1000000 in
theorem parse_short (S : ByteArray) (h : S.size < 3) (w : World) : Calls Tryz.prog 13 #[.string S] w fun e w' => e = .returned (.tuple #[.agg #[.int .i64 0, .int .i64 0], .int .i64 11]) ∧ Below w.heap.size w w' := by
  have hd : decide ((S.size : Int) < 3) = true := decide_eq_true (by omega)
  clear h
  go_enter Tryz.func13, Tryz.ntmps13
  go_wp2
  refine bodyPost_ret (v := _) (by simp [results, Tryz.results13, go_sem] <;> first | done | rfl | exact dec_eq Iff.rfl) rfl ⟨rfl, by go_grown⟩
/-- Whether a text's letter is a great one. -/
def greatI (b : Int) : Bool := !decide (b < 65) && !decide (90 < b)
set_option maxRecDepth 100000 in
set_option maxHeartbeats 4000000 in
theorem parse_long (S P3 B3 : ByteArray) (wn at' : Nat → Int) (r : Int) (h : ¬ S.size < 3)
    (q1 : ∀ W, (Instr.slice 9 (.string S) none (some (.int .i64 3)) none).run Tryz.prog W = .ok (.string P3) W)
    (q2 : ∀ W, (Instr.slice 9 (.string S) (some (.int .i64 3)) none none).run Tryz.prog W = .ok (.string B3) W)
    (hR : ∀ w, Calls Tryz.prog 21 #[.string P3] w fun e w' => e = .returned (.int .i64 r) ∧ Below w.heap.size w w')
    (hW : ∀ k : Nat, k < 13 → ∀ w, Calls Tryz.prog 22 #[.string B3, .int .i64 k] w fun e w' => e = .returned (.int .i64 (wn k)) ∧ Below w.heap.size w w')
    (hA : ∀ k : Nat, k < 13 → 0 ≤ r → ∀ w, Calls Tryz.prog 23 #[.int .i64 r, .int .i64 k] w fun e w' => e = .returned (.int .i64 (at' k)) ∧ Below w.heap.size w w')
    (O N E : Int) (hG : (greatI (bt S 0) && (greatI (bt S 1) && greatI (bt S 2))) = true → O = scanOp wn at' r ∧ N = scanN wn at' r ∧ E = scanE wn at' r)
    (hB : (greatI (bt S 0) && (greatI (bt S 1) && greatI (bt S 2))) = false → O = 0 ∧ N = 0 ∧ E = 11) (w : World) :
    Calls Tryz.prog 13 #[.string S] w fun e w' => e = .returned (.tuple #[.agg #[.int .i64 O, .int .i64 N], .int .i64 E]) ∧ Below w.heap.size w w' := by
  have hd : decide ((S.size : Int) < 3) = false := decide_eq_false (by omega)
  have HX := Lib.hid (fun k h i hi W => ix_at S k h i hi W)
  have HR := Lib.hid hR
  have HW := Lib.hid hW
  have HA := Lib.hid hA
  have HG := Lib.hid hG
  have HBad := Lib.hid hB
  have Q1 := Lib.hid q1
  have Q2 := Lib.hid q2
  have hsz3 : 3 ≤ S.size := by omega
  clear hR hW hA hG hB h q1 q2
  go_enter Tryz.func13, Tryz.ntmps13
  go_upto_region 3 with fail
  refine wp_pin (fun w' => w'.cell? ⟨w.heap.size, 0, none⟩ = some (.int .i64 0) ∧ w'.frozen? ⟨w.heap.size, 0, none⟩ = false ∧ w'.cell? ⟨w.heap.size, 1, none⟩ = some (.int .i64 0) ∧ w'.frozen? ⟨w.heap.size, 1, none⟩ = false ∧ Below w.heap.size w w') ?_ ?_
  · (try dsimp only)
    refine ⟨?_, ?_, ?_, ?_, ?_⟩ <;> first | (go_simp; done) | (simp [*]; done) | go_grown
  intro u T
  (try dsimp only at T)
  obtain ⟨hx_0, fx_0, hx_1, fx_1, hB⟩ := T
  have hsz := hB.size
  have hlx := klt hx_0
  have hnx0 : ¬ (w.heap.size = u.heap.size) := by omega
  have hnx1 : ¬ (w.heap.size = u.heap.size + 1) := by omega
  have hkx1 : w.heap.size < u.heap.size + 1 := by omega
  have hnx2 : ¬ (w.heap.size = u.heap.size + 1 + 1) := by omega
  have hkx2 : w.heap.size < u.heap.size + 1 + 1 := by omega
  go_wp2_with fail
  go_loopw [4] (fun i wl => ∃ k : Nat, k ≤ 3 ∧ i = .int .i64 k ∧ Hid (∀ j, j < k → greatI (bt S j) = true) ∧ wl.cell? ⟨w.heap.size, 0, none⟩ = some (.int .i64 0) ∧ wl.frozen? ⟨w.heap.size, 0, none⟩ = false ∧ wl.cell? ⟨w.heap.size, 1, none⟩ = some (.int .i64 0) ∧ wl.frozen? ⟨w.heap.size, 1, none⟩ = false ∧ Below w.heap.size w wl) (fun i _ => 3 - (intOf i).toNat)
  case atStart => exact ⟨0, by omega, rfl, Lib.hid (fun j h => by omega), hx_0, fx_0, hx_1, fx_1, hB⟩
  case round =>
    obtain ⟨k, hk, rfl, HN, hrel⟩ := hrel
    clear hx_0 fx_0 hx_1 fx_1 hB hsz hlx hnx0 hnx1 hkx1 hnx2 hkx2
    obtain ⟨hx_0, fx_0, hx_1, fx_1, hB⟩ := hrel
    have hsz := hB.size
    have hlx := klt hx_0
    have hnx0 : ¬ (w.heap.size = wr.heap.size) := by omega
    have hnx1 : ¬ (w.heap.size = wr.heap.size + 1) := by omega
    have hkx1 : w.heap.size < wr.heap.size + 1 := by omega
    have hnx2 : ¬ (w.heap.size = wr.heap.size + 1 + 1) := by omega
    have hkx2 : w.heap.size < wr.heap.size + 1 + 1 := by omega
    by_cases hlt : k < 3
    · have d3 : decide ((k : Int) < 3) = true := decide_eq_true (by omega)
      have q := HX.out k (by omega) k rfl
      cases e1 : decide (bt S k < 65)
      · cases e2 : decide (90 < bt S k)
        · have HS := Lib.hid (fun (j : Nat) (hj : j < k + 1) => show greatI (bt S j) = true from by
            by_cases e : j = k
            · rw [e]; unfold greatI; rw [e1, e2]; rfl
            · exact HN.out j (by omega))
          go_wp2
          go_roundw
          case rel => exact ⟨k + 1, by omega, by go_num, HS, hx_0, fx_0, hx_1, fx_1, hB⟩
          case measure => simp [intOf]; omega
        · have hbad : greatI (bt S k) = false := by unfold greatI; rw [e1, e2]; rfl
          have hOE := Lib.hid (HBad.out (by
            rcases (show k = 0 ∨ k = 1 ∨ k = 2 by omega) with rfl | rfl | rfl <;> rw [hbad] <;> simp))
          clear hbad
          go_wp2
          obtain ⟨rfl, rfl, rfl⟩ := hOE.out
          refine bodyPost_ret (v := _) (by simp [results, Tryz.results13, go_sem, hx_0, hx_1] <;> first | done | rfl | exact dec_eq Iff.rfl) rfl ⟨rfl, by go_grown⟩
      · have hbad : greatI (bt S k) = false := by unfold greatI; rw [e1]; rfl
        have hOE := Lib.hid (HBad.out (by
          rcases (show k = 0 ∨ k = 1 ∨ k = 2 by omega) with rfl | rfl | rfl <;> rw [hbad] <;> simp))
        clear hbad
        go_wp2
        obtain ⟨rfl, rfl, rfl⟩ := hOE.out
        refine bodyPost_ret (v := _) (by simp [results, Tryz.results13, go_sem, hx_0, hx_1] <;> first | done | rfl | exact dec_eq Iff.rfl) rfl ⟨rfl, by go_grown⟩
    · have hk8 : k = 3 := by omega
      subst hk8
      have d3 : decide ((((3 : Nat) : Int)) < 3) = false := by decide
      have hgood : (greatI (bt S 0) && (greatI (bt S 1) && greatI (bt S 2))) = true := by
        rw [HN.out 0 (by omega), HN.out 1 (by omega), HN.out 2 (by omega)]; rfl
      have HE := Lib.hid (HG.out hgood)
      have r1 := Q1.out
      have r2 := Q2.out
      clear hgood HN HX
      go_wp2_with fail
      ((with_reducible refine (HR.out _).mono ?_); rintro _ u3 ⟨rfl, hb⟩)
      have T : u3.cell? ⟨w.heap.size, 0, none⟩ = some (.int .i64 0) ∧ u3.frozen? ⟨w.heap.size, 0, none⟩ = false ∧ u3.cell? ⟨w.heap.size, 1, none⟩ = some (.int .i64 0) ∧ u3.frozen? ⟨w.heap.size, 1, none⟩ = false := by
          refine ⟨?_, ?_, ?_, ?_⟩ <;> first | (refine kc hb ?_ <;> (go_simp; first | done | rfl)) | (refine kfz hb ?_ ?_ <;> first | (go_size; done) | (go_simp; done))
      have hz := hb.size
      (try simp only [World.size_alloc, World.size_setCell, World.size_drew] at hz)
      have hlx' : w.heap.size < u3.heap.size := by omega
      have hB' : Below w.heap.size w u3 := by
          refine kb ?_ hb
          go_grown
      clear hx_0 fx_0 hx_1 fx_1 hB hsz hlx hnx0 hnx1 hkx1 hnx2 hkx2
      clear hb hz
      obtain ⟨hx_0, fx_0, hx_1, fx_1⟩ := T
      have hlx := hlx'; clear hlx'
      have hnx0 : ¬ (w.heap.size = u3.heap.size) := by omega
      have hnx1 : ¬ (w.heap.size = u3.heap.size + 1) := by omega
      have hkx1 : w.heap.size < u3.heap.size + 1 := by omega
      have hnx2 : ¬ (w.heap.size = u3.heap.size + 1 + 1) := by omega
      have hkx2 : w.heap.size < u3.heap.size + 1 + 1 := by omega
      have hB := hB'; clear hB'
      have hsz := hB.size
      clear r1
      go_wp2_with fail
      go_loopw [6, 7] (fun b i wl => ∃ k : Nat, k ≤ 13 ∧ i = .int .i64 k ∧ b = .bool (someM wn k) ∧ Hid (∀ j, j < k → hitM wn at' r j = false) ∧ wl.cell? ⟨w.heap.size, 0, none⟩ = some (.int .i64 0) ∧ wl.frozen? ⟨w.heap.size, 0, none⟩ = false ∧ wl.cell? ⟨w.heap.size, 1, none⟩ = some (.int .i64 0) ∧ wl.frozen? ⟨w.heap.size, 1, none⟩ = false ∧ Below w.heap.size w wl) (fun b i _ => 13 - (intOf i).toNat)
      case atStart => exact ⟨0, by omega, rfl, rfl, Lib.hid (fun j h => by omega), hx_0, fx_0, hx_1, fx_1, hB⟩
      case round =>
        obtain ⟨k, hk, rfl, rfl, HN, hrel⟩ := hrel
        clear hx_0 fx_0 hx_1 fx_1 hlx hnx0 hnx1 hkx1 hnx2 hkx2 hB hsz
        obtain ⟨hx_0, fx_0, hx_1, fx_1, hB⟩ := hrel
        have hsz := hB.size
        have hlx := klt hx_0
        have hnx0 : ¬ (w.heap.size = wr.heap.size) := by omega
        have hnx1 : ¬ (w.heap.size = wr.heap.size + 1) := by omega
        have hkx1 : w.heap.size < wr.heap.size + 1 := by omega
        have hnx2 : ¬ (w.heap.size = wr.heap.size + 1 + 1) := by omega
        have hkx2 : w.heap.size < wr.heap.size + 1 + 1 := by omega
        by_cases hlt : k < 13
        · have d13 : decide ((k : Int) < 13) = true := decide_eq_true (by omega)
          have HWk := Lib.hid (HW.out k hlt)
          have hsucc := Lib.hid (someM_succ wn k)
          have HSc := Lib.hid (fun h => scan_some (wn := wn) (at' := at') (r := r) hlt h HN.out)
          have HAk := Lib.hid (HA.out k hlt)
          have r2' := r2
          cases e1 : decide (wn k < 0)
          · have e0 : decide (0 ≤ wn k) = true := decide_eq_true (by have := of_decide_eq_false e1; omega)
            have hs1 := Lib.hid (show someM wn (k + 1) = true from by rw [hsucc.out, e0, Bool.or_true])
            cases e2 : decide (0 ≤ r)
            · have HS := Lib.hid (fun (j : Nat) (hj : j < k + 1) => show hitM wn at' r j = false from by
                by_cases e : j = k
                · rw [e]; unfold hitM; rw [e0, e2]; rfl
                · exact HN.out j (by omega))
              clear e0 hsucc HSc
              go_wp2_with fail
              ((with_reducible refine (HWk.out _).mono ?_); rintro _ u4 ⟨rfl, hb⟩)
              have T : u4.cell? ⟨w.heap.size, 0, none⟩ = some (.int .i64 0) ∧ u4.frozen? ⟨w.heap.size, 0, none⟩ = false ∧ u4.cell? ⟨w.heap.size, 1, none⟩ = some (.int .i64 0) ∧ u4.frozen? ⟨w.heap.size, 1, none⟩ = false := by
                  refine ⟨?_, ?_, ?_, ?_⟩ <;> first | (refine kc hb ?_ <;> (go_simp; first | done | rfl)) | (refine kfz hb ?_ ?_ <;> first | (go_size; done) | (go_simp; done))
              have hz := hb.size
              (try simp only [World.size_alloc, World.size_setCell, World.size_drew] at hz)
              have hlx' : w.heap.size < u4.heap.size := by omega
              have hB' : Below w.heap.size w u4 := by
                  refine kb ?_ hb
                  go_grown
              clear hx_0 fx_0 hx_1 fx_1 hB hsz hlx hnx0 hnx1 hkx1 hnx2 hkx2
              clear hb hz
              obtain ⟨hx_0, fx_0, hx_1, fx_1⟩ := T
              have hlx := hlx'; clear hlx'
              have hnx0 : ¬ (w.heap.size = u4.heap.size) := by omega
              have hnx1 : ¬ (w.heap.size = u4.heap.size + 1) := by omega
              have hkx1 : w.heap.size < u4.heap.size + 1 := by omega
              have hnx2 : ¬ (w.heap.size = u4.heap.size + 1 + 1) := by omega
              have hkx2 : w.heap.size < u4.heap.size + 1 + 1 := by omega
              have hB := hB'; clear hB'
              have hsz := hB.size
              go_wp2
              go_roundw
              case rel => exact ⟨k + 1, by omega, by go_num, by rw [hs1.out], HS, hx_0, fx_0, hx_1, fx_1, hB⟩
              case measure => simp [intOf]; omega
            · have HAr := Lib.hid (HAk.out (of_decide_eq_true e2))
              cases e3 : decide (0 ≤ at' k)
              · have HS := Lib.hid (fun (j : Nat) (hj : j < k + 1) => show hitM wn at' r j = false from by
                  by_cases e : j = k
                  · rw [e]; unfold hitM; rw [e0, e2, e3]; rfl
                  · exact HN.out j (by omega))
                clear e0 hsucc HSc
                go_wp2_with fail
                ((with_reducible refine (HWk.out _).mono ?_); rintro _ u4 ⟨rfl, hb⟩)
                have T : u4.cell? ⟨w.heap.size, 0, none⟩ = some (.int .i64 0) ∧ u4.frozen? ⟨w.heap.size, 0, none⟩ = false ∧ u4.cell? ⟨w.heap.size, 1, none⟩ = some (.int .i64 0) ∧ u4.frozen? ⟨w.heap.size, 1, none⟩ = false := by
                    refine ⟨?_, ?_, ?_, ?_⟩ <;> first | (refine kc hb ?_ <;> (go_simp; first | done | rfl)) | (refine kfz hb ?_ ?_ <;> first | (go_size; done) | (go_simp; done))
                have hz := hb.size
                (try simp only [World.size_alloc, World.size_setCell, World.size_drew] at hz)
                have hlx' : w.heap.size < u4.heap.size := by omega
                have hB' : Below w.heap.size w u4 := by
                    refine kb ?_ hb
                    go_grown
                clear hx_0 fx_0 hx_1 fx_1 hlx hnx0 hnx1 hkx1 hnx2 hkx2 hB hsz
                clear hb hz
                obtain ⟨hx_0, fx_0, hx_1, fx_1⟩ := T
                have hlx := hlx'; clear hlx'
                have hnx0 : ¬ (w.heap.size = u4.heap.size) := by omega
                have hnx1 : ¬ (w.heap.size = u4.heap.size + 1) := by omega
                have hkx1 : w.heap.size < u4.heap.size + 1 := by omega
                have hnx2 : ¬ (w.heap.size = u4.heap.size + 1 + 1) := by omega
                have hkx2 : w.heap.size < u4.heap.size + 1 + 1 := by omega
                have hB := hB'; clear hB'
                have hsz := hB.size
                go_wp2_with fail
                ((with_reducible refine (HAr.out _).mono ?_); rintro _ u5 ⟨rfl, hb⟩)
                have T : u5.cell? ⟨w.heap.size, 0, none⟩ = some (.int .i64 0) ∧ u5.frozen? ⟨w.heap.size, 0, none⟩ = false ∧ u5.cell? ⟨w.heap.size, 1, none⟩ = some (.int .i64 0) ∧ u5.frozen? ⟨w.heap.size, 1, none⟩ = false := by
                    refine ⟨?_, ?_, ?_, ?_⟩ <;> first | (refine kc hb ?_ <;> (go_simp; first | done | rfl)) | (refine kfz hb ?_ ?_ <;> first | (go_size; done) | (go_simp; done))
                have hz := hb.size
                (try simp only [World.size_alloc, World.size_setCell, World.size_drew] at hz)
                have hlx' : w.heap.size < u5.heap.size := by omega
                have hB' : Below w.heap.size w u5 := by
                    refine kb ?_ hb
                    go_grown
                clear hx_0 fx_0 hx_1 fx_1 hlx hnx0 hnx1 hkx1 hnx2 hkx2 hB hsz
                clear hb hz
                obtain ⟨hx_0, fx_0, hx_1, fx_1⟩ := T
                have hlx := hlx'; clear hlx'
                have hnx0 : ¬ (w.heap.size = u5.heap.size) := by omega
                have hnx1 : ¬ (w.heap.size = u5.heap.size + 1) := by omega
                have hkx1 : w.heap.size < u5.heap.size + 1 := by omega
                have hnx2 : ¬ (w.heap.size = u5.heap.size + 1 + 1) := by omega
                have hkx2 : w.heap.size < u5.heap.size + 1 + 1 := by omega
                have hB := hB'; clear hB'
                have hsz := hB.size
                go_wp2
                go_roundw
                case rel => exact ⟨k + 1, by omega, by go_num, by rw [hs1.out], HS, hx_0, fx_0, hx_1, fx_1, hB⟩
                case measure => simp [intOf]; omega
              · have HO := Lib.hid (HSc.out (by unfold hitM; rw [e0, e2, e3]; rfl))
                clear e0 hsucc HSc
                go_wp2_with fail
                ((with_reducible refine (HWk.out _).mono ?_); rintro _ u4 ⟨rfl, hb⟩)
                have T : u4.cell? ⟨w.heap.size, 0, none⟩ = some (.int .i64 0) ∧ u4.frozen? ⟨w.heap.size, 0, none⟩ = false ∧ u4.cell? ⟨w.heap.size, 1, none⟩ = some (.int .i64 0) ∧ u4.frozen? ⟨w.heap.size, 1, none⟩ = false := by
                    refine ⟨?_, ?_, ?_, ?_⟩ <;> first | (refine kc hb ?_ <;> (go_simp; first | done | rfl)) | (refine kfz hb ?_ ?_ <;> first | (go_size; done) | (go_simp; done))
                have hz := hb.size
                (try simp only [World.size_alloc, World.size_setCell, World.size_drew] at hz)
                have hlx' : w.heap.size < u4.heap.size := by omega
                have hB' : Below w.heap.size w u4 := by
                    refine kb ?_ hb
                    go_grown
                clear hx_0 fx_0 hx_1 fx_1 hlx hnx0 hnx1 hkx1 hnx2 hkx2 hB hsz
                clear hb hz
                obtain ⟨hx_0, fx_0, hx_1, fx_1⟩ := T
                have hlx := hlx'; clear hlx'
                have hnx0 : ¬ (w.heap.size = u4.heap.size) := by omega
                have hnx1 : ¬ (w.heap.size = u4.heap.size + 1) := by omega
                have hkx1 : w.heap.size < u4.heap.size + 1 := by omega
                have hnx2 : ¬ (w.heap.size = u4.heap.size + 1 + 1) := by omega
                have hkx2 : w.heap.size < u4.heap.size + 1 + 1 := by omega
                have hB := hB'; clear hB'
                have hsz := hB.size
                go_wp2_with fail
                ((with_reducible refine (HAr.out _).mono ?_); rintro _ u5 ⟨rfl, hb⟩)
                have T : u5.cell? ⟨w.heap.size, 0, none⟩ = some (.int .i64 0) ∧ u5.frozen? ⟨w.heap.size, 0, none⟩ = false ∧ u5.cell? ⟨w.heap.size, 1, none⟩ = some (.int .i64 0) ∧ u5.frozen? ⟨w.heap.size, 1, none⟩ = false := by
                    refine ⟨?_, ?_, ?_, ?_⟩ <;> first | (refine kc hb ?_ <;> (go_simp; first | done | rfl)) | (refine kfz hb ?_ ?_ <;> first | (go_size; done) | (go_simp; done))
                have hz := hb.size
                (try simp only [World.size_alloc, World.size_setCell, World.size_drew] at hz)
                have hlx' : w.heap.size < u5.heap.size := by omega
                have hB' : Below w.heap.size w u5 := by
                    refine kb ?_ hb
                    go_grown
                clear hx_0 fx_0 hx_1 fx_1 hlx hnx0 hnx1 hkx1 hnx2 hkx2 hB hsz
                clear hb hz
                obtain ⟨hx_0, fx_0, hx_1, fx_1⟩ := T
                have hlx := hlx'; clear hlx'
                have hnx0 : ¬ (w.heap.size = u5.heap.size) := by omega
                have hnx1 : ¬ (w.heap.size = u5.heap.size + 1) := by omega
                have hkx1 : w.heap.size < u5.heap.size + 1 := by omega
                have hnx2 : ¬ (w.heap.size = u5.heap.size + 1 + 1) := by omega
                have hkx2 : w.heap.size < u5.heap.size + 1 + 1 := by omega
                have hB := hB'; clear hB'
                have hsz := hB.size
                go_wp2_with fail
                ((with_reducible refine (HAr.out _).mono ?_); rintro _ u6 ⟨rfl, hb⟩)
                have T : u6.cell? ⟨w.heap.size, 0, none⟩ = some (.int .i64 0) ∧ u6.frozen? ⟨w.heap.size, 0, none⟩ = false ∧ u6.cell? ⟨w.heap.size, 1, none⟩ = some (.int .i64 0) ∧ u6.frozen? ⟨w.heap.size, 1, none⟩ = false := by
                    refine ⟨?_, ?_, ?_, ?_⟩ <;> first | (refine kc hb ?_ <;> (go_simp; first | done | rfl)) | (refine kfz hb ?_ ?_ <;> first | (go_size; done) | (go_simp; done))
                have hz := hb.size
                (try simp only [World.size_alloc, World.size_setCell, World.size_drew] at hz)
                have hlx' : w.heap.size < u6.heap.size := by omega
                have hB' : Below w.heap.size w u6 := by
                    refine kb ?_ hb
                    go_grown
                clear hx_0 fx_0 hx_1 fx_1 hlx hnx0 hnx1 hkx1 hnx2 hkx2 hB hsz
                clear hb hz
                obtain ⟨hx_0, fx_0, hx_1, fx_1⟩ := T
                have hlx := hlx'; clear hlx'
                have hnx0 : ¬ (w.heap.size = u6.heap.size) := by omega
                have hnx1 : ¬ (w.heap.size = u6.heap.size + 1) := by omega
                have hkx1 : w.heap.size < u6.heap.size + 1 := by omega
                have hnx2 : ¬ (w.heap.size = u6.heap.size + 1 + 1) := by omega
                have hkx2 : w.heap.size < u6.heap.size + 1 + 1 := by omega
                have hB := hB'; clear hB'
                have hsz := hB.size
                go_wp2
                obtain ⟨g1, g2, g3⟩ := HE.out
                obtain ⟨g4, g5, g6⟩ := HO.out
                rw [g4] at g1
                rw [g5] at g2
                rw [g6] at g3
                subst g1 g2 g3
                refine bodyPost_ret (v := _) (by simp [results, Tryz.results13, go_sem, hx_0, hx_1] <;> first | done | rfl | exact dec_eq Iff.rfl) rfl ⟨rfl, by go_grown⟩
          · have e0 : decide (0 ≤ wn k) = false := decide_eq_false (by have := of_decide_eq_true e1; omega)
            have hs1 := Lib.hid (show someM wn (k + 1) = someM wn k from by rw [hsucc.out, e0, Bool.or_false])
            have HS := Lib.hid (fun (j : Nat) (hj : j < k + 1) => show hitM wn at' r j = false from by
              by_cases e : j = k
              · rw [e]; unfold hitM; rw [e0]; rfl
              · exact HN.out j (by omega))
            clear e0 hsucc HSc
            go_wp2_with fail
            ((with_reducible refine (HWk.out _).mono ?_); rintro _ u4 ⟨rfl, hb⟩)
            have T : u4.cell? ⟨w.heap.size, 0, none⟩ = some (.int .i64 0) ∧ u4.frozen? ⟨w.heap.size, 0, none⟩ = false ∧ u4.cell? ⟨w.heap.size, 1, none⟩ = some (.int .i64 0) ∧ u4.frozen? ⟨w.heap.size, 1, none⟩ = false := by
                refine ⟨?_, ?_, ?_, ?_⟩ <;> first | (refine kc hb ?_ <;> (go_simp; first | done | rfl)) | (refine kfz hb ?_ ?_ <;> first | (go_size; done) | (go_simp; done))
            have hz := hb.size
            (try simp only [World.size_alloc, World.size_setCell, World.size_drew] at hz)
            have hlx' : w.heap.size < u4.heap.size := by omega
            have hB' : Below w.heap.size w u4 := by
                refine kb ?_ hb
                go_grown
            clear hx_0 fx_0 hx_1 fx_1 hlx hnx0 hnx1 hkx1 hnx2 hkx2 hB hsz
            clear hb hz
            obtain ⟨hx_0, fx_0, hx_1, fx_1⟩ := T
            have hlx := hlx'; clear hlx'
            have hnx0 : ¬ (w.heap.size = u4.heap.size) := by omega
            have hnx1 : ¬ (w.heap.size = u4.heap.size + 1) := by omega
            have hkx1 : w.heap.size < u4.heap.size + 1 := by omega
            have hnx2 : ¬ (w.heap.size = u4.heap.size + 1 + 1) := by omega
            have hkx2 : w.heap.size < u4.heap.size + 1 + 1 := by omega
            have hB := hB'; clear hB'
            have hsz := hB.size
            go_wp2
            go_roundw
            case rel => exact ⟨k + 1, by omega, by go_num, by rw [hs1.out], HS, hx_0, fx_0, hx_1, fx_1, hB⟩
            case measure => simp [intOf]; omega
        · have hk8 : k = 13 := by omega
          subst hk8
          have d13 : decide ((((13 : Nat) : Int)) < 13) = false := by decide
          have HZ := Lib.hid (scan_none (fun n hn => HN.out n hn))
          obtain ⟨g1, g2, g3⟩ := HE.out
          obtain ⟨g4, g5, g6⟩ := HZ.out
          rw [g4] at g1
          rw [g5] at g2
          rw [g6] at g3
          subst g1 g2
          have HG3 := Lib.hid g3
          clear g3 g4 g5 g6 HZ HE
          cases e1 : someM wn 13
          · have g : E = 11 := by rw [HG3.out, e1]; rfl
            subst g
            clear HG3
            go_wp2
            refine bodyPost_ret (v := _) (by simp [results, Tryz.results13, go_sem, hx_0, hx_1] <;> first | done | rfl | exact dec_eq Iff.rfl) rfl ⟨rfl, by go_grown⟩
          · cases e2 : decide (r < 0)
            · have g : E = 15 := by rw [HG3.out, e1, if_pos rfl, if_neg (of_decide_eq_false e2)]
              subst g
              clear HG3
              go_wp2
              refine bodyPost_ret (v := _) (by simp [results, Tryz.results13, go_sem, hx_0, hx_1] <;> first | done | rfl | exact dec_eq Iff.rfl) rfl ⟨rfl, by go_grown⟩
            · have g : E = 14 := by rw [HG3.out, e1, if_pos rfl, if_pos (of_decide_eq_true e2)]
              subst g
              clear HG3
              go_wp2
              refine bodyPost_ret (v := _) (by simp [results, Tryz.results13, go_sem, hx_0, hx_1] <;> first | done | rfl | exact dec_eq Iff.rfl) rfl ⟨rfl, by go_grown⟩
end Go.Proofs.YtpjpoopgafcedaaGreatDoor
